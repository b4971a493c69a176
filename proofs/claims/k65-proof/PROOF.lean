import PyProof.Rows.All
import Wide.All
import OpenK.AllK
import Wide.FinOn
import Lean
import PyProof.EqAt
import PyProof.EqKinds
import PyProof.TupleCall
import PyProof.StationsW
import PyProof.ExcClass3
import PyProof.ExcInit
import PyProof.ExcBaseAll.ValueError
import PyProof.ExcArgsOwn
import KE.KIsAll
import PyProof.ExcAttrAll.ValueError
import PyProof.InstStoreFacts
import KE.KTryMore
import PyProof.RulesAs
import PyProof.NsDelKeeps
import KE.KRevIter
import PyProof.SeqI3
import PyProof.DictWalks
import PyProof.EnumIter
import PyProof.EnumStmt
import PyProof.EnumMake
import PyProof.WalksEnum
import PyProof.FactsAll.NoneType_1
import PyProof.NeKinds
import KE.KDictList
import KE.KItemsList
import PyProof.Rows.SortShell
import PyProof.WalkInts
import PyProof.MeetsSeq
import PyProof.SeqRoads2
import KE.KDictOf
import PyProof.AttrMissHeap
import KE.KSortTup
import PyProof.Rows.SortWalk
import PyProof.Rows.SumAny
import PyProof.Rows.SortStr
import PySem.Challenge.RW_carry_k65_wants
set_option linter.all false
set_option bootstrap.genMatcherCode false
set_option compiler.extract_closed false
set_option compiler.reuse false
set_option genSizeOf false
set_option genSizeOfSpec false
def bx:=@List.length_map.{0,0}
def bY:=@Nat.le_refl
def cA:=@Option.bind_eq_some_iff.{0,0}
def cT:=@PySem.Heap.lt_size
def cU:=@List.map_cons.{0,0}
def cZ:=@PySem.Heap.get?_push_of_some
def df:=@Option.map_eq_some_iff.{0,0}
def dw:=@List.length_append.{0}
theorem dN:type_of% @Option.any_some.{0}:=rfl
def dR:=@List.getElem?_map.{0,0}
def y0a:=@List.mem_cons.{0}
def eU:=@List.map_map.{0,0,0}
def eW:=@List.getElem?_eq_some_iff.{0}
def fm:=@List.size_toArray.{0}
def fG:=@List.getElem?_eq_getElem.{0}
def fH:=@Nat.max_self
def fV:=@List.map_append.{0,0}
def gj:=@Nat.lt_of_lt_of_le
def gP:=@Nat.ne_of_lt
def iQ:=@List.mem_append.{0}
def iR:=@PySem.Heap.get?_push_size
def iS:=@List.mem_map.{0,0}
def iW:=@Bool.and_eq_true
def jt:=@Nat.le_trans
def jJ:=@List.all_eq_true.{0}
def jU:=@Nat.lt_irrefl
theorem kG:type_of% @List.length_cons.{0}:=rfl
def kH:=@Bool.not_true
def kN:=@List.append_nil.{0}
def k9:=@Nat.zero_le
def k_:=@List.prefix_refl.{0}
def lh:=@List.contains_iff_mem.{0}
def lG:=@List.append_assoc.{0}
def mC:=@Bool.not_false
def mG:=@List.mem_singleton.{0}
def mH:=@List.nodup_append.{0}
def nG:=@List.mem_map_of_mem.{0,0}
def nH:=@List.map_congr_left.{0,0}
def nU:=@List.mem_append_right.{0}
def oF:=@PySem.Heap.get?_update_other
def pH:=@List.length_replicate.{0}
def pI:=@List.all_cons.{0}
def qm:=@List.mem_range
def qo:=@List.mem_cons_of_mem.{0}
def qp:=@List.nodup_cons.{0}
def qD:=@List.filterMap_cons.{0,0}
def qE:=@List.getElem?_append_right.{0}
def qF:=@PySem.Heap.get?_update_self
def qG:=@Bool.false_eq_true
def sR:=@Bool.false_ne_true
def sT:=@List.getElem?_append_left.{0}
def sU:=@List.mem_of_getElem?.{0}
def sW:=@Array.getElem?_eq_getElem.{0}
def tZ:=@List.mem_filter.{0}
def t4:=@List.getElem?_set_self.{0}
def t5:=@List.length_set.{0}
def t6:=@List.length_singleton.{0}
def t7:=@List.all_map.{0,0}
theorem t8:type_of% @Option.isSome_some.{0}:=rfl
def vw:=@Nat.lt_succ_self
def vx:=@Nat.le_succ
def vy:=@Array.getElem?_toList.{0}
def vz:=@List.length_filter_le.{0}
def wI:=@Nat.ne_of_gt
def wJ:=@List.mem_filterMap.{0,0}
def wK:=@List.length_take.{0}
def wM:=@Option.bind_some.{0,0}
def wN:=@List.length_range
theorem wO:type_of% @Option.isSome_none.{0}:=rfl
def wQ:=@List.getElem?_eq_none.{0}
def zw:=@Nat.lt_succ_of_lt
def zx:=@Bool.eq_iff_iff
def zy:=@List.getElem_mem.{0}
def zz:=@List.mem_iff_getElem?.{0}
def zA:=@List.getElem?_range
def zB:=@Nat.le_of_ble_eq_true
def zC:=@List.getD_eq_getElem?_getD.{0}
def AW:=@List.mem_cons_self.{0}
def AX:=@List.getElem?_set_ne.{0}
def AY:=@List.length_drop.{0}
def AZ:=@List.filter_cons.{0}
theorem A0:type_of% @List.length_nil.{0}:=rfl
def A1:=@Array.getElem?_eq_some_iff.{0}
def A2:=@Bool.and_eq_true_iff
theorem A3:type_of% @Option.map_some.{0,0}:=λ_ _=>rfl
def A4:=@List.find?_cons.{0}
def A5:=@List.filterMap_nil.{0,0}
def Eu:=@List.mem_append_left.{0}
def Ew:=@List.getElem_inj.{0}
theorem Ey:type_of% @Array.length_toList.{0}:=rfl
def Ez:=@Nat.le_of_eq
def EA:=@List.map_nil.{0,0}
def EB:=@List.take_of_length_le.{0}
def y1v:=@List.not_mem_nil.{0}
def EC:=@PySem.Heap.get?_push_ne
def ED:=@List.nil_append.{0}
def EE:=@List.pairwise_map.{0,0}
def EF:=@List.length_filterMap_le.{0,0}
def Et:=@Bool.true_and
def Hu:=@List.drop_of_length_le.{0}
theorem Hv:type_of% @Int.toNat_natCast:=λ_=>rfl
def Hw:=@Nat.le_add_right
def Hx:=@List.length_reverse.{0}
def Hy:=@List.filter_sublist.{0}
def Hz:=@List.nodup_nil.{0}
def HA:=@PySem.Heap.get?_update_ne
def HC:=@List.map_drop.{0,0}
def HD:=@List.set_set.{0}
def HE:=@List.mem_of_find?_eq_some.{0}
def HF:=@List.find?_some.{0}
theorem HG:type_of% @Option.getD_some.{0}:=rfl
def HH:=@Bool.eq_false_iff
def HI:=@Nat.ble_eq
def Mn:=@Nat.le_of_lt
def Mo:=@Array.mem_toList_iff.{0}
def Mp:=@List.getElem?_replicate.{0}
def Mq:=@Bool.or_eq_true
def Mr:=@Nat.sub_self
def Ms:=@Nat.lt_of_le_of_lt
def Mt:=@List.drop_eq_getElem_cons.{0}
def Mu:=@List.nodup_range
def Mv:=@List.find?_eq_none.{0}
def Mw:=@List.any_eq_true.{0}
def Mx:=@List.ext_getElem?.{0}
def My:=@Int.le_refl
def Mz:=@List.foldl_append.{0,0}
def MA:=@PySem.Heap.size_update
theorem MB:type_of% @List.foldl_cons.{0,0}:=rfl
def MC:=@Bool.not_eq_true'
def MD:=@List.mem_of_mem_drop.{0}
def ME:=@List.map_take.{0,0}
def MF:=@Nat.ble_eq_true_of_le
def MG:=@List.sum_cons.{0}
def MH:=@Bool.or_true
def MI:=@List.filterMap_append.{0,0}
def MJ:=@List.set_getElem_self.{0}
def ay:=@PySem.wpAny_bind
def aX:=@PySem.wpAny_pure
def pJ:=@if_true.{1}
def bM:=@if_pos.{1}
def bc:=@if_neg.{1}
def jK:=@if_false.{1}
def oH:=@decide_eq_true
def sX:=@decide_eq_false
def fW:=@beq_self_eq_true.{0}
def ju:=@PySem.wpAny_holding
def y9a:=@decide_eq_true_iff
def sY:=@of_decide_eq_true
def qH:=@beq_eq_false_iff_ne.{0}
def cO:=@absurd.{0}
def sZ:=@True.intro
def bD:=@eq_true
namespace Carry.Hd
open Lean Meta PySem PySem.W
abbrev kC:=@mkConst
abbrev aM:=@mkAppM
abbrev nL:=mkRawNatLit
abbrev Ex:=Lean.Expr
def fit(ds:Array (Ex×Ex×Ex)):MetaM (Array (Ex×Ex×Ex)):=do
 let cs:Std.HashSet Ex:=ds.foldl (λz d=>if d.1.isConst then z.insert d.1 else z) {}
 ds.filterM λd=>do
  let ty:=Fast.bareType (<-inferType d.1)
  return (ty.find? λy=>cs.contains y || y.isConstOf ``PySem.W.Frag).isNone
def spots(ds:Array (Ex×Ex×Ex)):Std.HashMap Ex Nat:=ds.zipIdx.foldl (λz d=>z.insert d.1.1 d.2) {}
def parts(tw:Name->MetaM Unit)(v:Ex):MetaM (Array (Ex×Ex×Ex)):=do
 for x in Fast.constsOf v do
  if let .const c _:=x then
   if((<-getEnv).getModuleIdxFor? c).isNone || (`PySem.Challenge).isPrefixOf c then tw c
 fit (<-Fast.twinsIn v)
def twin:Nat->Name->MetaM Unit
 |0,_=>return
 |k+1,c=>do
  let (n,e) <-Fast.stemIn c true
  if(<-getEnv).contains e then return
  if let some none:=(<-Fast.primed.get).get? c then return
  let some (.defnInfo d):=(<-getEnv).find? c|return
  let ds <-parts (twin k) d.value
  if ds.isEmpty then
   Fast.primed.modify λz=>z.insert c none
   return
  let ix:=spots ds
  withOptions (Elab.async.set · false) do
   addDecl (.defnDecl { name:=n,levelParams:=[],type:=d.type,value:=Fast.putIn ix (λi=>ds[i]!.2.1) d.value,hints:=d.hints,safety:=.safe})
   addDecl (.thmDecl { name:=e,levelParams:=[],type:=<-mkEq (kC c) (kC n),value:=<-mkEqRefl (kC c)})
  Fast.primed.modify λz=>z.insert c (some (n,e))
def prep(v:Ex):MetaM (Array (Ex×Ex×Ex)):=parts (twin 9) v
def put(stem:Name)(ty v:Ex):MetaM Ex:=do
 let ds <-prep v
 let c <-defAt stem ty (Fast.putIn (spots ds) (λi=>ds[i]!.2.1) v)
 Fast.primed.modify λz=>z.insert c.constName! none
 return c
abbrev Objs:=Array (Obj×Obj×Ex)
def lay(old:Objs)(s t:Shared):MetaM Objs:=do
 let P:=kC ``Params
 unless s.heap.objs.size == t.heap.objs.size && s.toks == t.toks && toExpr s.drawn == toExpr t.drawn && toExpr s.heap.life == toExpr t.heap.life do throwError "the worlds part"
 let mut out:=#[]
 for i in [0:s.heap.objs.size] do
  let (a,b):=(s.heap.objs[i]!,t.heap.objs[i]!)
  if let some (a',b',e):=old[i]? then
   if sameObjNow a' a && sameObjNow b' b then
    out:=out.push (a',b',e)
    continue
  let v <-withLocalDeclD `P P λp=>do
   let e:=objE p a
   unless e == objE p b do throwError "an object is the world's"
   mkLambdaFVars #[p] e
  out:=out.push (a,b,<-put `o (<-mkArrow P (kC ``Obj)) v)
 return out
def state(l:Bool)(old:Objs)(s t:Shared):MetaM (Objs×W.State):=do
 let P:=kC ``Params
 let os <-lay old s t
 let life:=toExpr s.heap.life
 let S:W.State:={ heap:=default,gens:=<-gensE s t,drawn:=toExpr s.drawn,toks:=nL s.toks}
 if l then
  let v <-withLocalDeclD `P P λp=>mkLambdaFVars #[p] (mkApp2 (kC ``Heap.mk) (mkApp2 (kC ``Array.mk [0]) (kC ``Obj) (listE (kC ``Obj) (os.toList.map λx=>mkApp x.2.2 p))) life)
  return (os,{ S with heap:=<-put `h (<-mkArrow P (kC ``Heap)) v})
 let v <-withLocalDeclD `P P λp=>mkLambdaFVars #[p] (treeE p (os.map (·.2.2)) 1 0)
 return (os,{ S with tree:=some (<-put `t (<-mkArrow P (kC ``BT)) v,nL s.heap.objs.size,life)})
def aux(ty pf:Ex):MetaM Ex:=do return kC (<-withOptions (Elab.async.set · false) (mkAuxLemma [] ty pf (cache:=false)))
def look:Nat->Ex->Ex->MetaM Ex
 |k,l,r=>do
  let W:=kC ``World
  let O:=kC ``OsState
  let q <-withLocalDeclD `w W λw=>withLocalDeclD `os O λos=>do
   let un (e:Ex):MetaM Ex:=do
    let e:=(mkApp2 e w os).headBeta
    if e.isAppOf ``openSeen || e.isAppOf ``openGood then return (<-unfoldDefinition? e).getD e
    return e
   let (a,b):=(<-un l,<-un r)
   unless a.isAppOfArity ``Prod.mk 4 && b.isAppOfArity ``Prod.mk 4 do return none
   let sh (e:Ex) (i:Nat):MetaM Ex:=mkLambdaFVars #[w,os] (e.getArg! i)
   return some (<-sh a 2,<-sh b 2,<-sh a 3,<-sh b 3)
  match k,q with
  |n+1,some (a1,b1,a2,b2)=>
   let (x,y):=(<-look n a1 b1,<-look n a2 b2)
   let (ty,pf) <-withLocalDeclD `w W λw=>withLocalDeclD `os O λos=>do
    return (<-mkForallFVars #[w,os] (<-mkEq (mkApp2 l w os).headBeta (mkApp2 r w os).headBeta),<-mkLambdaFVars #[w,os] (<-aM ``looks_pair #[mkApp2 x w os,mkApp2 y w os]))
   aux ty pf
  |_,_=>
   let P <-withLocalDeclD `w W λw=>do mkLambdaFVars #[w] (<-mkEq (mkApp l w).headBeta (mkApp r w).headBeta)
   discard <| prep P
   let e <-byKernelQuick P []
   withLocalDeclD `w W λw=>withLocalDeclD `os O λos=>do mkLambdaFVars #[w,os] (<-aM ``congrFun #[mkApp e w,os])
def most:Nat:=3000
def left(g:MVarId)(pE:Ex)(p:Program)(_:List String):MetaM Unit:=g.withContext do
 let a:=(<-instantiateMVars (<-g.getType)).consumeMData.getAppArgs
 let some N <-(Meta.evalNat a[7]!).run|throwError "no number"
 let (.ok t,.ok t'):=(<-traceTop p N 1,<-traceTop p N 2)|throwError "no trace"
 let tb:=kC ``treeTable
 let (W,O):=(kC ``World,kC ``OsState)
 let m0:=nL t.s0.heap.objs.size
 let ann:=toExpr t.ann
 let main <-aM ``Program.main #[pE]
 let op <-aM ``opening #[pE]
 let e1 <-aux (<-mkEq op (mkApp (kC ``plainProg) (<-aM ``Scope.names #[<-aM ``Module.scope #[main]]))) (<-mkEqRefl op)
 let e2 <-withLocalDeclD `s (kC ``Shared) λs=>do
  let r <-aM ``some #[s]
  aux (<-mkForallFVars #[s] (<-mkEq (mkApp2 (kC ``fenceModules?) pE s) r)) (<-mkLambdaFVars #[s] (<-mkEqRefl r))
 let e3 <-mkDecideProof (<-mkEq (mkApp2 (kC ``Nat.ble) (nL 600) a[7]!) (kC ``Bool.true))
 let boot:=mkAppN (kC ``boot_open) #[pE,a[7]!,e1,e3,e2]
 let bE <-aM ``behindTheImports #[pE]
 let some cells <-cellsD? bE|throwError "no body"
 let env0 <-Elab.Term.TermElabM.run' do
  let s1 <-Elab.Term.exprToSyntax (<-aM ``Module.scope #[main])
  let s2 <-Elab.Term.exprToSyntax (toExpr t.code)
  let e <-Elab.Term.withSynthesize (Elab.Term.elabTermEnsuringType (<-`(({ scope:=$s1,locals:=mainNs,globals:=mainNs,cells:=[],code:=$s2,frame:=some $(quote t.frame)}:Env))) (kC ``Env))
  instantiateMVars e
 let env <-defAt `env (kC ``Env) env0
 let fp:=toExpr t.framePos
 let cE:=mkApp2 (kC ``Code.body) bE env
 let B:=listE (kC ``Frame) [mkApp (kC ``topFrame) fp]
 let go (f:Name) (more:Array Ex) (n:Nat) (w s th:Ex):Ex:=mkAppN (kC f) (#[tb,pE,w,m0,ann]++more++#[nL n,s,th])
 let one:=#[nL 1]
 let piece (rows:List String) (l r:Ex->Ex->MetaM Ex):MetaM Ex:=do
  for x in [pE,env] do discard <| prep x
  byPiece rows l r
 let ends (S:Ex) (pos:Pos):MetaM Ex:=do aM ``some #[<-aM ``Prod.mk #[kC ``Flow.next,<-aM ``Prod.mk #[S,<-aM ``Prod.mk #[cE,toExpr pos]]]]
 let rowsOf (x y:Snap):=(x.rows++y.rows).eraseDups
 let mut o:Objs:=#[]
 for i in [0:t.s0.heap.objs.size] do o:=o.push (t.s0.heap.objs[i]!,t'.s0.heap.objs[i]!,kC ((`PySem.W).str s!"boot_o_{i}"))
 let S0:PySem.W.State:={ heap:=kC ``boot_heap,gens:=mkApp2 (kC ``Array.mk [0]) (kC ``GenState) (mkApp (kC ``List.nil [0]) (kC ``GenState)),drawn:=kC ``boot_drawn,toks:=kC ``boot_toks}
 let (o1,Sa) <-state true o t.pre.s t'.pre.s
 let thA:=mkApp4 (kC ``Thread.mk) (mkApp2 (kC ``denote) tb cE) cE (toExpr t.pre.pos) B
 let stub:=mkApp (kC ``topStub) pE
 let pre <-piece (rowsOf t.pre t'.pre) (λw os=>pure (go ``topGo #[] t.pre.steps w (S0.at w os) stub)) λw os=>do aM ``some #[<-aM ``Prod.mk #[Sa.at w os,thA]]
 let (o2,Sb) <-state false o1 t.block.s t'.block.s
 let block <-piece (rowsOf t.block t'.block) (λw os=>pure (go ``segRun one t.block.steps.succ w (Sa.at w os) (mkAppN (kC ``blockOf) #[bE,env,cE,toExpr t.pre.pos,B]))) λw os=>ends (Sb.at w os) t.block.pos
 let mut gs:Array (List Ex×Nat×Snap×Snap×List String):=#[]
 for (st,x,x') in cells.zip (t.pieces.zip t'.pieces) do
  let k:=max x.steps x'.steps
  let rs:=rowsOf x x'
  match gs.back? with
  |some (l,n,_,_,r)=>
   if n+k<=most && (r++rs).eraseDups.length<=3 then gs:=gs.pop.push (l++[st],n+k,x,x',(r++rs).eraseDups) else gs:=gs.push ([st],k,x,x',rs)
  |none=>gs:=gs.push ([st],k,x,x',rs)
 let mut cur:=(o2,Sb,t.block.pos)
 let mut lems:=#[]
 for (sts,n,x,x',rs) in gs do
  let stE <-defAt `st (mkApp (kC ``List [0]) (kC ``Stmt)) (listE (kC ``Stmt) sts)
  discard <| prep stE
  let (o0,S1,p1):=cur
  let (o',S') <-state false o0 x.s x'.s
  let th:=mkAppN (kC ``piecesOf) #[stE,env,cE,toExpr p1,B]
  let h <-piece rs (λw os=>pure (go ``segRunT one n.succ w (S1.atT w os) th)) λw os=>ends (S'.atT w os) x.pos
  lems:=lems.push (stE,n.succ,S1,p1,S',x.pos,<-liftT h ``segRun_of)
  cur:=(o',S',x.pos)
  logInfo m!"PIECE {sts.length} {n} {x.s.heap.objs.size}"
 let (oN,SN,pN):=cur
 let (_,Sf) <-state true oN t.fin.s t'.fin.s
 let fin <-piece (rowsOf t.fin t'.fin) (λw os=>pure (go ``topRun #[] t.fin.steps.succ w (SN.at w os) (mkApp4 (kC ``Thread.mk) (mkApp (kC ``doneF) (kC ``Flow.next)) cE (toExpr pN) B))) λw os=>aM ``some #[Sf.at w os]
 let run <-withLocalDeclD `w W λw=>withLocalDeclD `os O λos=>do
  let w1 (l:Ex):MetaM Ex:=do aM ``congrFun #[mkApp l w,os]
  let r:=Sf.at w os
  let com:=#[tb,pE,w,m0,ann,env,fp]
  let mut k <-w1 fin
  let mut M:=nL t.fin.steps.succ
  let mut rest:=listE (kC ``Stmt) []
  for (stE,n,S1,p1,S',p2,h) in lems.toList.reverse do
   k:=mkAppN (kC ``piece_app) (com++#[nL n,M,S1.at w os,S'.at w os,r,stE,rest,cE,toExpr p1,toExpr p2,<-w1 h,k])
   M:=mkApp2 (kC ``Nat.add) (nL n) M
   rest <-aM ``HAppend.hAppend #[stE,rest]
  k:=mkAppN (kC ``piece_block) (com++#[nL t.block.steps.succ,M,Sa.at w os,Sb.at w os,r,bE,cE,toExpr t.pre.pos,toExpr t.block.pos,<-w1 block,k])
  M:=mkApp2 (kC ``Nat.add) (nL t.block.steps.succ) M
  k:=mkAppN (kC ``go_top) #[tb,pE,w,m0,ann,nL t.pre.steps,M,S0.at w os,Sa.at w os,r,stub,thA,<-w1 pre,k]
  M:=mkApp2 (kC ``Nat.add) (nL t.pre.steps) M
  let ty <-mkEq (mkAppN (kC ``topRun) #[tb,pE,w,m0,ann,M,S0.at w os,stub]) (<-aM ``some #[r])
  return (M,<-aux (<-mkForallFVars #[w,os] ty) (<-mkLambdaFVars #[w,os] k))
 let lem:=kC ``LeftO.of_pieces
 let (ms,_,_) <-forallMetaTelescope (<-inferType lem)
 let vs:=#[pE,a[1]!,a[2]!,a[3]!,a[4]!,a[5]!,a[6]!,a[7]!,a[8]!,S0.heap,Sf.heap,S0.gens,Sf.gens,S0.drawn,Sf.drawn,S0.toks,Sf.toks,m0,ann,run.1]
 for (m,v) in ms.zip vs do m.mvarId!.assign v
 let want (i:Nat):MetaM Ex:=do instantiateMVars (<-inferType ms[i]!)
 let .forallE n1 d1 b1 i1 <-want 21|throwError "size"
 let size <-byKernelQuick (.lam n1 d1 b1 i1) []
 let .forallE _ _ bl _ <-want 24|throwError "looks"
 let (l,r) <-withLocalDeclD `w W λw=>do
  let some (_,l,r):=(bl.instantiate1 w).eq?|throwError "looks"
  return (<-mkLambdaFVars #[w] l,<-mkLambdaFVars #[w] r)
 let h <-look 12 l r
 let looks <-withLocalDeclD `w W λw=>do
  let f <-withLocalDeclD `os O λos=>mkLambdaFVars #[os] (mkApp2 h w os)
  mkLambdaFVars #[w] (<-aM ``funext #[f])
 g.assign (mkAppN lem (vs++#[boot,size,run.2,<-mkDecideProof (<-want 23),looks]))
simproc_decl hd0 (PySem.W.OpenLaw.Holds _):=λe=>do
 if let .const (.str p s) _:=e.appArg! then twin 9 (p.str ("p"++(s.drop 1).toString))
 return .continue
simproc_decl hd (PySem.W.OpenRow.Holds _):=λ_=>do
 PySem.W.leftPieces.set (some left)
 return .continue
end Carry.Hd
noncomputable section
set_option Elab.async false
set_option maxRecDepth 100000
abbrev ai:=@PySem.Value
abbrev ax:=@PySem.Shared
abbrev aj:=@PySem.Addr
abbrev ak:=@Option.{0}
abbrev lj:=@PySem.FuncData
abbrev cN:=@PySem.Around
abbrev dc:=@PySem.Program
abbrev oG:=@PySem.NameKind
abbrev bZ:=@PySem.Heap
abbrev cD:=@PySem.World
abbrev aL:=@PySem.W.Frag
abbrev fI:=@PySem.W.Frag
namespace L2
open PySem PySem.Spec PyProof.Rows
abbrev Key:=Sum Int Str
noncomputable def wd:Key->ai->Bool
 |.inl k,v=>Value.isInt k v
 |.inr x,v=>Value.isStrOf x v
noncomputable def K9(w:cD):Key->Int
 |.inl k=>hashInt k
 |.inr x=>hashStr w x
theorem xr:∀{k:Key} {v:ai},wd k v=true->(∃i t,k=Sum.inl i/\v=Value.int i t)\/(∃x t,k=Sum.inr x/\v=Value.str x t)
 |.inl i,v,h=>by
  obtain⟨t,e⟩:=Value.isInt_shape (k:=i) (v:=v) h;exact .inl ⟨i,t,rfl,e⟩
 |.inr x,v,h=>by
  obtain⟨t,e⟩:=Value.isStrOf_shape (x:=x) (v:=v) h;exact .inr ⟨x,t,rfl,e⟩
def ZQ(a b:Int):decide ((Sum.inl a:Key)=Sum.inl b)=(a == b):=by
 by_cases e:a=b
 .subst e;simp
 .have h:¬(Sum.inl a:Key)=Sum.inl b:=λq=>e (Sum.inl.inj q)
  rw[sX h];exact(qH.mpr e).symm
def ZR(a b:Str):decide ((Sum.inr a:Key)=Sum.inr b)=decide (a=b):=by
 by_cases e:a=b
 .subst e;simp
 .have h:¬(Sum.inr a:Key)=Sum.inr b:=λq=>e (Sum.inr.inj q)
  rw[sX h,sX e]
def ZS(a:Int)(b:Str):decide ((Sum.inl a:Key)=Sum.inr b)=false:=sX (λq=>nomatch q)
def ZT(a:Str)(b:Int):decide ((Sum.inr a:Key)=Sum.inl b)=false:=sX (λq=>nomatch q)
def Jo(prog:dc)(w:cD):PySem.KeyKind prog w Key where
 is:=wd
 hash:=K9 w
 inj:=λv a b ha hb=>by
  grind [xr]
 byValue:=λk v h=>by
  rcases xr h with⟨i,t,rfl,rfl⟩|⟨x,t,rfl,rfl⟩ <;> rfl
 pyHash:=λhv h=>by
  rcases xr hv with⟨i,t,rfl,rfl⟩|⟨x,t,rfl,rfl⟩
  .exact wpAny_pyHash_int h
  .exact wpAny_pyHash_str h
 eqBool:=λhu hv h=>by
  rcases xr hu with⟨i,t,rfl,rfl⟩|⟨x,t,rfl,rfl⟩
  .rcases xr hv with⟨j,u,rfl,rfl⟩|⟨y,u,rfl,rfl⟩
   .rw[ZQ] at h;exact wpAny_eqBool_int h
   .rw[ZS] at h;exact SeqAt.EqAt.int_str i t y u _ _ _ _ h
  .rcases xr hv with⟨j,u,rfl,rfl⟩|⟨y,u,rfl,rfl⟩
   .rw[ZT] at h;exact SeqAt.EqAt.str_int x t j u _ _ _ _ h
   .rw[ZR] at h;exact wpAny_eqBool_str h
 «strs»:=λk x t v h=>by
  rcases xr h with⟨i,u,rfl,e⟩|⟨y,u,rfl,e⟩
  .exact nomatch e
  .injection e with e1 _;subst e1;cases v <;> rfl
inductive V where
 |aI|bl (b:Bool)|int (i:Int)|str (x:Str)|vQ (b:Array UInt8)|Aw (b:UInt64)|ref (a:aj)|ty (n:String)
 deriving DecidableEq
def RelV:V->ai->Prop
 |.aI,u=>u=Value.none
 |.bl b,u=>u=Value.bool b
 |.int i,u=>∃t,u=Value.int i t
 |.str x,u=>∃t,u=Value.str x t
 |.vQ b,u=>∃t,u=Value.bytes b t
 |.Aw b,u=>∃t,u=Value.float b t
 |.ref a,u=>u=Value.ref a
 |.ty n,u=>u=Value.type n
abbrev Vals:List V->List ai->Prop:=Paired RelV
theorem Vals.length{xs:List V}{us:List ai}(r:Vals xs us):xs.length=us.length:=Paired.length r
theorem Vals.get:∀{xs:List V} {us:List ai} {i:Nat} {x:V},Vals xs us->xs[i]?=some x->∃u,us[i]?=some u/\RelV x u
 |_,_,_,_,.nil,e=>by simp at e
 |_,_,0,_,.cons r _,e=>by simp at e;subst e;exact⟨_,rfl,r⟩
 |_,_,i+1,x,.cons _ t,e=>by
  obtain⟨u,h1,h2⟩:=Vals.get (i:=i) (x:=x) t (by simpa using e)
  exact⟨u,by simpa using h1,h2⟩
theorem Vals.set{x:V}{u:ai}(r:RelV x u):∀{xs:List V} {us:List ai} (i:Nat),Vals xs us->Vals (xs.set i x) (us.set i u)
 |_,_,_,.nil=>.nil
 |_,_,0,.cons _ t=>.cons r t
 |_,_,i+1,.cons q t=>.cons q (Vals.set r i t)
def Vals.append{xs ys:List V}{us ws:List ai}(h:Vals xs us)(s:Vals ys ws):Vals (xs++ys) (us++ws):=by
 induction h with
 |nil=>exact s
 |cons r t ih=>exact .cons r ih
theorem Vals.take:∀{xs:List V} {us:List ai} (n:Nat),Vals xs us->Vals (xs.take n) (us.take n)
 |_,_,0,_=>.nil
 |_,_,_+1,.nil=>.nil
 |_,_,n+1,.cons r t=>.cons r (Vals.take n t)
theorem Vals.drop:∀{xs:List V} {us:List ai} (n:Nat),Vals xs us->Vals (xs.drop n) (us.drop n)
 |_,_,0,r=>r
 |_,_,_+1,.nil=>.nil
 |_,_,n+1,.cons _ t=>Vals.drop n t
def iA:ak V->ak ai->Prop
 |some v,some u=>RelV v u
 |none,none=>True
 |_,_=>False
def KV{κ:Type}:List (κ×V)->List (κ×ai)->Prop:=Paired λ(p:κ×V) (q:κ×ai)=>p.1=q.1/\RelV p.2 q.2
noncomputable def kV:Key->V
 |.inl i=>.int i
 |.inr x=>.str x
inductive TK where
 |inl (i:Int)|inr (x:Str)|tp (l:List TK)|aI
mutual
def TK.beq:TK->TK->Bool
 |.inl a,.inl b=>decide (a=b)
 |.inr a,.inr b=>decide (a=b)
 |.tp l,.tp m=>TK.uq l m
 |.aI,.aI=>true
 |_,_=>false
def TK.uq:List TK->List TK->Bool
 |[],[]=>true
 |a::l,b::m=>TK.beq a b&&TK.uq l m
 |_,_=>false
end
mutual
theorem TK.beq_iff:∀a b:TK,TK.beq a b=true↔a=b
 |.inl a,.inl b=>⟨λe=>by rw[sY (show decide (a=b)=true from e)],λe=>by cases e;exact oH rfl⟩
 |.inr a,.inr b=>⟨λe=>by rw[sY (show decide (a=b)=true from e)],λe=>by cases e;exact oH rfl⟩
 |.tp l,.tp m=>⟨λe=>by rw[(TK.j_ l m).mp e],λe=>by cases e;exact(TK.j_ l l).mpr rfl⟩
 |.inl _,.inr _=>⟨λe=>(nomatch (show false=true from e)),λe=>(nomatch e)⟩
 |.inl _,.tp _=>⟨λe=>(nomatch (show false=true from e)),λe=>(nomatch e)⟩
 |.inr _,.inl _=>⟨λe=>(nomatch (show false=true from e)),λe=>(nomatch e)⟩
 |.inr _,.tp _=>⟨λe=>(nomatch (show false=true from e)),λe=>(nomatch e)⟩
 |.tp _,.inl _=>⟨λe=>(nomatch (show false=true from e)),λe=>(nomatch e)⟩
 |.tp _,.inr _=>⟨λe=>(nomatch (show false=true from e)),λe=>(nomatch e)⟩
 |.aI,.aI=>⟨λ_=>rfl,λ_=>rfl⟩
 |.aI,.inl _=>⟨λe=>(nomatch (show false=true from e)),λe=>(nomatch e)⟩
 |.aI,.inr _=>⟨λe=>(nomatch (show false=true from e)),λe=>(nomatch e)⟩
 |.aI,.tp _=>⟨λe=>(nomatch (show false=true from e)),λe=>(nomatch e)⟩
 |.inl _,.aI=>⟨λe=>(nomatch (show false=true from e)),λe=>(nomatch e)⟩
 |.inr _,.aI=>⟨λe=>(nomatch (show false=true from e)),λe=>(nomatch e)⟩
 |.tp _,.aI=>⟨λe=>(nomatch (show false=true from e)),λe=>(nomatch e)⟩
theorem TK.j_:∀l m:List TK,TK.uq l m=true↔l=m
 |[],[]=>⟨λ_=>rfl,λ_=>rfl⟩
 |a::l,b::m=>by show(TK.beq a b&&TK.uq l m)=true↔_;rw[iW,TK.beq_iff a b,TK.j_ l m];exact⟨λe=>by rw[e.1,e.2],λe=>by cases e;exact⟨rfl,rfl⟩⟩
 |[],_::_=>⟨λe=>(nomatch (show false=true from e)),λe=>(nomatch e)⟩
 |_::_,[]=>⟨λe=>(nomatch (show false=true from e)),λe=>(nomatch e)⟩
end
instance:DecidableEq TK:=λa b=>decidable_of_iff _ (TK.beq_iff a b)
mutual
def TK.hash(w:cD):TK->Int
 |.inl i=>hashInt i
 |.inr x=>hashStr w x
 |.tp l=>reduceHash (Builtin.Tuple.tupleHashOf (TK.d_ w l))
 |.aI=>4238894112
def TK.d_(w:cD):List TK->List Int
 |[]=>[]
 |a::l=>TK.hash w a::TK.d_ w l
end
def TK.ok:Nat->TK->Bool
 |n+1,.tp l=>l.all (TK.ok n)
 |0,.tp _=>false
 |_,_=>true
def iX(w:cD)(e:TK×V×V)(x:DictEntry):Prop:=x.hash=e.1.hash w/\RelV e.2.1 x.key/\RelV e.2.2 x.val/\e.1.ok 8=true
inductive HO where
  |lst (xs:List V)
  |tup (xs:List V)
  |dK (kvs:List (Key×V))|dT (kvs:List (List Key×V))
  |dG (es:List (TK×V×V)) (ep:Nat)
  |set (S:Int->Bool) (n:Nat)
  |ins (C dx:aj) (fs:List (Str×V))
  |own (x:aj)
  |xd (fs:List (Str×V))
  |met (f x:aj)
  |LB (lo hi:Int)
  |Y (o:Obj) (u:HO)
  |zq (ps:Array ai)
  |ext (φ:bZ->Prop)
abbrev Hp:=aj->ak HO
noncomputable def upd(H:Hp)(a:aj)(o:HO):Hp:=λb=>if b=a then some o else H b
theorem aK{H:Hp}{a:aj}{o:HO}:upd H a o a=some o:=by unfold upd;rw[bM rfl]
theorem dh{H:Hp}{a b:aj}{o:HO}(h:b≠a):upd H a o b=H b:=by unfold upd;rw[bc h]
def Xg{H:Hp}{a:aj}{o u:HO}:upd (upd H a o) a u=upd H a u:=by
 funext b;unfold upd;split <;> rfl
def rC{H:Hp}{a b:aj}{o:HO}(h:H a=some o)(h':H b=none):a≠b:=by
 lia
section
variable(P:dc)(w:cD)
def bf(H:Hp)(h:bZ)(a:aj):HO->Prop
 |.lst xs=>xs.length<=sizeLine/\∃(aG:List ai) (n:Nat),Vals xs aG/\h.get? a=some { cls:=.type "list",data:=.seq aG.toArray n}
 |.tup xs=>xs.length<=sizeLine/\∃aG:List ai,Vals xs aG/\IsTup h a aG.toArray
 |.dK kvs=>kvs.length<=sizeLine/\(a == sysModules)=false/\∃vs,KV kvs vs/\h.DictOf (Jo P w) a vs
 |.dT kvs=>kvs.length<=sizeLine/\(a == sysModules)=false/\∃xs:List (List Key×aj×ai),
   Paired (λ(p:List Key×V) (q:List Key×aj×ai)=>p.1=q.1/\H q.2.1=some (.tup (p.1.map kV))/\RelV p.2 q.2.2) kvs xs/\
   ∃o es ep,h.get? a=some o/\o.ExactDict/\o.data=.dict es ep/\es.toList=xs.map (entryOfKey (tupleKind (Jo P w)))/\(xs.map (·.1)).Nodup
 |.dG es ep=>es.length<=sizeLine/\(a == sysModules)=false/\∃o xs,h.get? a=some o/\o.ExactDict/\o.data=.dict xs ep/\Paired (iX w) es xs.toList/\(es.map (·.1)).Nodup
 |.set S n=>h.SetOf (intKind P w) a S n
 |.ins C dx fs=>H dx=some (.own a)/\fs.length<=1000/\dx≠a/\h.get? a=some (PySem.W.instObj C dx)/\
   ∃mA,h.Ns1 dx mA/\(∀f,iA (fs.lookup f) (mA f))/\PySem.Within mA (fs.map (·.1))
 |.own _=>∃o,h.get? a=some o
 |.xd fs=>∃mA,h.Ns1 a mA/\∀f,iA (fs.lookup f) (mA f)
 |.LB lo hi=>∃t u v,h.get? a=some { cls:=.type "range",data:=.fields #[.int lo t,.int hi u,.int 1 v]}
 |.Y o u=>h.get? a=some o/\bf H h a u
 |.zq ps=>h.get? a=some { cls:=.none,data:=.fields ps}
 |.met f x=>h.get? a=some (PySem.W.methodObj (.ref f) (.ref x))
 |.ext φ=>φ h/\(∃o,h.get? a=some o)/\∀h1 h2:bZ,φ h1->(∀o,h1.get? a=some o->h2.get? a=some o)->φ h2
def i6(H:Hp)(h:bZ):Prop:=∀a o,H a=some o->bf P w H h a o
end
section
variable{P:dc}{w:cD}{H H':Hp}{h h':bZ}{a:aj}{o:HO}
theorem bf.lt(x:bf P w H h a o):a<h.objs.size:=by
 cases o with
 |lst xs=>obtain⟨_,_,_,_,e⟩:=x;exact cT e
 |tup xs=>obtain⟨_,_,_,p⟩:=x;exact p.lt
 |dK kvs=>obtain⟨_,_,_,_,o,_,_,e,_⟩:=x;exact cT e
 |dT kvs=>obtain⟨_,_,_,_,o,_,_,e,_⟩:=x;exact cT e
 |dG es ep=>obtain⟨_,_,o,_,e,_⟩:=x;exact cT e
 |set S n=>obtain⟨o,_,_,_,e,_⟩:=x;exact cT e
 |ins C dx fs=>obtain⟨_,_,_,e,_⟩:=x;exact cT e
 |own y=>obtain⟨_,e⟩:=x;exact cT e
 |xd fs=>obtain⟨_,⟨_,_,_,e,_⟩,_⟩:=x;exact cT e
 |LB lo hi=>obtain⟨_,_,_,e⟩:=x;exact cT e
 |Y ob u=>obtain⟨e,_⟩:=x;exact cT e
 |zq ps=>exact cT (show h.get? a=some _ from x)
 |met f y=>exact cT (show h.get? a=some _ from x)
 |ext φ=>obtain⟨_,⟨_,e⟩,_⟩:=x;exact cT e
def Paired.Dl{α β:Type}{F G:α->β->Prop}{l₁:List α}{l₂:List β}(h:Paired F l₁ l₂)(f:∀a b,F a b->G a b):Paired G l₁ l₂:=by
 induction h with
 |nil=>exact .nil
 |cons r t ih=>exact .cons (f _ _ r) ih
def bf.my(x:bf P w H h a o)(k:∀b u,(b=a\/H b=some (.own a))->h.get? b=some u->h'.get? b=some u)
  (ho:∀b,H b=some (.own a)->H' b=some (.own a)) (ht:∀b xs,H b=some (.tup xs)->H' b=some (.tup xs)):bf P w H' h' a o:=by
 induction o with
 |lst xs=>obtain⟨z,aG,n,r,e⟩:=x;exact⟨z,aG,n,r,k _ _ (.inl rfl) e⟩
 |tup xs=>obtain⟨z,aG,r,ob,e,c⟩:=x;exact⟨z,aG,r,ob,k _ _ (.inl rfl) e,c⟩
 |dK kvs=>obtain⟨z,y,vs,r,ob,es,ep,e,c⟩:=x;exact⟨z,y,vs,r,ob,es,ep,k _ _ (.inl rfl) e,c⟩
 |dT kvs=>
  obtain⟨z,y,xs,r,ob,es,ep,e,c⟩:=x;exact⟨z,y,xs,Paired.Dl r λp q z=>⟨z.1,ht _ _ z.2.1,z.2.2⟩,ob,es,ep,k _ _ (.inl rfl) e,c⟩
 |dG es ep=>obtain⟨z,y,ob,xs,e,c⟩:=x;exact⟨z,y,ob,xs,k _ _ (.inl rfl) e,c⟩
 |set S n=>obtain⟨ob,es,ep,t,e,c⟩:=x;exact⟨ob,es,ep,t,k _ _ (.inl rfl) e,c⟩
 |ins C dx fs=>
  obtain⟨d,z,ne,e,mA,⟨od,es,ep,e2,c⟩,r⟩:=x;exact⟨ho _ d,z,ne,k _ _ (.inl rfl) e,mA,⟨od,es,ep,k _ _ (.inr d) e2,c⟩,r⟩
 |own y=>obtain⟨ob,e⟩:=x;exact⟨ob,k _ _ (.inl rfl) e⟩
 |xd fs=>obtain⟨mA,⟨od,es,ep,e,c⟩,r⟩:=x;exact⟨mA,⟨od,es,ep,k _ _ (.inl rfl) e,c⟩,r⟩
 |LB lo hi=>obtain⟨t,u,v,e⟩:=x;exact⟨t,u,v,k _ _ (.inl rfl) e⟩
 |Y ob u ih=>obtain⟨e,q⟩:=x;exact⟨k _ _ (.inl rfl) e,ih q⟩
 |zq ps=>
  have e:h.get? a=some { cls:=.none,data:=.fields ps}:=x;show h'.get? a=some { cls:=.none,data:=.fields ps};exact k a _ (.inl rfl) e
 |met f y=>
  have e:h.get? a=some (PySem.W.methodObj (.ref f) (.ref y)):=x;show h'.get? a=some (PySem.W.methodObj (.ref f) (.ref y));exact k a _ (.inl rfl) e
 |ext φ=>obtain⟨p,⟨o,e⟩,st⟩:=x;exact⟨st _ _ p λo q=>k _ _ (.inl rfl) q,⟨o,k _ _ (.inl rfl) e⟩,st⟩
theorem i6.lt(x:i6 P w H h)(e:H a=some o):a<h.objs.size:=(x a o e).lt
def i6.fresh(x:i6 P w H h)(e:h.objs.size<=a):H a=none:=by
 cases q:H a with
 |none=>rfl
 |some u=>exact cO (gj (x.lt q) e) (jU _)
def i6.kept(x:i6 P w H h)(k:∀b u,h.get? b=some u->h'.get? b=some u):i6 P w H h':=λa o e=>
 (x a o e).my (λb u _ q=>k b u q) (λ_ q=>q) λ_ _ q=>q
def i6.laid(x:i6 P w H h)(k:∀b u,h.get? b=some u->h'.get? b=some u)(hp:h.objs.size<=a)(new:bf P w (upd H a o) h' a o):i6 P w (upd H a o) h':=λb u e=>by
 have hn:=x.fresh hp;by_cases hb:b=a
 .subst hb;rw[aK] at e;cases e;exact new
 .rw[dh hb] at e;exact(x b u e).my (λc v _ q=>k c v q) (λc q=>by rw[dh (rC q hn)];exact q) λc xs q=>by rw[dh (rC q hn)];exact q
end
def Rd(H:Hp)(a:aj)(u:HO):Prop:=H a=some u\/∃o,H a=some (.Y o u)
def Rd.ok{P:dc}{w:cD}{H:Hp}{h:bZ}{a:aj}{u:HO}(r:Rd H a u)(x:i6 P w H h):bf P w H h a u:=by
 rcases r with r|⟨o,r⟩
 .exact x a u r
 .obtain⟨_,q⟩:=x a _ r;exact q
def A':ak HO->Prop
 |some (.lst _)=>True
 |some (.dK _)=>True
 |some (.dT _)=>True
 |some (.dG _ _)=>True
 |some (.set _ _)=>True
 |some (.ins _ _ _)=>True
 |some (.ext _)=>True
 |_=>False
section
variable{P:dc}{w:cD}{H:Hp}{h h':bZ}{x e:aj}{o':HO}
def i6.write(ok:i6 P w H h)(mu:A' (H x))(he:e=x\/H e=some (.own x))(k:∀b u,b≠e->h.get? b=some u->h'.get? b=some u)(AB:∃u,h'.get? e=some u)
  (new:bf P w (upd H x o') h' x o'):i6 P w (upd H x o') h':=λb u q=>by
 have Lg:∀c y,H c=some (.own y)->c≠x:=λc y r z=>by subst z;rw[r] at mu;exact mu
 have Lh:∀c xs,H c=some (.tup xs)->c≠x:=λc xs r z=>by subst z;rw[r] at mu;exact mu
 by_cases hb:b=x
 .grind [aK]
 .rw[dh hb] at q;by_cases Ay:b=e
  .have q':H b=some (.own x):=by
    rcases he with z|z
    .exact cO (Ay.trans z) hb
    .rw[Ay];exact z
   rw[q] at q';cases q';obtain⟨v,hv⟩:=AB;exact⟨v,by rw[Ay];exact hv⟩
  .refine(ok b u q).my (λc v hc r=>k c v ?_ r) (λc r=>by rw[dh (Lg c b r)];exact r) λc xs r=>by rw[dh (Lh c xs r)];exact r
   grind
end
structure Un (fs ex:List aj) (H H':Hp) (h h':bZ):Prop where
 keep:∀b o,h.get? b=some o->H b=none->b∉fs->b∉ex->h'.get? b=some o
 slot:∀b o,h.get? b=some o->H b=none->b∈fs->b∉ex->∃sl,h'.get? b=some { o with slots:=sl}
 free:∀b o,h.get? b=some o->H b=none->b∉ex->H' b=none
 there:∀b o,h.get? b=some o->b∉ex->∃o',h'.get? b=some o'
 k8:∀b xs,H b=some (.tup xs)->H' b=some (.tup xs)
 kh:∀b o u,H b=some (.Y o u)->H' b=some (.Y o u)
 k7:∀b ps,H b=some (.zq ps)->∃more,H' b=some (.zq (ps++more))
section
variable{fs Ax ex ex':List aj}{H H1 H2:Hp}{h h1 h2 h':bZ}{a x e:aj}{o:HO}
def Un.any(u:Un fs ex H H1 h h1){b:aj}{ob:Obj}(q:h.get? b=some ob)(n:H b=none)(hx:b∉ex):∃sl,h1.get? b=some { ob with slots:=sl}:=by
 by_cases hb:b∈fs
 .exact u.slot b ob q n hb hx
 .exact⟨ob.slots,u.keep b ob q n hb hx⟩
def Un.kept(k:∀b u,h.get? b=some u->h'.get? b=some u):Un fs ex H H h h':=
 ⟨λb ob q _ _ _=>k b ob q,λb ob q _ _ _=>⟨ob.slots,k b ob q⟩,λ_ _ _ n _=>n,λb ob q _=>⟨ob,k b ob q⟩,λ_ _ q=>q,λ_ _ _ q=>q,λ_ ps q=>⟨#[],by rw[q];simp⟩⟩
def Un.refl:Un fs ex H H h h:=Un.kept λ_ _ q=>q
def Un.laid(k:∀b u,h.get? b=some u->h'.get? b=some u)(hp:h.objs.size<=a)(hn:H a=none):Un fs ex H (upd H a o) h h' where
 keep:=λb u q _ _ _=>k b u q
 slot:=λb u q _ _ _=>⟨u.slots,k b u q⟩
 free:=λb u q n _=>by rw[dh (gP (gj (cT q) hp))];exact n
 there:=λb u q _=>⟨u,k b u q⟩
 k8:=λb xs q=>by rw[dh (rC q hn)];exact q
 kh:=λb u xs q=>by rw[dh (rC q hn)];exact q
 k7:=λb ps q=>⟨#[],by rw[dh (rC q hn),q];simp⟩
def Un.write(mu:A' (H x))(he:e=x\/H e=some (.own x))(k:∀b u,b≠e->h.get? b=some u->h'.get? b=some u)(AB:∃u,h'.get? e=some u):Un fs ex H (upd H x o) h h':=by
 have hx:∀b,H b=none->b≠x:=λb n z=>by subst z;rw[n] at mu;exact mu
 have hb:∀b,H b=none->b≠e:=λb n z=>by
  subst z;rcases he with r|r
  .exact hx b n r
  .rw[n] at r;cases r
 have hm:∀b u,H b=some u->¬A' (some u)->b≠x:=λb u q nm z=>by subst z;rw[q] at mu;exact nm mu
 refine⟨λb u q n _ _=>k b u (hb b n) q,λb u q n _ _=>⟨u.slots,k b u (hb b n) q⟩,λb u q n _=>by rw[dh (hx b n)];exact n,λb u q _=>?_,
  λb xs q=>by rw[dh (hm b _ q λz=>z)];exact q,λb u xs q=>by rw[dh (hm b _ q λz=>z)];exact q,λb ps q=>⟨#[],by rw[dh (hm b _ q λz=>z),q];simp⟩⟩
 by_cases Ay:b=e
 .subst Ay;exact AB
 .exact⟨u,k b u Ay q⟩
end
noncomputable def Hq(h:bZ)(H:Hp):List aj:=(List.range h.objs.size).filter λa=>(H a).isSome
def l5(h:bZ)(H:Hp):bZ:=PySem.W.hideAll h (Hq h H)
def Ug(h:bZ)(H:Hp):(l5 h H).objs.size=h.objs.size:=PySem.W.hideAll_size _ _
def Vs{h:bZ}{H:Hp}{b:aj}{o:Obj}(e:h.get? b=some o)(n:H b=none):(l5 h H).get? b=some o:=
 PySem.W.hideAll_get _ e λhm=>by
  have q:(H b).isSome=true:=(tZ.mp hm).2;rw[n] at q;simp at q
def Xh{h:bZ}{H:Hp}{b:aj}{o:Obj}(e:(l5 h H).get? b=some o):h.get? b=some o/\H b=none:=by
 have e':h.get? b=some o:=PySem.W.of_hideAll (Hq h H) e;refine⟨e',?_⟩;cases q:H b with
 |none=>rfl
 |some x=>
  have hm:b∈Hq h H:=tZ.mpr ⟨qm.mpr (cT e'),by simp[q]⟩
  have z:(l5 h H).get? b=none:=PySem.W.hideAll_none (Hq h H) hm;rw[z] at e;cases e
variable{t' i:Nat}{ch:List aj}{x:Str}{M:Model}{A:cN}{E:ai->ax->Prop}{v:V}{u:ai}{Q:Unit->ax->Prop}
structure Mod (K:aL) (mg:Str->ak ai) (base:bZ):Prop where
 AI:K.In base
 glob:base.Ns mainGlobals mg
 blt:∃mb,base.Ns builtinsNs mb/\∀x:Str,x≠"__name__"->mb x=bootBuiltins x
 nolimit:base.NoLimit
set_option genInjectivity false in
structure Cx where
 prog:dc
 w:cD
 K:aL
 mg:Str->ak ai
 base:bZ
 A:cN
 N:List Str
 s₀:ax
 H₀:Hp
 env:Env
 outer:List Env
 stack:List Env
 ex:List aj
 fn:Str->Bool
 calm:Bool
 pn:List (aj×Obj)
 xe:ai->ax->Prop
noncomputable def kg(l:List Env):List aj:=l.filterMap (·.frame)
abbrev Cx.fs(X:Cx):List aj:=kg X.outer
def HV(sc:Scope)(x:Str):Prop:=sc.names.lookup x=some .local \/ sc.names.lookup x=some .cell\/sc.names.lookup x=some .free
def Loc(sc:Scope)(x:Str):Prop:=sc.names.lookup x=some .local \/ sc.names.lookup x=some .cell
def Look(env:Env)(h:bZ)(m:Str->ak ai)(x:Str)(u:ai):Prop:=
 (env.kindOf x=some .local /\ m x=some u)\/((env.kindOf x=some .cell\/env.kindOf x=some .free)/\∃c,env.cells.lookup x=some c/\h.IsCell c (some u))
structure Cx.Ok (X:Cx):Prop where
 mod:Mod X.K X.mg X.base
 kind:X.env.scope.kind=.function
 glob:X.env.globals=mainGlobals
 blt:X.env.builtins=builtinsNs
 above:X.s₀.heap.objs.size<=X.env.locals
 inj:∀x y c,X.env.cells.lookup x=some c->X.env.cells.lookup y=some c->x=y
 has:∀x,(X.env.kindOf x=some .cell\/X.env.kindOf x=some .free)->∃c,X.env.cells.lookup x=some c
 x9:∀x c,X.fn x=true->X.env.cells.lookup x=some c->X.s₀.heap.objs.size<=c
 hd:X.calm=true->X.A.handled=none
 frames:X.A.frames=some X.stack
 AQ:X.stack=X.outer\/(X.stack=X.env::X.outer/\X.env.frame=some X.env.locals)
 GF:∀b∈X.ex,b≠X.env.locals/\∀x c,X.env.cells.lookup x=some c->c≠b
 bs:∀b o,X.base.get? b=some o->X.s₀.heap.get? b=some o/\X.H₀ b=none
 rL:X.base.objs.size<=X.s₀.heap.objs.size
 ow:∀b o,X.base.get? b=some o->b∉X.ex
 qa:∀b∈X.ex,b∉X.fs
 iF:X.s₀.heap.FunFrames X.base X.outer
 uB:∀b∈X.fs,X.H₀ b=none
structure Inv (X:Cx) (aa:List (aj×Obj)) (Z:List (ak V)) (H:Hp) (s:ax):Prop where
 ok:X.Ok
 os:s.os=X.s₀.os
 bare:AllBare s.gens
 base:Un X.fs X.ex X.H₀ H X.s₀.heap s.heap
 loc:∃m,s.heap.Ns X.env.locals m/\∀(i:Nat) (x:Str) (v:V),X.N[i]?=some x->Z[i]?=some (some v)->HV X.env.scope x->∃u,RelV v u/\Look X.env s.heap m x u
 cell:∀x c,X.env.cells.lookup x=some c->∃v,s.heap.IsCell c v
 free:H X.env.locals=none
 eL:∀x c,X.env.cells.lookup x=some c->H c=none
 pin:∀p∈X.pn++aa,s.heap.get? p.1=some p.2/\H p.1=none/\p.1≠X.env.locals/\p.1∉X.fs/\∀v,p.2.data≠.cell v
 bw:i6 X.prog X.w H s.heap
 len:Z.length=X.N.length
section
variable{X:Cx}{aa:List (aj×Obj)}{Z:List (ak V)}{H H':Hp}{s:ax}{h':bZ}
def Cx.Ok.Lf(ok:X.Ok){b:aj}{o:Obj}(e:X.base.get? b=some o):b∉X.fs:=λhb=>by
 have:=(ok.iF.mem hb).1
 lia
theorem Inv.bs(I:Inv X aa Z H s):∀b o,X.base.get? b=some o->s.heap.get? b=some o/\H b=none:=λb o e=>
 ⟨I.base.keep b o (I.ok.bs b o e).1 (I.ok.bs b o e).2 (I.ok.Lf e) (I.ok.ow b o e),I.base.free b o (I.ok.bs b o e).1 (I.ok.bs b o e).2 (I.ok.ow b o e)⟩
def Inv.bk(I:Inv X aa Z H s):∀b o,X.base.get? b=some o->s.heap.get? b=some o:=λb o e=>(I.bs b o e).1
theorem Inv.mod(I:Inv X aa Z H s):Mod X.K X.mg X.base:=I.ok.mod
def Inv.jQ(I:Inv X aa Z H s):X.K.In s.heap:=I.ok.mod.AI.keeps I.bk
theorem Inv.lt(I:Inv X aa Z H s):X.env.locals<s.heap.objs.size:=let ⟨_,hn,_⟩:=I.loc;hn.lt
def Inv.sz(I:Inv X aa Z H s):X.s₀.heap.objs.size<=s.heap.objs.size:=jt I.ok.above (Mn I.lt)
def Inv.yR(I:Inv X aa Z H s){a:aj}(h:s.heap.objs.size<=a):a∉X.fs:=λhb=>by
 obtain⟨_,o,ho,_⟩:=I.ok.iF.mem hb;exact cO (gj (cT ho) (jt I.sz h)) (jU _)
def Inv.yb(I:Inv X aa Z H s):∀x c,X.env.cells.lookup x=some c->c≠X.env.locals:=λx c e z=>by
 obtain⟨v,o,ho,hd⟩:=I.cell x c e;obtain⟨m,⟨o',es,ep,vY,o5,_⟩,_⟩:=I.loc
 lia
theorem Inv.iF(I:Inv X aa Z H s):s.heap.FunFrames X.base X.outer:=by
 have all:∀(l:List Env),(∀b∈kg l,b∈X.fs)->X.s₀.heap.FunFrames X.base l->s.heap.FunFrames X.base l:=by
  intro l
  induction l with
  |nil=>intro _ _;trivial
  |cons env r ih=>
   intro hs hl;obtain⟨hk,⟨L,o,hf,hn,ho,hd⟩,hr⟩:=hl;have hL:L∈X.fs:=hs L (by unfold kg;rw[qD,hf];exact AW)
   obtain⟨sl,e⟩:=I.base.slot L o ho (I.ok.uB L hL) hL λz=>I.ok.qa L z hL
   exact⟨hk,⟨L,_,hf,hn,e,hd⟩,ih (λb hb=>hs b (by unfold kg;rw[qD,hf];exact qo _ hb)) hr⟩
 exact all X.outer (λ_ hb=>hb) I.ok.iF
def Inv.stack(I:Inv X aa Z H s):s.heap.FunFrames X.base X.stack:=by
 rcases I.ok.AQ with e|⟨e,hf⟩
 .rw[e];exact I.iF
 .rw[e];obtain⟨m,hn,_⟩:=I.loc;refine .cons (by rw[I.ok.kind];decide) hf hn ?_ I.iF
  exact Heap.get?_none_of_le (jt I.ok.rL I.ok.above)
def Inv.kE(I:Inv X aa Z H s):∀b∈kg X.stack,b∈X.env.locals::X.fs:=λb hb=>by
 rcases I.ok.AQ with e|⟨e,hf⟩
 .rw[e] at hb;exact qo _ hb
 .rw[e] at hb;unfold kg at hb;rw[qD,hf] at hb;exact hb
def Inv.jT(I:Inv X aa Z H s):∀b∈kg X.stack,H b=none:=λb hb=>by
 rcases y0a.mp (I.kE b hb) with e|hb
 .rw[e];exact I.free
 .obtain⟨_,o,ho,_⟩:=I.ok.iF.mem hb;exact I.base.free b o ho (I.ok.uB b hb) λz=>I.ok.qa b z hb
def Inv.step{g':Array GenState}{t':Nat}{d':Drawn}{ch:List aj}(I:Inv X aa Z H s)
  (kJ:∀b∈ch,(b∈X.ex\/X.s₀.heap.objs.size<=b)/\b≠X.env.locals/\(∀x c,X.env.cells.lookup x=some c->c≠b)/\∀p∈X.pn++aa,p.1≠b)
  (keep:∀b o,b≠X.env.locals->b∉X.fs->b∉ch->s.heap.get? b=some o->H b=none->h'.get? b=some o)
  (slot:∀b o,b≠X.env.locals->b∈X.fs->b∉ch->s.heap.get? b=some o->H b=none->∃sl,h'.get? b=some { o with slots:=sl}) (free:∀b o,b∉ch->s.heap.get? b=some o->H b=none->H' b=none)
  (there:∀b o,b∉ch->s.heap.get? b=some o->∃o',h'.get? b=some o')
  (k8:∀b xs,H b=some (.tup xs)->H' b=some (.tup xs)) (kh:∀b o u,H b=some (.Y o u)->H' b=some (.Y o u)) (k7:∀b ps,H b=some (.zq ps)->∃more,H' b=some (.zq (ps++more)))
  (ns:∀m,s.heap.Ns X.env.locals m->h'.Ns X.env.locals m) (bw:i6 X.prog X.w H' h') (hg:AllBare g') :
  Inv X aa Z H' { s with heap:=h',gens:=g',drawn:=d',toks:=t'}:=by
 have Si:∀b o,X.s₀.heap.get? b=some o->b≠X.env.locals:=λb o e=>gP (gj (cT e) I.ok.above)
 have G_:∀b o,X.s₀.heap.get? b=some o->b∉X.ex->b∉ch:=λb o e hx hb=>by
  rcases(kJ b hb).1 with z|z
  .exact hx z
  .exact cO (gj (cT e) z) (jU _)
 have cellK:∀x c,X.env.cells.lookup x=some c->∀v,s.heap.IsCell c v->h'.IsCell c v:=λx c e v ⟨o,ho,hd⟩=>by
  have uR:c∉ch:=λz=>(kJ c z).2.2.1 x c e rfl
  by_cases hc:c∈X.fs
  .obtain⟨sl,q⟩:=slot c o (I.yb x c e) hc uR ho (I.eL x c e);exact⟨_,q,hd⟩
  .exact⟨o,keep c o (I.yb x c e) hc uR ho (I.eL x c e),hd⟩
 refine⟨I.ok,I.os,hg,⟨λb o e n hb hx=>?_,λb o e n hb hx=>?_,λb o e n hx=>?_,λb o e hx=>?_,λb xs e=>k8 b xs (I.base.k8 b xs e),λb o xs e=>kh b o xs (I.base.kh b o xs e),λb ps e=>?_⟩,?_,λx c e=>?_,?_,λx c e=>?_,λp hp=>?_,bw,I.len⟩
 .exact keep b o (Si b o e) hb (G_ b o e hx) (I.base.keep b o e n hb hx) (I.base.free b o e n hx)
 .obtain⟨sl,e1⟩:=I.base.slot b o e n hb hx;obtain⟨DQ,e2⟩:=slot b _ (Si b o e) hb (G_ b o e hx) e1 (I.base.free b o e n hx);exact⟨DQ,e2⟩
 .obtain⟨o',e1⟩:=I.base.there b o e hx;exact free b o' (G_ b o e hx) e1 (I.base.free b o e n hx)
 .obtain⟨o',e1⟩:=I.base.there b o e hx;exact there b o' (G_ b o e hx) e1
 .obtain⟨m1,e1⟩:=I.base.k7 b ps e;obtain⟨m2,e2⟩:=k7 b _ e1;exact⟨m1++m2,by rw[e2,Array.append_assoc]⟩
 .obtain⟨m,hn,hl⟩:=I.loc;refine⟨m,ns m hn,λi x v e1 e2 e3=>?_⟩
  obtain⟨u,r,l⟩:=hl i x v e1 e2 e3;refine⟨u,r,?_⟩;rcases l with l|⟨k,c,e,z⟩
  .exact .inl l
  .exact .inr ⟨k,c,e,cellK x c e _ z⟩
 .obtain⟨v,z⟩:=I.cell x c e;exact⟨v,cellK x c e v z⟩
 .obtain⟨m,⟨o,_,_,ho,_⟩,_⟩:=I.loc;exact free _ o (λz=>(kJ _ z).2.1 rfl) ho I.free
 .obtain⟨v,o,ho,hd⟩:=I.cell x c e;exact free c o (λz=>(kJ c z).2.2.1 x c e rfl) ho (I.eL x c e)
 .obtain⟨e,n,ne,nf,d⟩:=I.pin p hp;have uR:p.1∉ch:=λz=>(kJ p.1 z).2.2.2 p hp rfl
  exact⟨keep p.1 p.2 ne nf uR e n,free p.1 p.2 uR e n,ne,nf,d⟩
def Inv.un(I:Inv X aa Z H s)(u:Un X.fs [] H H' s.heap h')(bw:i6 X.prog X.w H' h'):Inv X aa Z H' { s with heap:=h',toks:=t'}:=by
 obtain⟨m,⟨o,es,ep,ho,r⟩,_⟩:=id I.loc;obtain⟨sl,hL⟩:=u.any ho I.free (by simp)
 exact I.step (g':=s.gens) (d':=s.drawn) (ch:=[]) (λ_ z=>nomatch z) (λb o _ hb _ e n=>u.keep b o e n hb (by simp)) (λb o _ hb _ e n=>u.slot b o e n hb (by simp)) (λb o _ e n=>u.free b o e n (by simp)) (λb o _ e=>u.there b o e (by simp)) u.k8 u.kh u.k7 (λm' hm=>by
  obtain⟨o',fL,jl,vY,r'⟩:=hm;rw[ho] at vY;cases vY;exact⟨_,fL,jl,hL,r'⟩) bw I.bare
def Inv.call{g':Array GenState}{d':Drawn}(I:Inv X aa Z H s)(u:Un (kg X.stack) ch H H' s.heap h')(bw:i6 X.prog X.w H' h')(hg:AllBare g')
  (kJ:∀b∈ch,(b∈X.ex\/X.s₀.heap.objs.size<=b)/\b≠X.env.locals/\(∀x c,X.env.cells.lookup x=some c->c≠b)/\∀p∈X.pn++aa,p.1≠b) :
  Inv X aa Z H' { s with heap:=h',gens:=g',drawn:=d',toks:=t'}:=by
 obtain⟨m,⟨o,es,ep,ho,r⟩,_⟩:=id I.loc;obtain⟨sl,hL⟩:=u.any ho I.free λz=>(kJ _ z).2.1 rfl
 exact I.step (ch:=ch) kJ (λb o hL hb hc e n=>u.keep b o e n (λz=>(y0a.mp (I.kE b z)).elim hL hb) hc) (λb o _ _ hc e n=>u.any e n hc) (λb o hc e n=>u.free b o e n hc) (λb o hc e=>u.there b o e hc) u.k8 u.kh u.k7 (λm' hm=>by
  obtain⟨o',fL,jl,vY,r'⟩:=hm;rw[ho] at vY;cases vY;exact⟨_,fL,jl,hL,r'⟩) bw hg
def Inv.turned{it:aj}(I:Inv X aa Z H s)(k:∀b o,b≠it->s.heap.get? b=some o->h'.get? b=some o)(hn:H it=none)(hL:it≠X.env.locals)
  (h1:it∈X.ex\/X.s₀.heap.objs.size<=it) (h2:∀x c,X.env.cells.lookup x=some c->c≠it) (h3:∀p∈X.pn++aa,p.1≠it):Inv X aa Z H { s with heap:=h',toks:=t'}:=by
 have Sk:∀b u,H b=some u->b≠it:=λb u e z=>by rw[z,hn] at e;cases e
 refine I.step (g':=s.gens) (d':=s.drawn) (ch:=[it]) (λb hb=>?_) (λb o _ _ hc e _=>k b o (λz=>hc (by simp[z])) e) (λb o _ _ hc e _=>⟨o.slots,k b o (λz=>hc (by simp[z])) e⟩) (λ_ _ _ _ n=>n)
  (λb o hc e=>⟨o,k b o (λz=>hc (by simp[z])) e⟩) (λ_ _ e=>e) (λ_ _ _ e=>e) (λb ps e=>⟨#[],by rw[e];simp⟩) (λm hm=>?_) (λb u e=>?_) I.bare
 .have e:b=it:=by simpa using hb
  subst e;exact⟨h1,hL,h2,h3⟩
 .obtain⟨o,es,ep,ho,r⟩:=hm;exact⟨o,es,ep,k _ o (Ne.symm hL) ho,r⟩
 .refine(I.bw b u e).my (λc v hc q=>k c v ?_ q) (λ_ q=>q) λ_ _ q=>q
  rcases hc with z|z
  .rw[z];exact Sk b u e
  .exact Sk c _ z
def Inv.tok(I:Inv X aa Z H s)(t:Nat):Inv X aa Z H { s with toks:=t}:=I.un (h':=s.heap) (t':=t) Un.refl I.bw
theorem Inv.kept{t':Nat}(I:Inv X aa Z H s)(k:∀b u,s.heap.get? b=some u->h'.get? b=some u):Inv X aa Z H { s with heap:=h',toks:=t'}:=I.un (Un.kept k) (I.bw.kept k)
theorem Inv.laid{a:aj}{o:HO}{t':Nat}(I:Inv X aa Z H s)(k:∀b u,s.heap.get? b=some u->h'.get? b=some u)(hp:s.heap.objs.size<=a)(new:bf X.prog X.w (upd H a o) h' a o):
  Inv X aa Z (upd H a o) { s with heap:=h',toks:=t'}:=I.un (Un.laid k hp (I.bw.fresh hp)) (I.bw.laid k hp new)
theorem Inv.write{x e:aj}{o:HO}{t':Nat}(I:Inv X aa Z H s)(mu:A' (H x))(he:e=x\/H e=some (.own x))(k:∀b u,b≠e->s.heap.get? b=some u->h'.get? b=some u)(AB:∃u,h'.get? e=some u)
  (new:bf X.prog X.w (upd H x o) h' x o):Inv X aa Z (upd H x o) { s with heap:=h',toks:=t'}:=I.un (Un.write mu he k AB) (I.bw.write mu he k AB new)
def Inv.jR{nv:List (aj×Obj)}(I:Inv X aa Z H s)(h:∀p∈nv,s.heap.get? p.1=some p.2/\H p.1=none/\p.1≠X.env.locals/\p.1∉X.fs/\∀v,p.2.data≠.cell v):Inv X nv Z H s:=
 ⟨I.ok,I.os,I.bare,I.base,I.loc,I.cell,I.free,I.eL,λp hp=>(iQ.mp hp).elim (λz=>I.pin p (Eu _ z)) (h p),I.bw,I.len⟩
def Om{N:List Str}(hN:N.Nodup){j:Nat}(a:N[i]?=some x)(b:N[j]?=some x):i=j:=by
 obtain⟨h1,e1⟩:=eW.mp a;obtain⟨h2,e2⟩:=eW.mp b;exact(Ew hN).mp (e1.trans e2.symm)
def NM(I:Inv X aa Z H s)(hN:X.N.Nodup)(hi:X.N[i]?=some x)(hx:Loc X.env.scope x)(r:RelV v u)
  (h:∀s',Inv X aa (Z.set i (some v)) H s'->(∃a,Heap.SameBut a s.heap s'.heap/\(a=X.env.locals\/X.env.cells.lookup x=some a))->Q () s') (hf:X.fn x=true\/X.env.scope.names.lookup x=some .local := by first|exact .inl rfl|exact .inr rfl|assumption):wpAny M A (storeName X.env x u) Q E s:=by
 obtain⟨m,hn,hl⟩:=id I.loc;have Kz:(X.env.scope.kind == .class || (X.env.scope.kind == .module&&X.env.locals != X.env.globals))=false:=by rw[I.ok.kind];rfl
 have RY:i<Z.length:=by rw[I.len];exact(eW.mp hi).1
 have yb:=I.yb;have tracked:∀{a:aj} {h':bZ},(∃o,s.heap.get? a=some o/\H a=none)->Heap.SameBut a s.heap h'->i6 X.prog X.w H h':=λ{a h'} ha hs b ob e=>by
  obtain⟨_,_,hfree⟩:=ha;refine(I.bw b ob e).my (λc w' hc q=>(hs.2 c ?_).trans q) (λ_ q=>q) λ_ _ q=>q
  lia
 rcases hx with hk|hk
 .refine wpAny_storeName_local hk hn (λh' G1 hs=>?_) Kz
  obtain⟨oL,_,_,iq,_⟩:=id hn;refine h _ ⟨I.ok,I.os,I.bare,⟨λb o e n hb hx=>?_,λb o e n hb hx=>?_,I.base.free,λb o e hx=>?_,I.base.k8,I.base.kh,I.base.k7⟩,⟨_,G1,λj y v' e1 e2 e3=>?_⟩,λy c e=>?_,I.free,I.eL,λp hp=>?_,tracked ⟨oL,iq,I.free⟩ hs,by simpa using I.len⟩ ⟨_,hs,.inl rfl⟩
  .exact(hs.2 b (gP (gj (cT e) I.ok.above))).trans (I.base.keep b o e n hb hx)
  .obtain⟨sl,e1⟩:=I.base.slot b o e n hb hx;exact⟨sl,(hs.2 b (gP (gj (cT e) I.ok.above))).trans e1⟩
  .obtain⟨o',e1⟩:=I.base.there b o e hx;exact⟨o',(hs.2 b (gP (gj (cT e) I.ok.above))).trans e1⟩
  .by_cases hj:j=i
   .subst hj;rw[hi] at e1;cases e1;rw[t4 RY] at e2;cases e2;exact⟨u,r,.inl ⟨hk,by simp⟩⟩
   .rw[AX (Ne.symm hj)] at e2;obtain⟨u',r',q⟩:=hl j y v' e1 e2 e3;refine⟨u',r',?_⟩;rcases q with⟨k,e⟩|⟨k,c,e,z⟩
    .refine .inl ⟨k,?_⟩;have:y≠x:=λe=>hj (Om hN e1 (e ▸ hi))
     simp[this,e]
    .exact .inr ⟨k,c,e,z.sameBut hs (yb y c e)⟩
  .obtain⟨w',z⟩:=I.cell y c e;exact⟨w',z.sameBut hs (yb y c e)⟩
  .obtain⟨e,n,ne,nf,d⟩:=I.pin p hp;exact⟨(hs.2 p.1 ne).trans e,n,ne,nf,d⟩
 .have CQ:X.fn x=true:=by
   rcases hf with z|z
   .exact z
   .rw[z] at hk;cases hk
  obtain⟨c,hc⟩:=I.ok.has x (.inl hk);obtain⟨w',z⟩:=I.cell x c hc;refine wpAny_storeName_cell I.ok.kind hk hc z (λh' nN hs=>?_)
  obtain⟨oc,uH,KQ⟩:=id z;refine h { s with heap:=h'} ⟨I.ok,I.os,I.bare,⟨λb o e n hb hx=>?_,λb o e n hb hx=>?_,I.base.free,λb o e hx=>?_,I.base.k8,I.base.kh,I.base.k7⟩,⟨m,hn.sameBut hs (Ne.symm (yb x c hc)),λj y v' e1 e2 e3=>?_⟩,λy c' e=>?_,I.free,I.eL,λp hp=>?_,tracked ⟨oc,uH,I.eL x c hc⟩ hs,by simpa using I.len⟩ ⟨c,hs,.inr hc⟩
  .exact(hs.2 b (gP (gj (cT e) (I.ok.x9 x c CQ hc)))).trans (I.base.keep b o e n hb hx)
  .obtain⟨sl,e1⟩:=I.base.slot b o e n hb hx;exact⟨sl,(hs.2 b (gP (gj (cT e) (I.ok.x9 x c CQ hc)))).trans e1⟩
  .obtain⟨o',e1⟩:=I.base.there b o e hx;exact⟨o',(hs.2 b (gP (gj (cT e) (I.ok.x9 x c CQ hc)))).trans e1⟩
  .by_cases hj:j=i
   .subst hj;rw[hi] at e1;cases e1;rw[t4 RY] at e2;cases e2;exact⟨u,r,.inr ⟨.inl hk,c,hc,nN⟩⟩
   .rw[AX (Ne.symm hj)] at e2;obtain⟨u',r',q⟩:=hl j y v' e1 e2 e3;refine⟨u',r',?_⟩;rcases q with q|⟨k,c',e,z'⟩
    .exact .inl q
    .refine .inr ⟨k,c',e,z'.sameBut hs ?_⟩;rintro rfl;exact hj (Om hN e1 (I.ok.inj _ _ _ e hc ▸ hi))
  .by_cases RU:c'=c
   .subst RU;exact⟨_,nN⟩
   .obtain⟨w2,z2⟩:=I.cell y c' e;exact⟨w2,z2.sameBut hs RU⟩
  .obtain⟨e,n,ne,nf,d⟩:=I.pin p hp;refine⟨(hs.2 p.1 ?_).trans e,n,ne,nf,d⟩;intro q;rw[q,uH] at e;have q':oc=p.2:=Option.some.inj e;exact d w' (by rw[<-q'];exact KQ)
def Oo(I:Inv X aa Z H s)(hN:X.N.Nodup)(hi:X.N[i]?=some x)(hx:Loc X.env.scope x)(r:RelV v u)
  (h:∀s',Inv X aa (Z.set i (some v)) H s'->Q () s') (hf:X.fn x=true\/X.env.scope.names.lookup x=some .local := by first|exact .inl rfl|exact .inr rfl|assumption):wpAny M A (storeName X.env x u) Q E s:=
 NM I hN hi hx r (λs' I' _=>h s' I') hf
def Inv.vR{s':ax}(I:Inv X aa Z H s)(ho:s'.os=s.os)(u:Un (kg X.stack) ch H H' s.heap s'.heap)(bw:i6 X.prog X.w H' s'.heap)(hg:AllBare s'.gens)
  (kJ:∀b∈ch,(b∈X.ex\/X.s₀.heap.objs.size<=b)/\b≠X.env.locals/\(∀x c,X.env.cells.lookup x=some c->c≠b)/\∀p∈X.pn++aa,p.1≠b):Inv X aa Z H' s':=by
 obtain⟨h',g',d',t',o'⟩:=s';have e:o'=s.os:=ho;subst e;exact I.call (g':=g') (t':=t') (d':=d') u bw hg kJ
end
abbrev XK:=ai->ak aj->Hp->Prop
abbrev St:=List (ak V)
abbrev VK:=V->Hp->Prop
abbrev TE:=St->Hp->VK->Prop
abbrev TT:=St->Hp->(Bool->Hp->Prop)->Prop
abbrev TA:=St->Hp->(List V->Hp->Prop)->Prop
set_option genInjectivity false in
structure Ends where
 nx:St->Hp->Prop
 rt:VK
 bk:St->Hp->Prop:=λ_ _=>False
 ct:St->Hp->Prop:=λ_ _=>False
abbrev TS:=Ends->St->Hp->Prop
def EP(X:Cx)(aa:List (aj×Obj))(Z:St)(Q:VK)(u:ai)(s':ax):Prop:=∃v H',Inv X aa Z H' s'/\RelV v u/\Q v H'
def TP(X:Cx)(aa:List (aj×Obj))(Z:St)(Q:Bool->Hp->Prop)(b:Bool)(s':ax):Prop:=∃H',Inv X aa Z H' s'/\Q b H'
def AP(X:Cx)(aa:List (aj×Obj))(Z:St)(Q:List V->Hp->Prop)(us:List ai)(s':ax):Prop:=∃vs H',Inv X aa Z H' s'/\Vals vs us/\Q vs H'
def SP(X:Cx)(aa:List (aj×Obj))(D:Ends)(f:Flow)(s':ax):Prop:=
 match f with
 |.next=>∃Z' H',Inv X aa Z' H' s'/\D.nx Z' H'
 |.brk=>∃Z' H',Inv X aa Z' H' s'/\D.bk Z' H'
 |.cont=>∃Z' H',Inv X aa Z' H' s'/\D.ct Z' H'
 |.ret u=>∃v Z' H',Inv X aa Z' H' s'/\RelV v u/\D.rt v H'
def PE(X:Cx)(e:Expr)(t:TE):Prop:=
 ∀(aa:List (aj×Obj)) (s:ax) (Z:St) (H:Hp) (Q:VK),Inv X aa Z H s->t Z H Q->wpAny (model X.prog X.w) X.A (eval e X.env) (EP X aa Z Q) X.xe s
def PT(X:Cx)(e:Expr)(t:TT):Prop:=
 ∀(aa:List (aj×Obj)) (s:ax) (Z:St) (H:Hp) (Q:Bool->Hp->Prop),Inv X aa Z H s->t Z H Q->wpAny (model X.prog X.w) X.A (isTrue e X.env (eval e X.env)) (TP X aa Z Q) X.xe s
def PW(X:Cx)(e:Expr)(t:TT):Prop:=
 ∀(whole:Sem ai) (aa:List (aj×Obj)) (s:ax) (Z:St) (H:Hp) (Q:Bool->Hp->Prop),Inv X aa Z H s->t Z H Q->wpAny (model X.prog X.w) X.A (isTrue e X.env whole) (TP X aa Z Q) X.xe s
def PW.pt{X:Cx}{e:Expr}{t:TT}(h:PW X e t):PT X e t:=h _
def PA(X:Cx)(es:List Expr)(t:TA):Prop:=
 ∀(pos:Pos) (aa:List (aj×Obj)) (s:ax) (Z:St) (H:Hp) (Q:List V->Hp->Prop),Inv X aa Z H s->t Z H Q->wpAny (model X.prog X.w) X.A (spliced (backTo pos (starEach es X.env))) (AP X aa Z Q) X.xe s
def PS(X:Cx)(st:Stmt)(t:TS):Prop:=
 ∀(aa:List (aj×Obj)) (s:ax) (Z:St) (H:Hp) (D:Ends),Inv X aa Z H s->t D Z H->wpAny (model X.prog X.w) X.A (exec st X.env) (SP X aa D) X.xe s
def iT(X:Cx)(st:List Stmt)(t:TS):Prop:=
 ∀(aa:List (aj×Obj)) (s:ax) (Z:St) (H:Hp) (D:Ends),Inv X aa Z H s->t D Z H->wpAny (model X.prog X.w) X.A (execs st X.env) (SP X aa D) X.xe s
def bL{α:Type}{t:Sem α}{Q Q':α->ax->Prop}{s:ax}(h:wpAny M A t Q E s)(hQ:∀a s,Q a s->Q' a s):wpAny M A t Q' E s:=wpAny_mono h hQ λ_ _ x=>x
section
variable{X:Cx}
def Eh(i:Nat):TE:=λZ H Q=>∃v,Z[i]?=some (some v)/\Q v H
def tC(v:V):TE:=λ_ H Q=>Q v H
def ZU{i:Nat}{x:Str}{pos:Pos}(hN:X.N[i]?=some x)(hv:HV X.env.scope x)(hd:(x == ("__debug__":Str))=false:=by decide)(rY:(x == ("__classdict__":Str))=false:=by decide):PE X (.Name x pos) (Eh i):=by
 intro aa s Z H Q I h;obtain⟨v,e,h⟩:=h;obtain⟨m,hn,hl⟩:=I.loc;obtain⟨u,r,l⟩:=hl i x v hN e hv;have fin:EP X aa Z Q u s:=⟨v,H,I,r,h⟩;rcases l with⟨hk,hm⟩|⟨hk,c,hc,oZ⟩
 .exact wpAny_Name (wpAny_loadName_local I.ok.kind hk hn hm fin) hd
 .rcases hk with hk|hk
  .exact wpAny_Name (wpAny_loadName_cell I.ok.kind hk hc oZ fin) hd
  .exact wpAny_Name (wpAny_loadName_free I.ok.kind hk hc oZ fin rY) hd
def ZV{i j pos}:PE X (.Constant (.int i) j pos) (tC (.int i)):=λ_ _ _ H _ I h=>wpAny_Constant_int ⟨.int i,H,I.tok _,⟨_,rfl⟩,h⟩
def e8k{b j pos}:PE X (.Constant (.bool b) j pos) (tC (.bl b)):=λ_ _ _ H _ I h=>Constant_bool ⟨.bl b,H,I,rfl,h⟩
def ZW{j pos}:PE X (.Constant .none j pos) (tC .aI):=λ_ _ _ H _ I h=>Constant_none ⟨.aI,H,I,rfl,h⟩
def ZX{x j pos}:PE X (.Constant (.str x) j pos) (tC (.str x)):=λ_ _ _ H _ I h=>Calls.Constant_str ⟨.str x,H,I.tok _,⟨_,rfl⟩,h⟩
def Gl(X:Cx)(x:Str):Prop:=X.env.kindOf x=some .globalImplicit
def Ae{E:ai->ax->Prop}{aa:List (aj×Obj)}{s:ax}{Z:St}{H:Hp}{x:Str}{u:ai}{pos:Pos}{Q:ai->ax->Prop}(I:Inv X aa Z H s)(hg:Gl X x)(hm:X.mg x=some u)(h:Q u s)
  (hd:(x == ("__debug__":Str))=false:=by decide):wpAny (model X.prog X.w) X.A (eval (.Name x pos) X.env) Q E s:=
 Calls.Name_function_global I.ok.kind hg (Calls.loadGlobal_global (by rw[I.ok.glob];exact I.mod.glob.keeps I.bk) hm h) hd
def vK{E:ai->ax->Prop}{aa:List (aj×Obj)}{s:ax}{Z:St}{H:Hp}{x:Str}{u:ai}{pos:Pos}{Q:ai->ax->Prop}(I:Inv X aa Z H s)(hg:Gl X x)(hm:X.mg x=none)(hv:bootBuiltins x=some u)(h:Q u s)
  (hn:x≠"__name__":=by decide) (hd:(x == ("__debug__":Str))=false:=by decide):wpAny (model X.prog X.w) X.A (eval (.Name x pos) X.env) Q E s:=by
 obtain⟨mb,h1,h2⟩:=I.mod.blt;exact Calls.Name_function_global I.ok.kind hg (Calls.loadGlobal_builtin (by rw[I.ok.glob];exact I.mod.glob.keeps I.bk) hm (by rw[I.ok.blt];exact h1.keeps I.bk) ((h2 x hn).trans hv) h) hd
def Xi{x:Str}{v:V}{u:ai}{pos:Pos}(hg:Gl X x)(hm:X.mg x=none)(hv:bootBuiltins x=some u)(r:RelV v u)(hn:x≠"__name__":=by decide)(hd:(x == ("__debug__":Str))=false:=by decide):PE X (.Name x pos) (tC v):=
 λ_ _ _ H _ I h=>vK I hg hm hv ⟨v,H,I,r,h⟩ hn hd
variable{a b:Expr}{ta tb:TE}{pos:Pos}
variable{tA Hj:TT}{rest:List Expr}
def LP(t u:TT):TT:=λZ H Q=>t Z H λc H1=>if c=true then u Z H1 Q else Q false H1
def tOr(t u:TT):TT:=λZ H Q=>t Z H λc H1=>if c=true then Q true H1 else u Z H1 Q
def LW(t:TT):TT:=λZ H Q=>t Z H λc H1=>Q (!c) H1
def Xj(ha:PT X a tA):PW X (.BoolOp .And [a] pos) tA:=by
 intro wh aa s Z H Q I h;refine isTrue_and (bL (ha aa s Z H Q I h) λc s1 e=>?_)
 cases c with
 |true=>exact isTrue_and_nil e
 |false=>exact e
def ZY(ha:PT X a tA):PW X (.BoolOp .Or [a] pos) tA:=by
 intro wh aa s Z H Q I h;refine isTrue_or (bL (ha aa s Z H Q I h) λc s1 e=>?_)
 cases c with
 |false=>exact isTrue_or_nil e
 |true=>exact e
def ZZ(ha:PT X a tA)(hb:PW X (.BoolOp .And (b::rest) pos) Hj):PW X (.BoolOp .And (a::b::rest) pos) (LP tA Hj):=by
 intro wh aa s Z H Q I h;refine isTrue_and (bL (ha aa s Z H _ I h) λc s1 hh=>?_)
 obtain⟨H1,I1,q1⟩:=hh;cases c with
 |true=>exact hb wh aa s1 Z H1 Q I1 q1
 |false=>exact⟨H1,I1,q1⟩
def e8l(ha:PT X a tA)(hb:PW X (.BoolOp .Or (b::rest) pos) Hj):PW X (.BoolOp .Or (a::b::rest) pos) (tOr tA Hj):=by
 intro wh aa s Z H Q I h;refine isTrue_or (bL (ha aa s Z H _ I h) λc s1 hh=>?_)
 obtain⟨H1,I1,q1⟩:=hh;cases c with
 |true=>exact⟨H1,I1,q1⟩
 |false=>exact hb wh aa s1 Z H1 Q I1 q1
def Z0(ha:PT X a tA):PT X (.UnaryOp .Not a pos) (LW tA):=by
 intro aa s Z H Q I h;exact isTrue_not (ha aa s Z H (λc H1=>Q (!c) H1) I h)
def D9(ta tb:TE):TE:=λZ H Q=>ta Z H λx H1=>∃c,x=.bl c/\if c=true then tb Z H1 Q else Q (.bl false) H1
def Ef(ta:TE):TE:=λZ H Q=>ta Z H λx H1=>∃c,x=.bl c/\Q (.bl (!c)) H1
def y0{op}{t:TE}(h:PE X a t):PE X (.BoolOp op [a] pos) t:=λaa s Z H Q I hw=>BoolOp_one (h aa s Z H Q I hw)
def Z4(ha:PE X a ta)(hb:PE X (.BoolOp .And (b::rest) pos) tb):PE X (.BoolOp .And (a::b::rest) pos) (D9 ta tb):=by
 intro aa s Z H Q I h;refine BoolOp_and (bL (ha aa s Z H _ I h) λv s1 hh=>?_)
 obtain⟨x,H1,I1,r1,q1⟩:=hh;obtain⟨c,rfl,q1⟩:=q1;cases r1;refine wpAny_truthy_bool ?_;cases c with
 |true=>exact hb aa s1 Z H1 Q I1 q1
 |false=>exact⟨.bl false,H1,I1,rfl,q1⟩
def Z5(ha:PE X a ta):PE X (.UnaryOp .Not a pos) (Ef ta):=by
 intro aa s Z H Q I h;refine UnaryOp_ (bL (ha aa s Z H _ I h) λv s1 hh=>?_)
 obtain⟨x,H1,I1,r1,q1⟩:=hh;obtain⟨c,rfl,q1⟩:=q1;cases r1;exact not_of (wpAny_truthy_bool ⟨.bl (!c),H1,I1,rfl,q1⟩)
def tIf(t:TT)(ta tb:TE):TE:=λZ H Q=>t Z H λc H1=>if c=true then ta Z H1 Q else tb Z H1 Q
def Vt{c:Expr}(hc:PT X c tA)(ha:PE X a ta)(hb:PE X b tb):PE X (.IfExp c a b pos) (tIf tA ta tb):=by
 intro aa s Z H Q I h;refine wpAny_IfExp (bL (hc aa s Z H _ I h) λd s1 hh=>?_)
 obtain⟨H1,I1,q1⟩:=hh;cases d with
 |true=>exact ha aa s1 Z H1 Q I1 q1
 |false=>exact hb aa s1 Z H1 Q I1 q1
end
variable{x:Str}{u:ai}{aa:List (aj×Obj)}{Z:St}{H:Hp}{s:ax}{c i e o tg:Expr}{tc:TT}{es:List Expr}{to ti te:TE}{P:dc}{w:cD}{K:aL}
def c8(K:aL)(H:Hp)(a:aj)(xs:List V):Prop:=
 Rd H a (.lst xs)\/
  ∃(o:Obj) (aG:Array ai) (n:Nat),K.lookup a=some o/\o.cls=.type "list"/\o.dict=none/\o.data=.seq aG n/\aG.size<=sizeLine/\Vals xs aG.toList
def iB(K:aL)(H:Hp)(a:aj)(xs:List V):Prop:=
 Rd H a (.tup xs)\/
  ∃(o:Obj) (aG:Array ai) (n:Nat),K.lookup a=some o/\o.cls=.type "tuple"/\o.data=.seq aG n/\aG.size<=sizeLine/\Vals xs aG.toList
noncomputable def IK:ai->ak V
 |.none=>some .aI
 |.bool b=>some (.bl b)
 |.int i _=>some (.int i)
 |.str x _=>some (.str x)
 |.bytes b _=>some (.vQ b)
 |.float b _=>some (.Aw b)
 |.ref a=>some (.ref a)
 |.type n=>some (.ty n)
 |_=>none
def RelV.abs{x:V}(r:RelV x u):IK u=some x:=by
 cases x with
 |aI=>cases r;rfl
 |bl _=>cases r;rfl
 |int _=>obtain⟨t,rfl⟩:=r;rfl
 |str _=>obtain⟨t,rfl⟩:=r;rfl
 |vQ _=>obtain⟨t,rfl⟩:=r;rfl
 |Aw _=>obtain⟨t,rfl⟩:=r;rfl
 |ref _=>cases r;rfl
 |ty _=>cases r;rfl
theorem RelV.inj{x y:V}{u:ai}(r:RelV x u)(q:RelV y u):x=y:=Option.some.inj (r.abs.symm.trans q.abs)
theorem Vals.inj{xs ys:List V}{us:List ai}(h:Vals xs us)(h':Vals ys us):xs=ys:=by
 induction h generalizing ys with
 |nil=>cases h';rfl
 |cons r t ih=>
  cases h' with
  |cons r' t'=>rw[r.inj r',ih t']
section
variable{X:Cx}{aa:List (aj×Obj)}{Z:St}{H:Hp}{s:ax}{a:aj}{xs ys:List V}
def Inv.list(I:Inv X aa Z H s)(h:c8 X.K H a xs):∃aG:List ai,Vals xs aG/\PlainL s.heap a aG.toArray/\xs.length<=sizeLine:=by
 rcases h with h|⟨o,aG,n,hk,hc,hd,hs,hz,r⟩
 .obtain⟨z,aG,n,r,e⟩:=h.ok I.bw;exact⟨aG,r,⟨_,n,e,rfl,rfl,rfl⟩,z⟩
 .refine⟨aG.toList,r,⟨o,n,I.jQ a o hk,hc,hd,by simpa using hs⟩,?_⟩
  have e:=r.length
  simp_all
def Inv.tuple(I:Inv X aa Z H s)(h:iB X.K H a xs):∃aG:List ai,Vals xs aG/\IsTup s.heap a aG.toArray/\xs.length<=sizeLine:=by
 rcases h with h|⟨o,aG,n,hk,hc,hs,hz,r⟩
 .obtain⟨z,aG,r,p⟩:=h.ok I.bw;exact⟨aG,r,p,z⟩
 .refine⟨aG.toList,r,⟨o,I.jQ a o hk,hc,n,by simpa using hs⟩,?_⟩
  have e:=r.length;simp only[Ey] at e;lia
def Inv.ky(I:Inv X aa Z H s)(h:c8 X.K H a xs)(h':c8 X.K H a ys):xs=ys:=by
 obtain⟨aG,r,⟨o,n,e,_,_,d⟩,_⟩:=I.list h;obtain⟨its',r',⟨o',n',e',_,_,d'⟩,_⟩:=I.list h';rw[e] at e';cases e';rw[d] at d';injection d' with d1 _;have:aG=its':=by simpa using congrArg Array.toList d1
 subst this;exact r.inj r'
def Inv.lF(I:Inv X aa Z H s)(h:iB X.K H a xs)(h':iB X.K H a ys):xs=ys:=by
 obtain⟨aG,r,⟨o,e,_,n,d⟩,_⟩:=I.tuple h;obtain⟨its',r',⟨o',e',_,n',d'⟩,_⟩:=I.tuple h';rw[e] at e';cases e';rw[d] at d';injection d' with d1 _;have:aG=its':=by simpa using congrArg Array.toList d1
 subst this;exact r.inj r'
end
section
variable{X:Cx}{st:Stmt}{rest:List Stmt}{t u:TS}{e:Expr}{te:TE}{pos:Pos}
def Ee:TS:=λD Z H=>D.nx Z H
def LY(t u:TS):TS:=λD Z H=>t { D with nx:=u D} Z H
def pj:iT X [] Ee:=λ_ _ Z H _ I h=>wpAny_execs_nil ⟨Z,H,I,h⟩
def Vu(h1:PS X st t)(h2:iT X rest u):iT X (st::rest) (LY t u):=by
 intro aa s Z H D I h;refine wpAny_execs_cons (bL (h1 aa s Z H { D with nx:=u D} I h) λf s1 q=>?_)
 cases f with
 |next=>
  obtain⟨Z',H',I',q⟩:=q;exact h2 aa s1 Z' H' D I' q
 |ret v=>exact q
 |brk=>exact q
 |cont=>exact q
def Inv.quiet(I:Inv X aa Z H s):interactive X.env=false:=by simp[interactive,I.ok.kind]
def Ed(te:TE):TS:=λD Z H=>te Z H λ_ H1=>D.nx Z H1
def Xk(he:PE X e te)(hs:swapsWith e none pos.line X.env=pure false:=by rfl):PS X (.Expr e pos) (Ed te):=by
 intro aa s Z H D I h;exact wpAny_Expr_any (bL (he aa s Z H _ I h) λv s1 ⟨x,H1,I1,r1,q1⟩=>⟨Z,H1,I1,q1⟩) I.quiet hs
def LX(te:TE):TS:=λD Z H=>te Z H D.rt
def Z8(he:PE X e te):PS X (.Return (some e) pos) (LX te):=by
 intro aa s Z H D I h;exact wpAny_Return_some (bL (he aa s Z H _ I h) λv s1 ⟨x,H1,I1,r1,q1⟩=>⟨x,Z,H1,I1,r1,q1⟩)
def LU(c:TT)(t u:TS):TS:=λD Z H=>c Z H λb H1=>if b=true then t D Z H1 else u D Z H1
def e8m{a b:List Stmt}(hc:PT X c tc)(ha:iT X a t)(hb:iT X b u):PS X (.If c a b pos) (LU tc t u):=by
 intro aa s Z H D I h;refine wpAny_If (bL (hc aa s Z H _ I h) λd s1 hh=>?_)
 obtain⟨H1,I1,q1⟩:=hh;cases d with
 |true=>exact ha aa s1 Z H1 D I1 q1
 |false=>exact hb aa s1 Z H1 D I1 q1
end
abbrev TG:=V->St->Hp->(St->Hp->Prop)->Prop
abbrev tq:=List V->St->Hp->(St->Hp->Prop)->Prop
def PG(X:Cx)(target:Expr)(t:TG):Prop:=
 ∀(aa:List (aj×Obj)) (s:ax) (Z:St) (H:Hp) (v:V) (u:ai) (Q:St->Hp->Prop),Inv X aa Z H s->RelV v u->t v Z H Q->
  wpAny (model X.prog X.w) X.A (assign target X.env u) (λ_ s'=>∃Z' H',Inv X aa Z' H' s'/\Q Z' H') X.xe s
def Bb(X:Cx)(ts:List Expr)(t:tq):Prop:=
 ∀(aa:List (aj×Obj)) (s:ax) (Z:St) (H:Hp) (vs:List V) (us:List ai) (Q:St->Hp->Prop),Inv X aa Z H s->Vals vs us->t vs Z H Q->
  wpAny (model X.prog X.w) X.A (assignInOrder ((assignEach ts X.env).map (·.2)) us) (λ_ s'=>∃Z' H',Inv X aa Z' H' s'/\Q Z' H') X.xe s
abbrev pX:=V->V->V->Hp->(Hp->Prop)->Prop
def uc(X:Cx)(t:pX):Prop:=
 ∀(aa:List (aj×Obj)) (s:ax) (Z:St) (H:Hp) (o i v:V) (ov iv u:ai) (Q:Hp->Prop),Inv X aa Z H s->RelV o ov->RelV i iv->RelV v u->t o i v H Q->
  wpAny (model X.prog X.w) X.A (setItem ov iv u) (λ_ s'=>∃H',Inv X aa Z H' s'/\Q H') X.xe s
abbrev EO:=V->V->Hp->VK->Prop
def EL(X:Cx)(op:Operator)(t:EO):Prop:=
 ∀(aa:List (aj×Obj)) (s:ax) (Z:St) (H:Hp) (x y:V) (v u:ai) (Q:VK),Inv X aa Z H s->RelV x v->RelV y u->t x y H Q->
  wpAny (model X.prog X.w) X.A (inplaceOp op v u) (EP X aa Z Q) X.xe s
section
variable{X:Cx}{pos:Pos}
def oX(i:Nat):TG:=λv Z H Q=>Q (Z.set i (some v)) H
def Xl{i:Nat}(hN:X.N.Nodup)(hi:X.N[i]?=some x)(hx:Loc X.env.scope x)(hf:X.fn x=true\/X.env.scope.names.lookup x=some .local := by first|exact .inl rfl|exact .inr rfl|assumption):PG X (.Name x pos) (oX i):=by
 intro aa s Z H v u Q I r h;exact wpAny_assign_Name (Oo I hN hi hx r (λs' I'=>⟨_,H,I',h⟩) hf)
def CC:tq:=λvs Z H Q=>vs=[]/\Q Z H
def vT(t:TG)(u:tq):tq:=λvs Z H Q=>∃v r,vs=v::r/\t v Z H λZ' H'=>u r Z' H' Q
def uY:Bb X [] CC:=by
 intro aa s Z H vs us Q I r h;obtain⟨e,h⟩:=h;subst e;cases r;exact assignInOrder_nil ⟨Z,H,I,h⟩
def sE{t:TG}{u:tq}(h1:PG X e t)(h2:Bb X es u)
  (hs:(assignEach (e::es) X.env).map (·.2)=assign e X.env::(assignEach es X.env).map (·.2):=by rfl):Bb X (e::es) (vT t u):=by
 intro aa s Z H vs us Q I r h;obtain⟨v,vr,e1,h⟩:=h;subst e1;cases r with
 |cons r rr=>
  rw[hs];refine assignInOrder_cons (bL (h1 aa s Z H _ _ _ I r h) λ_ s1 hh=>?_)
  obtain⟨Z1,H1,I1,q1⟩:=hh;exact h2 aa s1 Z1 H1 _ _ Q I1 rr q1
def yr(K:aL)(n:Nat)(t:tq):TG:=λv Z H Q=>∃a xs,v=.ref a/\iB K H a xs/\xs.length=n/\t xs Z H Q
def Z9{k:Nat}{t:tq}{n:Nat}(hc:X.calm=true)(h:Bb X es t)
  (hn:(assignEach es X.env).length=n:=by rfl) (kY:(assignEach es X.env).findIdx? (·.1)=none:=by rfl):PG X (.Tuple es k pos) (yr X.K n t):=by
 intro aa s Z H v u Q I r hw;obtain⟨a,xs,e1,hq,hl,hw⟩:=hw;subst e1;cases r;obtain⟨aG,rv,ht,hz⟩:=I.tuple hq;refine assign_Tuple_tuple (I.ok.hd hc) ht (by simp[hn,<-hl,rv.length]) kY λh' hx=>?_
 have I1:Inv X aa Z H { s with heap:=h'}:=I.kept (t':=s.toks) λb o e=>hx b o (gP (cT e)) e
 exact h aa _ Z H xs _ Q I1 (by simpa using rv) hw
def Km(to ti:TE)(t:pX):TG:=λv Z H Q=>to Z H λo H1=>ti Z H1 λi H2=>t o i v H2 λH3=>Q Z H3
def Z_{t:pX}(ho:PE X o to)(hi:PE X i ti)(hs:uc X t)
  (ha:∀v,assign (.Subscript o i pos) X.env v=(do
   let ov <-holding [v] (eval o X.env)
   let iv <-holding [v,ov] (eval i X.env)
   standAt pos
   holding [v,ov,iv] (setItem ov iv v)
   release [v,ov,iv] []):=by intro _;rfl):PG X (.Subscript o i pos) (Km to ti t):=by
 intro aa s Z H v u Q I r h;rw[ha];refine ay (ju (bL (ho aa s Z H _ I h) λov s1 hh=>?_))
 obtain⟨x,H1,I1,r1,q1⟩:=hh;refine ay (ju (bL (hi aa s1 Z H1 _ I1 q1) λiv s2 hh=>?_))
 obtain⟨y,H2,I2,r2,q2⟩:=hh;refine ay (wpAny_standAt (ay (ju (bL (hs aa s2 Z H2 x y v ov iv u _ I2 r1 r2 r q2) λ_ s3 hh=>?_))))
 obtain⟨H3,I3,q3⟩:=hh;exact wpAny_release ⟨Z,H3,I3,q3⟩
def D_(te:TE)(g:TG):TS:=λD Z H=>te Z H λx H1=>g x Z H1 D.nx
def Γ{g:TG}(he:PE X e te)(hg:PG X tg g)(hs:swapsWithSole [tg] e pos.line X.env=pure false:=by rfl)(hw:swappedStores [tg] e X.env=pure none:=by rfl)
  (h1:(assignEach [tg] X.env).map (·.2)=[assign tg X.env]:=by rfl):PS X (.Assign [tg] e pos) (D_ te g):=by
 intro aa s Z H D I h;refine wpAny_Assign_stores (bL (he aa s Z H _ I h) λv s1 hh=>?_) hs hw
 obtain⟨x,H1,I1,r1,q1⟩:=hh;rw[h1];exact bL (hg aa s1 Z H1 x v _ I1 r1 q1) λ_ s2 q=>q
def Δ{i:Nat}{pos':Pos}(hN:X.N.Nodup)(hi:X.N[i]?=some x)(hx:Loc X.env.scope x)(he:PE X e te)(hs:swapsWith e (some (.Name x pos')) pos.line X.env=pure false:=by rfl)(hf:X.fn x=true\/X.env.scope.names.lookup x=some .local := by first|exact .inl rfl|exact .inr rfl|assumption):
  PS X (.Assign [.Name x pos'] e pos) (D_ te (oX i)):=by
 intro aa s Z H D I h;refine wpAny_Assign_Name (bL (he aa s Z H _ I h) λv s1 hh=>?_) hs
 obtain⟨y,H1,I1,r1,q1⟩:=hh;exact Oo I1 hN hi hx r1 (λs2 I2=>⟨_,H1,I2,q1⟩) hf
def Ea(to ti te:TE)(ve:V->V->Hp->VK->Prop)(Hm:EO)(vi:pX):TS:=λD Z H=>to Z H λo H1=>ti Z H1 λi H2=>ve o i H2 λx H3=>te Z H3 λy H4=>Hm x y H4 λz H5=>vi o i z H5 λH6=>D.nx Z H6
def Ba(X:Cx)(t:V->V->Hp->VK->Prop):Prop:=
 ∀(aa:List (aj×Obj)) (s:ax) (Z:St) (H:Hp) (o i:V) (ov iv:ai) (Q:VK),Inv X aa Z H s->RelV o ov->RelV i iv->t o i H Q->
  wpAny (model X.prog X.w) X.A (getItem ov iv) (EP X aa Z Q) X.xe s
def Xm{ve:V->V->Hp->VK->Prop}{Hm:EO}{vi:pX}{op:Operator}{fP:Pos}(ho:PE X o to)(hi:PE X i ti)(hg:Ba X ve)(he:PE X e te)(hp:EL X op Hm)(hs:uc X vi)
  (ha:∀ov iv new,augStore i ov iv new=(do holding [new,ov,iv] (setItem ov iv new);release [new,ov,iv] [];pure .next):=by intros;rfl):PS X (.AugAssign (.Subscript o i fP) op e pos) (Ea to ti te ve Hm vi):=by
 intro aa s Z H D I h;refine wpAny_AugAssign_SubscriptAny (bL (ho aa s Z H _ I h) λov s1 hh=>?_) ha
 obtain⟨x1,H1,I1,r1,q1⟩:=hh;refine bL (hi aa s1 Z H1 _ I1 q1) λiv s2 hh=>?_
 obtain⟨x2,H2,I2,r2,q2⟩:=hh;refine bL (hg aa s2 Z H2 x1 x2 ov iv _ I2 r1 r2 q2) λold s3 hh=>?_
 obtain⟨x3,H3,I3,r3,q3⟩:=hh;refine bL (he aa s3 Z H3 _ I3 q3) λv s4 hh=>?_
 obtain⟨x4,H4,I4,r4,q4⟩:=hh;refine bL (hp aa s4 Z H4 x3 x4 old v _ I4 r3 r4 q4) λnew s5 hh=>?_
 obtain⟨x5,H5,I5,r5,q5⟩:=hh;exact bL (hs aa s5 Z H5 x1 x2 x5 ov iv new _ I5 r1 r2 r5 q5) λ_ s6 ⟨H6,I6,q6⟩=>⟨Z,H6,I6,q6⟩
def K2(f:Int->Int->Int):EO:=λx y H Q=>∃i j,x=.int i/\y=.int j/\Q (.int (f i j)) H
def yG:EL X .Add (K2 λi j=>i+j):=by
 intro aa s Z H x y v u Q I r1 r2 h;obtain⟨i,j,e1,e2,q⟩:=h;subst e1;subst e2;obtain⟨t,rfl⟩:=r1;obtain⟨t',rfl⟩:=r2;exact iadd_int ⟨.int _,H,I.tok _,⟨_,rfl⟩,q⟩
def Θ(c:TT)(tb:TS):TS:=λD Z H=>∃W:Nat->St->Hp->Prop,(∃m,W m Z H)/\∀m Z H,W m Z H->
 c Z H λb H1=>if b=true then ∃N:St->Hp->Prop,(∀Z' H',N Z' H'->∃m',m'<m/\W m' Z' H')/\tb { D with nx:=N,ct:=N,bk:=D.nx} Z H1 else D.nx Z H1
def Vv{body:List Stmt}{tb:TS}(hp:PassesOwn (model X.prog X.w) X.A X.env X.xe)(hc:PT X c tc)(hb:iT X body tb):PS X (.While c body [] pos) (Θ tc tb):=by
 intro aa s Z H D I h;obtain⟨W,⟨m0,w0⟩,turn⟩:=h;refine wpAny_While (codeAny_whileLoop (λn s'=>∃Z' H',Inv X aa Z' H' s'/\W n Z' H') ?_ m0 ⟨Z,H,I,w0⟩)
 rintro n s1 ⟨Z1,H1,I1,w1⟩;refine wpAny_passesOwn hp (bL (hc aa s1 Z1 H1 _ I1 (turn n Z1 H1 w1)) λb s2 hh=>?_)
 obtain⟨H2,I2,q2⟩:=hh;cases b with
 |true=>
  obtain⟨N,hN,q2⟩:=q2;rw[bM rfl];refine wpAny_passesOwn hp (bL (hb aa s2 Z1 H2 _ I2 q2) λf s3 q3=>?_)
  cases f with
  |next=>
   obtain⟨Z3,H3,I3,n3⟩:=q3;obtain⟨m',hm,w3⟩:=hN Z3 H3 n3;exact⟨m',hm,Z3,H3,I3,w3⟩
  |cont=>
   obtain⟨Z3,H3,I3,n3⟩:=q3;obtain⟨m',hm,w3⟩:=hN Z3 H3 n3;exact⟨m',hm,Z3,H3,I3,w3⟩
  |brk=>exact q3
  |ret v=>exact q3
 |false=>
  rw[bc sR];exact wpAny_execs_nil ⟨Z1,H2,I2,q2⟩
end
set_option genInjectivity false in
structure It where
 go:Nat->Hp->Prop
 s9:Nat->Hp->V->Hp->Prop
 stop:Nat->Hp->Prop
def i5(X:Cx)(aa:List (aj×Obj))(H:Hp)(b:aj):Prop:=
 H b=none/\b≠X.env.locals/\b∉X.fs/\(b∈X.ex\/X.s₀.heap.objs.size<=b)/\(∀x c,X.env.cells.lookup x=some c->c≠b)/\∀p∈X.pn++aa,p.1≠b
def Inv.kf{X:Cx}{H':Hp}{b:aj}(I:Inv X aa Z H s)(hb:s.heap.objs.size<=b)(hn:H' b=none):i5 X aa H' b:=by
 refine⟨hn,wI (gj I.lt hb),I.yR hb,.inr (jt I.sz hb),λx c e z=>?_,λp hp z=>?_⟩
 .obtain⟨v,q⟩:=I.cell x c e;exact cO (gj q.lt (by rw[z];exact hb)) (jU _)
 .exact cO (gj (cT (I.pin p hp).1) (by rw[z];exact hb)) (jU _)
structure Turn (P:dc) (w:cD) (K:aL) (tg:Expr) (J:It) (fp:List aj) (it:aj) (tn:Nat->bZ->Prop):Prop where
 mem:it∈fp
 obj:∀i h,tn i h->∀b∈fp,∃o,h.get? b=some o/\∀v,o.data≠.cell v
 keep:∀i h h',tn i h->(∀b∈fp,∀o,h.get? b=some o->h'.get? b=some o)->tn i h'
 item:∀(X:Cx),X.prog=P->X.w=w->X.K=K->X.calm=true->∀(i:Nat) (aa:List (aj×Obj)) (s:ax) (Z:St) (H:Hp) (E:ai->ax->Prop),Inv X aa Z H s->(∀b∈fp,i5 X aa H b)->tn i s.heap->J.go i H->
  wpAny (model P w) X.A (pyNext (.ref it)) (λr s1=>∃u,r=some u/\ wpAny (model P w) X.A (letOwnedTupleGo tg (.ref it) u) (λ_ s2=>∃x H',Inv X aa Z H' s2/\RelV x u/\J.s9 i H x H'/\tn (i+1) s2.heap/\∀b∈fp,H' b=none) E s1) E s
 done:∀(X:Cx),X.prog=P->X.w=w->X.K=K->X.calm=true->∀(i:Nat) (aa:List (aj×Obj)) (s:ax) (Z:St) (H:Hp) (E:ai->ax->Prop),Inv X aa Z H s->(∀b∈fp,i5 X aa H b)->tn i s.heap->J.stop i H->
  wpAny (model P w) X.A (pyNext (.ref it)) (λr s1=>r=none/\Inv X aa Z H s1) E s
 self:∀(A:cN) (i:Nat) (s:ax) (Q:ai->ax->Prop) (E:ai->ax->Prop),tn i s.heap->Q (.ref it) s->wpAny (model P w) A (pyIter (.ref it)) Q E s
abbrev TI:=St->Hp->(It->Hp->Prop)->Prop
def HS(X:Cx)(aa:List (aj×Obj))(Z:St)(tg:Expr)(R:It->Hp->Prop)(G7:ai)(s2:ax):Prop:=
 ∃(it:aj) (fp:List aj) (tn:Nat->bZ->Prop) (J:It) (H':Hp),G7=.ref it/\Inv X aa Z H' s2/\Turn X.prog X.w X.K tg J fp it tn/\tn 0 s2.heap/\(∀b∈fp,i5 X aa H' b)/\R J H'
def PI(X:Cx)(tg iter:Expr)(wi:TI):Prop:=
 ∀(aa:List (aj×Obj)) (s:ax) (Z:St) (H:Hp) (R:It->Hp->Prop),Inv X aa Z H s->wi Z H R->
  wpAny (model X.prog X.w) X.A (eval iter X.env) (λv s1=>wpAny (model X.prog X.w) X.A (pyIter v) (HS X aa Z tg R) X.xe s1) X.xe s
def vP{M:Model}{A:cN}{E:ai->ax->Prop}{it:aj}{o:Obj}{n:String}{vs:Array ai}{Q:Unit->ax->Prop}(ho:s.heap.get? it=some o)(hc:o.cls=.type n)(hd:o.data=.fields vs)
  (hn:["enumerate","zip","dict_itemiterator","dict_reverseitemiterator","odict_iterator","itertools.zip_longest","itertools.pairwise"].contains n=false) (hQ:Q () s):wpAny M A (letOwnedTupleGo tg (.ref it) u) Q E s:=by
 unfold letOwnedTupleGo;cases tg <;> first
  |exact aX hQ
  |(cases u <;> first
    |exact aX hQ
    |(refine ay (wpAny_load ho ?_)
      rw[hc,hd];show wpAny M A (if(["enumerate","zip","dict_itemiterator","dict_reverseitemiterator","odict_iterator","itertools.zip_longest","itertools.pairwise"].contains n&&vs[0]? == some (rawInt _))=true then _ else _) Q E s
      rw[bc (by intro h;rw[hn,Bool.false_and] at h;cases h)]
      exact aX hQ))
def HN(K:aL)(a:aj):It:=
 ⟨λi H=>∃xs x,c8 K H a xs/\xs[i]?=some x,λi H x H'=>H'=H/\∀xs,c8 K H a xs->xs[i]?=some x,λi H=>∃xs,c8 K H a xs/\xs.length<=i⟩
def HP(K:aL)(a:aj):It:=
 ⟨λi H=>∃xs x,iB K H a xs/\xs[i]?=some x,λi H x H'=>H'=H/\∀xs,iB K H a xs->xs[i]?=some x,λi H=>∃xs,iB K H a xs/\xs.length<=i⟩
def EH(lo:Int)(n:Nat):It:=⟨λi _=>i<n,λi H x H'=>H'=H/\x=.int (lo+i),λi _=>n<=i⟩
def Uh(a it:aj):Turn P w K tg (HN K a) [it] it (λi h=>h.IsListIter it a i) where
 mem:=by simp
 obj:=λi h st b hb=>by
  have e:b=it:=by simpa using hb
  subst e;obtain⟨o,e,c,d⟩:=st;exact⟨o,e,λv z=>by rw[d] at z;cases z⟩
 keep:=λi h h' st k=>st.at λo e=>k it (by simp) o e
 item:=by
  intro X hP hw hK hc i aa s Z H E I hf st hg;subst hP hw hK;obtain⟨xs,x,hq,hx⟩:=hg;obtain⟨aG,rv,p,hz⟩:=I.list hq;obtain⟨u,hu,ru⟩:=rv.get hx;obtain⟨f0,f1,f2,f3,f4,f5⟩:=hf it (by simp)
  refine wpAny_pyNext_list_item st p.isList (x:=u) (by simpa using hu) λh' ir sb=>?_
  have I1:Inv X aa Z H { s with heap:=h'}:=I.turned (t':=s.toks) (λb o hb e=>(sb.2 b hb).trans e) f0 f1 f3 f4 f5
  obtain⟨o,e,c,d⟩:=id ir;exact⟨u,rfl,vP (s:={ s with heap:=h'}) e c d (by decide) ⟨x,H,I1,ru,⟨rfl,λys hy=>by rw[I.ky hy hq];exact hx⟩,ir,λb hb=>(hf b hb).1⟩⟩
 done:=by
  intro X hP hw hK hc i aa s Z H E I hf st hg;subst hP hw hK;obtain⟨xs,hq,hx⟩:=hg;obtain⟨aG,rv,p,hz⟩:=I.list hq;obtain⟨f0,f1,f2,f3,f4,f5⟩:=hf it (by simp)
  have hl:=rv.length;exact wpAny_pyNext_list_end (I.ok.hd hc) st p.isList (by simp;lia) λh' eb=>⟨rfl,I.turned (t':=s.toks) (λb o hb e=>eb b o hb e) f0 f1 f3 f4 f5⟩
 self:=λ_ _ _ _ _ st h=>wpAny_pyIter_listiter st h
def Ts(a it:aj):Turn P w K tg (HP K a) [it] it (λi h=>h.IsTupleIter it a i) where
 mem:=by simp
 obj:=λi h st b hb=>by
  have e:b=it:=by simpa using hb
  subst e;obtain⟨o,e,c,d⟩:=st;exact⟨o,e,λv z=>by rw[d] at z;cases z⟩
 keep:=λi h h' st k=>st.at λo e=>k it (by simp) o e
 item:=by
  intro X hP hw hK hc i aa s Z H E I hf st hg;subst hP hw hK;obtain⟨xs,x,hq,hx⟩:=hg;obtain⟨aG,rv,p,hz⟩:=I.tuple hq;obtain⟨u,hu,ru⟩:=rv.get hx;obtain⟨f0,f1,f2,f3,f4,f5⟩:=hf it (by simp)
  refine wpAny_pyNext_tuple_item st (show s.heap.IsTuple a aG.toArray from p) (x:=u) (by simpa using hu) λh' ir sb=>?_
  have I1:Inv X aa Z H { s with heap:=h'}:=I.turned (t':=s.toks) (λb o hb e=>(sb.2 b hb).trans e) f0 f1 f3 f4 f5
  obtain⟨o,e,c,d⟩:=id ir;exact⟨u,rfl,vP (s:={ s with heap:=h'}) e c d (by decide) ⟨x,H,I1,ru,⟨rfl,λys hy=>by rw[I.lF hy hq];exact hx⟩,ir,λb hb=>(hf b hb).1⟩⟩
 done:=by
  intro X hP hw hK hc i aa s Z H E I hf st hg;subst hP hw hK;obtain⟨xs,hq,hx⟩:=hg;obtain⟨aG,rv,p,hz⟩:=I.tuple hq;obtain⟨f0,f1,f2,f3,f4,f5⟩:=hf it (by simp)
  have hl:=rv.length;exact wpAny_pyNext_tuple_end (I.ok.hd hc) st (show s.heap.IsTuple a aG.toArray from p) (by simp;lia) λh' eb=>⟨rfl,I.turned (t':=s.toks) (λb o hb e=>eb b o hb e) f0 f1 f3 f4 f5⟩
 self:=λ_ _ _ _ _ st h=>wpAny_pyIter_tupleiter st h
def Tt(it:aj)(lo:Int)(n:Nat):Turn P w K tg (EH lo n) [it] it (λi h=>IsRangeIter h it (lo+(i:Nat)*1) ((n:Int) - (i:Nat)) 1) where
 mem:=by simp
 obj:=λi h st b hb=>by
  have e:b=it:=by simpa using hb
  subst e;exact⟨_,st,λv z=>by
   have z':Data.fields _=Data.cell v:=z;cases z'⟩
 keep:=λi h h' st k=>k it (by simp) _ st
 item:=by
  intro X hP hw hK hc i aa s Z H E I hf st hg;subst hP hw hK;obtain⟨f0,f1,f2,f3,f4,f5⟩:=hf it (by simp)
  have W:=Walks.range (prog:=X.prog) (w:=X.w) (I.ok.hd hc) it lo 1 n;refine W.item i s _ _ hg st λv h' tk hv ir kk=>?_
  obtain⟨t,rfl⟩:=hv;have I1:Inv X aa Z H { s with heap:=h',toks:=tk}:=I.turned (λb o hb e=>kk b o (by simpa using hb) e) f0 f1 f3 f4 f5
  refine⟨_,rfl,vP (s:={ s with heap:=h',toks:=tk}) (n:="range_iterator") ir rfl rfl (by decide) ⟨.int (lo+i),H,I1,⟨t,?_⟩,⟨rfl,rfl⟩,ir,λb hb=>(hf b hb).1⟩⟩
  rw[Int.mul_one]
 done:=by
  intro X hP hw hK hc i aa s Z H E I hf st hg;subst hP hw hK;obtain⟨f0,f1,f2,f3,f4,f5⟩:=hf it (by simp)
  exact wpAny_pyNext_range_end (I.ok.hd hc) st (by have:n<=i:=hg;lia) λh' eb=>⟨rfl,I.turned (t':=s.toks) (λb o hb e=>eb b o hb e) f0 f1 f3 f4 f5⟩
 self:=λ_ _ _ _ _ st h=>wpAny_pyIter_rangeiter st h
section
variable{X:Cx}{tg:Expr}
def v7(K:aL)(tl:TE):TI:=λZ H R=>tl Z H λx H1=>∃a,x=.ref a/\(∃xs,c8 K H1 a xs)/\R (HN K a) H1
def C8(K:aL)(tl:TE):TI:=λZ H R=>tl Z H λx H1=>∃a,x=.ref a/\(∃xs,iB K H1 a xs)/\R (HP K a) H1
def Xn{l:Expr}{tl:TE}(hl:PE X l tl):PI X tg l (v7 X.K tl):=by
 intro aa s Z H R I h;refine bL (hl aa s Z H _ I h) λv s1 hh=>?_
 obtain⟨x,H1,I1,r1,q1⟩:=hh;obtain⟨a,e,⟨xs,hq⟩,q⟩:=q1;subst e;cases r1;obtain⟨aG,rv,p,hz⟩:=I1.list hq;refine wpAny_pyIter_list p.isList ?_;refine⟨s1.heap.objs.size,[s1.heap.objs.size],_,_,H1,rfl,I1.kept (t':=s1.toks) λb o e=>cZ _ e,Uh a _,⟨_,iR _ rfl,rfl,rfl⟩,λb hb=>?_,q⟩
 have e:b=s1.heap.objs.size:=by simpa using hb
 subst e;exact I1.kf (bY _) (I1.bw.fresh (bY _))
def Ξ{l:Expr}{tl:TE}(hl:PE X l tl):PI X tg l (C8 X.K tl):=by
 intro aa s Z H R I h;refine bL (hl aa s Z H _ I h) λv s1 hh=>?_
 obtain⟨x,H1,I1,r1,q1⟩:=hh;obtain⟨a,e,⟨xs,hq⟩,q⟩:=q1;subst e;cases r1;obtain⟨aG,rv,p,hz⟩:=I1.tuple hq;refine wpAny_pyIter_tuple (show s1.heap.IsTuple a aG.toArray from p) ?_;refine⟨s1.heap.objs.size,[s1.heap.objs.size],_,_,H1,rfl,I1.kept (t':=s1.toks) λb o e=>cZ _ e,Ts a _,⟨_,iR _ rfl,rfl,rfl⟩,λb hb=>?_,q⟩
 have e:b=s1.heap.objs.size:=by simpa using hb
 subst e;exact I1.kf (bY _) (I1.bw.fresh (bY _))
def Vw{aa:List (aj×Obj)}{Z:St}{H:Hp}{s:ax}{R:It->Hp->Prop}{E:ai->ax->Prop}{lo hi:Int}{t u v:Tok}{tk:Nat}(I:Inv X aa Z H s)(h1:-(2^62)<=lo)(h2:lo<2^62)(h3:-(2^62)<=hi)(h4:hi<2^62)
  (q:R (EH lo (hi - lo).toNat) H):wpAny (model X.prog X.w) X.A (pyIter (.ref s.heap.objs.size)) (HS X aa Z tg R) E { s with heap:=s.heap.push { cls:=.type "range",data:=.fields #[.int lo t,.int hi u,.int 1 v]},toks:=tk}:=by
 refine wpAny_pyIter_range (IsRange.new ..) (small_one h1 h2 h3 h4) ?_;have I1:Inv X aa Z H { s with heap:=s.heap.push { cls:=.type "range",data:=.fields #[.int lo t,.int hi u,.int 1 v]},toks:=tk}:=I.kept λb o e=>cZ _ e
 refine⟨(s.heap.push { cls:=.type "range",data:=.fields #[.int lo t,.int hi u,.int 1 v]}).objs.size,[(s.heap.push { cls:=.type "range",data:=.fields #[.int lo t,.int hi u,.int 1 v]}).objs.size],_,_,H,rfl,I1.kept (t':=tk) λb o e=>cZ _ e,Tt _ lo (hi - lo).toNat,?_,λb hb=>?_,q⟩
 .have e1:lo+((0:Nat):Int)*1=lo:=by simp
  have e2:(((hi - lo).toNat:Nat):Int) - ((0:Nat):Int)=Builtin.Range.rangeSize lo hi 1:=by rw[rangeSize_one];split <;> lia
  show IsRangeIter _ _ (lo+((0:Nat):Int)*1) ((((hi - lo).toNat:Nat):Int) - ((0:Nat):Int)) 1;rw[e1,e2];exact iR _ rfl
 .have e:b=(s.heap.push { cls:=.type "range",data:=.fields #[.int lo t,.int hi u,.int 1 v]}).objs.size:=by simpa using hb
  subst e;exact I1.kf (bY _) (I1.bw.fresh (bY _))
def v8(ta:TA):TI:=λZ H R=>ta Z H λvs H1=>∃j:Int,vs=[.int j] /\ -(2^62)<=j/\j<2^62/\R (EH 0 j.toNat) H1
def Ui{a:Expr}{ta:TA}{p pos:Pos}(hg:Gl X "range")(hm:X.mg "range"=none)(ha:PA X [a] ta)(hs:starEach [a] X.env=[(false,eval a X.env)]:=by rfl):PI X tg (.Call (.Name "range" p) [a] [] pos) (v8 ta):=by
 intro aa s Z H R I h;refine Call_ (vK I hg hm boot_range (PyProof.Rows.callWith_type1 (bL (ha pos aa s Z H _ I h) λus s1 hh=>?_) hs rfl))
 obtain⟨vs,H1,I1,r1,q1⟩:=hh;obtain⟨j,e,q1,q2,q⟩:=q1;subst e;cases r1 with
 |cons r rr=>
  cases rr;obtain⟨t,rfl⟩:=r;exact call_range_1 (Vw I1 (by lia) (by lia) q1 q2 (by simpa using q))
def LS(wi:TI)(g:TG)(tb:TS):TS:=λD Z H=>wi Z H λJ H1=>∃W:Nat->Nat->St->Hp->Prop,(∃m,W 0 m Z H1)/\∀i m Z H,W i m Z H->
 (J.stop i H/\D.nx Z H)\/(J.go i H/\∃N:St->Hp->Prop,(∀Z' H',N Z' H'->∃m',m'<m/\W (i+1) m' Z' H')/\∀x H',J.s9 i H x H'->g x Z H' λZ2 H2=>tb { D with nx:=N,ct:=N,bk:=D.nx} Z2 H2)
noncomputable def B2(fp:List aj)(h:bZ):List (aj×Obj):=fp.filterMap λb=>(h.get? b).map λo=>(b,o)
def Bp{fp:List aj}{h:bZ}{b:aj}{o:Obj}(hb:b∈fp)(e:h.get? b=some o):(b,o)∈B2 fp h:=wJ.mpr ⟨b,hb,by rw[e];rfl⟩
def Uj{fp:List aj}{h:bZ}{p:aj×Obj}(hp:p∈B2 fp h):p.1∈fp/\h.get? p.1=some p.2:=by
 obtain⟨b,hb,e⟩:=wJ.mp hp;cases q:h.get? b with
 |none=>rw[q] at e;cases e
 |some o=>
  rw[q] at e;have e':(b,o)=p:=Option.some.inj e;subst e';exact⟨hb,q⟩
def Inv.pinned{aa:List (aj×Obj)}{Z:St}{H:Hp}{s:ax}{fp:List aj}(I:Inv X aa Z H s)(hf:∀b∈fp,i5 X aa H b)(ho:∀b∈fp,∃o,s.heap.get? b=some o/\∀v,o.data≠.cell v):Inv X (aa++B2 fp s.heap) Z H s:=
 I.jR λp hp=>(iQ.mp hp).elim (λz=>I.pin p (nU _ z)) λz=>by
  obtain⟨hb,e⟩:=Uj z;obtain⟨f0,f1,f2,_⟩:=hf p.1 hb;obtain⟨o,e',d⟩:=ho p.1 hb;rw[e] at e';cases e';exact⟨e,f0,f1,f2,d⟩
def Inv.eS{aa pl:List (aj×Obj)}{Z:St}{H:Hp}{s:ax}(I:Inv X (aa++pl) Z H s):Inv X aa Z H s:=I.jR λp hp=>I.pin p (nU _ (Eu _ hp))
def Qu{iter:Expr}{body:List Stmt}{wi:TI}{g:TG}{tb:TS}{pos:Pos}(hp:PassesOwn (model X.prog X.w) X.A X.env X.xe)(hc:X.calm=true)(hi:PI X tg iter wi)(hg:PG X tg g)(hb:iT X body tb)
  (hs:∀x,foldedSetIterable iter X.env x=pure x:=by intro _;rfl):PS X (.For tg iter body [] pos) (LS wi g tb):=by
 intro aa s Z H D I h;refine wpAny_For (bL (hi aa s Z H _ I h) λv s1 h1=>bL h1 λG7 s2 h2=>?_) hs
 obtain⟨it,fp,tn,J,H2,e,I2,T,nQ,f2,W,⟨m0,w0⟩,turn⟩:=h2;subst e;have oB:∀{H':Hp},(∀b∈fp,H' b=none)->∀b∈fp,i5 X aa H' b:=λhn b hb=>⟨hn b hb,(f2 b hb).2⟩
 refine codeAny_forLoop_any (λn s'=>∃i Z' H',Inv X aa Z' H' s'/\tn i s'.heap/\(∀b∈fp,H' b=none)/\W i n Z' H') ?_ m0 ⟨0,Z,H2,I2,nQ,λb hb=>(f2 b hb).1,w0⟩
 rintro n s3 ⟨i,Z3,H3,I3,SD,RL,w3⟩;rcases turn i n Z3 H3 w3 with⟨stop,qn⟩|⟨go,N,hN,step⟩
 .refine wpAny_passesOwn hp (bL (T.done X rfl rfl rfl hc i aa s3 Z3 H3 X.xe I3 (oB RL) SD stop) λr s4 ⟨hr,I4⟩=>?_)
  subst hr;exact wpAny_execs_nil ⟨Z3,H3,I4,qn⟩
 .refine wpAny_passesOwn hp (bL (T.item X rfl rfl rfl hc i aa s3 Z3 H3 X.xe I3 (oB RL) SD go) λr s4 ⟨u,hr,h4⟩=>?_)
  subst hr;refine wpAny_passesOwn hp (bL h4 λ_ s5 hh=>?_)
  obtain⟨x,H5,I5,r5,y5,kD,Kj⟩:=hh;have HK:=I5.pinned (oB Kj) (T.obj _ _ kD);refine wpAny_passesOwn hp (bL (hg _ s5 Z3 H5 x u _ HK r5 (step x H5 y5)) λ_ s6 hh=>?_)
  obtain⟨Z6,H6,I6,q6⟩:=hh;refine wpAny_passesOwn hp (bL (hb _ s6 Z6 H6 _ I6 q6) λf s7 q7=>?_)
  have again:∀{Z7:St} {H7:Hp},Inv X (aa++B2 fp s5.heap) Z7 H7 s7->N Z7 H7->∃m,m<n/\∃i Z' H',Inv X aa Z' H' s7/\tn i s7.heap/\(∀b∈fp,H' b=none)/\W i m Z' H':=λ{Z7 H7} I7 n7=>by
   obtain⟨m',hm,w7⟩:=hN Z7 H7 n7;refine⟨m',hm,i+1,Z7,H7,I7.eS,T.keep _ _ _ kD λb hb o e=>(I7.pin (b,o) (nU _ (nU _ (Bp hb e)))).1,λb hb=>?_,w7⟩
   obtain⟨o,e,d⟩:=T.obj _ _ kD b hb;exact(I7.pin (b,o) (nU _ (nU _ (Bp hb e)))).2.1
  cases f with
  |next=>obtain⟨Z7,H7,I7,n7⟩:=q7;exact again I7 n7
  |cont=>obtain⟨Z7,H7,I7,n7⟩:=q7;exact again I7 n7
  |brk=>obtain⟨Z7,H7,I7,q7⟩:=q7;exact⟨Z7,H7,I7.eS,q7⟩
  |ret v=>obtain⟨x7,Z7,H7,I7,r7,q7⟩:=q7;exact⟨x7,Z7,H7,I7.eS,r7,q7⟩
end
variable{aa:List (aj×Obj)}{s:ax}{Z:St}{H:Hp}{f:ai->ai->Sem ai}{op:CmpOp}{g:Int->Int->Int}{x:V}{us:List ai}
abbrev R2:=V->V->Hp->VK->Prop
variable{r r':R2}
def dF(X:Cx)(f:ai->ai->Sem ai)(r:R2):Prop:=
 ∀(aa:List (aj×Obj)) (s:ax) (Z:St) (H:Hp) (x y:V) (v u:ai) (Q:VK),Inv X aa Z H s->RelV x v->RelV y u->r x y H Q->
  wpAny (model X.prog X.w) X.A (f v u) (EP X aa Z Q) X.xe s
def ER(X:Cx)(f:ai->Sem ai)(r:V->Hp->VK->Prop):Prop:=
 ∀(aa:List (aj×Obj)) (s:ax) (Z:St) (H:Hp) (x:V) (v:ai) (Q:VK),Inv X aa Z H s->RelV x v->r x H Q->
  wpAny (model X.prog X.w) X.A (f v) (EP X aa Z Q) X.xe s
def bT(X:Cx)(f:ai)(r:List V->Hp->VK->Prop):Prop:=
 ∀(aa:List (aj×Obj)) (s:ax) (Z:St) (H:Hp) (xs:List V) (us:List ai) (Q:VK),Inv X aa Z H s->Vals xs us->r xs H Q->
  wpAny (model X.prog X.w) X.A (call f us) (EP X aa Z Q) X.xe s
def HU(X:Cx)(r:V->Hp->(Bool->Hp->Prop)->Prop):Prop:=
 ∀(aa:List (aj×Obj)) (s:ax) (Z:St) (H:Hp) (x:V) (v:ai) (Q:Bool->Hp->Prop),Inv X aa Z H s->RelV x v->r x H Q->
  wpAny (model X.prog X.w) X.A (truthy v) (TP X aa Z Q) X.xe s
def Hk(r:R2)(ta tb:TE):TE:=λZ H Q=>ta Z H λx H1=>tb Z H1 λy H2=>r x y H2 Q
def tUn(r:V->Hp->VK->Prop)(ta:TE):TE:=λZ H Q=>ta Z H λx H1=>r x H1 Q
def rI(C:Int->Int->Prop)(g:Int->Int->V):R2:=λx y H Q=>∃i j,x=.int i/\y=.int j/\C i j/\Q (g i j) H
def pz(g:Int->Int->V):R2:=λx y H Q=>∃i j,x=.int i/\y=.int j/\Q (g i j) H
def rU(g:Int->V):V->Hp->VK->Prop:=λx H Q=>∃i,x=.int i/\Q (g i) H
section
variable{X:Cx}{a b c:Expr}{ta tb tc:TE}{pos:Pos}
def x6(ha:PE X a ta)(hb:PE X b tb){R:V->V->Hp->Prop}(I:Inv X aa Z H s)
  (h:ta Z H λx H1=>tb Z H1 λy H2=>R x y H2) {Q:ai->ax->Prop} 
  (hf:∀v u s2 x y H2,Inv X aa Z H2 s2->RelV x v->RelV y u->R x y H2->wpAny (model X.prog X.w) X.A (f v u) Q X.xe s2) :
  wpAny (model X.prog X.w) X.A (eval a X.env) (λv s₁=>wpAny (model X.prog X.w) X.A (eval b X.env) (λu s₂=>wpAny (model X.prog X.w) X.A (f v u) Q X.xe s₂) X.xe s₁) X.xe s:=by
 refine bL (ha aa s Z H _ I h) λv s1 hh=>?_
 obtain⟨x,H1,I1,r1,q1⟩:=hh;refine bL (hb aa s1 Z H1 _ I1 q1) λu s2 hh=>?_
 obtain⟨y,H2,I2,r2,q2⟩:=hh;exact hf v u s2 x y H2 I2 r1 r2 q2
def e8n{op:Operator}(ho:dF X (binaryOp op) r)(ha:PE X a ta)(hb:PE X b tb):PE X (.BinOp a op b pos) (Hk r ta tb):=by
 intro aa s Z H Q I h;exact wpAny_BinOp (x6 ha hb I h λv u s2 x y H2 I2 rx ry q=>ho aa s2 Z H2 x y v u Q I2 rx ry q)
def e8o{op:UnaryOp}{r:V->Hp->VK->Prop}(ho:ER X (unaryOp op) r)(ha:PE X a ta):PE X (.UnaryOp op a pos) (tUn r ta):=by
 intro aa s Z H Q I h;exact UnaryOp_ (bL (ha aa s Z H _ I h) λv s1 ⟨x,H1,I1,r1,q1⟩=>ho aa s1 Z H1 x v Q I1 r1 q1)
def Hg{C:Int->Int->Prop}
  (rule:∀(i j:Int) (t u:Tok) (s:ax) (Q:ai->ax->Prop) (E:ai->ax->Prop),C i j->Q (.int (g i j) s.toks) { s with toks:=s.toks+1}->wpAny (model X.prog X.w) X.A (f (.int i t) (.int j u)) Q E s) :
  dF X f (rI C λi j=>.int (g i j)):=by
 intro aa s Z H x y v u Q I rx ry h;obtain⟨i,j,rfl,rfl,hc,q⟩:=h;obtain⟨t,rfl⟩:=rx;obtain⟨t',rfl⟩:=ry;exact rule i j t t' s _ _ hc ⟨.int (g i j),H,I.tok _,⟨_,rfl⟩,q⟩
def Dy
  (rule:∀(i j:Int) (t u:Tok) (s:ax) (Q:ai->ax->Prop) (E:ai->ax->Prop),Q (.int (g i j) s.toks) { s with toks:=s.toks+1}->wpAny (model X.prog X.w) X.A (f (.int i t) (.int j u)) Q E s) :
  dF X f (pz λi j=>.int (g i j)):=by
 intro aa s Z H x y v u Q I rx ry h;obtain⟨i,j,rfl,rfl,q⟩:=h;obtain⟨t,rfl⟩:=rx;obtain⟨t',rfl⟩:=ry;exact rule i j t t' s _ _ ⟨.int (g i j),H,I.tok _,⟨_,rfl⟩,q⟩
def yV{g:Int->Int->Bool}
  (rule:∀(i j:Int) (t u:Tok) (s:ax) (Q:ai->ax->Prop) (E:ai->ax->Prop),Q (.bool (g i j)) s->wpAny (model X.prog X.w) X.A (f (.int i t) (.int j u)) Q E s) :
  dF X f (pz λi j=>.bl (g i j)):=by
 intro aa s Z H x y v u Q I rx ry h;obtain⟨i,j,rfl,rfl,q⟩:=h;obtain⟨t,rfl⟩:=rx;obtain⟨t',rfl⟩:=ry;exact rule i j t t' s _ _ ⟨.bl (g i j),H,I,rfl,q⟩
def wR(i j:Int):Prop:=0<j/\j<1073741824
def wU(i j:Int):Prop:=0<=j/\j<=1000000/\i.natAbs<2^64
def t9(i j:Int):Prop:=(-(2^64)<i/\i<2^64)\/(-(2^64)<j/\j<2^64)
def t9.ok{i j:Int}(h:t9 i j):IntMulOk i j:=by
 rcases h with⟨h1,h2⟩|⟨h1,h2⟩
 .exact .of_left (intBits_le_64 h1 h2)
 .exact .of_right (intBits_le_64 h1 h2)
def yW:dF X (binaryOp .Add) (pz λi j=>.int (i+j)):=Dy λ_ _ _ _ _ _ _ q=>add_int q
def Φ:dF X (binaryOp .Sub) (pz λi j=>.int (i - j)):=Dy λ_ _ _ _ _ _ _ q=>sub_int q
def yY:dF X (binaryOp .Mult) (rI t9 λi j=>.int (i*j)):=Hg λ_ _ _ _ _ _ _ hc q=>mul_int q hc.ok
def Xo:dF X (binaryOp .FloorDiv) (rI wR λi j=>.int (i / j)):=Hg λi j _ _ _ _ _ hc q=>by
 have h1:(0:Int)<j:=hc.1;have h2:j<1073741824:=hc.2;exact floordiv_int (by lia) (by rw[Int.fdiv_eq_ediv_of_nonneg i (by lia)];exact q) (.inl (PyProof.noPylong_small (by lia)))
def Ψ:dF X (binaryOp .Mod) (rI (λ_ j=>0<j) λi j=>.int (i%j)):=Hg λi j _ _ _ _ _ hc q=>by
 have h1:(0:Int)<j:=hc;exact mod_int' (by lia) (by rw[Int.fmod_eq_emod_of_nonneg i (by lia)];exact q)
def Ω:dF X (binaryOp .Pow) (rI wU λi j=>.int (i^j.toNat)):=Hg λ_ _ _ _ _ _ _ hc q=>pow_int_small hc.1 hc.2.1 hc.2.2 q
def unI{f:ai->Sem ai}{g:Int->Int}
  (rule:∀(i:Int) (t:Tok) (s:ax) (Q:ai->ax->Prop) (E:ai->ax->Prop),Q (.int (g i) s.toks) { s with toks:=s.toks+1}->wpAny (model X.prog X.w) X.A (f (.int i t)) Q E s) :
  ER X f (rU λi=>.int (g i)):=by
 intro aa s Z H x v Q I rx h;obtain⟨i,rfl,q⟩:=h;obtain⟨t,rfl⟩:=rx;exact rule i t s _ _ ⟨.int (g i),H,I.tok _,⟨_,rfl⟩,q⟩
def γ:ER X (unaryOp .USub) (rU λi=>.int (-i)):=unI λ_ _ _ _ _ q=>neg_int q
def um{Q:VK}{k k':Bool}(I:Inv X aa Z H s)(q:Q (.bl k) H)(e:k=k'):EP X aa Z Q (.bool k') s:=by
 subst e;exact⟨.bl k,H,I,rfl,q⟩
def wm:dF X (compareOp .Lt) (pz λi j=>.bl (decide (i<j))):=yV λ_ _ _ _ _ _ _ q=>lt_int q
def wk:dF X (compareOp .LtE) (pz λi j=>.bl (decide (i<=j))):=yV λ_ _ _ _ _ _ _ q=>le_int q
def e8p:dF X (compareOp .Gt) (pz λi j=>.bl (decide (j<i))):=yV λ_ _ _ _ _ _ _ q=>gt_int q
def Uk:dF X (compareOp .In) (λx y H Q=>∃i j,x=.str i/\y=.str j/\Q (.bl (!(Builtin.Str.occurrences j i 0 j.length 1).isEmpty)) H):=by
 intro aa s Z H x y v u Q I rx ry h;obtain⟨i,j,rfl,rfl,q⟩:=h;obtain⟨t,rfl⟩:=rx;obtain⟨t',rfl⟩:=ry;exact in_str (um I q rfl)
def yX:dF X (compareOp .Is) (λx y H Q=>y=.aI/\Q (.bl (decide (x=.aI))) H):=by
 intro aa s Z H x y v u Q I rx ry h;obtain⟨rfl,q⟩:=h;cases ry;refine is_none_gen (um I q ?_);cases x <;> first
  |(cases rx;rfl)
  |(obtain⟨t,rfl⟩:=rx;rfl)
def uV:dF X (compareOp .IsNot) (λx y H Q=>y=.aI/\Q (.bl (!decide (x=.aI))) H):=by
 intro aa s Z H x y v u Q I rx ry h;obtain⟨rfl,q⟩:=h;cases ry;refine isnot_none_gen (um I q ?_);cases x <;> first
  |(cases rx;rfl)
  |(obtain⟨t,rfl⟩:=rx;rfl)
def Ta:dF X (compareOp .NotIn) (λx y H Q=>∃i j,x=.str i/\y=.str j/\Q (.bl (!(!(Builtin.Str.occurrences j i 0 j.length 1).isEmpty))) H):=by
 intro aa s Z H x y v u Q I rx ry h;obtain⟨i,j,rfl,rfl,q⟩:=h;obtain⟨t,rfl⟩:=rx;obtain⟨t',rfl⟩:=ry;exact notIn_str (um I q rfl)
def dF.or(h:dF X f r)(h':dF X f r'):dF X f (λx y H Q=>r x y H Q\/r' x y H Q):=by
 intro aa s Z H x y v u Q I rx ry q;rcases q with q|q
 .exact h aa s Z H x y v u Q I rx ry q
 .exact h' aa s Z H x y v u Q I rx ry q
def Xp(ho:dF X (compareOp op) r)(ha:PE X a ta)(hb:PE X b tb)(hm:behindInMarks op b=false):PE X (.Compare a [op] [b] pos) (Hk r ta tb):=by
 intro aa s Z H Q I h;exact wpAny_Compare1 (x6 ha hb I h λv u s2 x y H2 I2 rx ry q=>ho aa s2 Z H2 x y v u Q I2 rx ry q) hm
def sN(t:TE):TT:=λZ H Q=>t Z H λx H'=>∃k,x=.bl k/\Q k H'
def Xq(ho:dF X (compareOp op) r)(ha:PE X a ta)(hb:PE X b tb)(hm:behindInMarks op b=false):PT X (.Compare a [op] [b] pos) (sN (Hk r ta tb)):=by
 intro aa s Z H Q I h;refine wpAny_isTrue_Compare1 (bL (ha aa s Z H _ I h) λv s1 h1=>?_) hm
 obtain⟨x,H1,I1,r1,q1⟩:=h1;refine bL (hb aa s1 Z H1 _ I1 q1) λu s2 h2=>?_
 obtain⟨y,H2,I2,r2,q2⟩:=h2;refine bL (ho aa s2 Z H2 x y v u _ I2 r1 r2 q2) λc s3 h3=>?_
 obtain⟨z,H3,I3,r3,k,rfl,q3⟩:=h3;cases r3;exact wpAny_truthy_bool ⟨H3,I3,q3⟩
def Qv(r r':R2)(ta tb tc:TE):TE:=λZ H Q=>ta Z H λx H1=>tb Z H1 λy H2=>r x y H2 λz H3=>∃k,z=.bl k/\
 (if k=true then tc Z H3 λw' H4=>r' y w' H4 Q else Q (.bl false) H3)
def Vx{yU:CmpOp}(ho:dF X (compareOp op) r)(vY:dF X (compareOp yU) r')(ha:PE X a ta)(hb:PE X b tb)(hc:PE X c tc)
  (hm:lastMarks [op,yU] [b,c]=false:=by with_unfolding_all rfl):PT X (.Compare a [op,yU] [b,c] pos) (sN (Qv r r' ta tb tc)):=by
 intro aa s Z H Q I h;refine isTrue_chain (bL (ha aa s Z H _ I h) λv s1 h1=>?_) hm
 obtain⟨x,H1,I1,r1,q1⟩:=h1;refine test_link (bL (hb aa s1 Z H1 _ I1 q1) λu s2 h2=>?_)
 obtain⟨y,H2,I2,r2,q2⟩:=h2;refine bL (ho aa s2 Z H2 x y v u _ I2 r1 r2 q2) λd s3 h3=>?_
 obtain⟨z,H3,I3,r3,k,rfl,q3⟩:=h3;cases r3;refine wpAny_truthy_bool ?_;cases k with
 |false=>
  obtain⟨k',e',q'⟩:=q3;cases e';exact ite_ff ⟨H3,I3,q'⟩
 |true=>
  refine ite_tt (test_last (bL (hc aa s3 Z H3 _ I3 q3) λw' s4 h4=>?_))
  obtain⟨z',H4,I4,r4,q4⟩:=h4;refine bL (vY aa s4 Z H4 y z' u w' _ I4 r2 r4 q4) λd' s5 h5=>?_
  obtain⟨z2,H5,I5,r5,k2,rfl,q5⟩:=h5;cases r5;exact wpAny_truthy_bool ⟨H5,I5,q5⟩
def xh(K:aL)(x:V)(H:Hp)(k:Bool):Prop:=
 match x with
 |.aI=>k=false
 |.bl b=>k=b
 |.int i=>k=(i != 0)
 |.str y=>y.length<=sizeLine/\k=((y.length:Int) != 0)
 |.vQ y=>y.size<=sizeLine/\k=((y.size:Int) != 0)
 |.ref p=>(∃xs,c8 K H p xs/\k = !xs.isEmpty)\/(∃xs,iB K H p xs/\k = !xs.isEmpty)\/∃kvs,H p=some (.dK kvs)/\k = !kvs.isEmpty
 |_=>False
def Tv{κ:Type}{kvs:List (κ×V)}{vs:List (κ×ai)}(r:KV kvs vs):(!vs.isEmpty) = !kvs.isEmpty:=by
 cases r <;> rfl
def Nt{xs:List V}{aG:List ai}(r:Vals xs aG):(!aG.toArray.isEmpty) = !xs.isEmpty:=by
 cases r <;> simp
def xQ:(sizeLine:Nat)<2^63:=by rw[sizeLine_eq];decide
def δ:HU X (λx H Q=>∃k,xh X.K x H k/\Q k H):=by
 intro aa s Z H x v Q I rx h;obtain⟨k,e,q⟩:=h;have hl:=xQ;have hs:sizeLine=16777216:=sizeLine_eq;cases x with
 |aI=>
  cases rx;have e':k=false:=e;subst e';exact truthy_none ⟨H,I,q⟩
 |bl b=>
  cases rx;have e':k=b:=e;subst e';exact wpAny_truthy_bool ⟨H,I,q⟩
 |int i=>
  obtain⟨t,rfl⟩:=rx;have e':k=(i != 0):=e;subst e';exact PySem.P.truthy_int ⟨H,I,q⟩
 |str y=>
  obtain⟨t,rfl⟩:=rx;obtain⟨hy,e'⟩:y.length<=sizeLine/\k=((y.length:Int) != 0):=e;subst e';exact PySem.P.truthy_str (by lia) ⟨H,I.tok _,q⟩
 |vQ y=>
  obtain⟨t,rfl⟩:=rx;obtain⟨hy,e'⟩:y.size<=sizeLine/\k=((y.size:Int) != 0):=e;subst e';exact PySem.W.truthy_bytes (by lia) ⟨H,I.tok _,q⟩
 |ref p=>
  cases rx;have e':(∃xs,c8 X.K H p xs/\k = !xs.isEmpty)\/(∃xs,iB X.K H p xs/\k = !xs.isEmpty)\/∃kvs,H p=some (.dK kvs)/\k = !kvs.isEmpty:=e;rcases e' with⟨xs,hx,e'⟩|⟨xs,hx,e'⟩|⟨kvs,hx,e'⟩
  .subst e';obtain⟨aG,r,pl,hz⟩:=I.list hx;have hlen:=r.length;exact wpAny_truthy_list pl.isList (by simp only[fm];lia) ⟨H,I.tok _,by rw[Nt r];exact q⟩
  .subst e';obtain⟨aG,r,pl,hz⟩:=I.tuple hx;have hlen:=r.length;exact truthy_tuple pl (by simp only[fm];lia) ⟨H,I.tok _,by rw[Nt r];exact q⟩
  .subst e';obtain⟨hz,hS,vs,r,m⟩:kvs.length<=sizeLine/\(p == sysModules)=false/\∃vs,KV kvs vs/\s.heap.DictOf (Jo X.prog X.w) p vs:=I.bw p _ hx;have hlen:kvs.length=vs.length:=Paired.length r;exact wpAny_truthy_dict hS m (by lia) ⟨H,I.tok _,by rw[Tv r];exact q⟩
 |_=>exact(show False from e).elim
def Vy(ha:PE X a ta)(he:∀whole,isTrue a X.env whole=(do let v <-whole;standAt a.pos;holding [v] (truthy v))):
  PT X a (λZ H Q=>ta Z H λx H'=>∃k,xh X.K x H' k/\Q k H'):=by
 intro aa s Z H Q I h;exact isTrue_plain (bL (ha aa s Z H _ I h) λv s1 ⟨x,H1,I1,r1,q1⟩=>δ aa s1 Z H1 x v Q I1 r1 q1) (he _)
def oz:dF X (binaryOp .Add) (λx y H Q=>∃i j,x=.str i/\y=.str j/\i.length+j.length<=sizeLine/\Q (.str (i++j)) H):=by
 intro aa s Z H x y v u Q I rx ry h;obtain⟨i,j,rfl,rfl,hz,q⟩:=h;obtain⟨t,rfl⟩:=rx;obtain⟨t',rfl⟩:=ry;exact add_str (λt' tk=>⟨.str (i++j),H,I.tok _,⟨_,rfl⟩,q⟩) hz
def vals1(r:Vals [x] us):∃u,us=[u]/\RelV x u:=by
 cases r with
 |cons r1 r2=>cases r2;exact⟨_,rfl,r1⟩
def vals2{y:V}(r:Vals [x,y] us):∃u w',us=[u,w']/\RelV x u/\RelV y w':=by
 cases r with
 |cons r1 r2=>
  cases r2 with
  |cons r3 r4=>cases r4;exact⟨_,_,rfl,r1,r3⟩
end
variable{h:bZ}{dx C:aj}{mA:Str->ak ai}{Q:ai->ax->Prop}{v:V}{o:ak ai}{u:ai}{K:aL}{f:Str}
structure n6 (h:bZ) (x dx C:aj) (mA:Str->ak ai):Prop where
 obj:h.get? x=some (PySem.W.instObj C dx)
 ns:h.Ns1 dx mA
 ne:dx≠x
def Ul(n:h.Ns1 dx mA):∃od,h.get? dx=some od/\∀name,PySem.W.lookIn name od=some (mA name):=by
 obtain⟨o,es,ep,ho,hd,hk,_,hm⟩:=n;refine⟨o,ho,λname=>?_⟩
 have e:=hm name;unfold nsFind findBy at e;rw[<-Array.find?_toList] at e;unfold PySem.W.lookIn;rw[hd];dsimp only;split
 .rename_i y q
  rw[q] at e;exact congrArg some e
 .rename_i q
  rw[q] at e;have a:es.toList.any (·.refKey)=false:=by
   rw[List.any_eq_false];intro y hy;obtain⟨z,t,KJ⟩:=hk y (Mo.mp hy);simp[DictEntry.refKey,KJ]
  have a':¬es.toList.any (·.refKey)=true:=by rw[a];exact sR
  rw[bc a'];exact congrArg some e
theorem n6.look{x:aj}(I:n6 h x dx C mA):∃od,PySem.W.InstAt h x (PySem.W.instObj C dx) C (some od)/\∀name,PySem.W.lookIn name od=some (mA name):=
 let ⟨od,ho,hl⟩:=Ul I.ns
 ⟨od,⟨I.obj,rfl,rfl,ho⟩,hl⟩
section
variable{prog:dc}{w:cD}{A:cN}{E:ai->ax->Prop}{s:ax}{K:aL}{x dx C f:aj}{mA:Str->ak ai}{name:Str}{v:ai}
def Xr{expr:Bool}(X:K.In s.heap)(I:n6 s.heap x dx C mA)(hg:PySem.W.plainGet K C name=true)(hh:PySem.W.hasDictIn K C=true)
  (ha:PySem.W.findIn K (.ref C) name=some none) (hv:mA name=some v) (KZ:PySem.W.handedIn v=true) (h:Q v { s with toks:=s.toks+1}) :
  wpAny (model prog w) A (getAttr (.ref x) name expr) Q E s:=by
 obtain⟨od,J,hl⟩:=I.look;exact PySem.W.get_value X J (PySem.W.plainGet_of hg).1 (PySem.W.findObj_own hh ha rfl (by rw[hl,hv])) KZ h
def Vz{pl:Sem Bool}{Q:ai×List ai->ax->Prop}(X:K.In s.heap)(I:n6 s.heap x dx C mA)(hg:PySem.W.plainGet K C name=true)
  (hf:PySem.W.findIn K (.ref C) name=some (some (.ref f))) (ht:PySem.W.isFn K (.ref f)=true) (hv:mA name=none) (h:Q (.ref f,[.ref x]) s) :
  wpAny (model prog w) A (getMethod (.ref x) name pl) Q E s:=by
 obtain⟨od,J,hl⟩:=I.look;exact PySem.W.method_fn X J (PySem.W.plainGet_of hg).1 (PySem.W.plainGet_of hg).2 hf (beq_iff_eq.mp ht) (by show(PySem.W.lookIn name od).map (·.isSome)=some false;rw[hl,hv];rfl) h
def Xs{ns:List Str}{Q:Unit->ax->Prop}(X:K.In s.heap)(I:n6 s.heap x dx C mA)
  (hs:PySem.W.findIn K (.ref C) "__setattr__"=some (some (.builtin "object.__setattr__"))) (hp:PySem.W.plainOver K C=true) (ht:PySem.W.takerIn K C name=some none) (hh:PySem.W.hasDictIn K C=true)
  (hw:PySem.Within mA ns) (hsz:ns.length<=sizeLine)
  (h:∀h',n6 h' x dx C (λy=>if y=name then some v else mA y)->Heap.SameBut dx s.heap h'->Q () { s with heap:=h',toks:=s.toks+2}) :
  wpAny (model prog w) A (setAttr (.ref x) name v) Q E s:=by
 obtain⟨od,J,hl⟩:=I.look;refine PySem.W.set_plain X J hs (PySem.W.osa_open (s:={ s with toks:=s.toks+1}) (r:=none) X J hp ht λb=>?_)
 obtain⟨cd,hc,o5⟩:=PySem.W.any_some hh;have hx:s.heap.get? x=some ⟨.ref C,some dx,.plain,#[]⟩:=I.obj;refine ay (aX (ay (ay (wpAny_loadPart hx (ay (PySem.W.Looks.here (s:={ s with toks:=s.toks+1}) (PySem.W.looks_clsIn X hc) ?_))))));rw[o5];refine aX (a:=some dx) (ay (aX (ay ?_)));refine wpAny_nsSet1 (s:={ s with toks:=s.toks+1}) I.ns λh' yz yE=>?_
 obtain⟨oD,esD,epD,KP,KA,hcD⟩:=yz.count (PySem.Within.cons name v hw);refine ay (wpAny_lookBehind KP (by rw[KA];exact pastItsLine_dict (jt hcD (by rw[kG];lia))) ?_)
 exact aX (h _ ⟨(yE.2 _ (Ne.symm I.ne)).trans I.obj,yz,I.ne⟩ yE)
def VA{R:Result->ax->Prop}{vs:List ai}{kw:List (Str×ai)}(X:K.In s.heap)(hm:PySem.W.makesIn K C=true)
  (hi:PySem.W.findIn K (.ref C) "__init__"=some (some (.ref f))) (hf:PySem.W.typeIn K (.ref f)=some (.type "function"))
  (h:codeAny (model prog w) (A.under (.builtin "type.__call__" ⟨.ref C::vs,kw⟩)) (.call (.ref f) ⟨.ref (s.heap.objs.size+1)::vs,kw⟩) (PySem.W.InitBack (s.heap.objs.size+1) R) {s with heap:=(s.heap.push PySem.W.emptyDict).push (PySem.W.instObj C s.heap.objs.size)}) :
  codeAny (model prog w) A (.call (.ref C) ⟨vs,kw⟩) R s:=by
 obtain⟨hh,g,d,t,os⟩:=s;exact PySem.W.make_core (PySem.W.makes_of X hm) (PySem.W.looks_findIn X hi) (λself=>PySem.W.bind_fn X self hf) (.inl rfl) h
end
noncomputable def dQ(f:Str)(v:V):List (Str×V)->List (Str×V)
 |[]=>[(f,v)]
 |(g,x)::r=>if g=f then(g,v)::r else(g,x)::dQ f v r
theorem Nh(f g:Str)(v:V):∀fs:List (Str×V),(dQ f v fs).lookup g=if g=f then some v else fs.lookup g
 |[]=>by
  show List.lookup g [(f,v)]=_;by_cases h:g=f
  .have hb:(g == f)=true:=beq_iff_eq.mpr h;simp only[List.lookup,hb,bM h]
  .have hb:(g == f)=false:=qH.mpr h;simp only[List.lookup,hb,bc h]
 |(k,x)::r=>by
  have ih:=Nh f g v r;rw[show dQ f v ((k,x)::r)=(if k=f then(k,v)::r else(k,x)::dQ f v r) from rfl]
  by_cases hk:k=f
  .rw[bM hk];by_cases h:g=k
   .have hb:(g == k)=true:=beq_iff_eq.mpr h;simp only[List.lookup,hb,bM (h.trans hk)]
   .have hb:(g == k)=false:=qH.mpr h;simp only[List.lookup,hb,bc (λe:g=f=>h (e.trans hk.symm))]
  .rw[bc hk];by_cases h:g=k
   .have hb:(g == k)=true:=beq_iff_eq.mpr h;simp only[List.lookup,hb,bc (λe:g=f=>hk (h.symm.trans e))]
   .have hb:(g == k)=false:=qH.mpr h;simp only[List.lookup,hb];exact ih
theorem IL(f:Str)(v:V):∀fs:List (Str×V),f∈(dQ f v fs).map (·.1)/\∀g,g∈fs.map (·.1)->g∈(dQ f v fs).map (·.1)
 |[]=>⟨by simp[dQ],λg h=>by simp at h⟩
 |(k,x)::r=>by
  obtain⟨i1,i2⟩:=IL f v r;rw[show dQ f v ((k,x)::r)=(if k=f then(k,v)::r else(k,x)::dQ f v r) from rfl]
  by_cases hk:k=f
  .rw[bM hk];subst hk;exact⟨by simp,λg h=>by simpa using h⟩
  .rw[bc hk];refine⟨?_,λg h=>?_⟩
   .rw[cU];exact qo _ i1
   .rw[cU] at h ⊢;rcases y0a.mp h with e|e
    .exact y0a.mpr (.inl e)
    .exact qo _ (i2 g e)
theorem Ni(f:Str)(v:V):∀fs:List (Str×V),(dQ f v fs).length<=fs.length+1
 |[]=>by simp[dQ]
 |(k,x)::r=>by
  have ih:=Ni f v r;rw[show dQ f v ((k,x)::r)=(if k=f then(k,v)::r else(k,x)::dQ f v r) from rfl]
  by_cases hk:k=f
  .rw[bM hk,kG,kG];lia
  .rw[bc hk,kG,kG];lia
def iA.some_of(r:iA (some v) o):∃u,o=some u/\RelV v u:=by
 cases o with
 |none=>exact(show False from r).elim
 |some u=>exact⟨u,rfl,r⟩
def iA.none_of(r:iA none o):o=none:=by
 cases o with
 |none=>rfl
 |some u=>exact(show False from r).elim
def Um(r:RelV v u):PySem.W.handedIn u=true:=by
 cases v with
 |aI=>cases(show u=Value.none from r);rfl
 |bl b=>cases(show u=Value.bool b from r);rfl
 |int i=>obtain⟨t,e⟩:=(show ∃t,u=Value.int i t from r);cases e;rfl
 |str x=>obtain⟨t,e⟩:=(show ∃t,u=Value.str x t from r);cases e;rfl
 |vQ b=>obtain⟨t,e⟩:=(show ∃t,u=Value.bytes b t from r);cases e;rfl
 |Aw b=>obtain⟨t,e⟩:=(show ∃t,u=Value.float b t from r);cases e;rfl
 |ref a=>cases(show u=Value.ref a from r);rfl
 |ty n=>cases(show u=Value.type n from r);rfl
section
variable{P:dc}{w:cD}{H H':Hp}{h h':bZ}{a C dx:aj}{fs Ax:List (Str×V)}
def Jp(bw:i6 P w H h)(e:H a=some (.ins C dx fs)):∃mA,n6 h a dx C mA/\(∀f,iA (fs.lookup f) (mA f))/\PySem.Within mA (fs.map (·.1))/\fs.length<=1000/\H dx=some (.own a):=by
 obtain⟨d,z,ne,ob,mA,n,r,q⟩:=(show bf P w H h a (.ins C dx fs) from bw a _ e);exact⟨mA,⟨ob,n,ne⟩,r,q,z,d⟩
end
structure Cls (K:aL) (C:aj):Prop where
 pg:PySem.W.plainGet K C Str.empty=true
 hd:PySem.W.hasDictIn K C=true
 po:PySem.W.plainOver K C=true
 sa:PySem.W.findIn K (.ref C) "__setattr__"=some (some (.builtin "object.__setattr__"))
def Cls.get(c:Cls K C)(f:Str):PySem.W.plainGet K C f=true:=c.pg
def fZ(K:aL)(C:aj)(f:Str):Prop:=PySem.W.findIn K (.ref C) f=some none
def fZ.Ei(n:fZ K C f):PySem.W.takerIn K C f=some none:=by
 unfold PySem.W.takerIn;rw[show PySem.W.findIn K (.ref C) f=some none from n];rfl
structure Meth (K:aL) (C:aj) (m:Str) (f:aj):Prop where
 at_:PySem.W.findIn K (.ref C) m=some (some (.ref f))
 fn:PySem.W.isFn K (.ref f)=true
 kp:PySem.W.keepIn K (.ref f)=true
section
variable{X:Cx}{aa:List (aj×Obj)}{Z:St}{H:Hp}{s:ax}{a C dx:aj}{fs:List (Str×V)}{f:Str}{v:V}{A:cN}{E:ai->ax->Prop}
def Nu{b:Bool}(I:Inv X aa Z H s)(e:H a=some (.ins C dx fs))(c:Cls X.K C)(n:fZ X.K C f)(l:fs.lookup f=some v)
  (h:∀u s',Inv X aa Z H s'->RelV v u->Q u s'):wpAny (model X.prog X.w) A (getAttr (.ref a) f b) Q E s:=by
 obtain⟨mA,O,r,_,_,_⟩:=Jp I.bw e;obtain⟨u,hu,ru⟩:=iA.some_of (v:=v) (o:=mA f) (by rw[<-l];exact r f)
 exact Xr I.jQ O (c.get f) c.hd n hu (Um ru) (h u _ (I.tok _) ru)
def Nv{m:Str}{g:aj}{pl:Sem Bool}{Q:ai×List ai->ax->Prop}(I:Inv X aa Z H s)(e:H a=some (.ins C dx fs))(c:Cls X.K C)(k:Meth X.K C m g)(l:fs.lookup m=none)
  (h:Q (.ref g,[.ref a]) s):wpAny (model X.prog X.w) A (getMethod (.ref a) m pl) Q E s:=by
 obtain⟨mA,O,r,_,_,_⟩:=Jp I.bw e;have hn:mA m=none:=iA.none_of (by rw[<-l];exact r m)
 exact Vz I.jQ O (c.get m) k.at_ k.fn hn h
def Nw{y:V}{Q:Unit->ax->Prop}(I:Inv X aa Z H s)(e:H a=some (.ins C dx fs))(c:Cls X.K C)(n:fZ X.K C f)(hl:fs.length<1000)(ry:RelV y u)
  (h:∀s',Inv X aa Z (upd H a (.ins C dx (dQ f y fs))) s'->Q () s'):wpAny (model X.prog X.w) A (setAttr (.ref a) f u) Q E s:=by
 obtain⟨mA,O,r,wi,_,ho⟩:=Jp I.bw e;have hz:(fs.map (·.1)).length<=sizeLine:=by rw[bx,sizeLine_eq];lia
 refine Xs I.jQ O c.sa c.po n.Ei c.hd wi hz λh' O' sb=>h _ ?_
 have hd:∃o,h'.get? dx=some o:=let ⟨o,_,_,e',_⟩:=O'.ns;⟨o,e'⟩
 refine I.write (x:=a) (e:=dx) (by rw[e];exact sZ) (.inr ho) (λb q hb z=>(sb.2 b hb).trans z) hd ?_
 refine⟨by rw[dh O.ne];exact ho,?_,O.ne,O'.obj,_,O'.ns,λg=>?_,λg hg=>?_⟩
 .have:=Ni f y fs;lia
 .show iA ((dQ f y fs).lookup g) (if g=f then some u else mA g)
  rw[Nh];by_cases q:g=f
  .rw[bM q,bM q];exact ry
  .rw[bc q,bc q];exact r g
 .by_cases q:g=f
  .rw[q];exact(IL f y fs).1
  .refine(IL f y fs).2 g (wi g λz=>hg ?_)
   show(if g=f then some u else mA g)=none
   rw[bc q];exact z
def Inv.made(I:Inv X aa Z H s):Inv X aa Z (upd (upd H s.heap.objs.size (.own (s.heap.objs.size+1))) (s.heap.objs.size+1) (.ins C s.heap.objs.size []))
  {s with heap:=(s.heap.push PySem.W.emptyDict).push (PySem.W.instObj C s.heap.objs.size)}:=by
 have e1:(s.heap.push PySem.W.emptyDict).get? s.heap.objs.size=some PySem.W.emptyDict:=iR s.heap rfl;have e2:((s.heap.push PySem.W.emptyDict).push (PySem.W.instObj C s.heap.objs.size)).get? (s.heap.objs.size+1)=some (PySem.W.instObj C s.heap.objs.size):=by
  have:=iR (s.heap.push PySem.W.emptyDict) (o:=PySem.W.instObj C s.heap.objs.size) rfl
  rwa[Heap.size_push] at this
 have e3:(s.heap.push PySem.W.emptyDict).Ns s.heap.objs.size (λ_=>none):=⟨PySem.W.emptyDict,#[],_,e1,rfl,(λe he=>cO he (by simp)),λ_=>rfl⟩
 have I1:=I.laid (a:=s.heap.objs.size) (o:=.own (s.heap.objs.size+1)) (h':=s.heap.push PySem.W.emptyDict) (t':=s.toks) (λb u q=>cZ _ q) (bY _) ⟨_,e1⟩
 refine I1.laid (a:=s.heap.objs.size+1) (o:=.ins C s.heap.objs.size []) (t':=s.toks) (λb u q=>cZ _ q) (Ez (Heap.size_push _ _)) ?_
 have ne:s.heap.objs.size≠s.heap.objs.size+1:=gP (vw _);refine⟨by rw[dh ne,aK],k9 _,ne,e2,λ_=>none,(Heap.Ns1.of_empty e3).at λo q=>cZ _ q,λ_=>sZ,λy hy=>cO rfl hy⟩
def Xt{prog:dc}{w:cD}{env:Env}{e:Expr}{pos:Pos}{s:ax}(hb:attributeBase e f env (eval e env)=eval e env)
  (h:wpAny (model prog w) A (eval e env) (λo s₁=>wpAny (model prog w) A (getAttr o f true) Q E s₁) E s):wpAny (model prog w) A (eval (.Attribute e f pos) env) Q E s:=
 Attribute_any_ h (by rw[arm_eval_Attribute,hb])
end
def LR(K:aL)(ta:TE)(f:Str):TE:=λZ H Q=>ta Z H λx H1=>∃a C dx fs v,x=.ref a/\H1 a=some (.ins C dx fs)/\Cls K C/\fZ K C f/\fs.lookup f=some v/\Q v H1
def LF(K:aL)(ta tv:TE)(f:Str):TS:=λD Z H=>tv Z H λy H1=>ta Z H1 λx H2=>∃a C dx fs,x=.ref a/\H2 a=some (.ins C dx fs)/\Cls K C/\fZ K C f/\fs.length<1000/\
 D.nx Z (upd H2 a (.ins C dx (dQ f y fs)))
def wZ(X:Cx)(op:Operator)(rd:V->V->Hp->VK->Prop):Prop:=
 ∀(aa:List (aj×Obj)) (s:ax) (Z:St) (H:Hp) (x y:V) (u v:ai) (Q:VK),Inv X aa Z H s->RelV x u->RelV y v->rd x y H Q->wpAny (model X.prog X.w) X.A (inplaceOp op u v) (EP X aa Z Q) X.xe s
def Xu(K:aL)(ta tv:TE)(rd:V->V->Hp->VK->Prop)(f:Str):TS:=λD Z H=>ta Z H λx H1=>∃a C dx fs v,x=.ref a/\H1 a=some (.ins C dx fs)/\Cls K C/\fZ K C f/\fs.lookup f=some v/\
 tv Z H1 λy H2=>rd v y H2 λz H3=>∃J' Ax,H3 a=some (.ins C J' Ax)/\Ax.length<1000/\D.nx Z (upd H3 a (.ins C J' (dQ f z Ax)))
section
variable{X:Cx}{o e value:Expr}{f:Str}{pos pos' fP:Pos}{ta tv:TE}
def ε(he:PE X e ta)(hb:attributeBase e f X.env (eval e X.env)=eval e X.env):PE X (.Attribute e f pos) (LR X.K ta f):=by
 intro aa s Z H Q I h;refine Xt hb (bL (he aa s Z H _ I h) λu s1 hh=>?_)
 obtain⟨x,H1,I1,rx,a,C,dx,fs,v,ex,ea,c,n,l,q⟩:=hh;subst ex;obtain rfl:u=Value.ref a:=rx;exact Nu I1 ea c n l λu' s2 I2 ru=>⟨v,H1,I2,ru,q⟩
def ζ(ha:PE X o ta)(hv:PE X value tv)(hs:swapsWith value (some (.Attribute o f pos')) pos.line X.env=pure false):PS X (.Assign [.Attribute o f pos'] value pos) (LF X.K ta tv f):=by
 intro aa s Z H D I h;refine plainObj_wpAny_Assign_Attribute (bL (hv aa s Z H _ I h) λu s1 h1=>?_) hs
 obtain⟨y,H1,I1,ry,q⟩:=h1;refine bL (ha aa s1 Z H1 _ I1 q) λov s2 h2=>?_
 obtain⟨x,H2,I2,rx,a,C,dx,fs,rfl,ea,c,n,l,q2⟩:=h2;obtain rfl:ov=Value.ref a:=rx;exact Nw I2 ea c n l ry λs3 I3=>⟨Z,_,I3,q2⟩
def Uo{op:Operator}{rd:V->V->Hp->VK->Prop}(ha:PE X o ta)(hv:PE X value tv)(yD:wZ X op rd):PS X (.AugAssign (.Attribute o f fP) op value pos) (Xu X.K ta tv rd f):=by
 intro aa s Z H D I h;refine wpAny_AugAssign_AttributeAny (bL (ha aa s Z H _ I h) λov s1 hh=>?_)
 obtain⟨x,H1,I1,rx,a,C,dx,fs,v,ex,ea,c,n,l,q⟩:=hh;subst ex;obtain rfl:ov=Value.ref a:=rx;refine Nu I1 ea c n l λu s2 I2 ru=>bL (hv aa s2 Z H1 _ I2 q) λw3 s3 h3=>?_
 obtain⟨y,H2,I3,ry,q3⟩:=h3;refine bL (yD aa s3 Z H2 v y u w3 _ I3 ru ry q3) λw4 s4 h4=>?_
 obtain⟨z,H3,I4,rz,J',Ax,ea',l',q4⟩:=h4;exact Nw I4 ea' c n l' rz λs5 I5=>⟨Z,_,I5,q4⟩
def Ly:V->V->Hp->VK->Prop:=λx y H Q=>∃i j,x=.int i/\y=.int j/\Q (.int (i+j)) H
def η:wZ X .Add Ly:=by
 rintro aa s Z H x y u v Q I rx ry ⟨i,j,rfl,rfl,q⟩;obtain⟨t,rfl⟩:=(show ∃t,u=Value.int i t from rx);obtain⟨t',rfl⟩:=(show ∃t',v=Value.int j t' from ry);exact PyProof.Rows.iadd_int ⟨.int (i+j),H,I.tok _,⟨_,rfl⟩,q⟩
end
variable{k:Nat}{A:cN}{C f:aj}{us:List ai}{kw:List (Str×ai)}{P:dc}{w:cD}{K:aL}{mg:Str->ak ai}{base:bZ}{outer:List Env}{s:ax}{H:Hp}{Q:VK}{ps N:List Str}{aa:List (aj×Obj)}{Z:St}{vs:List V}{qual:Str}{scope:Scope}
structure cz (k:Nat) (A:cN):Prop where
 hd:A.handled=none
 dp:A.depth+3*k+5<recursionLimit
 un:A.units+16*k+200<cLine
def cz.mono{j:Nat}(r:cz k A)(h:j<=k):cz j A:=⟨r.hd,by have:=r.dp;lia,by have:=r.un;lia⟩
def cz.deeper{k:Nat}{A:cN}(r:cz (k+1) A)(env:Env):cz k (A.deeper env):=
 ⟨r.hd,by have:=r.dp;show A.depth+1+3*k+5<_;lia,by have:=r.un;show A.units+3+16*k+200<_;lia⟩
def Tw:(A.under (.builtin "type.__call__" ⟨.ref C::us,kw⟩)).depth=A.depth+1:=by
 rfl
def Tz:(A.under (.builtin "type.__call__" ⟨.ref C::us,kw⟩)).units=A.units+1:=by
 rfl
def cz.make(r:cz (k+1) A)(C:aj)(us:List ai)(kw:List (Str×ai)):cz k (A.under (.builtin "type.__call__" ⟨.ref C::us,kw⟩)):=
 ⟨r.hd,by have:=r.dp;rw[Tw];lia,by have:=r.un;rw[Tz];lia⟩
def cz.depth{k:Nat}{A:cN}(r:cz k A):A.depth<recursionLimit:=by have:=r.dp;lia
def cz.units{k:Nat}{A:cN}(r:cz k A):A.units+64<cLine:=by have:=r.un;lia
def vc:TA:=λ_ H Q=>Q [] H
def sL(ta:TE)(tr:TA):TA:=λZ H Q=>ta Z H λx H1=>tr Z H1 λxs H2=>Q (x::xs) H2
section
variable{X:Cx}{e:Expr}{es:List Expr}{te:TE}{t:TA}{pos:Pos}
def mj:PA X [] vc:=λ_ _ _ _ H Q I h=>Calls.spliced_nil ⟨[],H,I,.nil,h⟩
def FR(ha:PE X e te)(hr:PA X es t)(hs:starEach (e::es) X.env=(false,eval e X.env)::starEach es X.env:=by rfl):PA X (e::es) (sL te t):=by
 intro pos aa s Z H Q I h;rw[hs];show wpAny _ _ (spliced ((false,eval e X.env)::backTo pos (starEach es X.env))) _ _ s;refine Calls.spliced_cons (bL (ha aa s Z H _ I h) λu s1 hh=>?_)
 obtain⟨x,H1,I1,r1,q1⟩:=hh;exact bL (hr pos aa s1 Z H1 _ I1 q1) λus s2 ⟨xs,H2,I2,r2,q2⟩=>⟨x::xs,H2,I2,.cons r1 r2,q2⟩
def LZ(t:TA):TE:=λZ H Q=>t Z H λxs H1=>xs.length<=sizeLine/\∀p,H1 p=none->Q (.ref p) (upd H1 p (.tup xs))
def LV(t:TA):TE:=λZ H Q=>t Z H λxs H1=>xs.length<=sizeLine/\∀p,H1 p=none->Q (.ref p) (upd H1 p (.lst xs))
def θ{x1}(h:PA X es t):PE X (.Tuple es x1 pos) (LZ t):=by
 intro aa s Z H Q I hq;refine wpAny_Tuple_spliced (bL (h pos aa s Z H _ I hq) λus s1 ⟨xs,H1,I1,r,z,q⟩=>⟨by rw[<-r.length];exact z,?_⟩)
 have hf:H1 s1.heap.objs.size=none:=I1.bw.fresh (bY _);refine⟨.ref s1.heap.objs.size,upd H1 s1.heap.objs.size (.tup xs),I1.laid (t':=s1.toks) (λb u e=>cZ _ e) (bY _) ?_,rfl,q _ hf⟩
 exact⟨z,us,r,⟨_,iR _ rfl,rfl,_,rfl⟩⟩
def ι(h:PA X es t):PE X (.List es pos) (LV t):=by
 intro aa s Z H Q I hq;refine wpAny_List_spliced (bL (h pos aa s Z H _ I hq) λus s1 ⟨xs,H1,I1,r,z,q⟩=>⟨by rw[<-r.length];exact z,?_⟩)
 have hf:H1 s1.heap.objs.size=none:=I1.bw.fresh (bY _);refine⟨.ref s1.heap.objs.size,upd H1 s1.heap.objs.size (.lst xs),I1.laid (t':=s1.toks) (λb u e=>cZ _ e) (bY _) ?_,rfl,q _ hf⟩
 exact⟨z,us,0,r,iR _ rfl⟩
end
abbrev Sp:=List V->Hp->VK->XK->Prop
abbrev s_:=List Env->Hp->ax->XK->ai->ax->Prop
variable{CX:s_}
structure nW (P:dc) (w:cD) (K:aL) (mg:Str->ak ai) (base:bZ) (A:cN) (outer:List Env) (s:ax) (H:Hp):Prop where
 frames:A.frames=some outer
 mod:Mod K mg base
 bs:∀b o,base.get? b=some o->s.heap.get? b=some o/\H b=none
 rL:base.objs.size<=s.heap.objs.size
 iF:s.heap.FunFrames base outer
 uB:∀b∈kg outer,H b=none
 bw:i6 P w H s.heap
 bare:AllBare s.gens
def CE(outer:List Env)(P:dc)(w:cD)(H:Hp)(s:ax)(Q:VK)(u:ai)(s':ax):Prop:=
 ∃v H',s'.os=s.os/\AllBare s'.gens/\Un (kg outer) [] H H' s.heap s'.heap/\i6 P w H' s'.heap/\RelV v u/\Q v H'
def CR(CX:s_)(outer:List Env)(P:dc)(w:cD)(H:Hp)(s:ax)(Q:VK)(E:XK)(r:Result)(s':ax):Prop:=
 match r with
 |.ok (.ret u)=>CE outer P w H s Q u s'
 |.ok _=>False
 |.error e=>CX outer H s E e s'
structure dz (P:dc) (w:cD) (K:aL) (mg:Str->ak ai) (base:bZ) (CX:s_) (k:Nat) (f:aj) (fd:lj) (ps:List Str) (sp:Sp):Prop where
 len:∀vs H Q E,sp vs H Q E->vs.length=ps.length
 run:∀(A:cN) (outer:List Env) (s:ax) (H:Hp) (args:Args) (us:List ai) (vs:List V) (Q:VK) (E:XK),cz k A->nW P w K mg base A outer s H->BindsTo s fd args (ps.zip us)->Vals vs us->sp vs H Q E->
  codeAny (model P w) A (.call (.ref f) args) (CR CX outer P w H s Q E) s
def nW.make(e:nW P w K mg base A outer s H)(C:aj)(us:List ai)(kw:List (Str×ai)):
  nW P w K mg base (A.under (.builtin "type.__call__" ⟨.ref C::us,kw⟩)) outer s H:=⟨by first|exact e.frames|(simpa[Around.under,Code.envs,Code.isFrame,pushEnvs] using e.frames),e.mod,e.bs,e.rL,e.iF,e.uB,e.bw,e.bare⟩
section
variable{X:Cx}{aa:List (aj×Obj)}{Z:St}{H:Hp}{s s':ax}
def Inv.Cy(I:Inv X aa Z H s):nW X.prog X.w X.K X.mg X.base X.A X.stack s H:=
 ⟨I.ok.frames,I.ok.mod,I.bs,jt I.ok.rL I.sz,I.stack,I.jT,I.bw,I.bare⟩
def Inv.after{u:ai}(I:Inv X aa Z H s)(h:CE X.stack X.prog X.w H s Q u s'):EP X aa Z Q u s':=by
 obtain⟨v,H',os,bare,un,bw,r,q⟩:=h;obtain⟨hh,g,d,t,os'⟩:=s';obtain rfl:os'=s.os:=os;exact⟨v,H',I.call (h':=hh) (g':=g) (d':=d) (t':=t) (ch:=[]) un bw bare (λb z=>cO z (by simp)),r,q⟩
end
def Ec(sp:Sp)(kW:List V)(E:St->XK)(t:TA):TE:=λZ H Q=>t Z H λvs H1=>sp (vs++kW) H1 Q (E Z)
def sM(C:aj)(m:Str)(sp:Sp)(kW:List V)(E:St->XK)(ta:TE)(t:TA):TE:=λZ H Q=>ta Z H λx H1=>∃a dx fs,x=.ref a/\H1 a=some (.ins C dx fs)/\fs.lookup m=none/\
 t Z H1 λvs H2=>sp (x::(vs++kW)) H2 Q (E Z)
def wG(C:aj)(sp:Sp)(kW:List V)(E:St->XK)(t:TA):TE:=λZ H Q=>t Z H λvs H1=>∀x dx,H1 x=none->H1 dx=none->dx≠x->
 sp (.ref x::(vs++kW)) (upd (upd H1 dx (.own x)) x (.ins C dx [])) (λv H2=>v=.aI/\Q (.ref x) H2) (E Z)
def Binds(K:aL)(fd:lj)(ps:List Str)(ds:List ai):Prop:=
 ∀(s:ax) (us:List ai),K.In s.heap->(us++ds).length=ps.length->BindsTo s fd ⟨us,[]⟩ (ps.zip (us++ds))
def Binds.all{fd:lj}(h:∀us:List ai,us.length=ps.length->bindArgs fd ⟨us,[]⟩=pure (ps.zip us)):Binds K fd ps []:=λs us _ hl=>by
 rw[kN] at hl ⊢;exact .of_eq (h us hl)
def xS(CX:s_)(X:Cx)(E:St->XK):Prop:=∀(aa:List (aj×Obj)) (Z:St) (H:Hp) (s:ax) (e:ai) (s':ax),Inv X aa Z H s->CX X.stack H s (E Z) e s'->X.xe e s'
section
variable{X:Cx}{CX:s_}{k:Nat}{f C:aj}{fd:lj}{ps:List Str}{sp:Sp}{kW:List V}{ds:List ai}{E:St->XK}{x m:Str}{p pos apos:Pos}{e o:Expr}{es:List Expr}{ta:TE}{t:TA}
def JG(F:dz X.prog X.w X.K X.mg X.base CX k f fd ps sp)(hr:cz k X.A)(hb:Binds X.K fd ps ds)(hd:Vals kW ds)(hx:xS CX X E)
  (I:Inv X aa Z H s) (r:Vals vs us) (h:sp (vs++kW) H Q (E Z)):wpAny (model X.prog X.w) X.A (call (.ref f) us) (EP X aa Z Q) X.xe s:=by
 have r2:Vals (vs++kW) (us++ds):=r.append hd;have hl:(us++ds).length=ps.length:=by rw[<-r2.length];exact F.len _ _ _ _ h
 refine wpAny_call (codeAny_mono (F.run X.A X.stack s H ⟨us,[]⟩ (us++ds) (vs++kW) Q (E Z) hr I.Cy (hb s us I.jQ hl) r2 h) λr s' hq=>?_)
 cases r with
 |error e=>exact hx aa Z H s e s' I hq
 |ok fl=>
  cases fl with
  |ret u=>exact I.after hq
  |next=>exact False.elim hq
  |brk=>exact False.elim hq
  |cont=>exact False.elim hq
def Xv(F:dz X.prog X.w X.K X.mg X.base CX k f fd ps sp)(hr:cz k X.A)(hg:Gl X x)(hm:X.mg x=some (.ref f))(hk:PySem.W.keepIn X.K (.ref f)=true)(hb:Binds X.K fd ps ds)(hd:Vals kW ds)(hx:xS CX X E)
  (ha:PA X (e::es) t) (kX:(x == ("__debug__":Str))=false:=by decide) (he:starEach (e::es) X.env=(false,eval e X.env)::starEach es X.env:=by rfl) (jP:(backTo pos (starEach es X.env)).any (·.1)=false:=by rfl) :
  PE X (.Call (.Name x p) (e::es) [] pos) (Ec sp kW E t):=by
 intro aa s Z H Q I h;refine wpAny_Call_Name_kw (Ae I hg hm ?_ kX);refine PySem.W.callWith_K (h₀:=X.base) I.ok.mod.AI hk (bL (ha pos aa s Z H _ I h) λus s1 ⟨vs,H1,I1,r,q⟩=>⟨I1.jQ,?_⟩) he jP
 exact JG F hr hb hd hx I1 r q
def Xw{pl:Sem Bool}(he:PE X o ta)(c:Cls X.K C)(hm:Meth X.K C m f)(F:dz X.prog X.w X.K X.mg X.base CX k f fd ps sp)(hr:cz k X.A)(hb:Binds X.K fd ps ds)(hd:Vals kW ds)(hx:xS CX X E)(ha:PA X (e::es) t)
  (kY:starEach (e::es) X.env=(false,eval e X.env)::starEach es X.env:=by rfl) (jP:(backTo pos (starEach es X.env)).any (·.1)=false:=by rfl)
  (ht:eval (.Call (.Attribute o m apos) (e::es) [] pos) X.env=(do
   let ov <-eval o X.env
   standAt apos.atName
   let (f,first) <-holding [ov] (getMethod ov m pl)
   callWith pos f first (backTo pos (starEach (e::es) X.env)) (backToKw pos (keywordEach [] X.env))):=by rfl) :
  PE X (.Call (.Attribute o m apos) (e::es) [] pos) (sM C m sp kW E ta t):=by
 intro aa s Z H Q I h;refine PySem.W.methodCall_KW (pl:=pl) (bL (he aa s Z H _ I h) λu s1 hh=>?_) ht
 obtain⟨x,H1,I1,rx,a,dx,fs,ex,ea,l,q⟩:=hh;subst ex;obtain rfl:u=Value.ref a:=rx;refine Nv I1 ea c hm l ?_;refine PySem.W.callWith_K (first:=[.ref a]) (h₀:=X.base) I.ok.mod.AI hm.kp (bL (ha pos aa s1 Z H1 _ I1 q) λus s2 ⟨vs,H2,I2,r,q2⟩=>⟨I2.jQ,?_⟩) kY jP
 exact JG (us:=.ref a::us) (vs:=.ref a::vs) F hr hb hd hx I2 (.cons rfl r) q2
def VB{pl:Sem Bool}(he:PE X o ta)(c:Cls X.K C)(hm:Meth X.K C m f)(F:dz X.prog X.w X.K X.mg X.base CX k f fd ps sp)(hr:cz k X.A)(hb:Binds X.K fd ps ds)(hd:Vals kW ds)(hx:xS CX X E)
  (ht:eval (.Call (.Attribute o m apos) [] [] pos) X.env=(do
   let ov <-eval o X.env
   standAt apos.atName
   let (f,first) <-holding [ov] (getMethod ov m pl)
   callWith pos f first (backTo pos (starEach [] X.env)) (backToKw pos (keywordEach [] X.env))):=by rfl) :
  PE X (.Call (.Attribute o m apos) [] [] pos) (sM C m sp kW E ta vc):=by
 intro aa s Z H Q I h;refine PySem.W.methodCall_KW (pl:=pl) (bL (he aa s Z H _ I h) λu s1 hh=>?_) ht
 obtain⟨x,H1,I1,rx,a,dx,fs,ex,ea,l,q⟩:=hh;subst ex;obtain rfl:u=Value.ref a:=rx;refine Nv I1 ea c hm l ?_;exact PySem.W.callWith_K0 (first:=[.ref a]) I1.jQ hm.kp (JG (us:=[.ref a]) (vs:=[.ref a]) F hr hb hd hx I1 (.cons rfl .nil) q)
structure Mk (K:aL) (C f:aj):Prop where
 makes:PySem.W.makesIn K C=true
 init:PySem.W.findIn K (.ref C) "__init__"=some (some (.ref f))
 fn:PySem.W.isFn K (.ref f)=true
 kp:PySem.W.keepIn K (.ref C)=true
def VC(M:Mk X.K C f)(F:dz X.prog X.w X.K X.mg X.base CX k f fd ps sp)(hr:cz (k+1) X.A)(hb:Binds X.K fd ps ds)(hd:Vals kW ds)
  (hx:xS CX X E) (I:Inv X aa Z H s) (r:Vals vs us)
  (h:∀x dx,H x=none->H dx=none->dx≠x->sp (.ref x::(vs++kW)) (upd (upd H dx (.own x)) x (.ins C dx [])) (λv H2=>v=.aI/\Q (.ref x) H2) (E Z)) :
  wpAny (model X.prog X.w) X.A (call (.ref C) us) (EP X aa Z Q) X.xe s:=by
 have hq:=h (s.heap.objs.size+1) s.heap.objs.size (I.bw.fresh (vx _)) (I.bw.fresh (bY _)) (gP (vw _));have I2:=Inv.made (C:=C) I;have r2:Vals (V.ref (s.heap.objs.size+1)::(vs++kW)) (Value.ref (s.heap.objs.size+1)::(us++ds)):=.cons rfl (r.append hd);have hl:(Value.ref (s.heap.objs.size+1)::us++ds).length=ps.length:=by
  have e:=r2.length;rw[F.len _ _ _ _ hq] at e;exact e.symm
 refine wpAny_call (VA (f:=f) I.jQ M.makes M.init (beq_iff_eq.mp M.fn) (codeAny_mono (F.run _ X.stack _ _ ⟨Value.ref (s.heap.objs.size+1)::us,[]⟩ (Value.ref (s.heap.objs.size+1)::(us++ds)) _ _ (E Z) (hr.make C us []) (I2.Cy.make C us []) (hb _ (Value.ref (s.heap.objs.size+1)::us) I2.jQ hl) r2 hq) λr s' C1=>?_))
 cases r with
 |error e=>exact hx aa Z _ _ e s' I2 C1
 |ok fl=>
  cases fl with
  |ret u=>
   obtain⟨v,H',I3,rv,ev,q3⟩:=I2.after C1;subst ev;exact⟨rv,⟨V.ref (s.heap.objs.size+1),H',I3,rfl,q3⟩⟩
  |next=>exact False.elim C1
  |brk=>exact False.elim C1
  |cont=>exact False.elim C1
def Xx(M:Mk X.K C f)(F:dz X.prog X.w X.K X.mg X.base CX k f fd ps sp)(hr:cz (k+1) X.A)(hg:Gl X x)(hm:X.mg x=some (.ref C))(hb:Binds X.K fd ps ds)(hd:Vals kW ds)(hx:xS CX X E)
  (ha:PA X (e::es) t) (kX:(x == ("__debug__":Str))=false:=by decide) (he:starEach (e::es) X.env=(false,eval e X.env)::starEach es X.env:=by rfl) (jP:(backTo pos (starEach es X.env)).any (·.1)=false:=by rfl) :
  PE X (.Call (.Name x p) (e::es) [] pos) (wG C sp kW E t):=by
 intro aa s Z H Q I h;refine wpAny_Call_Name_kw (Ae I hg hm ?_ kX);refine PySem.W.callWith_K (h₀:=X.base) I.ok.mod.AI M.kp (bL (ha pos aa s Z H _ I h) λus s1 ⟨vs,H1,I1,r,q⟩=>⟨I1.jQ,?_⟩) he jP
 exact VC M F hr hb hd hx I1 r q
end
structure gm (N P:List Str) (sc:Scope):Prop where
 kind:sc.kind=.function
 co:sc.isCoroutine=false
 gen:sc.isGenerator=false
 nd:N.Nodup
 pre:N.take P.length=P
 par:∀x∈P,sc.names.lookup x=some .local \/ sc.names.lookup x=some .cell
 yQ:∀y∈sc.names,y.2≠.free
theorem NN{kindOf:Str->ak oG}{x:Str}:∀{binds:List (Str×ai)} {m:Str->ak ai},(∀v,(x,v)∉binds)->bindL kindOf binds m x=m x
 |[],_,_=>rfl
 |(n,v)::r,m,h=>by
  unfold bindL;rw[NN λw hw=>h w (qo _ hw)]
  split
  .have:x≠n:=by rintro rfl;exact h v AW
   simp[this]
  .rfl
theorem NO{kindOf:Str->ak oG}{x:Str}:∀{binds:List (Str×ai)} {m:Str->ak ai},(∀v,(x,v)∉binds)->bindC kindOf binds m x=m x
 |[],_,_=>rfl
 |(n,v)::r,m,h=>by
  unfold bindC;rw[NO λw hw=>h w (qo _ hw)]
  split
  .rfl
  .have:x≠n:=by rintro rfl;exact h v AW
   simp[this]
theorem NP{kindOf:Str->ak oG}{x:Str}{v:ai}:∀{P:List Str} {vs:List ai} {i:Nat} {m:Str->ak ai},P.Nodup->P[i]?=some x->vs[i]?=some v->kindOf x=some .local ->
  bindL kindOf (P.zip vs) m x=some v
 |[],_,_,_,_,h,_,_=>by simp at h
 |_::_,[],_,_,_,_,h,_=>by simp at h
 |p::P,w::vs,0,m,nd,h1,h2,hk=>by
  simp at h1 h2;subst h1;subst h2;show bindL kindOf ((p,w)::P.zip vs) m p=_;unfold bindL;rw[NN λv hv=>(qp.mp nd).1 (List.of_mem_zip hv).1,bM hk]
  simp
 |p::P,w::vs,i+1,m,nd,h1,h2,hk=>by
  show bindL kindOf ((p,w)::P.zip vs) m x=_;unfold bindL;exact NP (i:=i) (qp.mp nd).2 (by simpa using h1) (by simpa using h2) hk
theorem NQ{kindOf:Str->ak oG}{x:Str}{v:ai}:∀{P:List Str} {vs:List ai} {i:Nat} {m:Str->ak ai},P.Nodup->P[i]?=some x->vs[i]?=some v->kindOf x≠some .local ->
  bindC kindOf (P.zip vs) m x=some v
 |[],_,_,_,_,h,_,_=>by simp at h
 |_::_,[],_,_,_,_,h,_=>by simp at h
 |p::P,w::vs,0,m,nd,h1,h2,hk=>by
  simp at h1 h2;subst h1;subst h2;show bindC kindOf ((p,w)::P.zip vs) m p=_;unfold bindC;rw[NO λv hv=>(qp.mp nd).1 (List.of_mem_zip hv).1,bc hk]
  simp
 |p::P,w::vs,i+1,m,nd,h1,h2,hk=>by
  show bindC kindOf ((p,w)::P.zip vs) m x=_;unfold bindC;exact NQ (i:=i) (qp.mp nd).2 (by simpa using h1) (by simpa using h2) hk
noncomputable def start(N:List Str)(vs:List V):St:=vs.map some++List.replicate (N.length - vs.length) none
noncomputable def kU(CX:s_)(P:dc)(w:cD)(K:aL)(mg:Str->ak ai)(base:bZ)(N:List Str)(qual:Str)(scope:Scope)(f:aj)(cd:ai)(A:cN)(outer:List Env)(s:ax)(H:Hp)(E:XK):Cx where
 prog:=P
 w:=w
 K:=K
 mg:=mg
 base:=base
 A:=A.deeper (envOfC qual scope s.heap.objs.size f cd)
 N:=N
 s₀:=s
 H₀:=H
 env:=envOfC qual scope s.heap.objs.size f cd
 outer:=outer
 stack:=envOfC qual scope s.heap.objs.size f cd::outer
 ex:=[]
 calm:=true
 fn:=λ_=>true
 pn:=[]
 xe:=λe s'=>wpAny (model P w) (A.deeper (envOfC qual scope s.heap.objs.size f cd)) (leaving (envOfC qual scope s.heap.objs.size f cd) e) (λ_ sJ=>CX outer H s E e sJ) (λe' sJ=>CX outer H s E e' sJ) s'
def Oq{sc:Scope}{n:Nat}{x:Str}(h:sc.names.lookup x=some .cell):∃c,(cellsFrom n sc.names []).lookup x=some c:=by
 have q:=PySem.W.cellsFrom_some sc.names n [] (.inl h);exact Option.isSome_iff_exists.mp q
def Uq{cd:ai}{s1:ax}{E:XK}
  (S:gm N ps scope) (hd:A.handled=none) (e0:nW P w K mg base A outer s H) (hl:vs.length=ps.length) (r:Vals vs us)
  (x:InCallC s s.heap.objs.size (bindL (envOfC qual scope s.heap.objs.size f cd).kindOf (ps.zip us) λ_=>none) (cellsFrom (s.heap.objs.size+1) scope.names []) (bindC (envOfC qual scope s.heap.objs.size f cd).kindOf (ps.zip us) λ_=>none) s1) :
  Inv (kU CX P w K mg base N qual scope f cd A outer s H E) [] (start N vs) H s1:=by
 have jP:ps.length<=N.length:=by have:=congrArg List.length S.pre;rw[wK] at this;lia
 obtain⟨h1,tk,rfl,hk⟩:=x.done;have Dt:∀b:aj,b∉(kU CX P w K mg base N qual scope f cd A outer s H E).ex:=λb z=>cO (show b∈([]:List aj) from z) (by simp)
 refine⟨⟨e0.mod,S.kind,rfl,rfl,bY _,λy z c h1 h2=>?_,λy hy=>?_,λy c _ h=>?_,λ_=>hd,Around.frames_deeper e0.frames,.inr ⟨rfl,rfl⟩,λb z=>cO z (Dt b),e0.bs,e0.rL,λb _ _=>Dt b,λb z=>cO z (Dt b),e0.iF,e0.uB⟩,rfl,e0.bare,Un.kept hk,⟨_,x.toInCall.ns,λi y v h1 h2 h3=>?_⟩,λy c h=>⟨_,x.cell y c h⟩,e0.bw.fresh (bY _),λy c h=>?_,λp hp=>cO (show p∈([]:List (aj×Obj)) from hp) (by simp),e0.bw.kept hk,?_⟩
 .exact name_of_addr x.apart (PySem.mem_of_lookup h1) (PySem.mem_of_lookup h2)
 .have hy:scope.names.lookup y=some .cell\/scope.names.lookup y=some .free:=hy;rcases hy with hy|hy
  .exact Oq hy
  .exact cO rfl (S.yQ _ (PySem.mem_of_lookup hy))
 .exact Mn (x.above y c (PySem.mem_of_lookup h))
 .have hi:i<vs.length:=by
   unfold start at h2;by_cases hi:i<vs.length
   .exact hi
   .rw[qE (by simpa using hi)] at h2
    rw[Mp] at h2;split at h2 <;> cases h2
  have ha:vs[i]?=some v:=by
   unfold start at h2;rw[sT (by simpa using hi),dR] at h2
   cases e:vs[i]? with
   |none=>rw[e] at h2;cases h2
   |some a=>rw[e] at h2;cases h2;rfl
  obtain⟨u,hu,rv⟩:=r.get ha;have hp:ps[i]?=some y:=by
   rw[<-S.pre,List.getElem?_take_of_lt (by lia)];exact h1
  have Sh:ps.Nodup:=by rw[<-S.pre];exact S.nd.sublist (List.take_sublist _ _)
  refine⟨u,rv,?_⟩;rcases S.par y (sU hp) with k|k
  .exact .inl ⟨k,NP Sh hp hu k⟩
  .obtain⟨c,e⟩:=Oq (n:=s.heap.objs.size+1) k;refine .inr ⟨.inl k,c,e,?_⟩;have q:=x.cell y c e;rw[NQ Sh hp hu (by show scope.names.lookup y≠_;rw[k];decide)] at q
   exact q
 .exact e0.bw.fresh (Mn (x.above y c (PySem.mem_of_lookup h)))
 .unfold start;show _=N.length
  simp_all
def e8q{name:Str}{params:Arguments}{body:List Stmt}{dV kV doc pm fj ct oc:ai}{an od:ak aj}
  {pd:Array (ak ai)}  {sp:Sp} (lk:K.lookup f=some ⟨oc,od,.func (PySem.W.fnOf name qual params body scope dV kV doc pm an fj ct),pd⟩) (rY:PySem.W.codeIn K fj qual=true) (S:gm N ps scope)
  (len:∀vs H Q E,sp vs H Q E->vs.length=ps.length)
  (rW:∀(A:cN) (outer:List Env) (s:ax) (H:Hp) (vs:List V) (Q:VK) (E:XK),cz k (A.deeper (envOfC qual scope s.heap.objs.size f fj))->sp vs H Q E-> ∃t,iT (kU CX P w K mg base N qual scope f fj A outer s H E) body t/\t { nx:=λ_ H'=>Q .aI H',rt:=Q} (start N vs) H) :
  dz P w K mg base CX (k+1) f (PySem.W.fnOf name qual params body scope dV kV doc pm an fj ct) ps sp:=by
 refine⟨len,λA outer s H args us vs Q E hr e0 hb r vZ=>?_⟩
 have hl:=len _ _ _ _ vZ;have KX:K.In s.heap:=e0.mod.AI.keeps λb o e=>(e0.bs b o e).1
 have lim:s.heap.NoLimit:=e0.mod.nolimit.keeps λb o e=>(e0.bs b o e).1
 have CV:∀y∈ps.zip us,scope.names.lookup y.1=some .local \/ (scope.names.lookup y.1=some .cell/\((cellsFrom (s.heap.objs.size+1) scope.names []).lookup y.1).isSome=true):=λ⟨n,v⟩ hy=>by
  rcases S.par n (List.of_mem_zip hy).1 with q|q
  .exact .inl q
  .exact .inr ⟨q,PySem.W.cellsFrom_some _ _ _ (.inl q)⟩
 refine codeAny_call_function hr.depth (KX _ _ lk) rfl S.co S.gen rfl (PySem.W.codeRec_of KX rY) (hb _ _ _ _ ?_);refine wpAny_newFunctionEnv_cells S.kind CV λenv he s1 x=>?_
 subst he;refine⟨lim.keeps x.toInCall.keep,codeAny_func ?_⟩;obtain⟨t,ht,hq⟩:=rW A outer s H vs Q E (hr.deeper _) vZ;have I:Inv (kU CX P w K mg base N qual scope f fj A outer s H E) [] (start N vs) H s1:=Uq S hr.hd e0 hl r x;refine wpAny_mono (ht [] s1 (start N vs) H _ I hq) (λfl s' hs=>?_) λe s' hs=>hs
 have fin:∀{Z':St} {H':Hp} {v:V} {u:ai},Inv (kU CX P w K mg base N qual scope f fj A outer s H E) [] Z' H' s'->RelV v u->Q v H'->CE outer P w H s Q u s':=
  λ{Z' H' v u} J rv q=>⟨v,H',J.os,J.bare,J.base,J.bw,rv,q⟩
 cases fl with
 |ret u=>
  obtain⟨v,Z',H',J,rv,q⟩:=hs;exact fin J rv q
 |next=>
  obtain⟨Z',H',J,q⟩:=hs;exact fin (v:=V.aI) (u:=Value.none) J rfl q
 |brk=>
  obtain⟨_,_,_,q⟩:=hs;exact False.elim q
 |cont=>
  obtain⟨_,_,_,q⟩:=hs;exact False.elim q
section
variable{X:Cx}{x:Str}{p pos:Pos}{e:Expr}{es:List Expr}{t:TA}{id T:String}{r:List V->Hp->VK->Prop}
def SF(r:List V->Hp->VK->Prop)(t:TA):TE:=λZ H Q=>t Z H λvs H1=>r vs H1 Q
def VD(hc:bT X (.builtin id) r)(hg:Gl X x)(hm:X.mg x=none)(hv:bootBuiltins x=some (.builtin id))(ha:PA X (e::es) t)(hn:x≠"__name__":=by decide)(kX:(x == ("__debug__":Str))=false:=by decide)
  (he:starEach (e::es) X.env=(false,eval e X.env)::starEach es X.env:=by rfl) (jP:(backTo pos (starEach es X.env)).any (·.1)=false:=by rfl):PE X (.Call (.Name x p) (e::es) [] pos) (SF r t):=by
 intro aa s Z H Q I h;refine wpAny_Call_Name_kw (vK I hg hm hv ?_ hn kX);exact PyProof.Rows.callWith_builtin1 (bL (ha pos aa s Z H _ I h) λus s1 ⟨vs,H1,I1,r1,q1⟩=>hc aa s1 Z H1 vs us Q I1 r1 q1) he jP
def Ur(hc:bT X (.type T) r)(hg:Gl X x)(hm:X.mg x=none)(hv:bootBuiltins x=some (.type T))(ha:PA X (e::es) t)(hn:x≠"__name__":=by decide)(kX:(x == ("__debug__":Str))=false:=by decide)
  (he:starEach (e::es) X.env=(false,eval e X.env)::starEach es X.env:=by rfl) (jP:(backTo pos (starEach es X.env)).any (·.1)=false:=by rfl):PE X (.Call (.Name x p) (e::es) [] pos) (SF r t):=by
 intro aa s Z H Q I h;refine wpAny_Call_Name_kw (vK I hg hm hv ?_ hn kX);exact PyProof.Rows.callWith_type1 (bL (ha pos aa s Z H _ I h) λus s1 ⟨vs,H1,I1,r1,q1⟩=>hc aa s1 Z H1 vs us Q I1 r1 q1) he jP
end
end L2
namespace HT
open PySem PyProof.Rows
section
open PySem.SeqAt
open PySem.AutoSeq1 (wpAny_loadPart')
open PySem.MeetsSeq PySem.MeetsSeq2 PySem.MeetsSeq3
end
variable{sl:aj}{vl vu:ai}{lo hi:ak Int}
section
variable{prog:dc}{w:cD}{A:cN}{E:ai->ax->Prop}{s:ax}
def cP(n d:Nat):ak Int->Nat
 |none=>d
 |some v=>if v<0 then(v+(n:Int)).toNat else min v.toNat n
def μ(n d:Nat)(hd:d<=n)(o:ak Int):cP n d o<=n:=by
 cases o with
 |none=>exact hd
 |some v=>
  show(if v<0 then(v+(n:Int)).toNat else min v.toNat n)<=n
  by_cases hv:v<0
  .rw[bM hv];lia
  .rw[bc hv];exact Nat.min_le_right _ _
def Pp(v:Int)(n d:Nat):(if v<0 then max (v+(n:Int)) 0 else min v (n:Int))=((cP n d (some v):Nat):Int):=by
 show(if v<0 then max (v+(n:Int)) 0 else min v (n:Int))=(((if v<0 then(v+(n:Int)).toNat else min v.toNat n):Nat):Int)
 by_cases hv:v<0
 .simp only[bM hv];lia
 .simp only[bc hv];lia
def TB(lo hi:ak Int)(n:Nat):Builtin.Slice.sliceAdjust lo hi 1 (n:Int)=(((cP n 0 lo:Nat):Int),((cP n n hi:Nat):Int)):=by
 have h1:¬((1:Int)<0):=by lia
 unfold Builtin.Slice.sliceAdjust;simp only[h1,jK];refine Prod.ext ?_ ?_
 .cases lo with
  |none=>rfl
  |some v=>exact Pp v n 0
 .cases hi with
  |none=>rfl
  |some v=>exact Pp v n n
def TC(i j:Nat):Builtin.Slice.slicePlaces (i:Int) (j:Int) 1=j - i:=by
 unfold Builtin.Slice.slicePlaces;have h1:(1:Int) > 0:=by lia
 simp only[h1,pJ,Int.ediv_one];split <;> lia
def Nx{v:ai}{o:ak Int}{Q:ak Int->ax->Prop}(p:IsPart v o)(h:Q o s):wpAny (model prog w) A (Builtin.Slice.slicePartIndex v) Q E s:=by
 cases p with
 |none=>exact slicePart_none h
 |int i t=>exact slicePart_int h
def SS{n:Nat}{Q:Int×Int×Nat->ax->Prop}(hs:s.heap.IsSliceOf sl vl vu .none)(pl:IsPart vl lo)(pu:IsPart vu hi)
  (h:Q (((cP n 0 lo:Nat):Int),1,cP n n hi - cP n 0 lo) s):wpAny (model prog w) A (Builtin.Slice.sliceApplied (.ref sl) (pure (n:Int))) Q E s:=by
 obtain⟨os,C0,GV,GW⟩:=id hs;unfold Builtin.Slice.sliceApplied Builtin.Slice.sliceFields;refine ay (ay (wpAny_field C0 GW (x:=vl) rfl (ay (wpAny_field C0 GW (x:=vu) rfl (ay (wpAny_field C0 GW (x:=.none) rfl (aX ?_)))))));refine ay (slicePart_none ?_);show wpAny _ _ (if((1:Int) == 0)=true then _ else _) _ _ s
 rw[bc (by decide)]
 refine ay (Nx pl (ay (Nx pu (ay (aX ?_)))));show wpAny _ _ (match Builtin.Slice.sliceAdjust lo hi 1 (n:Int) with|(lo,hi)=>pure (lo,(1:Int),Builtin.Slice.slicePlaces lo hi 1)) _ _ s
 rw[TB lo hi n];show wpAny _ _ (pure (((cP n 0 lo:Nat):Int),(1:Int),Builtin.Slice.slicePlaces ((cP n 0 lo:Nat):Int) ((cP n n hi:Nat):Int) 1)) _ _ s;rw[TC];exact aX h
def VE(xs:Array ai)(i k:Nat):((List.range k).filterMap λ(m:Nat)=>xs[((i:Int)+(m:Int)*1).toNat]?).toArray=((xs.toList.drop i).take k).toArray:=by
 have e:(λ(m:Nat)=>xs[((i:Int)+(m:Int)*1).toNat]?)=λm=>xs[i+m]?:=by
  funext m;have:((i:Int)+(m:Int)*1).toNat=i+m:=by lia
  rw[this]
 rw[e];have:=pick_run xs i k;rw[List.filterMap_map] at this;have e2:((λx=>xs[x]?)∘λx=>i+x)=λm=>xs[i+m]?:=rfl
 rw[e2] at this;rw[this]
def iH{t:aj}{items:Array ai}{Q:ai->ax->Prop}(ht:IsTup s.heap t items)(hs:s.heap.IsSliceOf sl vl vu .none)(pl:IsPart vl lo)(pu:IsPart vu hi)
  (hw:¬(cP items.size 0 lo=0/\cP items.size items.size hi=items.size))
  (h:Q (.ref s.heap.objs.size) { s with heap:=s.heap.push { cls:=.type "tuple",data:=.seq ((items.toList.drop (cP items.size 0 lo)).take (cP items.size items.size hi - cP items.size 0 lo)).toArray}})
  (hsz:items.size<=sizeLine):wpAny (model prog w) A (getItem (.ref t) (.ref sl)) Q E s:=by
 have o7:sizeOk (.seq ((items.toList.drop (cP items.size 0 lo)).take (cP items.size items.size hi - cP items.size 0 lo)).toArray):=by
  show((items.toList.drop (cP items.size 0 lo)).take (cP items.size items.size hi - cP items.size 0 lo)).toArray.size<=sizeLine;rw[fm,wK,AY,Ey];lia
 have hj:cP items.size items.size hi<=items.size:=μ _ _ (bY _) hi;obtain⟨os,C0,GV,GW⟩:=id hs;have hTs:s.TypeIs (.ref sl) "slice":=⟨os,C0,GV⟩;unfold getItem;try with_reducible refine ju ?_
 first|refine ay (aX ?_)|skip
 refine ay (wpAny_sequenceKey ht.typeIs (by decide) ?_)
 refine ay (wpAny_callSpecial?_slot (name:=Str.ofString "__getitem__") ht.typeIs PyProof.Rows.slot_tuple_getitem (wpAny_call_entry PyProof.Rows.slot_tuple_getitem ht.typeIs entry_tuple_getitem ?_ (args_tuple_getitem _ _)))
 show wpAny _ _ (Builtin.Tuple.tupleItemsOf (.ref t) >>= _) _ _ s;refine ay (tupleItemsOf_ ht ?_);refine ay (wpAny_typeOf hTs ?_);rw[bM (by decide)]
 refine ay (SS hs pl pu ?_);have tN:¬((((cP items.size 0 lo:Nat):Int) == 0&&(1:Int) == 1&&(cP items.size items.size hi - cP items.size 0 lo) == items.size)=true):=by
  lia
 show wpAny _ _ (if(((cP items.size 0 lo:Nat):Int) == 0&&(1:Int) == 1&&(cP items.size items.size hi - cP items.size 0 lo) == items.size)=true then _ else _) _ _ s
 rw[bc tN,VE];first
  |exact ay (m:=Builtin.Tuple.tupleExact _) (wpAny_newObj_type (aX ⟨_,rfl,aX h⟩) o7)
  |exact ay (m:=Builtin.Tuple.tupleExact _) (wpAny_newObj_type (ay (aX (aX ⟨_,rfl,aX h⟩))) o7)
  |exact ay (ay (m:=Builtin.Tuple.tupleExact _) (wpAny_newObj_type (aX (aX ⟨_,rfl,aX h⟩)) o7))
  |exact ay (ay (m:=Builtin.Tuple.tupleExact _) (wpAny_newObj_type (aX ⟨_,rfl,aX h⟩) o7))
end
end HT
namespace L2
open PySem PySem.Spec PyProof.Rows
variable{r:V->ak Int->ak Int->Hp->VK->Prop}
abbrev TO:=St->Hp->(ak Int->Hp->Prop)->Prop
def PO(X:Cx)(e:ak Expr)(t:TO):Prop:=
 ∀(aa:List (aj×Obj)) (s:ax) (Z:St) (H:Hp) (Q:ak Int->Hp->Prop),Inv X aa Z H s->t Z H Q->
  wpAny (model X.prog X.w) X.A (evalPart e X.env) (λu s'=>∃o H',Inv X aa Z H' s'/\IsPart u o/\Q o H') X.xe s
def Xy:TO:=λ_ H Q=>Q none H
def Eg(t:TE):TO:=λZ H Q=>t Z H λx H1=>∃i,x=.int i/\Q (some i) H1
section
variable{X:Cx}{e:Expr}{te:TE}{lo hi:ak Expr}{tl th:TO}{pos p2:Pos}
def Xz:PO X none Xy:=by
 intro aa s Z H Q I h;rw[evalPart_none];exact aX ⟨none,H,I,.none,h⟩
def XA(h:PE X e te):PO X (some e) (Eg te):=by
 intro aa s Z H Q I hw;rw[evalPart_some];refine bL (h aa s Z H _ I hw) λu s1 hh=>?_
 obtain⟨x,H1,I1,r1,q1⟩:=hh;obtain⟨i,rfl,q⟩:=q1;obtain⟨t,rfl⟩:=r1;exact⟨some i,H1,I1,.int i t,q⟩
def rn(X:Cx)(r:V->ak Int->ak Int->Hp->VK->Prop):Prop:=
 ∀(aa:List (aj×Obj)) (s:ax) (Z:St) (H:Hp) (x:V) (v vl vu:ai) (lo hi:ak Int) (sl:aj) (Q:VK),Inv X aa Z H s->RelV x v->s.heap.IsSliceOf sl vl vu .none->IsPart vl lo->IsPart vu hi->r x lo hi H Q->
  ∃T id,typeLookup (.type T) "__getitem__"=pure (some (.builtin id))/\s.TypeIs v T/\wpAny (model X.prog X.w) X.A (getItem v (.ref sl)) (EP X aa Z Q) X.xe s
def rn.or{r':V->ak Int->ak Int->Hp->VK->Prop}(h:rn X r)(h':rn X r'):rn X (λx lo hi H Q=>r x lo hi H Q\/r' x lo hi H Q):=by
 intro aa s Z H x v vl vu lo hi sl Q I rx hs pl pu q;rcases q with q|q
 .exact h aa s Z H x v vl vu lo hi sl Q I rx hs pl pu q
 .exact h' aa s Z H x v vl vu lo hi sl Q I rx hs pl pu q
def tSl(r:V->ak Int->ak Int->Hp->VK->Prop)(te:TE)(tl th:TO):TE:=λZ H Q=>te Z H λx H1=>tl Z H1 λl H2=>th Z H2 λu H3=>r x l u H3 Q
def VF(hr:rn X r)(he:PE X e te)(hl:PO X lo tl)(hu:PO X hi th):PE X (.Subscript e (.Slice lo hi none p2) pos) (tSl r te tl th):=by
 intro aa s Z H Q I h;refine Subscript_ (bL (he aa s Z H _ I h) λv s1 hh=>?_)
 obtain⟨x,H1,I1,r1,q1⟩:=hh;refine wpAny_Slice (bL (hl aa s1 Z H1 _ I1 q1) λvl s2 ⟨l,H2,I2,pl,q2⟩=>bL (hu aa s2 Z H2 _ I2 q2) λvu s3 ⟨u,H3,I3,pu,q3⟩=>?_)
 rw[evalPart_none];refine aX ?_;have I4:Inv X aa Z H3 { s3 with heap:=s3.heap.push { cls:=.type "slice",data:=.fields #[vl,vu,.none]}}:=I3.kept (t':=s3.toks) λb ob q=>cZ _ q
 obtain⟨T,id,hT,ht,hg⟩:=hr aa { s3 with heap:=s3.heap.push { cls:=.type "slice",data:=.fields #[vl,vu,.none]}} Z H3 x v vl vu l u s3.heap.objs.size Q I4 r1 (Heap.IsSliceOf.new ..) pl pu q3;show wpAny (model X.prog X.w) X.A (subscriptTail e (.Slice lo hi none p2) v (.ref s3.heap.objs.size)) (EP X aa Z Q) X.xe { s3 with heap:=s3.heap.push { cls:=.type "slice",data:=.fields #[vl,vu,.none]}};exact tail_any (ops:=[.ref s3.heap.objs.size,v]) ht hT hg (by with_unfolding_all rfl)
noncomputable def m7(xs:List V)(lo hi:ak Int):List V:=(xs.drop (HT.cP xs.length 0 lo)).take (HT.cP xs.length xs.length hi - HT.cP xs.length 0 lo)
def Nj(xs:List V)(lo hi:ak Int):(m7 xs lo hi).length<=xs.length:=by
 unfold m7;rw[wK,AY];lia
def zf(K:aL):V->ak Int->ak Int->Hp->VK->Prop:=λx lo hi H Q=>∃a xs,x=.ref a/\iB K H a xs/\
 ¬(HT.cP xs.length 0 lo=0/\HT.cP xs.length xs.length hi=xs.length)/\∀p,H p=none->Q (.ref p) (upd H p (.tup (m7 xs lo hi)))
def ν:rn X (zf X.K):=by
 intro aa s Z H x v vl vu lo hi sl Q I rx hs pl pu h;obtain⟨a,xs,rfl,hx,hw,q⟩:=h;cases rx;obtain⟨aG,r,ht,hz⟩:=I.tuple hx;have hlen:aG.toArray.size=xs.length:=by rw[fm];exact r.length.symm
 refine⟨"tuple",_,PyProof.Rows.slot_tuple_getitem.lookup,ht.typeIs,?_⟩;refine HT.iH ht hs pl pu (by rw[hlen];exact hw) ?_ (by rw[hlen];exact hz)
 rw[hlen];refine⟨.ref s.heap.objs.size,_,I.laid (t':=s.toks) (o:=.tup (m7 xs lo hi)) (λb ob q=>cZ _ q) (bY _) ?_,rfl,q _ (I.bw.fresh (bY _))⟩
 exact⟨jt (Nj xs lo hi) hz,_,(r.drop (HT.cP xs.length 0 lo)).take (HT.cP xs.length xs.length hi - HT.cP xs.length 0 lo),IsTup.new _ _⟩
end
variable{n j:Nat}{i:Int}{r:R2}{aa:List (aj×Obj)}{Z:St}{H:Hp}{s:ax}
def uL(n:Nat)(i:Int):ak Nat:=if 0<=i then(if i<n then some i.toNat else none) else if -(n:Int)<=i then some (i+n).toNat else none
def dq{α:Type}(xs:List α)(i:Int):ak α:=(uL xs.length i).bind λj=>xs[j]?
def Pq(h:uL n i=some j):seqIndex? i n=some j/\j<n /\ -(n:Int)<=i/\i<n:=by
 unfold uL at h;by_cases h0:0<=i
 .rw[bM h0] at h;by_cases h1:i<n
  .rw[bM h1] at h;have e:i.toNat=j:=Option.some.inj h;exact⟨by rw[seqIndex_of h0 h1,e],by lia,by lia,h1⟩
  .rw[bc h1] at h;cases h
 .rw[bc h0] at h;by_cases h1:-(n:Int)<=i
  .rw[bM h1] at h;have e:(i+n).toNat=j:=Option.some.inj h;exact⟨by rw[seqIndex_neg (by lia) h1,e],by lia,h1,by lia⟩
  .rw[bc h1] at h;cases h
def Jq{α:Type}{xs:List α}{v:α}(h:dq xs i=some v):∃j,seqIndex? i xs.length=some j/\xs[j]?=some v/\j<xs.length /\ -(xs.length:Int)<=i/\i<xs.length:=by
 unfold dq at h;cases e:uL xs.length i with
 |none=>rw[e] at h;cases h
 |some j=>
  rw[e] at h;obtain⟨h1,h2,h3,h4⟩:=Pq e;exact⟨j,h1,h,h2,h3,h4⟩
def rG{α:Type}{xs:List α}{v:α}(h:xs[j]?=some v):dq xs (j:Int)=some v:=by
 have hj:j<xs.length:=(eW.mp h).1;have e:uL xs.length (j:Int)=some j:=by
  unfold uL;rw[bM (by lia),bM (by lia)];simp
 unfold dq;rw[e];exact h
def Jr(b:Expr):Prop:=∀o i,subscripted b false o i=operate [o,i] (getItem o i)
def pW(X:Cx)(r:R2):Prop:=
 ∀(value slice:Expr) (aa:List (aj×Obj)) (s:ax) (Z:St) (H:Hp) (x y:V) (v u:ai) (Q:VK),Inv X aa Z H s->RelV x v->RelV y u->r x y H Q->
  subscripted slice false v u=operate [v,u] (getItem v u)->wpAny (model X.prog X.w) X.A (subscriptTail value slice v u) (EP X aa Z Q) X.xe s
def EJ(X:Cx)(id:String)(r:V->List V->Hp->VK->Prop):Prop:=
 ∀(aa:List (aj×Obj)) (s:ax) (Z:St) (H:Hp) (x:V) (xs:List V) (v:ai) (us:List ai) (Q:VK),Inv X aa Z H s->RelV x v->Vals xs us->r x xs H Q->
  wpAny (model X.prog X.w) X.A (call (.builtin id) (v::us)) (EP X aa Z Q) X.xe s
section
variable{X:Cx}{a b:Expr}{ta tb:TE}{pos:Pos}
def pW.or{r':R2}(h:pW X r)(h':pW X r'):pW X (λx y H Q=>r x y H Q\/r' x y H Q):=by
 intro value slice aa s Z H x y v u Q I rx ry q hs;rcases q with q|q
 .exact h value slice aa s Z H x y v u Q I rx ry q hs
 .exact h' value slice aa s Z H x y v u Q I rx ry q hs
def e8r(hr:pW X r)(ha:PE X a ta)(hb:PE X b tb)(hs:Jr b):PE X (.Subscript a b pos) (Hk r ta tb):=by
 intro aa s Z H Q I h;exact Subscript_ (x6 ha hb I h λv u s2 x y H2 I2 rx ry q=>hr a b aa s2 Z H2 x y v u Q I2 rx ry q (hs _ _))
def y9(K:aL):R2:=λx y H Q=>∃p xs i v,x=.ref p/\y=.int i/\c8 K H p xs/\dq xs i=some v/\Q v H
def y_(K:aL):R2:=λx y H Q=>∃p xs i v,x=.ref p/\y=.int i/\iB K H p xs/\dq xs i=some v/\Q v H
def DE:R2:=λx y H Q=>∃z i c,x=.str z/\y=.int i/\z.length<=sizeLine/\dq z.cps.toList i=some c/\Q (.str ⟨#[c]⟩) H
def XB:pW X (y9 X.K):=by
 intro value slice aa s Z H x y v u Q I rx ry h hs;obtain⟨p,xs,i,z,rfl,rfl,hq,he,q⟩:=h;cases rx;obtain⟨t,rfl⟩:=ry;obtain⟨aG,r,pl,hz⟩:=I.list hq;obtain⟨j,h1,h2,h3,h4,h5⟩:=Jq he;obtain⟨w,ew,mr⟩:=r.get h2;have hl:=r.length;have hn:=xQ;have fin:EP X aa Z Q w s:=⟨z,H,I,mr,q⟩;by_cases h0:0<=i
 .have hj:i.toNat=j:=by
   rw[seqIndex_of h0 h5] at h1;exact Option.some.inj h1
  exact item_listR pl.isList h0 (by lia) (by rw[hj];simpa using ew) fin hs
 .have hj:(i+(aG.toArray.size:Int)).toNat=j:=by
   rw[seqIndex_neg (by lia) h4] at h1
   rw[fm,<-hl];exact Option.some.inj h1
  exact subscriptTail_builtinR (x:=w) pl.isList.typeIs slot_list_getitem.lookup
   (wpAny_getItem_list_neg (Q:=λr s'=>r=w/\EP X aa Z Q r s') pl.isList (by lia) (by rw[fm] <;> lia) (by lia) (by rw[hj];simpa using ew) ⟨rfl,fin⟩) hs
def ξ:pW X (y_ X.K):=by
 intro value slice aa s Z H x y v u Q I rx ry h hs;obtain⟨p,xs,i,z,rfl,rfl,hq,he,q⟩:=h;cases rx;obtain⟨t,rfl⟩:=ry;obtain⟨aG,r,pl,hz⟩:=I.tuple hq;obtain⟨j,h1,h2,h3,h4,h5⟩:=Jq he;obtain⟨w,ew,mr⟩:=r.get h2;have hl:=r.length;have hn:=xQ;have fin:EP X aa Z Q w s:=⟨z,H,I,mr,q⟩;exact subscriptTail_builtinR (x:=w) pl.typeIs slot_tuple_getitem.lookup
  (getItem_tuple (j:=j) (Q:=λr s'=>r=w/\EP X aa Z Q r s') pl (by lia) (by lia) (by rw[fm,<-hl];exact h1) (by simpa using ew) ⟨rfl,fin⟩) hs
def yI:pW X DE:=by
 intro value slice aa s Z H x y v u Q I rx ry h hs;obtain⟨z,i,c,rfl,rfl,hz,he,q⟩:=h;obtain⟨t,rfl⟩:=rx;obtain⟨t',rfl⟩:=ry;obtain⟨j,h1,h2,h3,h4,h5⟩:=Jq he;have hl:z.cps.toList.length=z.length:=by simp[Str.length]
 rw[hl] at h1 h4 h5;have hn:=xQ;exact tail_any (typeIs_str s z t) slot_str_getitem.lookup (getItem_str (c:=c) (by
  lia) (by rw[h1];simpa using h2) ⟨.str ⟨#[c]⟩,H,I.tok _,⟨_,rfl⟩,q⟩) hs
def TF(aG:List ai)(n j:Nat)(u:ai):Obj.mapSeq (·.setIfInBounds j u) { cls:=.type "list",data:=.seq aG.toArray n}={ cls:=.type "list",data:=.seq (aG.set j u).toArray n}:=by
 simp[Obj.mapSeq]
def Inv.lst{aa:List (aj×Obj)}{Z:St}{H:Hp}{s:ax}{p:aj}{xs:List V}(I:Inv X aa Z H s)(h:H p=some (.lst xs)):
  ∃(aG:List ai) (n:Nat),Vals xs aG/\s.heap.get? p=some { cls:=.type "list",data:=.seq aG.toArray n}/\xs.length<=sizeLine:=by
 obtain⟨z,aG,n,r,e⟩:=I.bw p _ h;exact⟨aG,n,r,e,z⟩
def Inv.yM{p:aj}{xs ys:List V}{aG its':List ai}{n':Nat}{f:Obj->Obj}(I:Inv X aa Z H s)(h:H p=some (.lst xs))
  (ho:s.heap.get? p=some { cls:=.type "list",data:=.seq aG.toArray n}) (hf:f { cls:=.type "list",data:=.seq aG.toArray n}={ cls:=.type "list",data:=.seq its'.toArray n'}) (r:Vals ys its') (hz:ys.length<=sizeLine) (t:Nat) :
  Inv X aa Z (upd H p (.lst ys)) { s with heap:=s.heap.update p f,toks:=t}:=by
 have e:(s.heap.update p f).get? p=some { cls:=.type "list",data:=.seq its'.toArray n'}:=by
  rw[qF f ho (by rw[hf] <;> rfl),hf]
 refine I.write (x:=p) (e:=p) (by rw[h];trivial) (.inl rfl) (λb u hb q=>(oF _ _ (Ne.symm hb)).trans q) ⟨_,e⟩ ?_
 exact⟨hz,its',n',r,e⟩
def wB:V->V->V->Hp->(Hp->Prop)->Prop:=λo i v H Q=>∃p xs k j,o=.ref p/\i=.int k/\H p=some (.lst xs)/\uL xs.length k=some j/\Q (upd H p (.lst (xs.set j v)))
def VG:uc X wB:=by
 intro aa s Z H o i v ov iv u Q I ro ri rv h;obtain⟨p,xs,k,j,rfl,rfl,hp,hj,q⟩:=h;cases ro;obtain⟨t,rfl⟩:=ri;obtain⟨aG,n,r,ho,hz⟩:=I.lst hp;obtain⟨h1,h2,h3,h4⟩:=Pq hj;have hl:=r.length;have hn:=xQ;have I':Inv X aa Z (upd H p (.lst (xs.set j v))) { s with heap:=s.heap.update p (Obj.mapSeq (·.setIfInBounds j u))}:=
  I.yM hp ho (TF aG n j u) (r.set rv j) (by rw[t5];exact hz) s.toks
 by_cases h0:0<=k
 .have hk:k.toNat=j:=by
   rw[seqIndex_of h0 h4] at h1;exact Option.some.inj h1
  exact PySem.W.ki_setAt ho h0 (by lia) (by rw[fm,<-hl];exact h4) (by rw[hk];exact⟨_,I',q⟩)
 .have hk:(k+(aG.toArray.size:Int)).toNat=j:=by
   rw[seqIndex_neg (by lia) h3] at h1
   rw[fm,<-hl];exact Option.some.inj h1
  exact PySem.W.ki_setBack ho (by lia) (by rw[fm,<-hl];exact h3) (by lia) (by rw[hk];exact⟨_,I',q⟩)
def Tb(lo hi:ak Int)(n:Nat):(sliceBounds lo hi none n).1=((HT.cP n 0 lo:Nat):Int)/\(sliceBounds lo hi none n).2.1=((HT.cP n n hi:Nat):Int)/\(sliceBounds lo hi none n).2.2=1:=by
 refine⟨?_,?_,rfl⟩
 .cases lo with
  |none=>simp[sliceBounds,HT.cP]
  |some i=>
   simp only[sliceBounds,HT.cP,Option.getD_none,show(1:Int) > 0 by decide,pJ]
   by_cases h:i<0
   .simp only[h,pJ] <;> lia
   .simp only[h,jK] <;> lia
 .cases hi with
  |none=>simp[sliceBounds,HT.cP]
  |some i=>
   simp only[sliceBounds,HT.cP,Option.getD_none,show(1:Int) > 0 by decide,pJ]
   by_cases h:i<0
   .simp only[h,pJ] <;> lia
   .simp only[h,jK] <;> lia
def S6(aG:List ai)(lo hi:ak Int):slicePick aG.toArray lo hi none=((aG.drop (HT.cP aG.length 0 lo)).take (HT.cP aG.length aG.length hi - HT.cP aG.length 0 lo)).toArray:=by
 obtain⟨h1,h2,h3⟩:=Tb lo hi aG.toArray.size;unfold slicePick;rw[h1,h2,h3];simp only[sliceRange_one,pick_run,fm] <;> rfl
def ze(K:aL):V->ak Int->ak Int->Hp->VK->Prop:=λx lo hi H Q=>∃a xs,x=.ref a/\c8 K H a xs/\∀p,H p=none->Q (.ref p) (upd H p (.lst (m7 xs lo hi)))
def XC:rn X (ze X.K):=by
 intro aa s Z H x v vl vu lo hi sl Q I rx hs pl pu h;obtain⟨a,xs,rfl,hx,q⟩:=h;cases rx;obtain⟨aG,r,ht,hz⟩:=I.list hx;have hlen:=r.length;refine⟨"list",_,slot_list_getitem.lookup,ht.isList.typeIs,?_⟩;refine wpAny_getItem_list_slice ht.isList hs pl pu .none (by simp) ?_ (by rw[fm] <;> lia)
 rw[S6,<-hlen];refine⟨.ref s.heap.objs.size,_,I.laid (t':=s.toks) (o:=.lst (m7 xs lo hi)) (λb ob q=>cZ _ q) (bY _) ?_,rfl,q _ (I.bw.fresh (bY _))⟩
 exact⟨jt (Nj xs lo hi) hz,_,0,(r.drop (HT.cP xs.length 0 lo)).take (HT.cP xs.length xs.length hi - HT.cP xs.length 0 lo),iR _ rfl⟩
def Tc:bT X (.builtin "len") (λxs H Q=>∃p ys,xs=[.ref p]/\(c8 X.K H p ys\/iB X.K H p ys)/\Q (.int ys.length) H):=by
 intro aa s Z H xs us Q I r h;obtain⟨p,ys,rfl,hq,q⟩:=h;obtain⟨u,rfl,rx⟩:=vals1 r;cases rx;have hn:=xQ;rcases hq with hq|hq
 .obtain⟨aG,r',pl,hz⟩:=I.list hq;have hlen:=r'.length;exact Calls.call_len_list pl.isList (by simp only[fm] <;> lia) ⟨.int ys.length,H,I.tok _,⟨s.toks+1,by rw[fm,hlen]⟩,q⟩
 .obtain⟨aG,r',pl,hz⟩:=I.tuple hq;have hlen:=r'.length;exact len_tuple pl (by simp only[fm] <;> lia) ⟨.int ys.length,H,I.tok _,⟨s.toks+1,by rw[fm,hlen]⟩,q⟩
def lV:bT X (.builtin "len") (λxs H Q=>∃z,xs=[.str z]/\z.length<=sizeLine/\Q (.int z.length) H):=by
 intro aa s Z H xs us Q I r h;obtain⟨z,rfl,hz,q⟩:=h;obtain⟨u,rfl,t,rfl⟩:=vals1 r;have hn:=xQ;exact len_str (by lia) ⟨.int z.length,H,I.tok _,⟨_,rfl⟩,q⟩
def bT.or{f:ai}{r r':List V->Hp->VK->Prop}(h:bT X f r)(h':bT X f r'):bT X f (λxs H Q=>r xs H Q\/r' xs H Q):=by
 intro aa s Z H xs us Q I rs q;rcases q with q|q
 .exact h aa s Z H xs us Q I rs q
 .exact h' aa s Z H xs us Q I rs q
def Td:bT X (.type "list") (λxs H Q=>∃p ys,xs=[.ref p]/\(c8 X.K H p ys\/iB X.K H p ys)/\∀l,H l=none->Q (.ref l) (upd H l (.lst ys))):=by
 intro aa s Z H xs us Q I r h;obtain⟨p,ys,rfl,hq,q⟩:=h;obtain⟨u,rfl,rx⟩:=vals1 r;cases rx;have fin:∀(aG:List ai),Vals ys aG->ys.length<=sizeLine->∀(h':bZ) (c':Nat),(∀b o',s.heap.get? b=some o'->h'.get? b=some o')->
   h'.get? s.heap.objs.size=some { cls:=.type "list",dict:=none,data:=.seq aG.toArray c',slots:=#[]}->EP X aa Z Q (.ref s.heap.objs.size) { s with heap:=h'}:=λaG r' hz h' c' kp e=>
  ⟨.ref s.heap.objs.size,_,I.laid (t':=s.toks) kp (bY _) (show bf X.prog X.w _ h' _ (.lst ys) from⟨hz,aG,c',r',e⟩),rfl,q _ (I.bw.fresh (bY _))⟩
 rcases hq with hq|hq
 .obtain⟨aG,r',pl,hz⟩:=I.list hq;have hlen:=r'.length;obtain⟨o,ho,hc,n,hd⟩:=pl.isList;exact call_list_seq p (.inl rfl) ho hc hd (λh' c' kp e=>fin aG r' hz h' c' kp e) (by simp only[fm] <;> lia)
 .obtain⟨aG,r',pl,hz⟩:=I.tuple hq;have hlen:=r'.length;obtain⟨o,ho,hc,n,hd⟩:=pl;exact call_list_seq p (.inr rfl) ho hc hd (λh' c' kp e=>fin aG r' hz h' c' kp e) (by simp only[fm] <;> lia)
def Em(K:aL)(T:String)(x:V)(H:Hp):Prop:=match x with
 |.str _=>T="str"
 |.int _=>T="int"
 |.ref p=>(T="list"/\∃xs,c8 K H p xs)\/(T="tuple"/\∃o,K.lookup p=some o/\o.cls=.type "tuple"/\o.dict=none)\/
   (T="dict"/\((∃kvs,H p=some (.dK kvs))\/(∃kvs,H p=some (.dT kvs))\/∃es ep,H p=some (.dG es ep)))\/(T="set"/\∃S n,H p=some (.set S n))
 |_=>False
def JH{T:String}{x:V}{v:ai}(I:Inv X aa Z H s)(r:RelV x v)(ty:Em X.K T x H):
  s.TypeIs v T/\∀a,v=.ref a->∃ob,s.heap.get? a=some ob/\ob.dict=none:=by
 cases x with
 |str z=>
  obtain⟨t,rfl⟩:=r;cases(show T="str" from ty);exact⟨typeIs_str s z t,λ_ e=>nomatch e⟩
 |int i=>
  obtain⟨t,rfl⟩:=r;cases(show T="int" from ty);exact⟨typeIs_int s i t,λ_ e=>nomatch e⟩
 |ref p=>
  cases r;rcases ty with⟨rfl,xs,hq⟩|⟨rfl,o,hk,hc,hd⟩|⟨rfl,hk⟩|⟨rfl,S,n,hk⟩
  .obtain⟨aG,_,pl,_⟩:=I.list hq;refine⟨pl.isList.typeIs,λa e=>?_⟩
   cases e;obtain⟨o,n,e,c,hd,_⟩:=pl;exact⟨o,e,hd⟩
  .refine⟨⟨o,I.jQ p o hk,hc⟩,λa e=>?_⟩
   cases e;exact⟨o,I.jQ _ o hk,hd⟩
  .have z:∃o,s.heap.get? p=some o/\o.ExactDict:=by
    rcases hk with⟨kvs,hk⟩|⟨kvs,hk⟩|⟨es,ep,hk⟩
    .obtain⟨_,_,_,_,o,_,_,e,ex,_⟩:=I.bw p _ hk;exact⟨o,e,ex⟩
    .obtain⟨_,_,_,_,o,_,_,e,ex,_⟩:=I.bw p _ hk;exact⟨o,e,ex⟩
    .obtain⟨_,_,o,_,e,ex,_⟩:=I.bw p _ hk;exact⟨o,e,ex⟩
   obtain⟨o,e,ex⟩:=z;refine⟨⟨o,e,ex.1⟩,λa e2=>?_⟩
   cases e2;exact⟨o,e,ex.2.1⟩
  .obtain⟨o,_,_,_,e,ex,_⟩:=I.bw p _ hk;refine⟨⟨o,e,ex.1⟩,λa e2=>?_⟩
   cases e2;exact⟨o,e,ex.2.1⟩
 |_=>exact False.elim ty
def Eb(K:aL)(T:String)(r:V->List V->Hp->VK->Prop)(to:TE):TE:=λZ H Q=>to Z H λx H1=>Em K T x H1/\r x [] H1 Q
def LQ(K:aL)(T:String)(r:V->List V->Hp->VK->Prop)(to:TE)(t:TA):TE:=λZ H Q=>to Z H λx H1=>Em K T x H1/\t Z H1 λxs H2=>r x xs H2 Q
variable{o e:Expr}{es:List Expr}{to:TE}{t:TA}{name:Str}{apos bS:Pos}{T id:String}{r:V->List V->Hp->VK->Prop}
def ο(pa:PlainAttrs T)(slot:Slot T name id)(sd:typeOf (.builtin id)=pure (.type "method_descriptor"))(hm:EJ X id r)(ho:PE X o to)
  (cJ:attributeBase o name X.env (eval o X.env)=eval o X.env:=by rfl) (cK:(apos.endLine == bS.line)=true:=by rfl):PE X (.Call (.Attribute o name apos) [] [] bS) (Eb X.K T r to):=by
 intro aa s Z H Q I h;refine wpAny_Call_method0_late cJ cK (bL (ho aa s Z H _ I h) λv s1 hh=>?_)
 obtain⟨x,H1,I1,r1,ty,q1⟩:=hh;obtain⟨h1,h2⟩:=JH I1 r1 ty;exact⟨T,id,pa,slot,sd,h1,h2,Calls.callWith_builtin rfl (PySem.evalArgs_none (hm aa s1 Z H1 x [] v [] Q I1 r1 .nil q1))⟩
def Rn(pa:PlainAttrs T)(slot:Slot T name id)(sd:typeOf (.builtin id)=pure (.type "method_descriptor"))(hm:EJ X id r)(ho:PE X o to)(ha:PA X (e::es) t)
  (cJ:attributeBase o name X.env (eval o X.env)=eval o X.env:=by rfl)
  (rZ:((backTo bS (starEach (e::es) X.env)).all (λx => !x.1)&&(backToKw bS (keywordEach [] X.env)).all (λx=>x.1.isSome) && decide ((e::es).length+([]:List Keyword).length+(if([]:List Keyword).isEmpty then 0 else 1)<30))=true:=by rfl)
  (cK:(apos.endLine == bS.line)=true:=by rfl) (hs:starEach (e::es) X.env=(false,eval e X.env)::starEach es X.env:=by rfl) (kq:(backTo bS (starEach es X.env)).any (·.1)=false:=by rfl) :
  PE X (.Call (.Attribute o name apos) (e::es) [] bS) (LQ X.K T r to t):=by
 intro aa s Z H Q I h;refine wpAny_Call_method_late cJ rZ cK rfl (bL (ho aa s Z H _ I h) λv s1 hh=>?_)
 obtain⟨x,H1,I1,r1,ty,q1⟩:=hh;obtain⟨h1,h2⟩:=JH I1 r1 ty;refine⟨T,id,pa,slot,sd,h1,h2,?_⟩;have hA:=ha bS aa s1 Z H1 _ I1 q1;rw[hs] at hA ⊢;refine Calls.callWith_builtin (by show(false || (backTo bS (starEach es X.env)).any (·.1))=false;rw[kq] <;> rfl) (Calls.evalArgs_plain ?_)
 exact bL hA λus s2 ⟨vs,H2,I2,r2,q2⟩=>hm aa s2 Z H2 x vs v us Q I2 r1 r2 q2
end
variable{x:V}{us aG:List ai}{t':Nat}
def w6(X:Cx)(id:String)(r:V->List V->Hp->VK->Prop):Prop:=
 ∀(aa:List (aj×Obj)) (s:ax) (Z:St) (H:Hp) (x:V) (xs:List V) (v:ai) (us:List ai) (Q:VK),Inv X aa Z H s->RelV x v->Vals xs us->r x xs H Q->
  wpAny (model X.prog X.w) X.A (call (.builtin id) (v::us)) (EP X aa Z Q) X.xe s
def Vals.one(h:Vals [x] us):∃u,us=[u]/\RelV x u:=by
 cases h with
 |cons r t=>
  cases t;exact⟨_,rfl,r⟩
def Vals.two{y:V}(h:Vals [x,y] us):∃u v,us=[u,v]/\RelV x u/\RelV y v:=by
 cases h with
 |cons r t=>
  obtain⟨v,rfl,q⟩:=Vals.one t;exact⟨_,_,rfl,r,q⟩
theorem Vals.zero:∀{us:List ai},Vals [] us->us=[]
 |_,.nil=>rfl
section
variable{X:Cx}{aa:List (aj×Obj)}{Z:St}{H:Hp}{s:ax}{l b:aj}{xs ys zs:List V}
def Inv.uN{its':List ai}{n:Nat}{f:Array ai->Array ai}(I:Inv X aa Z H s)(hH:H l=some (.lst xs))
  (e:s.heap.get? l=some { cls:=.type "list",data:=.seq aG.toArray n}) (hf:f aG.toArray=its'.toArray) (hv:Vals ys its') (hz:ys.length<=sizeLine) :
  Inv X aa Z (upd H l (.lst ys)) { s with heap:=s.heap.update l (Obj.mapSeq f),toks:=t'}:=by
 have q:=PySem.IsL.update e f;rw[hf] at q;refine I.write (x:=l) (e:=l) (by rw[hH];exact trivial) (.inl rfl) (λb' u hb hu=>(oF s.heap (Obj.mapSeq f) (Ne.symm hb)).trans hu) ⟨_,q⟩ ?_
 exact⟨hz,its',_,hv,q⟩
def Inv.Lb(I:Inv X aa Z H s)(hv:Vals ys aG)(hz:ys.length<=sizeLine):
  Inv X aa Z (upd H s.heap.objs.size (.lst ys)) { s with heap:=s.heap.push { cls:=.type "list",data:=.seq aG.toArray},toks:=t'}:=
 I.laid (λ_ _ q=>cZ _ q) (bY _) ⟨hz,aG,0,hv,iR _ rfl⟩
theorem Inv.fresh(I:Inv X aa Z H s):H s.heap.objs.size=none:=I.bw.fresh (bY _)
def Inv.uO(I:Inv X aa Z H s)(hH:H l=some (.lst xs)):xs.length<=sizeLine/\∃(aG:List ai) (n:Nat),Vals xs aG/\xs.length=aG.length/\s.heap.get? l=some { cls:=.type "list",data:=.seq aG.toArray n}:=by
 obtain⟨z,aG,n,r,e⟩:=I.bw l _ hH;exact⟨z,aG,n,r,r.length,e⟩
end
section
variable{X:Cx}
def Pu:V->List V->Hp->VK->Prop:=λx vs H Q=>∃l xs y,x=.ref l/\vs=[y]/\H l=some (.lst xs)/\xs.length<sizeLine/\Q .aI (upd H l (.lst (xs++[y])))
theorem Us:w6 X "list.append" Pu:=by
 intro aa s Z H x vs v us Q I rx rv h;obtain⟨l,xs,y,rfl,rfl,hH,hz,q⟩:=h;cases rx;obtain⟨u,rfl,ru⟩:=rv.one;obtain⟨z,aG,n,r,hl,e⟩:=I.uO hH;refine call_meets F.slot_list_append ⟨_,e,rfl⟩ F.entry_list_append (F.args_list_append_2 _ _) (PySem.list_append l aG.toArray n u (by rw[fm];lia)) ⟨e,?_⟩
 refine⟨.aI,_,I.uN (its':=aG++[u]) hH e (by simp) (r.append (.cons ru .nil)) ?_,rfl,q⟩
 rw[dw,t6];lia
def Qw:V->List V->Hp->VK->Prop:=λx vs H Q=>∃l xs,x=.ref l/\vs=[]/\H l=some (.lst xs)/\Q .aI (upd H l (.lst []))
theorem VH:w6 X "list.clear" Qw:=by
 intro aa s Z H x vs v us Q I rx rv h;obtain⟨l,xs,rfl,rfl,hH,q⟩:=h;cases rx;have hus:=rv.zero;subst hus;obtain⟨z,aG,n,r,hl,e⟩:=I.uO hH;refine call_meets F.slot_list_clear ⟨_,e,rfl⟩ F.entry_list_clear (F.args_list_clear_1 _) (AutoSeq1.list_clear_list_0 l aG.toArray n (by rw[fm];lia)) ⟨e,?_⟩
 exact⟨.aI,_,I.uN (its':=[]) (ys:=[]) hH e rfl .nil (k9 _),rfl,q⟩
end
section
variable{κ:Type}[DecidableEq κ]
def iA.qf{o:ak V}{u:ak ai}(r:iA o u):o.isSome=u.isSome:=by
 cases o with
 |none=>cases u with
  |none=>rfl
  |some _=>exact(show False from r).elim
 |some _=>cases u with
  |none=>exact(show False from r).elim
  |some _=>rfl
end
variable{X:Cx}{pos:Pos}
section
variable{X:Cx}{aa:List (aj×Obj)}{Z:St}{H:Hp}{s:ax}{a:aj}{y v:V}{u r:ai}{o:ak V}{A:cN}{E:ai->ax->Prop}
def Inv.big(I:Inv X aa Z H s):sysModules<s.heap.objs.size:=by
 have h:mainGlobals<s.heap.objs.size:=(I.mod.glob.keeps I.bk).lt;exact Nat.lt_trans (by decide) h
def Js{h':bZ}{t':Nat}{ob:HO}(I:Inv X aa Z H s)(mu:A' (H a))(hs:Heap.SameBut a s.heap h')(he:∃q,h'.get? a=some q)(new:bf X.prog X.w (upd H a ob) h' a ob):
  Inv X aa Z (upd H a ob) { s with heap:=h',toks:=t'}:=
 I.write (x:=a) (e:=a) mu (.inl rfl) (λb q hb z=>(hs.2 b hb).trans z) he new
end
def Ga:List (TE×TE)->St->Hp->(List (V×V)->Hp->Prop)->Prop
 |[],_,H,Q=>Q [] H
 |(tk,tv)::r,Z,H,Q=>tk Z H λx H1=>tv Z H1 λy H2=>Ga r Z H2 λps H3=>Q ((x,y)::ps) H3
abbrev VV:List (V×V)->List (ai×ai)->Prop:=Paired λp q=>RelV p.1 q.1/\RelV p.2 q.2
def zF(X:Cx)(pos:Pos)(keys:List (ak Expr))(values:List Expr)(vg:List (TE×TE)):Prop:=
 ∀(aa:List (aj×Obj)) (s:ax) (Z:St) (H:Hp) (Q:List (V×V)->Hp->Prop),Inv X aa Z H s->Ga vg Z H Q->
  wpAny (model X.prog X.w) X.A (evalPairs (pairTrees keys values X.env pos)) (λvs s'=>∃ps H',Inv X aa Z H' s'/\VV ps vs/\Q ps H') X.xe s
def uZ:zF X pos [] [] []:=λaa s Z H Q I h=>pairTrees_nil_walk ⟨[],H,I,.nil,h⟩
def sG{k v:Expr}{ks:List (ak Expr)}{vs:List Expr}{tk tv:TE}{vg:List (TE×TE)}(hk:PE X k tk)(hv:PE X v tv)(hr:zF X pos ks vs vg):
  zF X pos (some k::ks) (v::vs) ((tk,tv)::vg):=λaa s Z H Q I h=>
 pairTrees_cons_walk (bL (hk aa s Z H _ I h) λu s1 ⟨x,H1,I1,rx,q1⟩=>bL (hv aa s1 Z H1 _ I1 q1) λw2 s2 ⟨y,H2,I2,ry,q2⟩=> bL (hr aa s2 Z H2 _ I2 q2) λws s3 ⟨ps,H3,I3,rel,q3⟩=>⟨(x,y)::ps,H3,I3,.cons ⟨rx,ry⟩ rel,q3⟩)
end L2
namespace MK
open PySem PySem.W PySem.Calls PyProof.Rows
variable{P:Params}{h:bZ}{l:OpenLaw}{n:Nat}
def SV:∀(ns:List Int) (vs:List ai),WellAll P h vs (ns.map WData.int)->IntsAre vs ns:=by
 intro ns
 induction ns with
 |nil=>
  intro vs w;rw[EA] at w;cases w;exact .nil
 |cons n ns ih=>
  intro vs w;rw[cU] at w;cases w with
  |cons a b=>
   cases a;exact .cons _ _ (ih _ b)
def Ut(hn:l.most=some n){args:List WData}{vals:List ai}
  (uI:l.row.toRowW.claim.pre args=true) (G3:WellAll P h vals args) :
  ∃a vs ns,vals=[Value.ref a]/\args=[WData.list (ns.map WData.int)]/\h.get? a=some { cls:=.type "list",data:=.seq vs.toArray}/\IntsAre vs ns/\ns.length<=n:=by
 have hsh:WShape.hasAll [] args [.list .int]=true:=(pre_splitW uI).1;have hc:l.pre.holds [] { args:=args}=true:=(pre_splitW uI).2;obtain⟨d,r,rfl,h1,h2⟩:=hasAllW_cons hsh;obtain rfl:=hasAllW_nil h2;obtain⟨xs,rfl,h3⟩:=hasW_list h1;obtain⟨ns,rfl⟩:=items_int h3;have hlen:ns.length<=n:=by
  unfold OpenLaw.pre at hc;have h4:(WTm.not (.lt (.lit (.int (n:Int))) (.len (.arg 0)))).holds [] { args:=[.list (ns.map .int)]}=true:=by
   have h4:=(holds_andW hc).1;rw[hn] at h4;exact h4
  have h5:=condW_of h4 (w_not (w_lt w_lit (w_len_list (w_arg rfl))))
  simp_all
 cases G3 with
 |cons w1 w2=>
  cases w2;cases w1 with
  |list ho jC=>exact⟨_,_,ns,rfl,rfl,ho,SV ns _ jC,hlen⟩
def Uu(l:OpenLaw)(args:List WData):l.row.toRowW.claim.post args (.bool true) args=true:=
 postW_of (r:=l.row.toRowW) (X:=(true == true))
  (show WShape.has [] (.bool true) .bool=true by first|rfl|decide|simp[WShape.has,WShape.arms,WShape.armsAll])
  (show(WTm.eq .res (.lit (.bool true))).value [] { args:=args,res:=some (.bool true),after:=args}=some (.bool (true == true)) from w_eq_bool (w_res rfl) w_lit) rfl
def mZ{q:dc}{loose:List Str}{XP:(Str->ak ai)->bZ->Prop}{YP:cD->bZ->Prop}{d:DefRec}
  (hn:l.most=some n) (CP:d.params.defaults=[])
  (call:∀(w:cD) (s₀ s₁:ax) (mg mb:Str->ak ai) (fa:aj) (o:Obj) (pm cd doc:ai) (a:aj) (vs:List ai) (ns:List Int),Ground q loose [] XP w s₀ mg mb s₁.heap->YP w s₁.heap-> s₁.heap.get? fa=some o->o.data=.func (docDef d.name d.params d.body d.scope pm cd doc)->s₁.heap.CodeRec cd d.name->mg d.name=some (.ref fa)-> s₁.heap.get? a=some { cls:=.type "list",data:=.seq vs.toArray}->IntsAre vs ns->ns.length<=n->s₁.gens=#[]-> codeAny (model l.prog w) callerA (.call (.ref fa) ⟨[.ref a],[]⟩) (λr s'=>r=.ok (.ret (.bool true))/\OldK s₁.heap s'.heap/\s'.os=s₁.os/\AllBare s'.gens) s₁) :
  WalkO q loose XP YP l.row.toRowW d [] (λf vs=>PySem.call f vs):=by
 intro w s₀ s₁ mg mb G Y fa o pm cd doc dV kV ho hd rY hD hmg hg args vals as uI hlay hrd G3 hlo;obtain rfl:dV=.none:=Dflts.none hD CP;obtain rfl:kV=.none:=Dflts.noKw hD;obtain⟨a,vs,ns,rfl,rfl,yC,hints,hlen⟩:=Ut hn uI G3;refine enter_call (codeAny_mono (call w s₀ s₁ mg mb fa o pm cd doc a vs ns G Y ho (fd_plain hd) rY hmg yC hints hlen hg) λr s' hq=>?_)
 obtain⟨rfl,h2,h3,h4⟩:=hq;exact⟨.inl ⟨.bool true,.bool true,[],rfl,λ_=>rfl,.bool true,Uu l _,λ_=>⟨List.Pairwise.nil,λ_ hm=>(nomatch hm)⟩⟩,h2,h3,h4⟩
end MK
namespace L2
open PySem PySem.Spec PyProof.Rows
theorem NR:∀{vs:List ai} {ns:List Int},IntsAre vs ns->Vals (ns.map V.int) vs
 |_,_,.nil=>.nil
 |_,_,.cons n t h=>.cons ⟨t,rfl⟩ (NR h)
def w_(H:Hp):Prop:=∀b,H b=none\/∃o xs,H b=some (.Y o (.lst xs))
def VI{P:dc}{w:cD}{K:aL}{mg mb:Str->ak ai}{CX:s_}{k:Nat}{fa a:aj}{fd:lj}{x:Str}{sp:Sp}{s₁:ax}{vs:List ai}{ns:List Int}
  (KX:K.In s₁.heap) (R3:s₁.heap.Ns mainGlobals mg) (hb:s₁.heap.Ns builtinsNs mb) (hbb:∀x:Str,x≠"__name__"->mb x=bootBuiltins x) (KL:s₁.heap.NoLimit) (hg:s₁.gens=#[])
  (ha:s₁.heap.get? a=some { cls:=.type "list",data:=.seq vs.toArray}) (hi:IntsAre vs ns) (hl:ns.length<=sizeLine) (hr:cz k callerA)
  (F:∀base:bZ,K.In base->base.Ns mainGlobals mg->dz P w K mg base CX k fa fd [x] sp) (CM:∀(s:ax) (u:ai),BindsTo s fd ⟨[u],[]⟩ [(x,u)])
  (vZ:∀H:Hp,w_ H->c8 K H a (ns.map V.int)->sp [.ref a] H (λv _=>v=.bl true) λ_ _ _=>False)
  (Kp:∀H e s',CX [] H s₁ (λ_ _ _=>False) e s'->False) :
  codeAny (model P w) callerA (.call (.ref fa) ⟨[.ref a],[]⟩) (λr s'=>r=.ok (.ret (.bool true))/\OldK s₁.heap s'.heap/\s'.os=s₁.os/\AllBare s'.gens) s₁:=by
 have rv:=NR hi;have La:=hi.length;have core:∀H:Hp,w_ H->c8 K H a (ns.map V.int)->i6 P w H s₁.heap->(∀b,H b≠none->b=a)->(H a≠none->K.lookup a=none)->
   codeAny (model P w) callerA (.call (.ref fa) ⟨[.ref a],[]⟩) (λr s'=>r=.ok (.ret (.bool true))/\OldK s₁.heap s'.heap/\s'.os=s₁.os/\AllBare s'.gens) s₁:=by
  intro H hO hS bw hA hK;have oU:∀{b:aj} {o:Obj},s₁.heap.get? b=some o->H b=none->(l5 s₁.heap H).get? b=some o:=λe n=>Vs e n
  have Dt:∀{b:aj} {o:Obj} {es:Array DictEntry} {ep:Nat},s₁.heap.get? b=some o->o.data=.dict es ep->H b=none:=λ{b o es ep} e d=>by
   grind
  have He:∀{b:aj} {m:Str->ak ai},s₁.heap.Ns b m->(l5 s₁.heap H).Ns b m:=λ{b m} ⟨o,es,ep,e,d,r⟩=>⟨o,es,ep,oU e (Dt e d),d,r⟩
  have RO:K.In (l5 s₁.heap H):=λb o e=>oU (KX b o e) (by
   grind)
  have hM:Mod K mg (l5 s₁.heap H):=⟨RO,He R3,⟨mb,He hb,hbb⟩,let ⟨mc,h1,h2⟩:=KL;⟨mc,He h1,h2⟩⟩
  have e0:nW P w K mg (l5 s₁.heap H) callerA [] s₁ H:=⟨rfl,hM,λb o e=>Xh e,Ez (Ug _ _),trivial,λb hb=>cO (show b∈([]:List aj) from hb) (by simp),bw,.of_eq hg⟩
  refine codeAny_mono ((F _ RO (He R3)).run callerA [] s₁ H ⟨[.ref a],[]⟩ [.ref a] [.ref a] _ _ hr e0 (CM s₁ (.ref a)) (.cons rfl .nil) (vZ H hO hS)) λr s' h=>?_
  cases r with
  |error e=>exact(Kp H e s' h).elim
  |ok fl=>
   cases fl with
   |next=>exact False.elim h
   |brk=>exact False.elim h
   |cont=>exact False.elim h
   |ret u=>
    obtain⟨v,H',os,bare,un,KR,r',q⟩:=h;have q':v=.bl true:=q;subst q';obtain rfl:u=Value.bool true:=r';refine⟨rfl,OldK.of_keep λb o e=>?_,os,bare⟩
    cases q:H b with
    |none=>exact un.keep b o e q (by intro z;exact cO (show b∈([]:List aj) from z) (by simp)) (by simp)
    |some u=>
     rcases hO b with z|⟨ob,xs,z⟩
     .rw[q] at z;cases z
     .have z2:=un.kh b ob _ z;obtain⟨e1,_⟩:=bw b _ z;obtain⟨e2,_⟩:=KR b _ z2
      lia
 cases hk:K.lookup a with
 |some o=>
  have e:=KX a o hk;rw[ha] at e;cases e;refine core (λ_=>none) (λ_=>.inl rfl) (.inr ⟨_,vs.toArray,_,hk,rfl,rfl,rfl,by rw[fm,La];exact hl,by simpa using rv⟩) (λb u z=>by have z':(none:ak HO)=some u:=z;cases z') (λb z=>cO rfl z) λz=>cO rfl z
 |none=>
  refine core (λb=>if b=a then some (.Y { cls:=.type "list",data:=.seq vs.toArray} (.lst (ns.map V.int))) else none) (λb=>?_) (.inl (.inr ⟨{ cls:=.type "list",data:=.seq vs.toArray},bM rfl⟩)) (λb u z=>?_) (λb z=>?_) λ_=>hk
  .by_cases hb:b=a
   .exact .inr ⟨_,_,bM hb⟩
   .exact .inl (bc hb)
  .by_cases hb:b=a
   .have z':=(bM hb).symm.trans z;cases z';subst hb;exact⟨ha,by rw[bx];exact hl,vs,_,rv,ha⟩
   .have z':=(bc hb).symm.trans z;cases z'
  .by_cases hb:b=a
   .exact hb
   .exact cO (bc hb) z
def vt{l:PySem.W.OpenLaw}{n k:Nat}{q:dc}{loose:List Str}{XP:(Str->ak ai)->bZ->Prop}{YP:cD->bZ->Prop}{d:DefRec}{K:Params->aL}{CX:cD->s_}{sp:cD->Sp}{x:Str}
  (hn:l.most=some n) (yz:n<=sizeLine) (CP:d.params.defaults=[]) (hr:cz k callerA)
  (hY:∀(w:cD) (h:bZ),YP w h->(K w.params).In h)
  (F:∀(w:cD) (mg:Str->ak ai) (fa:aj) (h:bZ),(K w.params).In h->h.Ns mainGlobals mg->mg d.name=some (.ref fa)-> ∃fd:lj,(∀(s:ax) (u:ai),BindsTo s fd ⟨[u],[]⟩ [(x,u)])/\ ∀base:bZ,(K w.params).In base->base.Ns mainGlobals mg->dz l.prog w (K w.params) mg base (CX w) k fa fd [x] (sp w))
  (vZ:∀(w:cD) (H:Hp) (a:aj) (ns:List Int),ns.length<=n->w_ H->c8 (K w.params) H a (ns.map V.int)->sp w [.ref a] H (λv _=>v=.bl true) λ_ _ _=>False)
  (Kp:∀(w:cD) (H:Hp) (s:ax) (e:ai) (s':ax),CX w [] H s (λ_ _ _=>False) e s'->False) :
  PySem.W.WalkO q loose XP YP l.row.toRowW d [] (λf vs=>PySem.call f vs):=by
 refine MK.mZ hn CP λw s₀ s₁ mg mb fa o pm cd doc a vs ns G Y ho hd rY hmg yC hints hlen hg=>?_
 have KX:=hY w _ Y;obtain⟨fd,hb,hF⟩:=F w mg fa _ KX G.T.g hmg;exact VI KX G.T.g G.T.b G.T.builtins G.T.nolimit hg yC hints (jt hlen yz) hr hF hb (λH hO hS=>vZ w H a ns hlen hO hS) λH e s'=>Kp w H s₁ e s'
variable{x qual:Str}{st:Stmt}{f:aj}{H H':Hp}
noncomputable def jz(s:Stmt)(j:Nat):Stmt:=match s with
 |.ClassDef _ _ _ body _ _ _ _ _ _ _=>body.getD j (.Pass ⟨0,0,0,0⟩)
 |_=>.Pass ⟨0,0,0,0⟩
noncomputable def Af(s:Stmt):Arguments:=match s with
 |.FunctionDef _ a _ _ _ _ _ _ _ _=>a
 |_=>{ posonlyargs:=[],args:=[],vararg:=none,kwonlyargs:=[],kw_defaults:=[],kwarg:=none,defaults:=[]}
def vH(s:Stmt):List Stmt:=match s with
 |.FunctionDef _ _ b _ _ _ _ _ _ _=>b
 |_=>[]
noncomputable def mV(s:Stmt):Scope:=match s with
 |.FunctionDef _ _ _ _ _ _ sc _ _ _=>sc
 |_=>{ kind:=.function,names:=[],isGenerator:=false,isCoroutine:=false}
structure q_ (K:aL) (x qual:Str) (st:Stmt) (f:aj) (fd:lj):Prop where
 ex:∃(oc:ai) (od:ak aj) (kV doc pm:ai) (an:ak aj) (fj ct:ai) (pd:Array (ak ai)),
  fd=PySem.W.fnOf x qual (Af st) (vH st) (mV st) .none kV doc pm an fj ct/\K.lookup f=some ⟨oc,od,.func fd,pd⟩/\PySem.W.codeIn K fj qual=true
 kp:PySem.W.keepIn K (.ref f)=true
section
variable{P:dc}{w:cD}{K:aL}{mg:Str->ak ai}{base:bZ}
def q_.binds{fd:lj}{ps:List Str}(F:q_ K x qual st f fd)
  (h:∀(kV doc pm:ai) (an:ak aj) (fj ct:ai) (us:List ai),us.length=ps.length->bindArgs (PySem.W.fnOf x qual (Af st) (vH st) (mV st) .none kV doc pm an fj ct) ⟨us,[]⟩=pure (ps.zip us)):Binds K fd ps []:=by
 obtain⟨oc,od,kV,doc,pm,an,fj,ct,pd,rfl,lk,rY⟩:=F.ex;exact .all (h kV doc pm an fj ct)
def fun_mk{oc:ai}{od an:ak aj}{pd:Array (ak ai)}{kV doc pm fj ct:ai}(l:K.lookup f=some ⟨oc,od,.func (PySem.W.fnOf x qual (Af st) (vH st) (mV st) .none kV doc pm an fj ct),pd⟩)
  (c:PySem.W.codeIn K fj qual=true) (k:PySem.W.keepIn K (.ref f)=true):q_ K x qual st f (PySem.W.fnOf x qual (Af st) (vH st) (mV st) .none kV doc pm an fj ct):=⟨⟨oc,od,kV,doc,pm,an,fj,ct,pd,rfl,l,c⟩,k⟩
end
def si{A B:Prop}(h:B):if false=true then A else B:=by
 rw[bc sR];exact h
def sj{A B:Prop}(h:A):if true=true then A else B:=by
 rw[bM rfl];exact h
def az(H H':Hp):Prop:=∀b o,H b=some o->H' b=some o
def az.refl(H:Hp):az H H:=λ_ _ h=>h
def az.trans{H1 H2:Hp}(a:az H H1)(b:az H1 H2):az H H2:=λc o h=>b c o (a c o h)
def az.free(e:az H H'){l:aj}(h:H' l=Option.none):H l=Option.none:=by
 cases q:H l with
 |none=>rfl
 |some o=>
  rw[e l o q] at h;cases h
def az.seq{K:aL}{a:aj}{xs:List V}(e:az H H')(h:c8 K H a xs):c8 K H' a xs:=by
 rcases h with(h|⟨o,h⟩)|h
 .exact .inl (.inl (e _ _ h))
 .exact .inl (.inr ⟨o,e _ _ h⟩)
 .exact .inr h
end L2
set_option maxHeartbeats 4000000
namespace L2
open PySem PySem.Spec PyProof.Rows
variable{env:Env}{names:List (Str×oG)}{x:Str}{c:aj}{scope:Scope}{X:Cx}
noncomputable def kc(env:Env)(names:List (Str×oG)):List (Str×aj):=((names.filter λy=>y.2 == .free).reverse).map λy=>(y.1,(env.cells.lookup y.1).getD 0)
theorem Nk{g:Str->aj}{x:Str}:∀{l:List (Str×oG)},(∃k,(x,k)∈l)->(l.map λy=>(y.1,g y.1)).lookup x=some (g x)
 |[],h=>by obtain⟨k,h⟩:=h;cases h
 |(n,k)::r,h=>by
  show List.lookup x ((n,g n)::_)=_;cases hx:x == n with
  |true=>
   simp_all
  |false=>
   simp only[List.lookup_cons,hx];refine Nk (l:=r) ?_
   simp_all
theorem MT{g:Str->aj}{x:Str}{c:aj}:∀{l:List (Str×oG)},(l.map λy=>(y.1,g y.1)).lookup x=some c->c=g x/\∃k,(x,k)∈l
 |[],h=>by cases h
 |(n,k)::r,h=>by
  have h:List.lookup x ((n,g n)::(r.map λy=>(y.1,g y.1)))=some c:=h
  cases hx:x == n with
  |true=>
   simp_all
  |false=>
   simp only[List.lookup_cons,hx] at h;obtain⟨e,k',hk⟩:=MT h;exact⟨e,k',qo _ hk⟩
def Ot(h:(x,NameKind.free)∈names)(hc:env.cells.lookup x=some c):(kc env names).lookup x=some c:=by
 have:=Nk (g:=λn=>(env.cells.lookup n).getD 0) (x:=x) (l:=(names.filter λy=>y.2 == .free).reverse) ⟨.free,by simp[h]⟩
 unfold kc;rw[this,hc];rfl
def Jt(hf:∀y∈names,y.2=.free->∃c,env.cells.lookup y.1=some c)(h:(kc env names).lookup x=some c):env.cells.lookup x=some c:=by
 obtain⟨e,k,hk⟩:=MT (g:=λn=>(env.cells.lookup n).getD 0) h
 grind
theorem Ip{env:Env}:∀(names:List (Str×oG)) (cs:List (Str×aj)),(∀y∈names,y.2=.free->∃c,env.cells.lookup y.1=some c)->
  (forIn names cs (λ(x:Str×oG) (r:List (Str×aj))=>if(x.2 == NameKind.free)=true then(do let a <-cellOf env x.1;pure (ForInStep.yield ((x.1,a)::r))) else(pure (ForInStep.yield r):Sem (ForInStep (List (Str×aj)))))) =
   pure (kc env names++cs)
 |[],cs,_=>by rw[List.forIn_nil];rfl
 |(n,k)::r,cs,h=>by
  rw[List.forIn_cons];cases hk:k == NameKind.free with
  |true=>
   obtain⟨c,hc⟩:=h (n,k) AW (by simpa using hk)
   have nN:env.cells.lookup n=some c:=hc;have e:cellOf env n=pure c:=by unfold cellOf;rw[nN]
   simp only[hk,pJ,e,pure_bind];rw[Ip r _ λy hy=>h y (qo _ hy)]
   congr 1
   unfold kc
   simp_all
  |false=>
   simp only[hk,qG,jK,pure_bind];rw[Ip r _ λy hy=>h y (qo _ hy)]
   congr 1
   unfold kc;rw[AZ];simp[hk]
def MP(h:∀y∈scope.names,y.2=.free->∃c,env.cells.lookup y.1=some c):closureFor scope env=pure (kc env scope.names):=by
 have:=Ip (env:=env) scope.names [] h;rw[kN] at this;unfold closureFor;show(forIn scope.names [] _ >>= λr=>pure r)=_
 rw[bind_pure];exact this
theorem M7{env:Env}:∀{names:List (Str×oG)} {x:Str},names.lookup x=some .free->
  (names.map λ(n,k)=>if(k == NameKind.free&&env.scope.kind == .function&&env.kindOf n == some .cell) then(n,NameKind.cell) else(n,k)).lookup x=some .cell\/
  (names.map λ(n,k)=>if(k == NameKind.free&&env.scope.kind == .function&&env.kindOf n == some .cell) then(n,NameKind.cell) else(n,k)).lookup x=some .free
 |[],_,h=>by simp at h
 |(n,k)::r,x,h=>by
  have ih:=@M7 env r x
  grind
theorem Iq{env:Env}:∀{names:List (Str×oG)} {x:Str} {q:oG},(q=.cell\/q=.free)->(∀y∈names,y.2≠.cell)->
  (names.map λ(n,k)=>if(k == NameKind.free&&env.scope.kind == .function&&env.kindOf n == some .cell) then(n,NameKind.cell) else(n,k)).lookup x=some q->(x,NameKind.free)∈names
 |[],_,_,_,_,h=>by simp at h
 |(n,k)::r,x,q,hq,hn,h=>by
  have ih:=@Iq env r x q hq λy hy=>hn y (qo _ hy)
  grind
def fK(X:Cx)(scope:Scope)(M:List Str)(C:aj)(s:ax)(H:Hp)(fp:List aj):Cx:=
 {X with N:=M,s₀:=s,H₀:=H,env:=compEnvC scope (kc X.env scope.names) C X.env,outer:=X.stack,ex:=fp,fn:=λ_=>false,pn:=[],xe:=λ_ _=>False}
noncomputable def kb(k:Nat)(de:List Nat)(Z:St):St:=List.replicate k none++de.map λi=>(Z[i]?).join
def rj(X:Cx)(ifs:List Expr)(t:TT):Prop:=
 ∀(aa:List (aj×Obj)) (s:ax) (Z:St) (H:Hp) (Q:Bool->Hp->Prop),Inv X aa Z H s->t Z H Q->
  wpAny (model X.prog X.w) X.A (forIn ifs true λc r=>if r=true then do let ok <-isTrue c X.env (eval c X.env);pure (ForInStep.yield ok) else pure (ForInStep.yield r)) (TP X aa Z Q) X.xe s
def L3:TT:=λ_ H Q=>Q true H
def XD:rj X [] L3:=λ_ _ Z H _ I h=>wpAny_tests_nil ⟨H,I,h⟩
def XE{c:Expr}{t:TT}(hc:PT X c t):rj X [c] t:=λaa s Z H Q I h=>wpAny_tests_one (hc aa s Z H Q I h)
def SQ{prog:dc}{w:cD}{A:cN}{R:Result->ax->Prop}{s:ax}{elt target iter:Expr}{ifs:List Expr}{pos:Pos}{it aV:ai}(I:Nat->ax->Prop)
  (turn:∀n s,I n s->wpAny (model prog w) A (pyNext it) (λr s₁=>match r with
   |none=>R (.ok .next) s₁
   |some v=>wpAny (model prog w) A (letOwnedTupleGo target it v) (λ_ s₀=>wpAny (model prog w) A (assign target env v) (λ_ s₂=>
     wpAny (model prog w) A (forIn ifs true λc r=>if r=true then do let ok <-isTrue c env (eval c env);pure (ForInStep.yield ok) else pure (ForInStep.yield r)) (λok s₃=>
      if ok=true then wpAny (model prog w) A (eval elt env) (λx s₄=>
       wpAny (model prog w) A (call (.builtin "list.append") [aV,x]) (λ_ s₅=>∃m,m<n/\I m s₅) (λ_ _=>False) s₄) (λ_ _=>False) s₃
      else ∃m,m<n/\I m s₃) (λ_ _=>False) s₂) (λ_ _=>False) s₀) (λ_ _=>False) s₁) (λ_ _=>False) s)
  (n:Nat) (h:I n s) :
  codeAny (model prog w) A (.compLoop (.ListComp elt [⟨target,iter,ifs,0⟩] scope pos) 0 it aV env) R s:=by
 refine codeAny_loop rfl I (λn s hI=>?_) n h
 show wpAny _ A ((compTurn (.ListComp elt [⟨target,iter,ifs,0⟩] scope pos) 0 it aV env).onRaise (λx=>do noteFrame x env;theTreesLotGoes x)) _ _ s
 refine wpAny_noted ?_;rw[compTurn_list];refine ay (wpAny_standAt (ay (wpAny_mono (turn n s hI) (λr s₁ h₁=>?_) λ_ _ h'=>h'.elim)))
 cases r with
 |none=>exact aX h₁
 |some v=>
  refine ay (wpAny_mono h₁ (λ_ s₀ h₀=>?_) λ_ _ h'=>h'.elim)
  refine ay (wpAny_mono h₀ (λ_ s₂ h₂=>ay (wpAny_mono h₂ (λok s₃ h₃=>?_) λ_ _ h'=>h'.elim)) λ_ _ h'=>h'.elim)
  cases ok with
  |false=>exact aX ⟨rfl,h₃⟩
  |true=>
   exact ay (ay (wpAny_mono h₃ (λx s₄ h₄=>ay (wpAny_mono h₄ (λ_ s₅ h₅=>aX (aX ⟨rfl,h₅⟩)) λ_ _ h'=>h'.elim)) λ_ _ h'=>h'.elim))
variable{H:Hp}{s:ax}{fp:List aj}{wi:TI}
def Inv.Ek{X:Cx}{aa:List (aj×Obj)}{Z:St}{a:aj}{o:HO}(I:Inv X aa Z H s)(hn:H a=none)(hy:X.s₀.heap.objs.size<=a)(hL:a≠X.env.locals)(hC:∀x c,X.env.cells.lookup x=some c->c≠a)
  (hP:∀p∈X.pn++aa,p.1≠a) (new:bf X.prog X.w (upd H a o) s.heap a o):Inv X aa Z (upd H a o) s:=by
 refine⟨I.ok,I.os,I.bare,⟨I.base.keep,I.base.slot,λb ob e n hx=>?_,I.base.there,λb xs e=>?_,λb ob u e=>?_,λb ps e=>?_⟩,I.loc,I.cell,?_,λx c e=>?_,λp hp=>?_,λb u e=>?_,I.len⟩
 .rw[dh (gP (gj (cT e) hy))];exact I.base.free b ob e n hx
 .have z:=I.base.k8 b xs e;rw[dh (rC z hn)];exact z
 .have z:=I.base.kh b ob u e;rw[dh (rC z hn)];exact z
 .obtain⟨m,z⟩:=I.base.k7 b ps e;exact⟨m,by rw[dh (rC z hn)];exact z⟩
 .rw[dh (Ne.symm hL)];exact I.free
 .rw[dh (hC x c e)];exact I.eL x c e
 .obtain⟨e,n,r⟩:=I.pin p hp;exact⟨e,by rw[dh (hP p hp)];exact n,r⟩
 .by_cases hb:b=a
  .grind [aK]
  .rw[dh hb] at e;exact(I.bw b u e).my (λc v _ q=>q) (λc q=>by rw[dh (rC q hn)];exact q) λc xs q=>by rw[dh (rC q hn)];exact q
def oI(J:It)(g:TG)(tt:TT)(te:TE)(τ₀:St)(H1:Hp)(Fin:List V->Hp->Prop):Prop:=
 ∃(n:Nat) (W:Nat->St->List V->Hp->Prop),W 0 τ₀ [] H1/\∀i τ aV H,i<=n->W i τ aV H->
  (J.stop i H/\Fin aV H)\/(i<n/\J.go i H/\∀x H',J.s9 i H x H'->g x τ H' λτ2 H2=>tt τ2 H2 λb H3=>if b=true then te τ2 H3 λv H4=>aV.length<sizeLine/\W (i+1) τ2 (aV++[v]) H4 else W (i+1) τ2 aV H3)
structure eE (X:Cx) (scope:Scope) (M:List Str) (k:Nat) (de:List Nat):Prop where
 kind:scope.kind=.function
 cell:∀y∈scope.names,y.2≠.cell
 free:∀y∈scope.names,y.2=.free->X.env.kindOf y.1=some .cell\/X.env.kindOf y.1=some .free
 names:∀y∈scope.names,y.2=.local -> scope.names.lookup y.1=some .local
 len:M.length=k+de.length
 J3:∀(j i:Nat) (x:Str),de[j]?=some i->M[k+j]?=some x->X.N[i]?=some x/\scope.names.lookup x=some .free
section
variable{X:Cx}{aa:List (aj×Obj)}{Z:St}{tg elt iter:Expr}{ifs:List Expr}{scope:Scope}{pos:Pos}{M:List Str}{k:Nat}{de:List Nat}{g:TG}{tt:TT}{te:TE}
def Inv.iJ(I:Inv X aa Z H s)(ok:eE X scope M k de):∀y∈scope.names,y.2=.free->∃c,X.env.cells.lookup y.1=some c:=λy hy e=>I.ok.has y.1 (ok.free y hy e)
def Inv.block{s4:ax}{C D:aj}{oD:Obj}{m:Str->ak ai}(I:Inv X aa Z H s)(ok:eE X scope M k de)(f2:∀b∈fp,i5 X aa H b)(GX:∀b∈fp,∃o,s.heap.get? b=some o/\∀v,o.data≠.cell v)
  (hC:s.heap.objs.size<=C) (CJ:D≠C) (hD:s.heap.objs.size<=D) (old:∀b o,s.heap.get? b=some o->s4.heap.get? b=some o) (os:s4.os=s.os) (gens:s4.gens=s.gens)
  (ns:s4.heap.Ns C m) (KP:s4.heap.get? D=some oD) (KA:∀v,oD.data≠.cell v):Inv (fK X scope M C s H fp) [(D,oD)] (kb k de Z) H s4:=by
 have hf:=I.iJ ok;have fr:∀a,s.heap.objs.size<=a->H a=none:=λa ha=>I.bw.fresh ha
 have nfs:∀b∈kg X.stack,b<s.heap.objs.size:=λb hb=>by
  rcases y0a.mp (I.kE b hb) with e|e
  .rw[e];exact I.lt
  .exact Nat.lt_of_not_le λz=>I.yR z e
 have cl:∀x c,(kc X.env scope.names).lookup x=some c->X.env.cells.lookup x=some c:=λx c e=>Jt hf e
 refine⟨⟨I.ok.mod,ok.kind,I.ok.glob,I.ok.blt,hC,λx y c e1 e2=>I.ok.inj x y c (cl x c e1) (cl y c e2),λx hx=>?_,λx c e _=>?_,I.ok.hd,I.ok.frames,.inl rfl,λb hb=>?_,I.bs,jt I.ok.rL I.sz,λb o e hb=>?_,λb hb z=>?_,I.stack,I.jT⟩,os,by rw[gens];exact I.bare,Un.kept old,⟨m,ns,λi x v h1 h2 h3=>?_⟩,λx c e=>?_,fr C hC,λx c e=>I.eL x c (cl x c e),λp hp=>?_,I.bw.kept old,?_⟩
 .have hx:(relabel scope X.env).names.lookup x=some .cell\/(relabel scope X.env).names.lookup x=some .free:=hx;have hm:(x,NameKind.free)∈scope.names:=by
   rcases hx with h|h
   .exact Iq (env:=X.env) (.inl rfl) ok.cell h
   .exact Iq (env:=X.env) (.inr rfl) ok.cell h
  obtain⟨c,hc⟩:=hf _ hm rfl;exact⟨c,Ot hm hc⟩
 .cases e
 .obtain⟨f0,f1,f2,f3,f4,f5⟩:=f2 b hb;obtain⟨ob,eb,_⟩:=GX b hb;exact⟨gP (gj (cT eb) hC),λx c e=>f4 x c (cl x c e)⟩
 .obtain⟨f0,f1,f2,f3,f4,f5⟩:=f2 b hb;rcases f3 with q|q
  .exact I.ok.ow b o e q
  .exact cO (gj (cT e) (jt I.ok.rL q)) (jU _)
 .obtain⟨f0,f1,f2,f3,f4,f5⟩:=f2 b hb;rcases y0a.mp (I.kE b z) with q|q
  .exact f1 q
  .exact f2 q
 .unfold kb at h2;have hk:¬i<k:=λq=>by
   rw[sT (by simpa using q),Mp] at h2
   split at h2 <;> cases h2
  rw[qE (by simpa using hk),pH,dR] at h2
  cases e:de[i - k]? with
  |none=>rw[e] at h2;cases h2
  |some j=>
   rw[e] at h2;have CH:(Z[j]?).join=some v:=Option.some.inj h2;have hj:Z[j]?=some (some v):=by
    cases q:Z[j]? with
    |none=>rw[q] at CH;cases CH
    |some z=>rw[q] at CH;simp at CH;rw[CH]
   have yy:k+(i - k)=i:=by lia
   obtain⟨hN,r6⟩:=ok.J3 (i - k) j x e (by rw[yy];exact h1)
   have hm:(x,NameKind.free)∈scope.names:=PySem.mem_of_lookup r6;have hkx:=ok.free _ hm rfl;obtain⟨mX,hnX,hlX⟩:=I.loc;obtain⟨u,ru,lk⟩:=hlX j x v hN hj (by rcases hkx with q|q;exact .inr (.inl q);exact .inr (.inr q))
   refine⟨u,ru,.inr ⟨M7 (env:=X.env) r6,?_⟩⟩;rcases lk with⟨q,_⟩|⟨_,c,hc,oZ⟩
   .lia
   .exact⟨c,Ot hm hc,oZ.keeps old⟩
 .obtain⟨v,z⟩:=I.cell x c (cl x c e);exact⟨v,z.keeps old⟩
 .have e:p=(D,oD):=by simpa[fK] using hp
  subst e;exact⟨KP,fr D hD,CJ,λz=>cO (gj (nfs D z) hD) (jU _),KA⟩
 .unfold kb;rw[dw,pH,bx];exact ok.len.symm
def NS{H2:Hp}{s2:ax}{J:It}{it:aj}{tn:Nat->bZ->Prop}{RR:ai->aj->Result->ax->Prop}{E:ai->ax->Prop}{Fin:List V->Hp->Prop}(I2:Inv X aa Z H2 s2)(hc:X.calm=true)(ok:eE X scope M k de)
  (T:Turn X.prog X.w X.K tg J fp it tn) (nQ:tn 0 s2.heap) (f2:∀b∈fp,i5 X aa H2 b)
  (hg:∀C s H fp,PG (fK X scope M C s H fp) tg g) (ht:∀C s H fp,rj (fK X scope M C s H fp) ifs tt) (he:∀C s H fp,PE (fK X scope M C s H fp) elt te)
  (hW:oI J g tt te (kb k de Z) H2 Fin)
  (hRR:∀D C s' H' aV,Inv X aa Z (upd H' D (.lst aV)) s'->i5 X aa (upd H' D (.lst aV)) C->(∃m,s'.heap.Ns C m)->H' D=none->Fin aV H'->RR (.ref D) C (.ok .next) s') :
  wpAny (model X.prog X.w) X.A (newList []) (λaV s₃=>wpAny (model X.prog X.w) X.A (newFunctionEnv scope X.env.globals (kc X.env scope.names) [] X.env.qual none .none (some X.env)) (λCo s₄=> codeAny (model X.prog X.w) X.A (.compStart (.ListComp elt [⟨tg,iter,ifs,0⟩] scope pos) 0 (.ref it) aV { Co with scope:=relabel scope X.env}) (RR aV Co.locals) s₄) E s₃) E s2:=by
 refine wpAny_newObj_type (wpAny_newFunctionEnv ok.cell (by intro y hy;simp at hy) (λh₁ hns₁ hsb₁=>?_) ok.kind)
 dsimp only at hns₁ hsb₁ ⊢;generalize Kr:s2.heap.push { cls:=.type "list",dict:=none,data:=.seq ([]:List ai).toArray}=H3 at hns₁ hsb₁ ⊢;have Kq:H3.objs.size=s2.heap.objs.size+1:=by rw[<-Kr,Heap.size_push]
 have CJ:s2.heap.objs.size≠H3.objs.size:=by rw[Kq];exact gP (vw _)
 have below:∀b,b<s2.heap.objs.size->b≠H3.objs.size/\b≠s2.heap.objs.size:=λb hb=>⟨by rw[Kq];exact gP (zw hb),gP hb⟩
 have old:∀b o,s2.heap.get? b=some o->h₁.get? b=some o:=λb o e=>hsb₁.extBut b o (below b (cT e)).1 (cZ _ (Kr ▸ cZ _ e))
 have uE:h₁.get? s2.heap.objs.size=some { cls:=.type "list",data:=.seq ([]:List ai).toArray 0}:=hsb₁.extBut _ _ CJ (cZ _ (Kr ▸ iR _ rfl));have GX:=T.obj 0 _ nQ;have uD:s2.heap.objs.size<=H3.objs.size:=by rw[Kq];exact vx _
 obtain⟨N,W,w0,turn⟩:=hW;have SA:tn 0 h₁:=T.keep _ _ _ nQ λb _ o e=>old b o e
 have loop:∀s₃:ax,s₃={ s2 with heap:=h₁,toks:=s2.toks+([]:List (Str×ai)).length}->
   codeAny (model X.prog X.w) X.A (.compLoop (.ListComp elt [⟨tg,iter,ifs,0⟩] scope pos) 0 (.ref it) (.ref s2.heap.objs.size) (compEnvC scope (kc X.env scope.names) H3.objs.size X.env))
    (RR (.ref s2.heap.objs.size) H3.objs.size) s₃:=by
  rintro s₃ rfl;have I3:Inv (fK X scope M H3.objs.size s2 H2 fp) [(s2.heap.objs.size,{ cls:=.type "list",data:=.seq ([]:List ai).toArray 0})] (kb k de Z) H2 { s2 with heap:=h₁,toks:=s2.toks+([]:List (Str×ai)).length}:=
   I2.block ok f2 GX uD CJ (bY _) old rfl rfl hns₁ uE (λv z=>by cases z)
  have Kh:∀b∈fp,b≠H3.objs.size/\b≠s2.heap.objs.size:=λb hb=>let ⟨o,e,_⟩:=GX b hb;below b (cT e)
  have oB:∀{H':Hp} {oD:Obj},(∀b∈fp,H' b=none)->∀b∈fp,i5 (fK X scope M H3.objs.size s2 H2 fp) [(s2.heap.objs.size,oD)] H' b:=λ{H' oD} hn b hb=>by
   obtain⟨f0,f1,f2,f3,f4,f5⟩:=f2 b hb;refine⟨hn b hb,(Kh b hb).1,λz=>?_,.inl hb,λx c e=>f4 x c (Jt (I2.iJ ok) e),λp hp z=>?_⟩
   .rcases y0a.mp (I2.kE b z) with q|q
    .exact f1 q
    .exact f2 q
   .have e:p=(s2.heap.objs.size,oD):=by simpa[fK] using hp
    subst e;exact(Kh b hb).2 z.symm
  refine SQ (λn s'=>∃(i:Nat) (τ:St) (aV:List V) (us:List ai) (c:Nat) (H':Hp),Vals aV us/\aV.length<=sizeLine/\ Inv (fK X scope M H3.objs.size s2 H2 fp) [(s2.heap.objs.size,{ cls:=.type "list",data:=.seq us.toArray c})] τ H' s'/\tn i s'.heap/\(∀b∈fp,H' b=none)/\n=N - i/\i<=N/\W i τ aV H') ?_ N
   ⟨0,kb k de Z,[],[],0,H2,.nil,k9 _,I3,SA,λb hb=>(f2 b hb).1,rfl,k9 _,w0⟩
  rintro n s3 ⟨i,τ,aV,us,c,H',rv,hlen,I,st,fr,rfl,hiN,w⟩;have pinD:=(I.pin (s2.heap.objs.size,{ cls:=.type "list",data:=.seq us.toArray c}) (by simp[fK]))
  rcases turn i τ aV H' hiN w with⟨stop,qn⟩|⟨l7,go,step⟩
  .refine bL (T.done (fK X scope M H3.objs.size s2 H2 fp) rfl rfl rfl hc i _ s3 τ H' (λ_ _=>False) I (oB fr) st stop) λr s4 ⟨hr,I4⟩=>?_
   subst hr;have sF:=(I4.pin (s2.heap.objs.size,{ cls:=.type "list",data:=.seq us.toArray c}) (by simp[fK]))
   have kJ:∀b∈fp,(b∈X.ex\/X.s₀.heap.objs.size<=b)/\b≠X.env.locals/\(∀x c,X.env.cells.lookup x=some c->c≠b)/\∀p∈X.pn++aa,p.1≠b:=λb hb=>by
    obtain⟨f0,f1,f2,f3,f4,f5⟩:=f2 b hb;exact⟨f3,f1,f4,f5⟩
   have J1:Inv X aa Z H' s4:=I2.vR (ch:=fp) I4.os I4.base I4.bw I4.bare kJ;have young:X.s₀.heap.objs.size<=s2.heap.objs.size:=I2.sz;have apart:∀a,s2.heap.objs.size<=a->a≠X.env.locals/\(∀x c,X.env.cells.lookup x=some c->c≠a)/\∀p∈X.pn++aa,p.1≠a:=λa ha=>
    ⟨wI (gj I2.lt ha),λx c e z=>by
     obtain⟨v,q⟩:=I2.cell x c e;exact cO (gj q.lt (by rw[z];exact ha)) (jU _),λp hp z=>cO (gj (cT (I2.pin p hp).1) (by rw[z];exact ha)) (jU _)⟩
   have aD:=apart _ (bY _);have aC:=apart _ uD;have J2:Inv X aa Z (upd H' s2.heap.objs.size (.lst aV)) s4:=J1.Ek sF.2.1 young aD.1 aD.2.1 aD.2.2 ⟨hlen,us,c,rv,sF.1⟩;obtain⟨m,hn,_⟩:=I4.loc;have hCn:H' H3.objs.size=none:=I4.free;refine hRR _ _ s4 H' aV J2 ⟨?_,aC.1,I2.yR uD,.inr (jt young uD),aC.2.1,aC.2.2⟩ ⟨m,hn⟩ sF.2.1 qn;rw[dh (Ne.symm CJ)];exact hCn
  .refine bL (T.item (fK X scope M H3.objs.size s2 H2 fp) rfl rfl rfl hc i _ s3 τ H' (λ_ _=>False) I (oB fr) st go) λr s4 ⟨u,hr,h4⟩=>?_
   subst hr;refine bL h4 λ_ s5 hh=>?_
   obtain⟨x,H5,I5,r5,y5,kD,Kj⟩:=hh;have HK:=I5.pinned (oB Kj) (T.obj _ _ kD);refine bL (hg _ _ _ _ _ s5 τ H5 x u _ HK r5 (step x H5 y5)) λ_ s6 hh=>?_
   obtain⟨τ6,H6,I6,q6⟩:=hh;refine bL (ht _ _ _ _ _ s6 τ6 H6 _ I6 q6) λb s7 hh=>?_
   obtain⟨H7,I7,q7⟩:=hh;have sk:∀{s':ax} {τ':St} {Hn:Hp},Inv (fK X scope M H3.objs.size s2 H2 fp) ([(s2.heap.objs.size,{ cls:=.type "list",data:=.seq us.toArray c})]++B2 fp s5.heap) τ' Hn s'->tn (i+1) s'.heap/\∀b∈fp,Hn b=none:=λ{s' τ' Hn} I'=>by
    refine⟨T.keep _ _ _ kD λb hb o e=>(I'.pin (b,o) (nU _ (nU _ (Bp hb e)))).1,λb hb=>?_⟩
    obtain⟨o,e,d⟩:=T.obj _ _ kD b hb;exact(I'.pin (b,o) (nU _ (nU _ (Bp hb e)))).2.1
   cases b with
   |false=>
    rw[bc sR] at q7;show ∃m,m<N - i/\_;obtain⟨st7,fr7⟩:=sk I7;exact⟨N - (i+1),by lia,i+1,τ6,aV,us,c,H7,rv,hlen,I7.eS,st7,fr7,rfl,l7,q7⟩
   |true=>
    rw[bM rfl] at q7;show wpAny _ _ (eval elt _) _ _ s7;refine bL (he _ _ _ _ _ s7 τ6 H7 _ I7 q7) λv s8 hh=>?_
    obtain⟨y,H8,I8,r8,hl8,w8⟩:=hh;obtain⟨st8,fr8⟩:=sk I8;have ph:=(I8.pin (s2.heap.objs.size,{ cls:=.type "list",data:=.seq us.toArray c}) (by simp[fK]))
    have hul:=rv.length;refine append_at (hsz:=by show us.toArray.size<=sizeLine;rw[fm,<-hul];exact hlen) ph.1 λh9 Ss e9=>?_
    have e9':h9.get? s2.heap.objs.size=some { cls:=.type "list",data:=.seq (us++[v]).toArray (c+1)}:=by rw[e9,List.push_toArray]
    have SM:=I8.eS;have Ks:s2.heap.objs.size≠(fK X scope M H3.objs.size s2 H2 fp).env.locals:=ph.2.2.1;have nx:∀(b:aj),H8 b≠none->b≠s2.heap.objs.size:=λb hb z=>hb (by rw[z];exact ph.2.1)
    refine⟨N - (i+1),by lia,i+1,τ6,aV++[y],us++[v],c+1,H8,rv.append (.cons r8 .nil),by rw[dw,t6];exact hl8,?_,?_,fr8,rfl,l7,w8⟩
    .have I9:Inv (fK X scope M H3.objs.size s2 H2 fp) [] τ6 H8 s8:=SM.jR (λp hp=>cO hp (by simp))
     have SK:Inv (fK X scope M H3.objs.size s2 H2 fp) [] τ6 H8 { s8 with heap:=h9}:=I9.turned (t':=s8.toks) (λb o hb e=>(Ss.2 b hb).trans e) ph.2.1 Ks (.inr (bY _))
      (λx cc e z=>by
       obtain⟨v',q⟩:=I2.cell x cc (Jt (I2.iJ ok) e);exact cO (gj q.lt (by rw[z];exact bY _)) (jU _)) (λp hp=>cO hp (by simp[fK]))
     refine SK.jR λp hp=>?_
     simp_all
    .exact T.keep _ _ _ st8 λb hb o e=>Ss.extBut b o (Kh b hb).2 e
 exact codeAny_compStart_list (loop _ rfl) (T.self _ 0 _ _ _ SA (loop _ rfl))
def wD(wi:TI)(g:TG)(tt:TT)(te:TE)(k:Nat)(de:List Nat):TE:=λZ H Q=>wi Z H λJ H1=>oI J g tt te (kb k de Z) H1 λaV H'=>∀l,H' l=none->Q (.ref l) (upd H' l (.lst aV))
def XF(hc:X.calm=true)(ok:eE X scope M k de)(hi:PI X tg iter wi)
  (hg:∀C s H fp,PG (fK X scope M C s H fp) tg g) (ht:∀C s H fp,rj (fK X scope M C s H fp) ifs tt) (he:∀C s H fp,PE (fK X scope M C s H fp) elt te)
  (hs:∀x,foldedSetIterable iter X.env x=pure x:=by intro _;rfl):PE X (.ListComp elt [⟨tg,iter,ifs,0⟩] scope pos) (wD wi g tt te k de):=by
 intro aa s Z H Q I h;rw[eval_ListComp];refine wpAny_comprehension_free (use:=none) rfl hs (MP (I.iJ ok)) ok.kind ok.names (bL (hi aa s Z H _ I h) λv s1 h1=>bL h1 λG7 s2 h2=>?_)
 obtain⟨it,fp,tn,J,H2,e,I2,T,nQ,f2,hW⟩:=h2;subst e;refine NS (RR:=λaV C=>compPost (model X.prog X.w) X.A X.xe none (EP X aa Z Q) aV C) I2 hc ok T nQ f2 hg ht he hW ?_
 intro D C s' H' aV I' fC ⟨m,hn⟩ hD hq;refine⟨m,hn,λh' sb=>?_⟩
 obtain⟨f0,f1,f2,f3,f4,f5⟩:=fC;exact⟨.ref D,_,I'.turned (t':=s'.toks) (λb o hb e=>(sb.2 b hb).trans e) f0 f1 f3 f4 f5,rfl,hq D hD⟩
def DM(wi:TI)(g:TG)(tt:TT)(te:TE)(k:Nat)(de:List Nat)(i:Nat):TS:=λD Z H=>wD wi g tt te k de Z H λv H'=>D.nx (Z.set i (some v)) H'
def XG{i:Nat}{x:Str}{px nC:Pos}(hc:X.calm=true)(ok:eE X scope M k de)(hN:X.N.Nodup)(yy:X.N[i]?=some x)(hx:Loc X.env.scope x)(hi:PI X tg iter wi)
  (hg:∀C s H fp,PG (fK X scope M C s H fp) tg g) (ht:∀C s H fp,rj (fK X scope M C s H fp) ifs tt) (he:∀C s H fp,PE (fK X scope M C s H fp) elt te)
  (C2:swapsWith (.ListComp elt [⟨tg,iter,ifs,0⟩] scope pos) (some (.Name x px)) nC.line X.env=pure true)
  (hs:∀x,foldedSetIterable iter X.env x=pure x:=by intro _;rfl) (hf:X.fn x=true\/X.env.scope.names.lookup x=some .local := by first|exact .inl rfl|exact .inr rfl|assumption) :
  PS X (.Assign [.Name x px] (.ListComp elt [⟨tg,iter,ifs,0⟩] scope pos) nC) (DM wi g tt te k de i):=by
 intro aa s Z H D I h;rw[exec_Assign_Name_used _ _ _ _ C2];refine ay (wpAny_standAt (ay ?_));show wpAny _ X.A (do let _ <-comprehension (.ListComp elt [⟨tg,iter,ifs,0⟩] scope pos) scope X.env _ (newList []) false (eval iter X.env) (some (assign (.Name x px) X.env))) _ _ s
 refine ay (wpAny_mono (wpAny_comprehension_free (use:=some (assign (.Name x px) X.env)) (Q:=λ_ s'=>SP X aa D .next s') rfl hs (MP (I.iJ ok)) ok.kind ok.names (bL (hi aa s Z H _ I h) λv s1 h1=>bL h1 λG7 s2 h2=>?_)) (λ_ s' hq=>aX (aX hq)) λ_ _ e=>e)
 obtain⟨it,fp,tn,J,H2,e,I2,T,nQ,f2,hW⟩:=h2;subst e;refine NS (RR:=λaV C=>compPost (model X.prog X.w) X.A X.xe (some (assign (.Name x px) X.env)) (λ_ s'=>SP X aa D .next s') aV C) I2 hc ok T nQ f2 hg ht he hW ?_
 intro D' C s' H' aV I' fC ⟨m,hn⟩ hD hq;obtain⟨f0,f1,f2,f3,f4,f5⟩:=fC;show wpAny _ X.A (assign (.Name x px) X.env (.ref D')) _ _ _;refine wpAny_assign_Name (NM I' hN yy hx (v:=.ref D') rfl (λsJ SJ hh=>?_) hf)
 obtain⟨a,sb,ha⟩:=hh;have hCa:C≠a:=by
  rcases ha with e|e
  .rw[e];exact f1
  .exact λz=>f4 _ _ e z.symm
 refine⟨m,hn.sameBut sb hCa,λh' sb'=>⟨_,_,SJ.turned (t':=sJ.toks) (λb o hb e=>(sb'.2 b hb).trans e) f0 f1 f3 f4 f5,hq D' hD⟩⟩
end
variable{w:cD}{tg:Expr}{X:Cx}
def jB(c:Nat):Str:=⟨#[c]⟩
def EI(x:Str):It:=⟨λi _=>i<x.cps.size,λi H v H'=>H'=H/\∃c,x.cps[i]?=some c/\v=.str (jB c),λi _=>x.cps.size<=i⟩
def VJ{P:dc}{K:aL}(it:aj)(x:Str)(t:Tok)(ty:String)(sd:ty="str_ascii_iterator"\/ty="str_iterator"):Turn P w K tg (EI x) [it] it (λi h=>h.IsStrIter it ty x t i) where
 mem:=by simp
 obj:=λi h st b hb=>by
  have e:b=it:=by simpa using hb
  subst e;obtain⟨o,e,c,d⟩:=st
  simp_all
 keep:=λi h h' st k=>by
  obtain⟨o,e,c,d⟩:=st;exact⟨o,k it (by simp) o e,c,d⟩
 item:=by
  intro X hP hw hK hc i aa s Z H E I hf st hg;subst hP hw hK;have hi:i<x.cps.size:=hg;obtain⟨f0,f1,f2,f3,f4,f5⟩:=hf it (by simp)
  have fin:∀h',h'.IsStrIter it ty x t (i+1)->Heap.SameBut it s.heap h'->∃u,some (Value.str ⟨#[x.cps[i]]⟩ s.toks)=some u/\
    wpAny (model X.prog X.w) X.A (letOwnedTupleGo tg (.ref it) u) (λ_ s2=>∃y H',Inv X aa Z H' s2/\RelV y u/\(EI x).s9 i H y H'/\s2.heap.IsStrIter it ty x t (i+1)/\∀b∈[it],H' b=none) E { s with heap:=h',toks:=s.toks+1}:=λh' ir sb=>by
   have I1:Inv X aa Z H { s with heap:=h',toks:=s.toks+1}:=I.turned (λb o hb e=>(sb.2 b hb).trans e) f0 f1 f3 f4 f5
   obtain⟨o,e,c,d⟩:=id ir;refine⟨_,rfl,vP (s:={ s with heap:=h',toks:=s.toks+1}) e c d (by rcases sd with z|z <;> subst z <;> decide) ⟨.str (jB x.cps[i]),H,I1,⟨_,rfl⟩,⟨rfl,_,by simp[hi],rfl⟩,ir,λb hb=>(hf b hb).1⟩⟩
  rcases sd with z|z
  .subst z;exact wpAny_pyNext_ascii_item st (c:=x.cps[i]) (by simp[hi]) fin
  .subst z;exact wpAny_pyNext_wide_item st (c:=x.cps[i]) (by simp[hi]) fin
 done:=by
  intro X hP hw hK hc i aa s Z H E I hf st hg;subst hP hw hK;have hi:x.cps.size<=i:=hg;obtain⟨f0,f1,f2,f3,f4,f5⟩:=hf it (by simp)
  rcases sd with z|z
  .subst z;exact wpAny_pyNext_ascii_end (I.ok.hd hc) st (by simp;lia) λh' eb=>⟨rfl,I.turned (t':=s.toks) (λb o hb e=>eb b o hb e) f0 f1 f3 f4 f5⟩
  .subst z;exact wpAny_pyNext_wide_end (I.ok.hd hc) st (by simp;lia) λh' eb=>⟨rfl,I.turned (t':=s.toks) (λb o hb e=>eb b o hb e) f0 f1 f3 f4 f5⟩
 self:=λ_ _ _ _ _ st h=>by
  rcases sd with z|z
  .subst z;exact wpAny_pyIter_striter_ascii st h
  .subst z;exact wpAny_pyIter_striter_wide st h
def C7(tl:TE):TI:=λZ H R=>tl Z H λx H1=>∃z,x=.str z/\R (EI z) H1
def π{l:Expr}{tl:TE}(hl:PE X l tl):PI X tg l (C7 tl):=by
 intro aa s Z H R I h;refine bL (hl aa s Z H _ I h) λv s1 hh=>?_
 obtain⟨x,H1,I1,r1,q1⟩:=hh;obtain⟨z,e,q⟩:=q1;subst e;obtain⟨t,rfl⟩:=r1;have key:∀ty:String,ty="str_ascii_iterator"\/ty="str_iterator"->HS X aa Z tg R (.ref s1.heap.objs.size) { s1 with heap:=s1.heap.push { cls:=.type ty,data:=.fields #[.str z t,.int 0 0]}}:=λty sd=>by
  refine⟨s1.heap.objs.size,[s1.heap.objs.size],_,_,H1,rfl,I1.kept (t':=s1.toks) λb o e=>cZ _ e,VJ _ z t ty sd,⟨_,iR _ (by rcases sd with e|e <;> subst e <;> rfl),rfl,rfl⟩,λb hb=>?_,q⟩
  have e:b=s1.heap.objs.size:=by simpa using hb
  subst e;exact I1.kf (bY _) (I1.bw.fresh (bY _))
 cases ha:z.cps.all (· < 128)
 .exact wpAny_pyIter_wide ha (key _ (.inr rfl))
 .exact wpAny_pyIter_ascii ha (key _ (.inl rfl))
def gq(names outer:List (Str×oG))(N M:List Str)(k:Nat)(de:List Nat):Bool:=
 names.all (λy=>y.2 != .cell)&&(names.all (λy=>y.2 != .free || (outer.lookup y.1 == some .cell || outer.lookup y.1 == some .free))&&(names.all (λy=>y.2 != .local || names.lookup y.1 == some .local) && (M.length == k+de.length&&(List.range de.length).all (λj=>match de[j]?,M[k+j]? with|some i,some x=>N[i]? == some x&&names.lookup x == some .free|_,_=>true))))
def eE.of{scope:Scope}{M:List Str}{k:Nat}{de:List Nat}(outer:List (Str×oG))(N:List Str)(h:gq scope.names outer N M k de=true)(ho:X.env.scope.names=outer:=by rfl)(hN:X.N=N:=by rfl)(hk:scope.kind=.function:=by rfl):eE X scope M k de:=by
 unfold gq at h;simp only[iW,jJ,Mq,bne_iff_ne,ne_eq,beq_iff_eq] at h;obtain⟨h1,h2,h3,h4,h5⟩:=h;refine⟨hk,h1,λy hy e=>?_,λy hy e=>?_,h4,λj i x e1 e2=>?_⟩
 .rcases h2 y hy with z|z
  .exact cO e z
  .show X.env.scope.names.lookup y.1=_\/X.env.scope.names.lookup y.1=_;rw[ho];exact z
 .rcases h3 y hy with z|z
  .exact cO e z
  .exact z
 .have hj:j<de.length:=(eW.mp e1).1;have:=h5 j (qm.mpr hj);rw[e1,e2] at this;simp only[iW,beq_iff_eq] at this;rw[hN];exact this
section
variable{X:Cx}
def ρ:dF X (compareOp .Is) (λx y H Q=>∃a b,x=.bl a/\y=.bl b/\Q (.bl (a == b)) H):=by
 intro aa s Z H x y v u Q I rx ry h;obtain⟨a,b,rfl,rfl,q⟩:=h;cases rx;cases ry;exact is_bool (um I q rfl)
def XH:dF X (compareOp .IsNot) (λx y H Q=>∃a b,x=.bl a/\y=.bl b/\Q (.bl (a != b)) H):=by
 intro aa s Z H x y v u Q I rx ry h;obtain⟨a,b,rfl,rfl,q⟩:=h;cases rx;cases ry;exact isnot_bool (um I q rfl)
def B3(K:aL)(H:Hp):V->String->Prop
 |.aI,n=>n="NoneType"
 |.bl _,n=>n="bool"
 |.int _,n=>n="int"
 |.str _,n=>n="str"
 |.ref a,n=>(n="list"/\∃xs,c8 K H a xs)\/(n="tuple"/\∃xs,iB K H a xs)
 |_,_=>False
def qg(k T:String):Bool:=k == T || (k == "bool" && T == "int")
def VL:bT X (.builtin "isinstance") (λxs H Q=>∃x k T,xs=[x,.ty T]/\B3 X.K H x k/\(T="int"\/T="str"\/T="bool"\/T="list"\/T="tuple")/\Q (.bl (qg k T)) H):=by
 intro aa s Z H xs us Q I r h;obtain⟨x,k,T,rfl,hk,hT,q⟩:=h;obtain⟨u,w',rfl,rx,ry⟩:=vals2 r;cases ry;have fin:∀b,b=qg k T->EP X aa Z Q (.bool b) s:=λb e=>um I q e.symm
 have dr:∀b,b=qg k T->EP X aa Z Q (.bool b) { s with toks:=s.toks+1}:=λb e=>um (I.tok _) q e.symm
 cases x with
 |aI=>
  cases rx;have hk:k="NoneType":=hk;subst hk;rcases hT with rfl|rfl|rfl|rfl|rfl
  .exact IsiPair.NoneType_int (dr _ (by decide))
  .exact IsiPair.NoneType_str (dr _ (by decide))
  .exact IsiPair.NoneType_bool (dr _ (by decide))
  .exact IsiPair.NoneType_list (dr _ (by decide))
  .exact IsiPair.NoneType_tuple (dr _ (by decide))
 |bl b=>
  cases rx;have hk:k="bool":=hk;subst hk;rcases hT with rfl|rfl|rfl|rfl|rfl
  .exact IsiPair.bool_int (fin _ (by decide))
  .exact IsiPair.bool_str (dr _ (by decide))
  .exact IsiPair.bool_bool (fin _ (by decide))
  .exact IsiPair.bool_list (dr _ (by decide))
  .exact IsiPair.bool_tuple (dr _ (by decide))
 |int i=>
  obtain⟨t,rfl⟩:=rx;have hk:k="int":=hk;subst hk;rcases hT with rfl|rfl|rfl|rfl|rfl
  .exact IsiPair.int_int (fin _ (by decide))
  .exact IsiPair.int_str (dr _ (by decide))
  .exact IsiPair.int_bool (dr _ (by decide))
  .exact IsiPair.int_list (dr _ (by decide))
  .exact IsiPair.int_tuple (dr _ (by decide))
 |str z=>
  obtain⟨t,rfl⟩:=rx;have hk:k="str":=hk;subst hk;rcases hT with rfl|rfl|rfl|rfl|rfl
  .exact IsiPair.str_int (dr _ (by decide))
  .exact IsiPair.str_str (fin _ (by decide))
  .exact IsiPair.str_bool (dr _ (by decide))
  .exact IsiPair.str_list (dr _ (by decide))
  .exact IsiPair.str_tuple (dr _ (by decide))
 |ref a=>
  cases rx;rcases hk with⟨hk,ys,hs⟩|⟨hk,ys,hs⟩
  .subst hk;obtain⟨aG,_,⟨o,n,e,hc,_⟩,_⟩:=I.list hs;rcases hT with rfl|rfl|rfl|rfl|rfl
   .exact IsiPair.list_int e hc (dr _ (by decide))
   .exact IsiPair.list_str e hc (dr _ (by decide))
   .exact IsiPair.list_bool e hc (dr _ (by decide))
   .exact IsiPair.list_list e hc (fin _ (by decide))
   .exact IsiPair.list_tuple e hc (dr _ (by decide))
  .subst hk;obtain⟨aG,_,⟨o,e,hc,_⟩,_⟩:=I.tuple hs;rcases hT with rfl|rfl|rfl|rfl|rfl
   .exact IsiPair.tuple_int e hc (dr _ (by decide))
   .exact IsiPair.tuple_str e hc (dr _ (by decide))
   .exact IsiPair.tuple_bool e hc (dr _ (by decide))
   .exact IsiPair.tuple_list e hc (dr _ (by decide))
   .exact IsiPair.tuple_tuple e hc (fin _ (by decide))
 |vQ _=>exact False.elim hk
 |Aw _=>exact False.elim hk
 |ty _=>exact False.elim hk
def e8s{x:Str}{n:String}{pos:Pos}(hg:Gl X x)(hm:X.mg x=none)(hv:bootBuiltins x=some (.type n))(hn:x≠"__name__":=by decide)(hd:(x == ("__debug__":Str))=false:=by decide):PE X (.Name x pos) (tC (.ty n)):=
 Xi hg hm hv rfl hn hd
def Ti{prog:dc}{A:cN}(aG:List ai)(bs:List Bool)(hv:Vals (bs.map V.bl) aG):TruthOf prog w A (λi v=>aG.toArray[i]?=some v) (λi=>bs.getD i false):=by
 intro i v s Q E hP hQ;have RQ:aG[i]?=some v:=by simpa using hP
 have hl:=hv.length;rw[bx] at hl;have hi:i<aG.length:=(eW.mp RQ).1;have hb:(bs.map V.bl)[i]?=some (.bl bs[i]):=by simp[show i<bs.length by lia]
 obtain⟨u,hu,ru⟩:=hv.get hb;rw[RQ] at hu;cases hu;cases ru;have e:bs.getD i false=bs[i]:=by simp[show i<bs.length by lia]
 have RT:Q (bs.getD i false) s:=hQ;rw[e] at RT;exact wpAny_truthy_bool RT
def Uv(bs:List Bool):(List.range bs.length).all (λi=>bs.getD i false)=bs.all id:=by
 rw[zx,jJ,jJ];constructor
 .intro h b hb;obtain⟨i,hi,e⟩:=List.mem_iff_getElem.mp hb
  simp_all
 .intro h i hi;have hi:=qm.mp hi;have:=h bs[i] (zy hi);simp[hi];exact this
def Uw(hc:X.calm=true):bT X (.builtin "all") (λxs H Q=>∃(a:aj) (bs:List Bool),xs=[.ref a]/\c8 X.K H a (bs.map V.bl)/\Q (.bl (bs.all id)) H):=by
 intro aa s Z H xs us Q I r h;obtain⟨a,bs,rfl,hs,q⟩:=h;obtain⟨u,rfl,ru⟩:=vals1 r;cases ru;obtain⟨aG,rv,p,hz⟩:=I.list hs;have hl:=rv.length;rw[bx] at hl;refine call_all_walk (wpAny_pyIter_list p.isList ?_);have fS:a≠s.heap.objs.size:=by obtain⟨o,n,e,_⟩:=p;exact gP (cT e)
 refine⟨s.heap.objs.size,_,_,aG.toArray.size,_,_,λi=>bs.getD i false,rfl,Walks.list (A:=X.A.in1) (show X.A.in1.handled=none from I.ok.hd hc) _ a fS aG.toArray,⟨⟨_,iR _ rfl,rfl,rfl⟩,?_⟩,Ti aG bs rv,λh' tk hk=>?_⟩
 .exact p.isList.at λo e=>cZ _ e
 .have e1:aG.toArray.size=bs.length:=by rw[fm,<-hl]
  refine⟨.bl (bs.all id),H,I.kept (h':=h') (t':=tk) (λb o e=>hk b o (λz=>cO (gj (cT e) (Ez (mG.mp z).symm)) (jU _)) (cZ _ e)),?_,q⟩
  show Value.bool _=Value.bool _;rw[e1,Uv]
end
structure vA (K:aL) (mg:Str->ak ai) (x:Str) (st:Stmt) (f:aj) (fd:lj) (ps:List Str):Prop where
 fn:q_ K x x st f fd
 mg:mg x=some (.ref f)
 bd:Binds K fd ps []
def az.put{H H':Hp}{a:aj}{o:HO}(s:az H H')(h:H' a=none):az H (upd H' a o):=λb u e=>by
 have z:=s b u e;rw[dh (rC z h)];exact z
def rE{H:Hp}{a:aj}{o:HO}(h:H a=none):az H (upd H a o):=(az.refl H).put h
def VM{α:Type}{xs:List α}{k:Int}(d:α)(h0:0<=k)(hk:k<xs.length):dq xs k=some (xs.getD k.toNat d):=by
 have AD:k.toNat<xs.length:=by lia
 have e:xs[k.toNat]?=some (xs.getD k.toNat d):=by simp[AD]
 have z:=rG e
 rwa[show((k.toNat:Nat):Int)=k by lia] at z
def oV:bootBuiltins "list"=some (.type "list"):=by decide +kernel
section
variable{X:Cx}
noncomputable def qe(xs:List V)(k:Nat)(y:V):List V:=xs.take k++y::xs.drop k
def Tj(xs:List V)(k:Nat)(y:V):(qe xs k y).length=xs.length+1:=by
 grind [qe]
def Pw:V->List V->Hp->VK->Prop:=λx vs H Q=>∃l xs i y,x=.ref l/\vs=[.int i,y]/\H l=some (.lst xs)/\0<=i/\i<2^62/\xs.length<sizeLine/\Q .aI (upd H l (.lst (qe xs i.toNat y)))
theorem Ux:w6 X "list.insert" Pw:=by
 intro aa s Z H x vs v us Q I rx rv h;obtain⟨l,xs,i,y,rfl,rfl,hH,h0,hi,hz,q⟩:=h;cases rx;obtain⟨u,u',rfl,⟨t,rfl⟩,ru⟩:=rv.two;obtain⟨z,aG,n,r,hl,e⟩:=I.uO hH;have KC:¬(!Builtin.List.listFitsIndex i)=true:=by
  grind [PySem.Builtin.List.listFitsIndex]
 refine call_meets F.slot_list_insert ⟨_,e,rfl⟩ F.entry_list_insert (F.args_list_insert_3 _ _ _) (PySem.AutoSeq1.list_insert_list_int_val_1 l aG.toArray n i t u' KC (by rw[fm];lia)) ⟨e,?_⟩
 refine⟨.aI,_,I.uN (its':=aG.take i.toNat++u'::aG.drop i.toNat) hH e ?_ ((r.take i.toNat).append (.cons ru (r.drop i.toNat))) ?_,rfl,q⟩
 .have h1:¬i<0:=by lia
  simp only[h1,jK];apply Array.ext';simp only[Array.toList_append,Array.toList_push,Array.toList_extract,fm];rw[List.extract_eq_drop_take,List.extract_eq_drop_take];have e1:min i.toNat aG.length - 0=min i.toNat aG.length:=by lia
  rw[e1];simp only[List.drop_zero];have e2:aG.take (min i.toNat aG.length)=aG.take i.toNat:=by rw[List.take_eq_take_iff];lia
  rw[e2];by_cases hc:i.toNat<=aG.length
  .rw[Nat.min_eq_left hc,EB (l:=List.drop i.toNat aG) (by rw[AY];lia)]
   simp
  .have hc:aG.length<=i.toNat:=by lia
   rw[Nat.min_eq_right hc,Hu (bY _),Hu hc];simp
 .show(qe xs i.toNat y).length<=sizeLine;rw[Tj];lia
def HL(a c:Int)(n:Nat):It:=⟨λi _=>i<n,λi H x H'=>H'=H/\x=.int (a+i*c),λi _=>n<=i⟩
def Tn{P:dc}{w:cD}{K:aL}{tg:Expr}(it:aj)(a c:Int)(n:Nat):Turn P w K tg (HL a c n) [it] it (λi h=>IsRangeIter h it (a+(i:Nat)*c) ((n:Int) - (i:Nat)) c) where
 mem:=by simp
 obj:=λi h st b hb=>by
  simp_all
 keep:=λi h h' st k=>k it (by simp) _ st
 item:=by
  intro X hP hw hK hc i aa s Z H E I hf st hg;subst hP hw hK;obtain⟨f0,f1,f2,f3,f4,f5⟩:=hf it (by simp)
  have W:=Walks.range (prog:=X.prog) (w:=X.w) (I.ok.hd hc) it a c n;refine W.item i s _ _ hg st λv h' tk hv ir kk=>?_
  obtain⟨t,rfl⟩:=hv;have I1:Inv X aa Z H { s with heap:=h',toks:=tk}:=I.turned (λb o hb e=>kk b o (by simpa using hb) e) f0 f1 f3 f4 f5
  exact⟨_,rfl,vP (s:={ s with heap:=h',toks:=tk}) (n:="range_iterator") ir rfl rfl (by decide) ⟨.int (a+i*c),H,I1,⟨t,rfl⟩,⟨rfl,rfl⟩,ir,λb hb=>(hf b hb).1⟩⟩
 done:=by
  intro X hP hw hK hc i aa s Z H E I hf st hg;subst hP hw hK;obtain⟨f0,f1,f2,f3,f4,f5⟩:=hf it (by simp)
  exact wpAny_pyNext_range_end (I.ok.hd hc) st (by have:n<=i:=hg;lia) λh' eb=>⟨rfl,I.turned (t':=s.toks) (λb o hb e=>eb b o hb e) f0 f1 f3 f4 f5⟩
 self:=λ_ _ _ _ _ st h=>wpAny_pyIter_rangeiter st h
def DJ:V->ak Int->ak Int->Hp->VK->Prop:=λx lo hi H Q=>∃z,x=.str z/\z.length<=sizeLine/\Q (.str (Txt.slice z lo hi)) H
theorem zj:rn X DJ:=by
 intro aa s Z H x v vl vu lo hi sl Q I rx hs pl pu h;obtain⟨z,rfl,hz,q⟩:=h;obtain⟨t,rfl⟩:=rx;refine⟨"str",_,F.slot_str_getitem.lookup,typeIs_str _ _ _,?_⟩;have fin:∀t' k,EP X aa Z Q (.str (Txt.slice z lo hi) t') { s with toks:=k}:=λt' k=>⟨.str _,H,I.tok _,⟨_,rfl⟩,q⟩
 cases pl with
 |none=>
  cases pu with
  |none=>exact wpAny_getItem_str_slice (l:=none) (u:=none) (st:=none) hs rfl (post_val_or_str ⟨jt (Txt.slice_le z _ _) hz,fin⟩)
  |int j tj=>exact wpAny_getItem_str_slice (l:=none) (u:=some (j,tj)) (st:=none) hs rfl (post_val_or_str ⟨jt (Txt.slice_le z _ _) hz,fin⟩)
 |int i ti=>
  cases pu with
  |none=>exact wpAny_getItem_str_slice (l:=some (i,ti)) (u:=none) (st:=none) hs rfl (post_val_or_str ⟨jt (Txt.slice_le z _ _) hz,fin⟩)
  |int j tj=>exact wpAny_getItem_str_slice (l:=some (i,ti)) (u:=some (j,tj)) (st:=none) hs rfl (post_val_or_str ⟨jt (Txt.slice_le z _ _) hz,fin⟩)
def TH:dF X (binaryOp .Mult) (λx y H Q=>∃z n,x=.str z/\y=.int n/\MulOk z n/\Q (.str (Txt.mul z n)) H):=by
 intro aa s Z H x y v u Q I rx ry h;obtain⟨z,n,rfl,rfl,hm,q⟩:=h;obtain⟨t,rfl⟩:=rx;obtain⟨t',rfl⟩:=ry;exact SB.mul hm λt' k=>⟨.str _,H,I.tok _,⟨_,rfl⟩,q⟩
end
section
variable{X:Cx}{aa:List (aj×Obj)}{Z:St}{H:Hp}{s:ax}
def Vals.at{xs:List V}{us:List ai}(r:Vals xs us){j:Nat}(h:j<us.toArray.size):∃x,xs[j]?=some x/\RelV x us.toArray[j]:=by
 have hl:=r.length;have h':j<us.length:=by simpa using h
 have hx:xs[j]?=some xs[j]:=by simp[show j<xs.length by lia]
 obtain⟨u,hu,ru⟩:=r.get hx
 simp_all
end
section
variable{X:Cx}
def VN(K:aL)(hK:X.K=K:=by rfl):pW X (y9 K):=hK ▸ XB
def XI(K:aL)(hK:X.K=K:=by rfl):pW X (y_ K):=hK ▸ ξ
def S7(K:aL)(hK:X.K=K:=by rfl):bT X (.builtin "len") (λxs H Q=>∃p ys,xs=[.ref p]/\(c8 K H p ys\/iB K H p ys)/\Q (.int ys.length) H):=hK ▸ Tc
def VO(K:aL)(hK:X.K=K:=by rfl):rn X (ze K):=hK ▸ XC
def XJ(K:aL)(hK:X.K=K:=by rfl):rn X (zf K):=hK ▸ ν
def Uy(K:aL)(hK:X.K=K:=by rfl):bT X (.builtin "isinstance") (λxs H Q=>∃x k T,xs=[x,.ty T]/\B3 K H x k/\(T="int"\/T="str"\/T="bool"\/T="list"\/T="tuple")/\Q (.bl (qg k T)) H):=hK ▸ VL
def S8(K:aL)(hK:X.K=K:=by rfl):bT X (.type "list") (λxs H Q=>∃p ys,xs=[.ref p]/\(c8 K H p ys\/iB K H p ys)/\∀l,H l=none->Q (.ref l) (upd H l (.lst ys))):=hK ▸ Td
end
end L2
set_option autoImplicit false
namespace L2
open PySem PySem.Spec PyProof.Rows
theorem Bv{α β:Type}{R:α->β->Prop}:∀{l:List α} {m:List β} (i:Nat) {b:β},Paired R l m->m[i]?=some b->∃a,l[i]?=some a/\R a b
 |_,_,_,_,.nil,e=>by simp at e
 |_,_,0,_,.cons r _,e=>by simp at e;subst e;exact⟨_,rfl,r⟩
 |_,_,i+1,_,.cons _ t,e=>by
  obtain⟨a,h1,h2⟩:=Bv i t (by simpa using e)
  simp_all
def Bw{α β:Type}{R:α->β->Prop}:∀{l:List α} {m:List β} (i:Nat) {a:α},Paired R l m->l[i]?=some a->∃b,m[i]?=some b/\R a b:=by
 intro l m i a h e
 induction h generalizing i with
 |nil=>simp at e
 |cons r _ ih=>cases i with
  |zero=>simp at e;subst e;exact⟨_,rfl,r⟩
  |succ i=>exact ih i (by simpa using e)
inductive D where
 |aI|bl (b:Bool)|int (i:Int)|str (x:Str)|ty (n:String)|ref (n:Nat)
 |lst (xs:List D)|tup (xs:List D)|av (kvs:List (TK×D))
mutual
def TK.d:TK->D
 |.inl i=>.int i
 |.inr x=>.str x
 |.tp l=>.tup (TK.dl l)
 |.aI=>.aI
def TK.dl:List TK->List D
 |[]=>[]
 |k::l=>TK.d k::TK.dl l
end
noncomputable def vL:D->ak V
 |.aI=>some .aI
 |.bl b=>some (.bl b)
 |.int i=>some (.int i)
 |.str x=>some (.str x)
 |.ty n=>some (.ty n)
 |_=>none
structure Kn where
 F:Hp
 A:List aj
 T:List aj
inductive ag (K:aL) (k:Kn):List V->List D->Prop
 |nil:ag K k [] []
 |flat {v:V} {d:D} {vs:List V} {ds:List D}:vL d=some v->ag K k vs ds->ag K k (v::vs) (d::ds)
 |ref {n:Nat} {a:aj} {vs:List V} {ds:List D}:k.A[n]?=some a->ag K k vs ds->ag K k (.ref a::vs) (.ref n::ds)
 |lst {a:aj} {ws vs:List V} {es ds:List D}:c8 K k.F a ws->ag K k ws es->ag K k vs ds->ag K k (.ref a::vs) (.lst es::ds)
 |tup {a:aj} {ws vs:List V} {es ds:List D}:iB K k.F a ws->ag K k ws es->ag K k vs ds->ag K k (.ref a::vs) (.tup es::ds)
 |av {a:aj} {kvs:List (TK×V×V)} {es:List (TK×D)} {ep:Nat} {vs:List V} {ds:List D}:k.F a=some (.dG kvs ep)->kvs.map (·.1)=es.map (·.1)->ag K k (kvs.map (·.2.1)) (es.map (·.1.d))->ag K k (kvs.map (·.2.2)) (es.map (·.2))->ag K k vs ds->ag K k (.ref a::vs) (.av es::ds)
def az.rd{H H':Hp}{a:aj}{u:HO}(e:az H H')(h:Rd H a u):Rd H' a u:=by
 rcases h with h|⟨o,h⟩
 .exact .inl (e _ _ h)
 .exact .inr ⟨o,e _ _ h⟩
def az.zo{K:aL}{H H':Hp}{a:aj}{xs:List V}(e:az H H')(h:iB K H a xs):iB K H' a xs:=h.imp e.rd id
def az.LO{K:aL}{H H':Hp}{a:aj}{xs:List V}(e:az H H')(h:c8 K H a xs):c8 K H' a xs:=h.imp e.rd id
structure Kn.le (k k':Kn):Prop where
 f:az k.F k'.F
 a:k.A <+: k'.A
def Gb{α:Type}{l l':List α}{n:Nat}{x:α}(h:l <+: l')(e:l[n]?=some x):l'[n]?=some x:=by
 obtain⟨t,rfl⟩:=h;rw[sT (eW.mp e).1];exact e
section
variable{K:aL}{k k':Kn}{v:V}{vs ws:List V}{d:D}{ds es:List D}
def ag.mono(s:k.le k')(h:ag K k vs ds):ag K k' vs ds:=by
 induction h with
 |nil=>exact .nil
 |flat e _ ih=>exact .flat e ih
 |ref e _ ih=>exact .ref (Gb s.a e) ih
 |lst e _ _ i1 i2=>exact .lst (s.f.LO e) i1 i2
 |tup e _ _ i1 i2=>exact .tup (s.f.zo e) i1 i2
 |av e q _ _ _ i0 i1 i2=>exact .av (s.f _ _ e) q i0 i1 i2
def ag.length(h:ag K k vs ds):vs.length=ds.length:=by
 induction h with
 |nil=>rfl
 |flat _ _ ih=>exact congrArg _ ih
 |ref _ _ ih=>exact congrArg _ ih
 |lst _ _ _ _ ih=>exact congrArg _ ih
 |tup _ _ _ _ ih=>exact congrArg _ ih
 |av _ _ _ _ _ _ _ ih=>exact congrArg _ ih
def ag.inv(h:ag K k (v::vs) (d::ds)):ag K k [v] [d]/\ag K k vs ds:=by
 cases h with
 |flat e t=>exact⟨.flat e .nil,t⟩
 |ref e t=>exact⟨.ref e .nil,t⟩
 |lst e i t=>exact⟨.lst e i .nil,t⟩
 |tup e i t=>exact⟨.tup e i .nil,t⟩
 |av e q j i t=>exact⟨.av e q j i .nil,t⟩
def ag.cons(h:ag K k [v] [d])(t:ag K k vs ds):ag K k (v::vs) (d::ds):=by
 cases h with
 |flat e _=>exact .flat e t
 |ref e _=>exact .ref e t
 |lst e i _=>exact .lst e i t
 |tup e i _=>exact .tup e i t
 |av e q j i _=>exact .av e q j i t
def ag.ck(h:ag K k vs (d::ds)):∃w us,vs=w::us/\ag K k [w] [d]/\ag K k us ds:=by
 cases vs with
 |nil=>have:=h.length;cases this
 |cons w us=>exact⟨w,us,rfl,h.inv⟩
def ag.eR(h:ag K k vs []):vs=[]:=List.eq_nil_of_length_eq_zero h.length
def ag.get{i:Nat}(h:ag K k vs ds)(e:ds[i]?=some d):∃v,vs[i]?=some v/\ag K k [v] [d]:=by
 induction ds generalizing vs i with
 |nil=>cases e
 |cons x ds ih=>
  obtain⟨w,us,rfl,h1,h2⟩:=h.ck;cases i with
  |zero=>cases e;exact⟨w,rfl,h1⟩
  |succ i=>exact ih (vs:=us) (i:=i) h2 e
def ag.append(h:ag K k vs ds)(t:ag K k ws es):ag K k (vs++ws) (ds++es):=by
 induction ds generalizing vs with
 |nil=>rw[h.eR];exact t
 |cons x ds ih=>
  obtain⟨w,us,rfl,h1,h2⟩:=h.ck;exact .cons h1 (ih h2)
def ag.take(n:Nat)(h:ag K k vs ds):ag K k (vs.take n) (ds.take n):=by
 induction n generalizing vs ds with
 |zero=>exact .nil
 |succ n ih=>
  cases ds with
  |nil=>rw[h.eR];exact .nil
  |cons x ds=>
   obtain⟨w,us,rfl,h1,h2⟩:=h.ck;exact .cons h1 (ih h2)
def ag.drop(n:Nat)(h:ag K k vs ds):ag K k (vs.drop n) (ds.drop n):=by
 induction n generalizing vs ds with
 |zero=>exact h
 |succ n ih=>
  cases ds with
  |nil=>rw[h.eR];exact .nil
  |cons x ds=>
   obtain⟨w,us,rfl,h1,h2⟩:=h.ck;exact ih h2
def VP(ns:List Int):ag K k (ns.map V.int) (ns.map D.int):=by
 induction ns with
 |nil=>exact .nil
 |cons n ns ih=>exact .flat rfl ih
def ag.bo{u:V}(h:ag K k [v] [d])(e:vL d=some u):v=u:=by
 cases h with
 |flat q _=>rw[e] at q;exact(Option.some.inj q).symm
 |_=>cases e
def ag.isRef{n:Nat}(h:ag K k [v] [.ref n]):∃a,v=.ref a/\k.A[n]?=some a:=by
 cases h with
 |flat q _=>cases q
 |ref e _=>exact⟨_,rfl,e⟩
def ag.wa(h:ag K k [v] [.lst es]):∃a ws,v=.ref a/\c8 K k.F a ws/\ag K k ws es:=by
 cases h with
 |flat q _=>cases q
 |lst e i _=>exact⟨_,_,rfl,e,i⟩
def ag.isTup(h:ag K k [v] [.tup es]):∃a ws,v=.ref a/\iB K k.F a ws/\ag K k ws es:=by
 cases h with
 |flat q _=>cases q
 |tup e i _=>exact⟨_,_,rfl,e,i⟩
def ag.nj{kvs:List (TK×D)}(h:ag K k [v] [.av kvs]):∃a es ep,v=.ref a/\k.F a=some (.dG es ep)/\es.map (·.1)=kvs.map (·.1)/\ag K k (es.map (·.2.1)) (kvs.map (·.1.d))/\ag K k (es.map (·.2.2)) (kvs.map (·.2)):=by
 cases h with
 |flat q _=>cases q
 |av e q j i _=>exact⟨_,_,_,rfl,e,q,j,i⟩
end
end L2
set_option autoImplicit false
namespace L2
open PySem PySem.Spec PyProof.Rows
inductive Bx where
 |lst (xs:List D)|av (kvs:List (TK×D))
noncomputable def Bx.d:Bx->D
 |.lst xs=>.lst xs
 |.av kvs=>.av kvs
inductive Cell where
 |o (c:Bx)|z (c:Bx)|ins (C:aj) (fs:List (Str×D))
structure aU where
 s:List Cell
 r:List Cell
inductive Val where
 |d (x:D)|c (n:Nat)
abbrev Gm:=List (ak Val)
inductive Rv where
 |v (x:Val)|o (c:Bx)
inductive Rs (α:Type) where
 |ok (a:α) (S:aU)|ex (C:aj) (l:ak Int) (S:aU)
abbrev Gx(α:Type):=Gm->aU->ak (Rs α)
def bd{α β:Type}(x:ak (Rs α))(f:α->aU->ak (Rs β)):ak (Rs β):=match x with
 |none=>none
 |some (.ok a S)=>f a S
 |some (.ex C l S)=>some (.ex C l S)
noncomputable def uM:Nat->HO->Bool
 |0,_=>false
 |1,.dG _ _=>true
 |1,_=>false
 |_,_=>true
def dO(K:aL)(k:Kn)(H:Hp)(a:aj):Bx->Prop
 |.lst xs=>∃ws,H a=some (.lst ws)/\ag K k ws xs
 |.av kvs=>∃es ep,H a=some (.dG es ep)/\es.map (·.1)=kvs.map (·.1)/\ag K k (es.map (·.2.1)) (kvs.map (·.1.d))/\ag K k (es.map (·.2.2)) (kvs.map (·.2))
def bA(K:aL)(k:Kn)(H:Hp)(a:aj):Cell->Prop
 |.o c=>k.F a=none/\dO K k H a c
 |.z c=>k.F a≠none/\ag K k [.ref a] [c.d]
 |.ins C fs=>k.F a=none/\∃dx gs,H a=some (.ins C dx gs)/\gs.map (·.1)=fs.map (·.1)/\ag K k (gs.map (·.2)) (fs.map (·.2))
structure Lay (K:aL) (k:Kn) (H:Hp) (as:List aj) (cs:List Cell):Prop where
 ln:as.length=cs.length
 at':∀(n:Nat) (a:aj) (c:Cell),as[n]?=some a->cs[n]?=some c->bA K k H a c
structure cq (K:aL) (k:Kn) (H:Hp) (S:aU):Prop where
 le:az k.F H
 nd:(k.A++k.T).Nodup
 r:Lay K k H k.A S.r
 s:Lay K k H k.T S.s
structure Up (q:Nat) (k:Kn) (H:Hp) (k':Kn) (H':Hp):Prop where
 f:az k.F k'.F
 a:k.A <+: k'.A
 t:k.T <+: k'.T
 h:∀a o,uM q o=true->H a=some o->H' a=some o
def c7(K:aL)(k:Kn)(x:V):Val->Prop
 |.d y=>ag K k [x] [y]
 |.c n=>∃a,x=.ref a/\k.T[n]?=some a
structure gR (K:aL) (k:Kn) (Z:St) (U:Gm):Prop where
 ln:Z.length=U.length
 at':∀(i:Nat) (v:Val),U[i]?=some (some v)->∃x,Z[i]?=some (some x)/\c7 K k x v
def n9(K:aL)(k:Kn)(H:Hp)(x:V):Rv->Prop
 |.v y=>c7 K k x y
 |.o c=>∃a,x=.ref a/\k.F a=none/\a∉k.A++k.T/\dO K k H a c
section
variable{q:Nat}{K:aL}{k k' R_:Kn}{F' H H' A_:Hp}{S S':aU}{Z:St}{U:Gm}{n:Nat}{a:aj}{as:List aj}{cs:List Cell}{c:Cell}{b:Bx}
theorem Kn.le.refl:k.le k:=⟨az.refl _,k_ _⟩
def Up.le(u:Up q k H k' H'):k.le k':=⟨u.f,u.a⟩
theorem Up.refl:Up q k H k H:=⟨az.refl _,k_ _,k_ _,λ_ _ _ h=>h⟩
theorem Up.trans(x:Up q k H k' H')(y:Up q k' H' R_ A_):Up q k H R_ A_:=⟨x.f.trans y.f,x.a.trans y.a,x.t.trans y.t,λa o z h=>y.h a o z (x.h a o z h)⟩
def Up.of{F':Hp}(s:az k.F F')(t:az H H'):Up q k H ⟨F',k.A,k.T⟩ H':=⟨s,k_ _,k_ _,λa o _ h=>t a o h⟩
def c7.up{x:V}{v:Val}(h:c7 K k x v)(u:Up q k H k' H'):c7 K k' x v:=by
 cases v with
 |d y=>exact ag.mono u.le h
 |c n=>obtain⟨a,e,z⟩:=h;exact⟨a,e,Gb u.t z⟩
theorem vB.up{xs:List V}{vs:List Val}(h:Paired (c7 K k) xs vs)(u:Up q k H k' H'):Paired (c7 K k') xs vs:=Paired.Dl h λ_ _ r=>r.up u
theorem gR.up(h:gR K k Z U)(u:Up q k H k' H'):gR K k' Z U:=⟨h.ln,λi v e=>let ⟨x,z,r⟩:=h.at' i v e;⟨x,z,r.up u⟩⟩
def dO.keep(h:dO K k H a b)(s:k.le k')(e:∀o,H a=some o->H' a=some o):dO K k' H' a b:=by
 cases b with
 |lst xs=>obtain⟨ws,z,r⟩:=h;exact⟨ws,e _ z,r.mono s⟩
 |av kvs=>obtain⟨es,ep,z,q,r,t⟩:=h;exact⟨es,ep,e _ z,q,r.mono s,t.mono s⟩
theorem bA.keep(h:bA K k H a c)(s:k.le k')(e:∀o,H a=some o->H' a=some o)(fr:k.F a=none->k'.F a=none):bA K k' H' a c:=by
 cases c with
 |o b=>exact⟨fr h.1,h.2.keep s e⟩
 |z b=>exact⟨λz=>h.1 (s.f.free z),h.2.mono s⟩
 |ins C fs=>obtain⟨h0,dx,gs,h1,h2,h3⟩:=h;exact⟨fr h0,dx,gs,e _ h1,h2,h3.mono s⟩
def dO.there(h:dO K k H a b):H a≠none:=λz=>by
 cases b with
 |lst xs=>obtain⟨_,e,_⟩:=h;rw[e] at z;cases z
 |av kvs=>obtain⟨_,_,e,_⟩:=h;rw[e] at z;cases z
theorem bA.there(h:bA K k H a c)(le:az k.F H):H a≠none:=by
 cases c with
 |o b=>exact h.2.there
 |z b=>exact λz=>h.1 (le.free z)
 |ins C fs=>obtain⟨_,dx,gs,h1,_⟩:=h;rw[h1];exact λz=>nomatch z
def Lay.get(h:Lay K k H as cs)(e:as[n]?=some a):∃c,cs[n]?=some c/\bA K k H a c:=by
 have hn:n<cs.length:=h.ln ▸ (eW.mp e).1;exact⟨_,fG hn,h.at' n a _ e (fG hn)⟩
def Lay.keep(h:Lay K k H as cs)(f:∀a∈as,∀c,bA K k H a c->bA K k' H' a c):Lay K k' H' as cs:=⟨h.ln,λn a c e1 e2=>f a (sU e1) c (h.at' n a c e1 e2)⟩
def Px{α:Type}{l:List α}{x y:α}(e:(l++[x])[n]?=some y):l[n]?=some y\/(n=l.length/\y=x):=by
 by_cases h:n<l.length
 .rw[sT h] at e;exact .inl e
 .have h1:=Nat.le_of_not_lt h;rw[qE h1] at e;have h2:n - l.length=0:=Nat.lt_one_iff.mp (eW.mp e).1;rw[h2] at e;cases e;exact .inr ⟨by lia,rfl⟩
def FT{α:Type}{l:List α}{x:α}:(l++[x])[l.length]?=some x:=by rw[qE (bY _),Mr];rfl
def Lay.push(h:Lay K k H as cs)(hc:bA K k H a c):Lay K k H (as++[a]) (cs++[c]):=by
 refine⟨by rw[dw,dw,h.ln];rfl,λn b d e1 e2=>?_⟩
 rcases Px e1 with e1|⟨z,rfl⟩ <;> rcases Px e2 with e2|⟨y,rfl⟩
 .exact h.at' n b d e1 e2
 .exact cO (eW.mp e1).1 (by rw[y,h.ln];exact jU _)
 .exact cO (eW.mp e2).1 (by rw[z,h.ln];exact jU _)
 .exact hc
def Fx{α:Type}{l:List α}{i j:Nat}{x:α}(nd:l.Nodup)(e1:l[i]?=some x)(e2:l[j]?=some x):i=j:=by
 obtain⟨h1,z1⟩:=eW.mp e1;obtain⟨h2,z2⟩:=eW.mp e2;exact(Ew nd).mp (z1.trans z2.symm)
def Lay.set(h:Lay K k H as cs)(nd:as.Nodup)(ha:as[n]?=some a)(hc:bA K k' H' a c)(f:∀b∈as,b≠a->∀c,bA K k H b c->bA K k' H' b c):Lay K k' H' as (cs.set n c):=by
 refine⟨by rw[t5];exact h.ln,λj b d e1 e2=>?_⟩
 by_cases e0:n=j
 .subst e0;rw[t4 (h.ln ▸ (eW.mp ha).1)] at e2;cases e2;cases ha.symm.trans e1;exact hc
 .rw[AX e0] at e2;exact f b (sU e1) (λz=>e0 (Fx nd ha (z ▸ e1))) d (h.at' j b d e1 e2)
def Lay.take(h:Lay K k H as cs)(m:Nat):Lay K k H (as.take m) (cs.take m):=by
 refine⟨by rw[wK,wK,h.ln],λj b d e1 e2=>?_⟩
 rw[List.getElem?_take] at e1 e2;split at e1
 .rename_i hj
  rw[bM hj] at e2;exact h.at' j b d e1 e2
 .cases e1
theorem Lay.there(h:Lay K k H as cs)(le:az k.F H):∀a∈as,H a≠none:=λa m=>by
 obtain⟨n,e⟩:=zz.mp m;obtain⟨c,_,hc⟩:=h.get e;exact hc.there le
theorem cq.there(h:cq K k H S):∀a∈k.A++k.T,H a≠none:=λa m=>(iQ.mp m).elim (h.r.there h.le a) (h.s.there h.le a)
def cq.fresh(h:cq K k H S)(e:H a=none):k.F a=none/\a∉k.A++k.T:=⟨h.le.free e,λm=>h.there a m e⟩
def cq.new(h:cq K k H S)(s1:az k.F F')(s2:∀a∈k.A++k.T,∀o,H a=some o->H' a=some o)(s3:az F' H')(fr:∀p∈k.A++k.T,k.F p=none->F' p=none):cq K ⟨F',k.A,k.T⟩ H' S:=
 have go:∀a∈k.A++k.T,∀c,bA K k H a c->bA K ⟨F',k.A,k.T⟩ H' a c:=λa m _ q=>q.keep ⟨s1,k_ _⟩ (s2 a m) (fr a m)
 ⟨s3,h.nd,h.r.keep λa m=>go a (Eu _ m),h.s.keep λa m=>go a (nU _ m)⟩
def bA.le(h:bA K k H a c)(s:k.le k')(e:k.F=k'.F):bA K k' H a c:=h.keep s (λ_ z=>z) λz=>by rw[<-e];exact z
def IX{α:Type}{l:List α}{x:α}:l <+: l++[x]:=List.prefix_append _ _
def σ{α:Type}{l m:List α}{x:α}(h:(l++m).Nodup)(n:x∉l++m):((l++[x])++m).Nodup:=by
 rw[lG];exact(List.perm_middle (l₁:=l) (l₂:=m) (a:=x)).nodup_iff.mpr (qp.mpr ⟨n,h⟩)
def cq.pushS(h:cq K k H S)(hF:k.F a=none)(hn:a∉k.A++k.T)(hb:dO K k H a b):cq K ⟨k.F,k.A,k.T++[a]⟩ H ⟨S.s++[.o b],S.r⟩/\∀q,Up q k H ⟨k.F,k.A,k.T++[a]⟩ H:=by
 have go:k.le ⟨k.F,k.A,k.T++[a]⟩:=⟨az.refl _,k_ _⟩;refine⟨⟨h.le,?_,h.r.keep λ_ _ _ z=>z.le go rfl,(h.s.push (c:=.o b) ⟨hF,hb⟩).keep λ_ _ _ z=>z.le go rfl⟩,λq=>⟨az.refl _,k_ _,IX,λ_ _ _ z=>z⟩⟩
 rw[<-lG];exact mH.mpr ⟨h.nd,by simp,λx m y m' e=>hn (by rw[mG.mp m'] at e;exact e ▸ m)⟩
def cq.wo(h:cq K k H S)(hn:a∉k.A++k.T)(hc:bA K k H a c):cq K ⟨k.F,k.A++[a],k.T⟩ H ⟨S.s,S.r++[c]⟩/\∀q,Up q k H ⟨k.F,k.A++[a],k.T⟩ H:=by
 have go:k.le ⟨k.F,k.A++[a],k.T⟩:=⟨az.refl _,IX⟩;exact⟨⟨h.le,σ h.nd hn,(h.r.push hc).keep λ_ _ _ z=>z.le go rfl,h.s.keep λ_ _ _ z=>z.le go rfl⟩,λq=>⟨az.refl _,IX,k_ _,λ_ _ _ z=>z⟩⟩
def lq(H H':Hp)(a:aj):Prop:=∀b,b≠a->H' b=H b
def BD{o:HO}:lq H (upd H a o) a:=λ_ z=>dh z
def cq.chg(h:cq K k H S)(ho:lq H H' a)(hF:k.F a=none)(hq:∀o,H a=some o->uM q o=false):az k.F H'/\Up q k H k H'/\∀b,b≠a->∀c,bA K k H b c->bA K k H' b c:=
 ⟨λb o e=>by rw[ho b λz=>by rw[z,hF] at e;cases e];exact h.le b o e,⟨az.refl _,k_ _,k_ _,λb o e z=>by
  by_cases y:b=a
  .simp_all
  .rw[ho b y];exact z⟩,λb y c z=>z.keep .refl (λo e=>by rw[ho b y];exact e) id⟩
def cq.DP(h:cq K k H S)(ha:k.A[n]?=some a)(ho:lq H H' a)(hF:k.F a=none)(hq:∀o,H a=some o->uM q o=false)(hc:bA K k H' a c):cq K k H' ⟨S.s,S.r.set n c⟩/\Up q k H k H':=by
 obtain⟨h1,h2,h3⟩:=h.chg ho hF hq;obtain⟨n1,n2,n3⟩:=mH.mp h.nd;exact⟨⟨h1,h.nd,h.r.set n1 ha hc λb _=>h3 b,h.s.keep λb m=>h3 b λz=>n3 a (sU ha) b m z.symm⟩,h2⟩
def cq.LI(h:cq K k H S)(ha:k.T[n]?=some a)(ho:lq H H' a)(hF:k.F a=none)(hq:∀o,H a=some o->uM q o=false)(hc:bA K k H' a c):cq K k H' ⟨S.s.set n c,S.r⟩/\Up q k H k H':=by
 obtain⟨h1,h2,h3⟩:=h.chg ho hF hq;obtain⟨n1,n2,n3⟩:=mH.mp h.nd;exact⟨⟨h1,h.nd,h.r.keep λb m=>h3 b λz=>n3 b m a (sU ha) z,h.s.set n2 ha hc λb _=>h3 b⟩,h2⟩
def dO.Y(h:dO K k H a b)(le:az k.F H)(hF:k.F a=none):∃o,H a=some o/\az k.F (upd k.F a o)/\az (upd k.F a o) H/\ag K ⟨upd k.F a o,k.A,k.T⟩ [.ref a] [b.d]:=by
 have sm:∀o,az k.F (upd k.F a o):=λo=>rE hF
 have sh:∀o,H a=some o->az (upd k.F a o) H:=λo e p u q=>by
  by_cases z:p=a
  .grind [aK]
  .rw[dh z] at q;exact le p u q
 cases b with
 |lst xs=>
  obtain⟨ws,e,r⟩:=h;exact⟨_,e,sm _,sh _ e,.lst (.inl (.inl aK)) (r.mono ⟨sm _,k_ _⟩) .nil⟩
 |av kvs=>
  obtain⟨es,ep,e,q,r,t⟩:=h;exact⟨_,e,sm _,sh _ e,.av aK q (r.mono ⟨sm _,k_ _⟩) (t.mono ⟨sm _,k_ _⟩) .nil⟩
def cq.Kk(h:cq K k H S)(hF:k.F a=none)(hn:a∉k.A++k.T)(hb:dO K k H a b):∃F',cq K ⟨F',k.A,k.T⟩ H S/\(∀q,Up q k H ⟨F',k.A,k.T⟩ H)/\ag K ⟨F',k.A,k.T⟩ [.ref a] [b.d]:=by
 obtain⟨o,e,s1,s2,rp⟩:=hb.Y h.le hF;exact⟨_,h.new s1 (λ_ _ _ z=>z) s2 λp m z=>by rw[dh (show p≠a from λy=>hn (y ▸ m))];exact z,λq=>.of s1 (az.refl _),rp⟩
def cq.Kl(h:cq K k H S)(ha:k.T[n]?=some a)(hc:S.s[n]?=some (.o b)):∃F',cq K ⟨F',k.A,k.T⟩ H ⟨S.s.set n (.z b),S.r⟩/\(∀q,Up q k H ⟨F',k.A,k.T⟩ H)/\ag K ⟨F',k.A,k.T⟩ [.ref a] [b.d]:=by
 obtain⟨hF,hb⟩:=h.s.at' n a _ ha hc;obtain⟨o,e,s1,s2,rp⟩:=hb.Y h.le hF;obtain⟨n1,n2,n3⟩:=mH.mp h.nd;have go:∀p,p≠a->∀c,bA K k H p c->bA K ⟨upd k.F a o,k.A,k.T⟩ H p c:=λp y c z=>z.keep ⟨s1,k_ _⟩ (λ_ z=>z) λz=>(dh y).trans z
 exact⟨_,⟨s2,h.nd,h.r.keep λp m=>go p λz=>n3 p m a (sU ha) z,h.s.set n2 ha (c:=.z b) ⟨λz=>(nomatch aK.symm.trans z),rp⟩ λp _=>go p⟩,λq=>.of s1 (az.refl _),rp⟩
theorem cq.take(h:cq K k H S)(m:Nat):cq K ⟨k.F,k.A,k.T.take m⟩ H ⟨S.s.take m,S.r⟩:=
 have go:k.le ⟨k.F,k.A,k.T.take m⟩:=⟨az.refl _,k_ _⟩
 ⟨h.le,h.nd.sublist ((List.Sublist.refl _).append (List.take_sublist _ _)),h.r.keep λ_ _ _ z=>z.le go rfl,(h.s.take m).keep λ_ _ _ z=>z.le go rfl⟩
def Ou{α:Type}{l l':List α}{m:Nat}(h:l <+: l')(hm:l.length<=m):l <+: l'.take m:=by
 grind
def Up.take(u:Up q k H k' H'){m:Nat}(h:k.T.length<=m):Up q k H ⟨k'.F,k'.A,k'.T.take m⟩ H':=⟨u.f,u.a,Ou u.t h,u.h⟩
end
end L2
set_option autoImplicit false
namespace L2
open PySem PySem.Spec PyProof.Rows
variable{X:Cx}{e:Expr}{t:TE}{t':TT}{v x:V}{k:Kn}{S:aU}{r:R2}{Q:List V->Hp->Prop}{vs:List Val}{ds:List D}{o:List D->ak Rv}
def PE.mono{t':TE}(h:PE X e t)(m:∀Z H Q,t' Z H Q->t Z H Q):PE X e t':=λaa s Z H Q I q=>h aa s Z H Q I (m _ _ _ q)
def PT.mono{t:TT}(h:PT X e t)(m:∀Z H Q,t' Z H Q->t Z H Q):PT X e t':=λaa s Z H Q I q=>h aa s Z H Q I (m _ _ _ q)
def PW.mono{t:TT}(h:PW X e t)(m:∀Z H Q,t' Z H Q->t Z H Q):PW X e t':=λwh aa s Z H Q I q=>h wh aa s Z H Q I (m _ _ _ q)
def PA.mono{e:List Expr}{t t':TA}(h:PA X e t)(m:∀Z H Q,t' Z H Q->t Z H Q):PA X e t':=λpos aa s Z H Q I q=>h pos aa s Z H Q I (m _ _ _ q)
def PS.mono{e:Stmt}{t t':TS}(h:PS X e t)(m:∀D Z H,t' D Z H->t D Z H):PS X e t':=λaa s Z H D I q=>h aa s Z H D I (m _ _ _ q)
def iT.mono{e:List Stmt}{t t':TS}(h:iT X e t)(m:∀D Z H,t' D Z H->t D Z H):iT X e t':=λaa s Z H D I q=>h aa s Z H D I (m _ _ _ q)
abbrev XW:=aj->ak aj->St->Hp->Prop
def A7(F:Hp)(dx:ak aj):ak Int->Prop
 |none=>dx=none
 |some n=>∃d,dx=some d/\F d=some (.xd [("line",.int n)])
abbrev Rp(α β:Type):=Kn->Hp->β->α->Prop
section
variable{α β α' β':Type}(R:Rp α β){R':Rp α' β'}(K:aL)(W:XW)(q:Nat){Z:St}{H H':Hp}{k k':Kn}{U:Gm}{S:aU}{Q:β->Hp->Prop}{Q':β'->Hp->Prop}
def gF(Z:St)(k:Kn)(H:Hp)(Q:β->Hp->Prop):Rs α->Prop
 |.ok a S=>∀b k' H',Up q k H k' H'->cq K k' H' S->R k' H' b a->Q b H'
 |.ex C l S=>∀dx k' H',Up q k H k' H'->cq K k' H' S->A7 k'.F dx l->W C dx Z H'
def tX(g:Gx α):St->Hp->(β->Hp->Prop)->Prop:=λZ H Q=>∃k U S res,cq K k H S/\gR K k Z U/\g U S=some res/\gF R K W q Z k H Q res
variable{R K W q}
def gF.up{res:Rs α}(w:gF R K W q Z k H Q res)(u:Up q k H k' H'):gF R K W q Z k' H' Q res:=by
 cases res with
 |ok a S=>exact λb k2 H2 u2 k r=>w b k2 H2 (u.trans u2) k r
 |ex C l S=>exact λdx k2 H2 u2 k r=>w dx k2 H2 (u.trans u2) k r
def An{x:ak (Rs α)}{f:α->aU->ak (Rs α')}{res:Rs α'}(e:bd x f=some res):(∃a S,x=some (.ok a S)/\f a S=some res)\/∃C l S,x=some (.ex C l S)/\res=.ex C l S:=by
 unfold bd at e;split at e
 .cases e
 .exact .inl ⟨_,_,rfl,e⟩
 .cases e;exact .inr ⟨_,_,_,rfl,rfl⟩
def tX.bd{g:Gx α}{f:α->aU->ak (Rs α')}{res:Rs α'}(ok:cq K k H S)(gk:gR K k Z U)(e:bd (g U S) f=some res)(w:gF R' K W q Z k H Q' res)
  (h:∀a S1 b k1 H1,cq K k1 H1 S1->gR K k1 Z U->R k1 H1 b a->f a S1=some res->gF R' K W q Z k1 H1 Q' res->Up q k H k1 H1->Q b H1):tX R K W q g Z H Q:=by
 rcases An e with⟨a,S1,e1,e2⟩|⟨C,l,S1,e1,rfl⟩
 .exact⟨k,U,S,_,ok,gk,e1,λb k' H' u fT r=>h a S1 b k' H' fT (gk.up u) r e2 (w.up u) u⟩
 .exact⟨k,U,S,_,ok,gk,e1,w⟩
def gF.now{a:α}{b:β}(w:gF R K W q Z k H Q (.ok a S))(ok:cq K k H S)(r:R k H b a):Q b H:=w b k H .refl ok r
def nJ{g:Gx α}{Q₂:β->Hp->Prop}(h:tX R K W q g Z H Q)(m:∀b H,Q b H->Q₂ b H):tX R K W q g Z H Q₂:=by
 obtain⟨k,U,S,res,ok,gk,e,w⟩:=h;refine⟨k,U,S,res,ok,gk,e,?_⟩;cases res with
 |ok a S=>exact λb k2 H2 u k r=>m _ _ (w b k2 H2 u k r)
 |ex C l S=>exact w
end
abbrev RE(K:aL):Rp Rv V:=λk H x r=>n9 K k H x r
abbrev RA(K:aL):Rp (List Val) (List V):=λk _ xs vs=>Paired (c7 K k) xs vs
abbrev RB:Rp Bool Bool:=λ_ _ b a=>b=a
abbrev GE:=Gx Rv
variable{g f:GE}
abbrev GA:=Gx (List Val)
variable{h:GA}
abbrev GT:=Gx Bool
abbrev tE(K:aL)(W:XW)(q:Nat)(g:GE):TE:=tX (RE K) K W q g
abbrev gM(K:aL)(W:XW)(q:Nat)(g:GA):TA:=tX (RA K) K W q g
abbrev tT(K:aL)(W:XW)(q:Nat)(g:GT):TT:=tX RB K W q g
noncomputable def gC(d:D):GE:=λ_ S=>some (.ok (.v (.d d)) S)
noncomputable def rT(i:Nat):GE:=λU S=>((U[i]?).join).map λv=>.ok (.v v) S
def NT{α:Type}{x:ak (ak α)}{v:α}(h:x.join=some v):x=some (some v):=by
 cases x with
 |none=>cases h
 |some y=>exact congrArg some h
noncomputable def mB:Rv->Val
 |.v x=>x
 |.o c=>.d c.d
noncomputable def hpR(S:aU):Rv->Rs Rv
 |.o c=>.ok (.v (.d (.ref S.r.length))) ⟨S.s,S.r++[.o c]⟩
 |r=>.ok r S
def jm(g:GE):GE:=λU S=>bd (g U S) λr S1=>some (hpR S1 r)
noncomputable def gN:GA:=λ_ S=>some (.ok [] S)
def mY(g:GE)(h:GA):GA:=λU S=>bd (g U S) λr S1=>bd (h U S1) λvs S2=>some (.ok (mB r::vs) S2)
section
variable{X:Cx}{K:aL}{W:XW}{q:Nat}{e a b:Expr}{es:List Expr}{lW fb fc:GE}{fs:GA}{ft fu:GT}{pos:Pos}{Z:St}{H:Hp}
def ye{d:D}(h:PE X e (tC v))(hf:vL d=some v:=by rfl):PE X e (tE K W q (gC d)):=h.mono λZ H Q t=>by
 obtain⟨k,U,S,res,ok,gk,e,w⟩:=t;cases e;exact w.now ok (show ag K k [v] [d] from .flat hf .nil)
def υ{i:Nat}(h:PE X e (Eh i)):PE X e (tE K W q (rT i)):=h.mono λZ H Q t=>by
 obtain⟨k,U,S,res,ok,gk,e,w⟩:=t;obtain⟨v,q,rfl⟩:=df.mp e;obtain⟨x,hx,r⟩:=gk.at' i v (NT q);exact⟨x,hx,w.now ok (show n9 K k H x (.v v) from r)⟩
def qx{r:Rv}(ok:cq K k H S)(h:n9 K k H x r):∃k',(∀q,Up q k H k' H)/\cq K k' H S/\c7 K k' x (mB r):=by
 cases r with
 |v y=>exact⟨k,λ_=>.refl,ok,h⟩
 |o c=>
  obtain⟨p,rfl,hF,hi,hc⟩:=h;obtain⟨F',fT,u,rp⟩:=ok.Kk hF hi hc;exact⟨_,u,fT,rp⟩
def ux(h:PE X e (tE K W q lW)):PE X e (tE K W q (jm lW)):=h.mono λZ H Q t=>by
 obtain⟨k,U,S,res,ok,gk,e,w⟩:=t;refine tX.bd ok gk e w λr S1 x k1 H1 bJ g1 r1 e1 w1 _=>?_
 cases r with
 |v y=>cases e1;exact w1.now bJ r1
 |o c=>
  cases e1;obtain⟨p,rfl,hF,hi,hc⟩:=r1;obtain⟨cS,u⟩:=bJ.wo hi (c:=.o c) ⟨hF,hc⟩;exact w1 _ _ _ (u q) cS (show ag K _ [.ref p] [.ref S1.r.length] from .ref (by rw[<-bJ.r.ln];exact FT) .nil)
def ui(t:gM K W q (mY g h) Z H Q):tE K W q g Z H λx H1=>gM K W q h Z H1 λxs H2=>Q (x::xs) H2:=by
 obtain⟨k,U,S,res,ok,gk,e,w⟩:=t;refine tX.bd ok gk e w λr S1 x k1 H1 bJ g1 r1 e1 w1 _=>?_
 obtain⟨k2,u2,cS,r2⟩:=qx bJ r1;refine tX.bd cS (g1.up (u2 q)) e1 (w1.up (u2 q)) λvs S3 xs k3 H3 jF g3 r3 e3 w3 u3=>?_
 cases e3;exact w3.now jF (.cons (r2.up u3) r3)
def xV(t:gM K W q gN Z H Q):Q [] H:=by
 obtain⟨k,U,S,res,ok,gk,e,w⟩:=t;cases e;exact w.now ok .nil
def yf:PA X [] (gM K W q gN):=mj.mono λZ H Q t=>xV t
def XM(ha:PE X e (tE K W q g))(hr:PA X es (gM K W q h))(hs:starEach (e::es) X.env=(false,eval e X.env)::starEach es X.env):PA X (e::es) (gM K W q (mY g h)):=(FR ha hr hs).mono λZ H Q t=>ui t
def Top(K:aL)(k:Kn)(H:Hp)(x:V)(d:D):Prop:=ag K k [x] [d]\/∃p c,x=.ref p/\d=Bx.d c/\dO K k H p c
noncomputable def Cell.lB:Cell->ak D
 |.o c=>some c.d
 |.z c=>some c.d
 |.ins _ _=>none
def lB(S:aU):Val->ak D
 |.d (.ref n)=>(S.r[n]?).bind Cell.lB
 |.d x=>some x
 |.c n=>(S.s[n]?).bind Cell.lB
def u9(S:aU):List Val->ak (List D)
 |[]=>some []
 |v::vs=>(lB S v).bind λd=>(u9 S vs).map λds=>d::ds
def Ov{x:aj}{c:Cell}{d:D}(h:bA K k H x c)(e:c.lB=some d):Top K k H (.ref x) d:=by
 cases c with
 |o b=>cases e;exact .inr ⟨x,b,rfl,rfl,h.2⟩
 |z b=>cases e;exact .inl h.2
 |ins _ _=>cases e
def Gd{v:Val}{d:D}(ok:cq K k H S)(h:c7 K k x v)(e:lB S v=some d):Top K k H x d:=by
 cases v with
 |d y=>
  cases y with
  |ref n=>
   obtain⟨p,rfl,h1⟩:=ag.isRef h;obtain⟨c,h2,e⟩:=cA.mp e;exact Ov (ok.r.at' n p c h1 h2) e
  |_=>cases e;exact .inl h
 |c n=>
  obtain⟨p,rfl,h1⟩:=h;obtain⟨c,h2,e⟩:=cA.mp e;exact Ov (ok.s.at' n p c h1 h2) e
def Py{xs:List V}(ok:cq K k H S)(h:Paired (c7 K k) xs vs)(e:u9 S vs=some ds):Paired (Top K k H) xs ds:=by
 induction h generalizing ds with
 |nil=>cases e;exact .nil
 |cons r _ ih=>
  obtain⟨d,e1,e⟩:=cA.mp e;obtain⟨es,e2,rfl⟩:=df.mp e;exact .cons (Gd ok r e1) (ih e2)
def SO(K:aL)(k':Kn)(H H':Hp)(x:V):Rv->Prop
 |.v (.d y)=>ag K k' [x] [y]
 |.o c=>∃p,x=.ref p/\H p=none/\k'.F p=none/\dO K k' H' p c
 |_=>False
def kR(K:aL)(k:Kn)(H:Hp)(r:Rv)(Q:VK):Prop:=∀x F' H',az k.F F'->az H H'->az F' H'->(∀p,H p≠none->k.F p=none->F' p=none)->SO K ⟨F',k.A,k.T⟩ H H' x r->Q x H'
def b_(K:aL)(r:List V->Hp->VK->Prop)(o:List D->ak Rv):Prop:=∀k H xs ds y Q,az k.F H->Paired (Top K k H) xs ds->o ds=some y->kR K k H y Q->r xs H Q
def gO(o:List D->ak Rv)(g:GA):GE:=λU S=>bd (g U S) λvs S1=>(u9 S1 vs).bind λds=>(o ds).map λr=>.ok r S1
def kR.fin{y:Rv}{Q:VK}(ok:cq K k H S)(w:gF (RE K) K W q Z k H Q (.ok y S)):kR K k H y Q:=λx F' H' s1 s2 s3 fr nw=>by
 refine w x ⟨F',k.A,k.T⟩ H' (.of s1 s2) (ok.new s1 (λp _ o z=>s2 p o z) s3 λp m=>fr p (ok.there p m)) ?_
 cases y with
 |v z=>
  cases z with
  |d z=>exact nw
  |_=>exact nw.elim
 |o c=>obtain⟨p,e4,e5,e6,e7⟩:=nw;exact⟨p,e4,e6,(ok.fresh e5).2,e7⟩
def uo{r:List V->Hp->VK->Prop}(bw:b_ K r o){g:GA}{Q:VK}(t:tE K W q (gO o g) Z H Q):gM K W q g Z H λxs H1=>r xs H1 Q:=by
 obtain⟨k,U,S,res,ok,gk,e,w⟩:=t;refine tX.bd ok gk e w λvs S1 xs k1 H1 bJ g1 r1 e1 w1 _=>?_
 obtain⟨ds,e2,e1⟩:=cA.mp e1;obtain⟨y,e3,rfl⟩:=df.mp e1;exact bw k1 H1 xs ds y Q bJ.le (Py bJ r1 e2) e3 (.fin bJ w1)
section
variable{k:Kn}{x:V}{Q:VK}
def kR.rep{y:D}(h:kR K k H (.v (.d y)) Q)(le:az k.F H)(r:ag K k [v] [y]):Q v H:=h v k.F H (az.refl _) (az.refl _) le (λ_ _ z=>z) r
theorem kR.flat{y:D}{v:V}(h:kR K k H (.v (.d y)) Q)(le:az k.F H)(e:vL y=some v):Q v H:=h.rep le (.flat e .nil)
def kR.lst{ds:List D}{ws:List V}(h:kR K k H (.o (.lst ds)) Q)(le:az k.F H)(r:ag K k ws ds){l:aj}(hn:H l=none):Q (.ref l) (upd H l (.lst ws)):=
 h _ k.F _ (az.refl _) (rE hn) (le.put hn) (λ_ _ z=>z) ⟨l,rfl,hn,le.free hn,ws,aK,r⟩
def kR.av{kvs:List (TK×D)}{es:List (TK×V×V)}{ep:Nat}(h:kR K k H (.o (.av kvs)) Q)(le:az k.F H)(q:es.map (·.1)=kvs.map (·.1))(r:ag K k (es.map (·.2.1)) (kvs.map (·.1.d)))(t:ag K k (es.map (·.2.2)) (kvs.map (·.2))){l:aj}(hn:H l=none):Q (.ref l) (upd H l (.dG es ep)):=
 h _ k.F _ (az.refl _) (rE hn) (le.put hn) (λ_ _ z=>z) ⟨l,rfl,hn,le.free hn,es,ep,aK,q,r,t⟩
theorem kR.tup{ds:List D}{ws:List V}(h:kR K k H (.v (.d (.tup ds))) Q)(le:az k.F H)(r:ag K k ws ds){l:aj}(hn:H l=none):Q (.ref l) (upd H l (.tup ws)):=by
 have hF:=le.free hn;refine h _ (upd k.F l (.tup ws)) _ (rE hF) (rE hn) (λb u z=>?_) (λp z1 z2=>by rw[dh (show p≠l from λz=>z1 (z ▸ hn))];exact z2) (show ag K ⟨upd k.F l (.tup ws),k.A,k.T⟩ [.ref l] [.tup ds] from .tup (.inl (.inl aK)) (r.mono ⟨rE hF,k_ _⟩) .nil)
 by_cases q:b=l
 .subst q;rw[aK] at z ⊢;exact z
 .rw[dh q] at z ⊢;exact le b u z
noncomputable abbrev Kn.all(k:Kn)(H:Hp):Kn:=⟨H,k.A,k.T⟩
def ag.all{vs:List V}{ds:List D}(h:ag K k vs ds)(le:az k.F H):ag K (k.all H) vs ds:=h.mono ⟨le,k_ _⟩
def Top.rep{d:D}(h:Top K k H x d)(le:az k.F H):ag K (k.all H) [x] [d]:=by
 rcases h with h|⟨p,c,rfl,rfl,h⟩
 .exact h.all le
 .cases c with
  |lst xs=>obtain⟨ws,e,r⟩:=h;exact .lst (.inl (.inl e)) (r.all le) .nil
  |av kvs=>obtain⟨es,ep,e,q,r,t⟩:=h;exact .av e q (r.all le) (t.all le) .nil
def Top.flat{d:D}(h:Top K k H x d)(e:vL d=some v):x=v:=by
 rcases h with h|⟨p,c,rfl,rfl,h⟩
 .exact h.bo e
 .cases c <;> cases e
def Top.lst{ds:List D}(h:Top K k H x (.lst ds))(le:az k.F H):∃p ws,x=.ref p/\c8 K H p ws/\ag K k ws ds:=by
 rcases h with h|⟨p,c,rfl,e,h⟩
 .obtain⟨p,ws,rfl,q,r⟩:=h.wa;exact⟨p,ws,rfl,le.LO q,r⟩
 .cases c <;> cases e;obtain⟨ws,e,r⟩:=h;exact⟨p,ws,rfl,.inl (.inl e),r⟩
def Top.tup{ds:List D}(h:Top K k H x (.tup ds))(le:az k.F H):∃p ws,x=.ref p/\iB K H p ws/\ag K k ws ds:=by
 rcases h with h|⟨p,c,rfl,e,h⟩
 .obtain⟨p,ws,rfl,q,r⟩:=h.isTup;exact⟨p,ws,rfl,le.zo q,r⟩
 .cases c <;> cases e
def Top.av{kvs:List (TK×D)}(h:Top K k H x (.av kvs))(le:az k.F H):∃p es ep,x=.ref p/\H p=some (.dG es ep)/\es.map (·.1)=kvs.map (·.1)/\ag K k (es.map (·.2.1)) (kvs.map (·.1.d))/\ag K k (es.map (·.2.2)) (kvs.map (·.2)):=by
 rcases h with h|⟨p,c,rfl,e,h⟩
 .obtain⟨p,es,ep,rfl,q,r⟩:=h.nj;exact⟨p,es,ep,rfl,le _ _ q,r⟩
 .cases c <;> cases e;obtain⟨es,ep,h⟩:=h;exact⟨p,es,ep,rfl,h⟩
end
def lA(r:R2):List V->Hp->VK->Prop:=λxs H Q=>∃x y,xs=[x,y]/\r x y H Q
def Lx(r:V->Hp->VK->Prop):List V->Hp->VK->Prop:=λxs H Q=>∃x,xs=[x]/\r x H Q
abbrev br(f:GE):GA:=mY f gN
abbrev bO(f g:GE):GA:=mY f (mY g gN)
def GC{r:V->V->Hp->Prop}(h:gM K W q (bO f g) Z H λxs H1=>∃x y,xs=[x,y]/\r x y H1):tE K W q f Z H λx H1=>tE K W q g Z H1 λy H2=>r x y H2:=
 nJ (ui h) λx H1 t=>nJ (ui t) λy H2 t=>by
  obtain⟨x',y',e,q⟩:=xV t;cases e;exact q
def Kb{r:V->Hp->Prop}(h:gM K W q (br f) Z H λxs H1=>∃x,xs=[x]/\r x H1):tE K W q f Z H r:=
 nJ (ui h) λx H1 t=>by
  obtain⟨x',e,q⟩:=xV t;cases e;exact q
def e8u{op:Operator}(ho:dF X (binaryOp op) r)(ok:b_ K (lA r) o)(ha:PE X a (tE K W q lW))(hb:PE X b (tE K W q fb)):PE X (.BinOp a op b pos) (tE K W q (gO o (bO lW fb))):=(e8n ho ha hb).mono λ_ _ _ t=>GC (uo ok t)
def e8v{op:UnaryOp}{r:V->Hp->VK->Prop}(ho:ER X (unaryOp op) r)(ok:b_ K (Lx r) o)(ha:PE X a (tE K W q lW)):PE X (.UnaryOp op a pos) (tE K W q (gO o (br lW))):=(e8o ho ha).mono λ_ _ _ t=>Kb (uo ok t)
def χ{op:CmpOp}(ho:dF X (compareOp op) r)(ok:b_ K (lA r) o)(ha:PE X a (tE K W q lW))(hb:PE X b (tE K W q fb))(hm:behindInMarks op b=false):PE X (.Compare a [op] [b] pos) (tE K W q (gO o (bO lW fb))):=(Xp ho ha hb hm).mono λ_ _ _ t=>GC (uo ok t)
def e8w(ho:pW X r)(ok:b_ K (lA r) o)(ha:PE X a (tE K W q lW))(hb:PE X b (tE K W q fb))(hs:Jr b):PE X (.Subscript a b pos) (tE K W q (gO o (bO lW fb))):=(e8r ho ha hb hs).mono λ_ _ _ t=>GC (uo ok t)
end
noncomputable def Rv.bool:Rv->ak Bool
 |.v (.d (.bl b))=>some b
 |_=>none
def Rv.ur{r:Rv}{b:Bool}(h:r.bool=some b):r=.v (.d (.bl b)):=by
 unfold Rv.bool at h;split at h
 .cases h;rfl
 .cases h
noncomputable def zu:D->ak Bool
 |.aI=>some false
 |.bl b=>some b
 |.int i=>some (i != 0)
 |.str y=>if y.length<=1000000 then some ((y.length:Int) != 0) else none
 |.lst xs=>some (!xs.isEmpty)
 |.tup xs=>some (!xs.isEmpty)
 |_=>none
noncomputable def gB(g:GE):GT:=λU S=>bd (g U S) λr S1=>r.bool.map λb=>.ok b S1
def cI(g:GE):GT:=λU S=>bd (g U S) λr S1=>((lB S1 (mB r)).bind zu).map λb=>.ok b S1
noncomputable def dY(g:GT):GT:=λU S=>bd (g U S) λb S1=>some (.ok (!b) S1)
noncomputable def CF(c g h:GT):GT:=λU S=>bd (c U S) λb S1=>if b=true then g U S1 else h U S1
noncomputable def gw(b:Bool):GT:=λ_ S=>some (.ok b S)
def cQ(g h:GT):GT:=CF g h (gw false)
def iI(g h:GT):GT:=CF g (gw true) h
noncomputable def uC(c:GT)(g h:GE):GE:=λU S=>bd (c U S) λb S1=>if b=true then g U S1 else h U S1
def rR(g h:GE):GE:=uC (gB g) h (gC (.bl false))
def CD(g:GE):GE:=λU S=>bd (gB g U S) λb S1=>some (.ok (.v (.d (.bl (!b)))) S1)
section
variable{X:Cx}{K:aL}{W:XW}{q:Nat}{e a b:Expr}{es rest:List Expr}{f g h:GE}{fs:GA}{ft fu:GT}{pos:Pos}{Z:St}{H:Hp}
def Kc{Q:Bool->Hp->Prop}(t:tT K W q (gB f) Z H Q):tE K W q f Z H λx H1=>∃k,x=.bl k/\Q k H1:=by
 obtain⟨k,U,S,res,ok,gk,e,w⟩:=t;refine tX.bd ok gk e w λr S1 x k1 H1 bJ g1 r1 e1 w1 _=>?_
 obtain⟨b,e2,rfl⟩:=df.mp e1;cases Rv.ur e2;exact⟨b,(show ag K k1 [x] [.bl b] from r1).bo rfl,w1.now bJ rfl⟩
def XN{d:D}{b:Bool}(le:az k.F H)(h:Top K k H x d)(e:zu d=some b):xh K x H b:=by
 cases d with
 |aI=>cases h.flat rfl;cases e;rfl
 |bl b=>cases h.flat rfl;cases e;rfl
 |int i=>cases h.flat rfl;cases e;rfl
 |str y=>
  cases h.flat rfl;unfold zu at e;dsimp only at e;split at e
  .cases e;exact⟨jt (by assumption) (by decide),rfl⟩
  .cases e
 |lst xs=>
  cases e;obtain⟨p,ws,rfl,h1,h2⟩:=h.lst le;refine .inl ⟨ws,h1,?_⟩;have:=h2.length
  grind
 |tup xs=>
  cases e;obtain⟨p,ws,rfl,h1,h2⟩:=h.tup le;refine .inr (.inl ⟨ws,h1,?_⟩);have:=h2.length
  grind
 |_=>cases e
def ψ(hK:X.K=K)(he:PE X a (tE K W q f))(ht:∀whole,isTrue a X.env whole=(do let v <-whole;standAt a.pos;holding [v] (truthy v))):PT X a (tT K W q (cI f)):=(Vy he ht).mono λZ H Q t=>by
 obtain⟨k,U,S,res,ok,gk,e,w⟩:=t;refine tX.bd ok gk e w λr S1 x k1 H1 bJ g1 r1 e1 w1 _=>?_
 obtain⟨b,e2,rfl⟩:=df.mp e1;obtain⟨d,e3,e4⟩:=cA.mp e2;obtain⟨k2,u2,cS,r2⟩:=qx bJ r1;rw[hK];exact⟨b,XN cS.le (Gd cS r2 e3) e4,(w1.up (u2 q)).now cS rfl⟩
def RG(h:PT X a (sN t))(m:∀Z H Q,tE K W q f Z H Q->t Z H Q):PT X a (tT K W q (gB f)):=h.mono λZ H Q q=>m Z H _ (Kc q)
def ym(h:PT X a (tT K W q ft)):PT X (.UnaryOp .Not a pos) (tT K W q (dY ft)):=(Z0 h).mono λZ H Q t=>by
 obtain⟨k,U,S,res,ok,gk,e,w⟩:=t;refine tX.bd ok gk e w λb S1 x k1 H1 bJ g1 r1 e1 w1 _=>?_
 cases e1;cases r1;exact w1.now bJ rfl
def Gu{β' α':Type}{R':Rp α' β'}{gx gy:Gx α'}{Q':β'->Hp->Prop}(t:tX R' K W q (λU S=>bd (ft U S) λb S1=>if b=true then gx U S1 else gy U S1) Z H Q'):tT K W q ft Z H λb H1=>if b=true then tX R' K W q gx Z H1 Q' else tX R' K W q gy Z H1 Q':=by
 obtain⟨k,U,S,res,ok,gk,e,w⟩:=t;refine tX.bd ok gk e w λb S1 x k1 H1 bJ g1 r1 e1 w1 _=>?_
 cases r1;cases b with
 |true=>exact sj ⟨k1,U,S1,res,bJ,g1,e1,w1⟩
 |false=>exact si ⟨k1,U,S1,res,bJ,g1,e1,w1⟩
def Cn{α β:Type}{R:Rp α β}{c:α}{b:β}{Q:β->Hp->Prop}(t:tX R K W q (λ_ S=>some (.ok c S)) Z H Q)(r:∀k H,R k H b c):Q b H:=by
 obtain⟨k,U,S,res,ok,gk,e,w⟩:=t;cases e;exact w.now ok (r k H)
def Ju{c:Bool}{p p' q q':Prop}(h:if c=true then p else q)(h1:p->p')(h2:q->q'):if c=true then p' else q':=by
 lia
def yo(ha:PT X a (tT K W q ft))(hb:PW X (.BoolOp .And (b::rest) pos) (tT K W q fu)):PW X (.BoolOp .And (a::b::rest) pos) (tT K W q (cQ ft fu)):=(ZZ ha hb).mono λZ H Q t=>
 nJ (Gu t) λc H1 z=>Ju z id λz=>Cn z λ_ _=>rfl
def Cv(ha:PT X a (tT K W q ft))(hb:PW X (.BoolOp .Or (b::rest) pos) (tT K W q fu)):PW X (.BoolOp .Or (a::b::rest) pos) (tT K W q (iI ft fu)):=(e8l ha hb).mono λZ H Q t=>
 nJ (Gu t) λc H1 z=>Ju z (λz=>Cn z λ_ _=>rfl) id
def yg(ha:PE X a (tE K W q f))(hb:PE X (.BoolOp .And (b::rest) pos) (tE K W q g)):PE X (.BoolOp .And (a::b::rest) pos) (tE K W q (rR f g)):=(Z4 ha hb).mono λZ H Q t=>
 nJ (Kc (Gu t)) λx H1 ⟨c,e,z⟩=>⟨c,e,Ju z id λz=>Cn z λ_ _=>ag.flat rfl .nil⟩
def yi(ha:PE X a (tE K W q f)):PE X (.UnaryOp .Not a pos) (tE K W q (CD f)):=(Z5 ha).mono λZ H Q t=>Kc (by
 obtain⟨k,U,S,res,ok,gk,e,w⟩:=t;refine tX.bd ok gk e w λb S1 x k1 H1 bJ g1 r1 e1 w1 _=>?_
 cases e1;cases r1;exact w1.now bJ (show ag K k1 [_] [_] from .flat rfl .nil))
def Cs{c:Expr}(hc:PT X c (tT K W q ft))(ha:PE X a (tE K W q f))(hb:PE X b (tE K W q g)):PE X (.IfExp c a b pos) (tE K W q (uC ft f g)):=(Vt hc ha hb).mono λZ H Q t=>Gu t
end
noncomputable def oi(S:aU):Val->ak (D×aU)
 |.d x=>some (x,S)
 |.c n=>(S.s[n]?).bind λc=>match c with
  |.o b=>some (b.d,⟨S.s.set n (.z b),S.r⟩)
  |.z b=>some (b.d,S)
  |.ins _ _=>none
def qb:List Val->aU->ak (List D×aU)
 |[],S=>some ([],S)
 |v::vs,S=>(oi S v).bind λp=>(qb vs p.2).map λq=>(p.1::q.1,q.2)
section
variable{K:aL}{k:Kn}{H:Hp}{S S':aU}
def FU{v:Val}{d:D}(ok:cq K k H S)(h:c7 K k x v)(e:oi S v=some (d,S')):∃k',(∀q,Up q k H k' H)/\cq K k' H S'/\ag K k' [x] [d]:=by
 cases v with
 |d y=>cases e;exact⟨k,λ_=>.refl,ok,h⟩
 |c n=>
  obtain⟨p,rfl,hp⟩:=h;obtain⟨c,h1,e⟩:=cA.mp e;cases c with
  |o b=>
   cases e;obtain⟨F',fT,u,rp⟩:=ok.Kl hp h1;exact⟨_,u,fT,rp⟩
  |z b=>cases e;exact⟨k,λ_=>.refl,ok,(ok.s.at' n p _ hp h1).2⟩
  |ins C fs=>cases e
def FV{xs:List V}(ok:cq K k H S)(h:Paired (c7 K k) xs vs)(e:qb vs S=some (ds,S')):∃k',(∀q,Up q k H k' H)/\cq K k' H S'/\ag K k' xs ds:=by
 induction vs generalizing xs ds k S with
 |nil=>cases e;cases h;exact⟨k,λ_=>.refl,ok,.nil⟩
 |cons v vs ih=>
  cases h with
  |cons r t=>
   obtain⟨⟨v1,S1⟩,e1,e⟩:=cA.mp e;obtain⟨⟨vs2,S2⟩,e2,e⟩:=df.mp e;cases e;obtain⟨k1,u1,bJ,r1⟩:=FU ok r e1;obtain⟨k2,u2,cS,r2⟩:=ih bJ (vB.up t (u1 0)) e2;exact⟨k2,λb=>(u1 b).trans (u2 b),cS,.cons (r1.mono (u2 0).le) r2⟩
end
noncomputable def LH(t:Bool)(p:List D×aU):Rs Rv:=.ok (if t=true then .v (.d (.tup p.1)) else .o (.lst p.1)) p.2
def aW(t:Bool)(g:GA):GE:=λU S=>bd (g U S) λvs S1=>if vs.length<=1000000 then(qb vs S1).map (LH t) else none
section
variable{X:Cx}{K:aL}{W:XW}{q:Nat}{es:List Expr}{fs:GA}{pos:Pos}{Z:St}{H:Hp}
def ml{n:Nat}(h:n<=1000000):n<=sizeLine:=jt h (by decide)
def Qx{t:Bool}{Q:VK}(h:tE K W q (aW t fs) Z H Q):gM K W q fs Z H λxs H1=>xs.length<=sizeLine/\∀p,H1 p=none->Q (.ref p) (upd H1 p (if t=true then .tup xs else .lst xs)):=by
 obtain⟨k,U,S,res,ok,gk,e,w⟩:=h;refine tX.bd ok gk e w λvs S1 xs k1 H1 bJ g1 r1 e1 w1 _=>?_
 split at e1
 .rename_i hl
  refine⟨by rw[Paired.length r1];exact ml hl,λp hp=>?_⟩
  obtain⟨⟨ds,S2⟩,e2,e3⟩:=df.mp e1;obtain⟨k2,u2,cS,r2⟩:=FV bJ r1 e2;have w2:=w1.up (u2 q);cases e3;cases t with
  |false=>exact kR.lst (.fin cS w2) cS.le r2 hp
  |true=>exact kR.tup (.fin cS w2) cS.le r2 hp
 .cases e1
def yj{x1}(h:PA X es (gM K W q fs)):PE X (.Tuple es x1 pos) (tE K W q (aW true fs)):=(θ h).mono λZ H Q t=>Qx t
def yh(h:PA X es (gM K W q fs)):PE X (.List es pos) (tE K W q (aW false fs)):=(ι h).mono λZ H Q t=>Qx t
end
variable{base:bZ}{env:Env}{outer:List Env}{L e C:aj}{dx:ak aj}{n:Nat}{H:Hp}{Q:Unit->ax->Prop}
structure fY (fs ch:List aj) (h h':bZ):Prop where
 keep:∀b o,b∉fs->b∉ch->h.get? b=some o->h'.get? b=some o
 slot:∀b o,b∈fs->b∉ch->h.get? b=some o->∃sl,h'.get? b=some { o with slots:=sl}
def iz(n:Nat)(h:bZ)(H:Hp)(e C:aj)(dx:ak aj):Prop:=n<=e/\H e=none/\∃oe vs,h.get? e=some oe/\oe.cls=.ref C/\oe.dict=dx/\oe.data=.fields vs/\1<vs.size/\
 (vs[1]?=some .none\/∃T oT ts,vs[1]?=some (.ref T)/\n<=T/\H T=none/\T≠e/\h.get? T=some oT/\oT.data=.fields ts/\ts[3]?=some .none)
def Uz(f:Array ai->Array ai)(o:Obj):(Obj.mapFields f o).dict=o.dict:=by obtain⟨c,d,dt,sl⟩:=o;cases dt <;> rfl
section
variable{M:Model}{A:cN}{E:ai->ax->Prop}{s:ax}
def Pz{oe:Obj}{vs:Array ai}{head:ai}{had:Bool}
  (r6:A.frames=some (env::outer)) (hl:s.heap.FunFrames base (env::outer)) (hf:env.frame=some L) (he:s.heap.get? e=some oe) (hc:oe.cls=.ref C) (hx:oe.dict=dx) (hd:oe.data=.fields vs) (hsz:1<vs.size) (hn:n<=s.heap.objs.size) (fS:n<=e) (tL:H e=none) (hH:∀a,s.heap.objs.size<=a->H a=none)
  (h:∀h',fY (kg (env::outer)) [e] s.heap h'->iz n h' H e C dx->Q () { s with heap:=h'}) :
  wpAny M A (do let a <-frameOf env;let pl <-entryPlaceOf L had;let b <-EntryCells.newEntry head a .none (rawInt L) .none pl;setField (.ref e) 1 b) (λ_ s'=>wpAny M A (setFlight (.ref e) none) Q E s') E s:=by
 have ene:e∉kg (env::outer):=λm=>by
  obtain⟨_,o,ho,KO⟩:=hl.mem m
  simp_all
 refine ay (wpAny_frameOf_fun r6 hl hf λh1 so=>ay (wpAny_entryPlaceOf λpl jP=>?_))
 unfold EntryCells.newEntry newFields;refine ay (wpAny_newObj_type ?_ (jP.sizeOk5 _ _ _ _ _));generalize eN:({ cls:=.type "traceback",dict:=none,data:=.fields ([head,.ref L,.none,rawInt L,.none]++(if pl.isEmpty then List.replicate 6 Value.none else pl)).toArray}:Obj)=oN
 have e1:h1.get? e=some oe:=(so.2.1 e ene).trans he;have e2:(h1.push oN).get? e=some oe:=cZ _ e1;have nT:h1.objs.size≠e:=wI (cT e1);have fN:oN.data=.fields ([head,.ref L,.none,rawInt L,.none]++(if pl.isEmpty then List.replicate 6 Value.none else pl)).toArray:=by rw[<-eN]
 have lN:3<([head,.ref L,.none,rawInt L,.none]++(if pl.isEmpty then List.replicate 6 Value.none else pl)).toArray.size:=by simp only[fm,dw,kG,A0];lia
 have dE:=Obj.data_mapFields hd (·.setIfInBounds 1 (Value.ref h1.objs.size))
 have e3:=qF (Obj.mapFields (·.setIfInBounds 1 (Value.ref h1.objs.size))) e2 (Obj.isFreed_of_fields dE)
 have t3:((h1.push oN).update e (Obj.mapFields (·.setIfInBounds 1 (Value.ref h1.objs.size)))).get? h1.objs.size=some oN:=(oF _ _ (Ne.symm nT)).trans (iR h1 (Obj.isFreed_of_fields fN))
 have dT:=Obj.data_mapFields fN (·.setIfInBounds 3 ((none:ak aj).elim Value.none λf=>rawInt f))
 refine wpAny_setField e2 hd hsz ?_;unfold setFlight;refine ay (wpAny_field e3 dE (x:=.ref h1.objs.size) (by simp[hsz]) ?_)
 rw[bM (show(Value.ref h1.objs.size != Value.none)=true by simp)]
 refine wpAny_setField t3 fN lN (h _ ⟨λb o hb nN g=>?_,λb o hb nN g=>?_⟩ ⟨fS,tL,_,_,(oF _ _ nT).trans e3,(Obj.cls_mapFields _ _).trans hc,(Uz _ _).trans hx,dE,by simpa using hsz,.inr ⟨h1.objs.size,_,_,by simp[hsz],by rw[so.1];exact hn,hH _ (by rw[so.1];exact bY _),nT,qF _ t3 (Obj.isFreed_of_fields dT),dT,by simp[Array.getElem?_setIfInBounds,lN]⟩⟩)
 .have be:b≠e:=λz=>nN (by simp[z])
  have b1:h1.get? b=some o:=(so.2.1 b hb).trans g;rw[oF _ _ (wI (cT b1)),oF _ _ (Ne.symm be)];exact cZ _ b1
 .have be:b≠e:=λz=>nN (by simp[z])
  obtain⟨sl,b1⟩:=so.2.2 b o g;refine⟨sl,?_⟩;rw[oF _ _ (wI (cT b1)),oF _ _ (Ne.symm be)];exact cZ _ b1
def Qy
  (r6:A.frames=some (env::outer)) (hl:s.heap.FunFrames base (env::outer)) (hf:env.frame=some L) (hn:n<=s.heap.objs.size) (hH:∀a,s.heap.objs.size<=a->H a=none) (fl:iz n s.heap H e C dx)
  (h:∀h' ch,(∀b∈ch,n<=b/\H b=none)->fY (kg (env::outer)) ch s.heap h'->iz n h' H e C dx->Q () { s with heap:=h'}):wpAny M A (noteFrame (.ref e) env) (λ_ s'=>wpAny M A (setFlight (.ref e) none) Q E s') E s:=by
 obtain⟨fS,tL,oe,vs,he,hc,hx,hd,hsz,h1⟩:=fl;unfold noteFrame;simp only[hf];rcases h1 with h1|⟨T,oT,ts,h1,G2,GN,GP,hT,CO,h3⟩
 .refine ay (wpAny_field he hd h1 ?_);rw[bc (by decide)]
  exact Pz r6 hl hf he hc hx hd hsz hn fS tL hH λh' l f=>h h' [e] (λb m=>by cases mG.1 m;exact⟨fS,tL⟩) l f
 .refine ay (wpAny_field he hd h1 ?_);rw[bM (show(Value.ref T != Value.none)=true by simp)]
  refine ay (wpAny_field hT CO h3 ?_);rw[bc (show ¬(Value.none == rawInt L)=true by simp[rawInt])]
  refine ay (wpAny_setField hT CO (A1.mp h3).1 ?_);have ot:∀b,b≠T->(s.heap.update T (Obj.mapFields (·.setIfInBounds 3 Value.none))).get? b=s.heap.get? b:=λb z=>oF _ _ (Ne.symm z)
  have nr:∀b o,s.heap.get? b=some o->(∀vs,o.data≠.fields vs)->b≠T:=λb o hb KO z=>by
   simp_all
  refine Pz (s:={ s with heap:=s.heap.update T (Obj.mapFields (·.setIfInBounds 3 Value.none))}) r6 (hl.of_keeps λb o hb KO=>⟨o,(ot b (nr b o hb KO)).trans hb,rfl⟩) hf ((ot e (Ne.symm GP)).trans he) hc hx hd hsz (by simpa[Heap.size_after_update] using hn) fS tL (λa z=>hH a (by simpa[Heap.size_after_update] using z)) λh' l f=>h h' [e,T] (λb m=>?_) ⟨λb o hb nN g=>?_,λb o hb nN g=>?_⟩ f
  .simp only[y0a,y1v,or_false] at m;rcases m with rfl|rfl
   .exact⟨fS,tL⟩
   .exact⟨G2,GN⟩
  .simp only[y0a,y1v,or_false,not_or] at nN;exact l.keep b o hb (by simp[nN.1]) ((ot b nN.2).trans g)
  .simp only[y0a,y1v,or_false,not_or] at nN;exact l.slot b o hb (by simp[nN.1]) ((ot b nN.2).trans g)
def XO
  (r6:A.frames=some (env::outer)) (hl:s.heap.FunFrames base (env::outer)) (hf:env.frame=some L) (hn:n<=s.heap.objs.size) (hH:∀a,s.heap.objs.size<=a->H a=none) (fl:iz n s.heap H e C dx)
  (h:∀h' ch,(∀b∈ch,n<=b/\H b=none)->fY (kg (env::outer)) ch s.heap h'->iz n h' H e C dx->Q () { s with heap:=h'}):wpAny M A (leaving env (.ref e)) Q E s:=by
 unfold leaving;exact ay (Qy r6 hl hf hn hH fl h)
end
variable{n:Nat}{h h':bZ}{H:Hp}{e C:aj}{dx:ak aj}{X:Cx}{ch:List aj}{x:Str}{k:Kn}{Q:VK}
structure EG (P:dc) (w:cD) (outer:List Env) (H:Hp) (s:ax) (H':Hp) (s':ax) (e C:aj) (dx:ak aj):Prop where
 os:s'.os=s.os
 bare:AllBare s'.gens
 un:Un (kg outer) [] H H' s.heap s'.heap
 bw:i6 P w H' s'.heap
 GI:iz s.heap.objs.size s'.heap H' e C dx
def lH(P:dc)(w:cD):s_:=λouter H s E e s'=>∃a C dx H',e=.ref a/\EG P w outer H s H' s' a C dx/\E (.ref C) dx H'
def fq(X:Cx)(W:XW):Prop:=∀(aa:List (aj×Obj)) (Z:St) (H:Hp) (s:ax) (H':Hp) (s':ax) (e C:aj) (dx:ak aj),Inv X aa Z H s->EG X.prog X.w X.stack H s H' s' e C dx->W C dx Z H'->X.xe (.ref e) s'
def iz.mono{n':Nat}(f:iz n h H e C dx)(l:n'<=n):iz n' h H e C dx:=by
 obtain⟨a,b,oe,vs,c1,c2,c3,c4,c5,c6⟩:=f;refine⟨jt l a,b,oe,vs,c1,c2,c3,c4,c5,?_⟩;rcases c6 with c6|⟨T,oT,ts,d1,d2,d3⟩
 .exact .inl c6
 .exact .inr ⟨T,oT,ts,d1,jt l d2,d3⟩
def iz.lt(f:iz n h H e C dx):n<=h.objs.size:=by
 obtain⟨a,b,oe,vs,c1,_⟩:=f;exact Mn (Ms a (cT c1))
def EG.inv{aa:List (aj×Obj)}{Z:St}{H':Hp}{s s':ax}(c:EG X.prog X.w X.stack H s H' s' e C dx)(I:Inv X aa Z H s):Inv X aa Z H' s':=
 I.vR (ch:=[]) c.os c.un c.bw c.bare λ_ z=>nomatch z
def fY.bw{P:dc}{w:cD}{fs:List aj}(l:fY fs ch h h')(k:i6 P w H h)(hf:∀b∈fs,H b=none)(hc:∀b∈ch,H b=none):i6 P w H h':=λb o q=>
 (k b o q).my (λc u z g=>l.keep c u (λm=>by
  simp_all) (λm=>by
  simp_all) g) (λ_ z=>z) λ_ _ z=>z
def fY.any{fs:List aj}(l:fY fs ch h h'){b:aj}{o:Obj}(g:h.get? b=some o)(hc:b∉ch):∃sl,h'.get? b=some { o with slots:=sl}:=by
 by_cases m:b∈fs
 .exact l.slot b o m hc g
 .exact⟨o.slots,l.keep b o m hc g⟩
def WF(E:XK):XW:=λC dx _ H'=>E (.ref C) dx H'
section
variable{P:dc}{w:cD}{K:aL}{mg:Str->ak ai}{base:bZ}{N:List Str}{qual:Str}{scope:Scope}{f:aj}{cd:ai}{A:cN}{outer:List Env}{s₀:ax}{H₀:Hp}{E:XK}
def uW:fq (kU (lH P w) P w K mg base N qual scope f cd A outer s₀ H₀ E) (WF E):=by
 intro aa Z H s H' s' e C dx I c q;have I':=c.inv I;have r6:(A.deeper (envOfC qual scope s₀.heap.objs.size f cd)).frames=some (envOfC qual scope s₀.heap.objs.size f cd::outer):=I.ok.frames;have sz:s₀.heap.objs.size<=s.heap.objs.size:=I.sz;refine XO (base:=base) (L:=s₀.heap.objs.size) r6 I'.stack rfl c.GI.lt (λa z=>I'.bw.fresh z) c.GI λh' ch kJ lx fl=>⟨e,C,dx,H',rfl,⟨I'.os,I'.bare,?_,lx.bw I'.bw I'.jT λb m=>(kJ b m).2,fl.mono sz⟩,q⟩
 have uR:∀b o,s₀.heap.get? b=some o->b∉ch:=λb o g m=>cO (gj (cT g) (jt sz (kJ b m).1)) (jU _)
 have nL:∀b o,s₀.heap.get? b=some o->b∉kg outer->b∉kg (envOfC qual scope s₀.heap.objs.size f cd::outer):=λb o g z m=>by
  rcases y0a.mp (show b∈s₀.heap.objs.size::kg outer from m) with m|m
  .exact cO (m ▸ cT g) (jU _)
  .exact z m
 have B:Un (kg outer) [] H₀ H' s₀.heap s'.heap:=I'.base;refine⟨λb o g n hb hx=>lx.keep b o (nL b o g hb) (uR b o g) (B.keep b o g n hb hx),λb o g n hb hx=>?_,B.free,λb o g hx=>?_,B.k8,B.kh,B.k7⟩
 .obtain⟨sl,g1⟩:=B.slot b o g n hb hx;obtain⟨DQ,g2⟩:=lx.any g1 (uR b o g);exact⟨DQ,g2⟩
 .obtain⟨o',g1⟩:=B.there b o g hx;obtain⟨sl,g2⟩:=lx.any g1 (uR b o g);exact⟨_,g2⟩
def Dz:PassesOwn (model P w) (A.deeper (envOfC qual scope s₀.heap.objs.size f cd)) (envOfC qual scope s₀.heap.objs.size f cd) (kU (lH P w) P w K mg base N qual scope f cd A outer s₀ H₀ E).xe:=PassesOwn.leaving
end
def EW(W:XW):St->XK:=λZ c dx H'=>∃C,c=.ref C/\W C dx Z H'
def pe{W:XW}(h:fq X W):xS (lH X.prog X.w) X (EW W):=λaa Z H s e s' I h'=>by
 obtain⟨a,C,dx,H',rfl,c,C',hc,q⟩:=h';cases hc;exact h aa Z H s H' s' a C dx I c q
abbrev GM:=List Val->aU->ak (Rs Rv)
def rA(K:aL)(q n:Nat)(m:GM):Sp:=λxs H Q E=>xs.length=n/\∃k vs S res,cq K k H S/\Paired (c7 K k) xs vs/\m vs S=some res/\gF (RE K) K (WF E) q [] k H Q res
def gY(m:GM)(n:Nat):Prop:=∀vs S res,m vs S=some res->vs.length=n
noncomputable def aw(m:GM)(g:GA):GE:=λU S=>bd (g U S) m
noncomputable def Rv.ref:Rv->ak Nat
 |.v (.d (.ref n))=>some n
 |_=>none
def Cell.jD(C:aj)(m:Str):Cell->Bool
 |.ins C' fs=>C' == C&&(fs.lookup m).isNone
 |_=>false
noncomputable def bj(C:aj)(x:Str)(m:GM)(f:GE)(g:GA):GE:=λU S=>bd (f U S) λr S1=>r.ref.bind λn=>if(S1.r[n]?).any (Cell.jD C x)=true then bd (g U S1) λvs S2=>m (.d (.ref n)::vs) S2 else none
noncomputable def Rv.wb:Rv->Bool
 |.v (.d .aI)=>true
 |_=>false
noncomputable def rS(C:aj)(m:GM)(g:GA):GE:=λU S=>bd (g U S) λvs S1=>bd (m (.d (.ref S1.r.length)::vs) ⟨S1.s,S1.r++[.ins C []]⟩) λr S2=>if r.wb=true then some (.ok (.v (.d (.ref S1.r.length))) S2) else none
def any_some{α:Type}{x:ak α}{p:α->Bool}(h:x.any p=true):∃c,x=some c/\p c=true:=by
 cases x with
 |none=>cases h
 |some c=>exact⟨c,rfl,h⟩
def Rv.mn{r:Rv}(h:r.ref=some n):r=.v (.d (.ref n)):=by
 unfold Rv.ref at h;split at h
 .cases h;rfl
 .cases h
def UA{fs:List (Str×D)}{gs:List (Str×V)}(h:gs.map (·.1)=fs.map (·.1))(e:fs.lookup x=none):gs.lookup x=none:=by
 induction fs generalizing gs with
 |nil=>cases gs with
  |nil=>rfl
  |cons _ _=>cases h
 |cons p fs ih=>
  obtain⟨y,d⟩:=p;cases gs with
  |nil=>cases h
  |cons r gs=>
   grind
section
variable{X:Cx}{K:aL}{W:XW}{Z:St}{H:Hp}{q n:Nat}{m:GM}{g:GA}{f:GE}
def gF.wf{res:Rs Rv}(w:gF (RE K) K W q Z k H Q res):gF (RE K) K (WF (EW W Z)) q [] k H Q res:=by
 cases res with
 |ok a S=>exact w
 |ex C l S=>exact λdx k' H' u k r=>⟨C,rfl,w dx k' H' u k r⟩
def XQ(hm:gY m n)(t:tE K W q (aw m g) Z H Q):gM K W q g Z H λxs H1=>rA K q n m (xs++[]) H1 Q (EW W Z):=by
 obtain⟨k,U,S,res,ok,gk,e,w⟩:=t;refine tX.bd ok gk e w λvs S1 xs k1 H1 bJ g1 r1 e1 w1 _=>?_
 rw[kN];exact⟨(Paired.length r1).trans (hm _ _ _ e1),k1,vs,S1,res,bJ,r1,e1,w1.wf⟩
def B4{S:aU}{fs:List (Str×D)}{x:V}(ok:cq K k H S)(r:ag K k [x] [.ref n])(hn:S.r[n]?=some (.ins C fs)):∃a dx gs,x=.ref a/\k.A[n]?=some a/\k.F a=none/\H a=some (.ins C dx gs)/\gs.map (·.1)=fs.map (·.1)/\ag K k (gs.map (·.2)) (fs.map (·.2)):=by
 obtain⟨a,rfl,h1⟩:=r.isRef;obtain⟨h0,dx,gs,h2,h3,h4⟩:=ok.r.at' n a _ h1 hn;exact⟨a,dx,gs,rfl,h1,h0,h2,h3,h4⟩
def PB(hm:gY m n)(t:tE K W q (bj C x m f g) Z H Q):sM C x (rA K q n m) [] (EW W) (tE K W q f) (gM K W q g) Z H Q:=by
 obtain⟨k,U,S,res,ok,gk,e,w⟩:=t;refine tX.bd ok gk e w λr S1 y k1 H1 bJ g1 r1 e1 w1 _=>?_
 obtain⟨j,e2,e3⟩:=cA.mp e1;clear e1;cases Rv.mn e2;split at e3
 .rename_i hi
  obtain⟨c,h1,h2⟩:=any_some hi;cases c with
  |ins C' fs=>
   obtain⟨h3,h4⟩:=A2.mp h2;cases(beq_iff_eq.mp h3);obtain⟨a,dx,gs,q1,q2,q3,q4,q5,q6⟩:=B4 bJ r1 h1;refine⟨a,dx,gs,q1,q4,UA q5 (Option.isNone_iff_eq_none.mp h4),?_⟩;refine tX.bd bJ g1 e3 w1 λvs S2 xs k2 H2 cS g2 r2 e2 w2 u2=>?_
   rw[kN];have r3:Paired (c7 K k2) (y::xs) (.d (.ref j)::vs):=.cons (c7.up (v:=.d (.ref j)) r1 u2) r2;exact⟨(Paired.length r3).trans (hm _ _ _ e2),k2,_,S2,res,cS,r3,e2,w2.wf⟩
  |_=>cases h2
 .cases e3
def XR(hm:gY m n)(t:tE K W q (rS C m g) Z H Q):wG C (rA K q n m) [] (EW W) (gM K W q g) Z H Q:=by
 obtain⟨k,U,S,res,ok,gk,e,w⟩:=t;refine tX.bd ok gk e w λvs S1 xs k1 H1 bJ g1 r1 e1 w1 _=>?_
 intro x dx hx hdx ne;rw[kN];have sm:az H1 (upd (upd H1 dx (.own x)) x (.ins C dx [])):=(rE hdx).put (by rw[dh (Ne.symm ne)];exact hx)
 obtain⟨fx,nx⟩:=bJ.fresh hx;have cS:cq K k1 _ S1:=bJ.new (az.refl _) (λa _ o z=>sm a o z) (bJ.le.trans sm) λ_ _ z=>z
 obtain⟨jF,u3⟩:=cS.wo nx (c:=.ins C []) ⟨fx,dx,[],aK,rfl,.nil⟩;have h3:ag K ⟨k1.F,k1.A++[x],k1.T⟩ [.ref x] [.ref S1.r.length]:=.ref (by rw[<-bJ.r.ln];exact FT) .nil
 have u4:Up q k1 H1 ⟨k1.F,k1.A++[x],k1.T⟩ (upd (upd H1 dx (.own x)) x (.ins C dx [])):=(Up.of (az.refl _) sm).trans (u3 q);have r3:Paired (c7 K ⟨k1.F,k1.A++[x],k1.T⟩) (.ref x::xs) (.d (.ref S1.r.length)::vs):=.cons h3 (vB.up r1 u4);rcases An e1 with⟨r,S2,e2,e1⟩|⟨C',l,S2,e2,rfl⟩
 .refine⟨(Paired.length r3).trans (hm _ _ _ e2),_,_,_,_,jF,r3,e2,λv k' H' u fT r'=>?_⟩
  split at e1
  .rename_i hr
   cases e1;unfold Rv.wb at hr;split at hr
   .exact⟨(show ag K k' [v] [.aI] from r').bo rfl,w1 (.ref x) k' H' (u4.trans u) fT (ag.mono u.le h3)⟩
   .cases hr
  .cases e1
 .exact⟨(Paired.length r3).trans (hm _ _ _ e2),_,_,_,_,jF,r3,e2,λex k' H' u fT r'=>⟨C',rfl,w1 ex k' H' (u4.trans u) fT r'⟩⟩
end
end L2
set_option autoImplicit false
namespace L2
open PySem PySem.Spec PyProof.Rows
variable{p i:Nat}{P:St->Hp->Prop}{H:Hp}{Z:St}{ts:tq}
inductive Fr where
 |nx (U:Gm) (S:aU)|bk (U:Gm) (S:aU)|ct (U:Gm) (S:aU)|rt (r:Rv) (S:aU)|ex (C:aj) (l:ak Int) (U:Gm) (S:aU)
abbrev GS:=Gm->aU->ak Fr
section
variable(K:aL)(W:XW)(q:Nat){D:Ends}{k k':Kn}{H H':Hp}{Z:St}{U:Gm}{S:aU}{fr:Fr}
def cf(k:Kn)(H:Hp)(P:St->Hp->Prop)(U:Gm)(S:aU):Prop:=∀Z' k' H',Up q k H k' H'->cq K k' H' S->gR K k' Z' U->P Z' H'
def Done(D:Ends)(k:Kn)(H:Hp):Fr->Prop
 |.nx U S=>cf K q k H D.nx U S
 |.bk U S=>cf K q k H D.bk U S
 |.ct U S=>cf K q k H D.ct U S
 |.rt r S=>∀v k' H',Up q k H k' H'->cq K k' H' S->n9 K k' H' v r->D.rt v H'
 |.ex C l U S=>∀dx Z' k' H',Up q k H k' H'->cq K k' H' S->gR K k' Z' U->A7 k'.F dx l->W C dx Z' H'
def tS(f:GS):TS:=λD Z H=>∃k U S fr,cq K k H S/\gR K k Z U/\f U S=some fr/\Done K W q D k H fr
variable{K W q}
def IY{q:Nat}{o:HO}(h:p<=q)(e:uM p o=true):uM q o=true:=by
 match p,q with
 |0,_=>cases e
 |1,0=>lia
 |1,1=>exact e
 |1,n+2=>rfl
 |n+2,0=>lia
 |n+2,1=>lia
 |n+2,m+2=>rfl
def Up.weak(u:Up q k H k' H')(h:p<=q):Up p k H k' H':=⟨u.f,u.a,u.t,λa o z e=>u.h a o (IY h z) e⟩
def cf.up(w:cf K q k H P U S)(u:Up q k H k' H'):cf K q k' H' P U S:=λZ' k2 H2 u2 ok g=>w Z' k2 H2 (u.trans u2) ok g
def cf.now(w:cf K q k H P U S)(ok:cq K k H S)(g:gR K k Z U):P Z H:=w Z k H .refl ok g
theorem Done.up(w:Done K W q D k H fr)(u:Up q k H k' H'):Done K W q D k' H' fr:=by
 cases fr with
 |nx U S=>exact cf.up w u
 |bk U S=>exact cf.up w u
 |ct U S=>exact cf.up w u
 |rt r S=>exact λv k2 H2 u2 k r=>w v k2 H2 (u.trans u2) k r
 |ex C l U S=>exact λdx Z' k2 H2 u2 k g r=>w dx Z' k2 H2 (u.trans u2) k g r
theorem Done.weak{p:Nat}(w:Done K W q D k H fr)(h:q<=p):Done K W p D k H fr:=by
 cases fr with
 |nx U S=>exact λZ' k2 H2 u=>w Z' k2 H2 (u.weak h)
 |bk U S=>exact λZ' k2 H2 u=>w Z' k2 H2 (u.weak h)
 |ct U S=>exact λZ' k2 H2 u=>w Z' k2 H2 (u.weak h)
 |rt r S=>exact λv k2 H2 u=>w v k2 H2 (u.weak h)
 |ex C l U S=>exact λdx Z' k2 H2 u=>w dx Z' k2 H2 (u.weak h)
def kI{α:Type}(U:Gm)(x:ak (Rs α))(f:α->aU->ak Fr):ak Fr:=match x with
 |none=>none
 |some (.ok a S)=>f a S
 |some (.ex C l S)=>some (.ex C l U S)
def tS.Cj{α β:Type}{R:Rp α β}{g:Gx α}{f:α->aU->ak Fr}{Q:β->Hp->Prop}(ok:cq K k H S)(gk:gR K k Z U)(e:kI U (g U S) f=some fr)(w:Done K W q D k H fr)
  (h:∀a S1 b k1 H1,cq K k1 H1 S1->gR K k1 Z U->R k1 H1 b a->f a S1=some fr->Done K W q D k1 H1 fr->Up q k H k1 H1->Q b H1):tX R K W q g Z H Q:=by
 unfold kI at e;split at e
 .cases e
 .rename_i a S1 e1
  exact⟨k,U,S,_,ok,gk,e1,λb k' H' u fT r=>h a S1 b k' H' fT (gk.up u) r e (w.up u) u⟩
 .rename_i C l S1 e1
  cases e;exact⟨k,U,S,_,ok,gk,e1,λdx k' H' u fT r=>w dx Z k' H' u fT (gk.up u) r⟩
def tS.bd{α β:Type}{R:Rp α β}{g:Gx α}{f:α->aU->ak Fr}{Q:β->Hp->Prop}(ok:cq K k H S)(gk:gR K k Z U)(e:kI U (g U S) f=some fr)(w:Done K W q D k H fr)
  (h:∀a S1 b k1 H1,cq K k1 H1 S1->gR K k1 Z U->R k1 H1 b a->f a S1=some fr->Done K W q D k1 H1 fr->Q b H1):tX R K W q g Z H Q:=tS.Cj ok gk e w λa S1 b k1 H1 h1 h2 h3 h4 h5 _=>h a S1 b k1 H1 h1 h2 h3 h4 h5
end
def ko:GS:=λU S=>some (.nx U S)
noncomputable def dH(f g:GS):GS:=λU S=>(f U S).bind λr=>match r with
 |.nx U S=>g U S
 |r=>some r
noncomputable def aA(g:GE):GS:=λU S=>kI U (g U S) λr S1=>some (.rt r S1)
noncomputable def fM(c:GT)(f g:GS):GS:=λU S=>kI U (c U S) λb S1=>if b=true then f U S1 else g U S1
noncomputable def c_(g:GE):GS:=λU S=>kI U (g U S) λ_ S1=>some (.nx U S1)
def asg(mu:Bool)(S:aU):Rv->Val×aU
 |.o c=>if mu=true then(.c S.s.length,⟨S.s++[.o c],S.r⟩) else(.d c.d,S)
 |.v x=>(x,S)
def au(i:Nat)(mu:Bool)(g:GE):GS:=λU S=>kI U (g U S) λr S1=>if i<U.length then some (.nx (U.set i (some (asg mu S1 r).1)) (asg mu S1 r).2) else none
section
variable{X:Cx}{K:aL}{W:XW}{q:Nat}{st:Stmt}{rest sa sb:List Stmt}{e c:Expr}{f g:GS}{lW:GE}{ft:GT}{pos:Pos}
def yk:iT X [] (tS K W q ko):=pj.mono λD Z H t=>by
 obtain⟨k,U,S,fr,ok,gk,e,w⟩:=t;cases e;exact cf.now w ok gk
def uA(h1:PS X st (tS K W q f))(h2:iT X rest (tS K W q g)):iT X (st::rest) (tS K W q (dH f g)):=(Vu h1 h2).mono λD Z H t=>by
 obtain⟨k,U,S,fr,ok,gk,e,w⟩:=t;obtain⟨r,e1,e⟩:=cA.mp e;refine⟨k,U,S,r,ok,gk,e1,?_⟩;cases r with
 |nx U1 S1=>exact λZ' k' H' u fT g'=>⟨k',U1,S1,fr,fT,g',e,w.up u⟩
 |bk U1 S1=>cases e;exact w
 |ct U1 S1=>cases e;exact w
 |rt r S1=>cases e;exact w
 |ex C l U1 S1=>cases e;exact w
def yl(h:PE X e (tE K W q lW)):PS X (.Return (some e) pos) (tS K W q (aA lW)):=(Z8 h).mono λD Z H t=>by
 obtain⟨k,U,S,fr,ok,gk,e,w⟩:=t;refine tS.bd ok gk e w λr S1 v k1 H1 bJ g1 r1 e1 w1=>?_
 cases e1;exact w1 v k1 H1 .refl bJ r1
def Ct(hc:PT X c (tT K W q ft))(ha:iT X sa (tS K W q f))(hb:iT X sb (tS K W q g)):PS X (.If c sa sb pos) (tS K W q (fM ft f g)):=(e8m hc ha hb).mono λD Z H t=>by
 obtain⟨k,U,S,fr,ok,gk,e,w⟩:=t;refine tS.bd ok gk e w λb S1 v k1 H1 bJ g1 r1 e1 w1=>?_
 cases r1;cases b with
 |true=>exact sj ⟨k1,U,S1,fr,bJ,g1,e1,w1⟩
 |false=>exact si ⟨k1,U,S1,fr,bJ,g1,e1,w1⟩
def XS(he:PE X e (tE K W q lW))(hs:swapsWith e none pos.line X.env=pure false):PS X (.Expr e pos) (tS K W q (c_ lW)):=(Xk he hs).mono λD Z H t=>by
 obtain⟨k,U,S,fr,ok,gk,e,w⟩:=t;refine tS.bd ok gk e w λr S1 v k1 H1 bJ g1 r1 e1 w1=>?_
 cases e1;exact cf.now w1 bJ g1
def ω{mu:Bool}{k:Kn}{S:aU}{x:V}{r:Rv}(ok:cq K k H S)(h:n9 K k H x r):∃k',(∀q,Up q k H k' H)/\cq K k' H (asg mu S r).2/\c7 K k' x (asg mu S r).1:=by
 cases r with
 |v y=>exact qx ok h
 |o c=>
  cases mu with
  |false=>exact qx (r:=.o c) ok h
  |true=>
   obtain⟨p,rfl,hF,hi,hc⟩:=h;obtain⟨bJ,u⟩:=ok.pushS hF hi hc;exact⟨_,u,bJ,p,rfl,by rw[<-ok.s.ln];exact FT⟩
def gR.set{k:Kn}{Z:St}{U:Gm}{i:Nat}{x:V}{v:Val}(g:gR K k Z U)(r:c7 K k x v)(hi:i<U.length):gR K k (Z.set i (some x)) (U.set i (some v)):=by
 refine⟨by rw[t5,t5,g.ln],λj w e=>?_⟩
 by_cases z:i=j
 .subst z;rw[t4 hi] at e;cases e;exact⟨x,t4 (g.ln ▸ hi),r⟩
 .rw[AX z] at e ⊢;exact g.at' j w e
def Qz{mu:Bool}{D:Ends}(t:tS K W q (au i mu lW) D Z H):tE K W q lW Z H λv H1=>D.nx (Z.set i (some v)) H1:=by
 obtain⟨k,U,S,fr,ok,gk,e,w⟩:=t;refine tS.bd ok gk e w λr S1 v k1 H1 bJ g1 r1 e1 w1=>?_
 split at e1
 .cases e1;obtain⟨k2,u,cS,r2⟩:=ω (mu:=mu) bJ r1;exact cf.now (cf.up w1 (u q)) cS ((g1.up (u q)).set r2 (by assumption))
 .cases e1
def e2x{mu:Bool}{x:Str}{pos':Pos}(hN:X.N.Nodup)(hi:X.N[i]?=some x)(hx:Loc X.env.scope x)(he:PE X e (tE K W q lW))(hs:swapsWith e (some (.Name x pos')) pos.line X.env=pure false)(hf:X.fn x=true\/X.env.scope.names.lookup x=some .local):
  PS X (.Assign [.Name x pos'] e pos) (tS K W q (au i mu lW)):=(Δ hN hi hx he hs hf).mono λD Z H t=>Qz t
def cY(c:GT)(f:GS):Nat->GS
 |0=>λ_ _=>none
 |n+1=>λU S=>kI U (c U S) λb S1=>if b=true then(f U S1).bind λr=>match r with
   |.nx U2 S2=>cY c f n U2 S2
   |.ct U2 S2=>cY c f n U2 S2
   |.bk U2 S2=>some (.nx U2 S2)
   |r=>some r
  else some (.nx U S1)
def rN(n:Nat)(hp:PassesOwn (model X.prog X.w) X.A X.env X.xe)(hc:PT X c (tT K W q ft))(hb:iT X sa (tS K W q f)):PS X (.While c sa [] pos) (tS K W q (cY ft f n)):=(Vv hp hc hb).mono λD Z H t=>by
 obtain⟨k,U,S,fr,ok,gk,e,w⟩:=t;refine⟨λn Z H=>∃k U S,cq K k H S/\gR K k Z U/\cY ft f n U S=some fr/\Done K W q D k H fr,⟨n,k,U,S,ok,gk,e,w⟩,?_⟩
 clear ok gk e w;rintro n Z H ⟨k,U,S,ok,gk,e,w⟩;cases n with
 |zero=>cases e
 |succ n=>
  refine tS.bd ok gk e w λb S1 v k1 H1 bJ g1 r1 e1 w1=>?_
  cases r1;cases b with
  |false=>cases e1;exact si (cf.now w1 bJ g1)
  |true=>
   refine sj ⟨λZ' H'=>∃k U S,cq K k H' S/\gR K k Z' U/\cY ft f n U S=some fr/\Done K W q D k H' fr,λZ' H' h=>⟨n,vw _,h⟩,?_⟩
   obtain⟨r,e2,e3⟩:=cA.mp (show((f U S1).bind _)=some fr from e1);refine⟨k1,U,S1,r,bJ,g1,e2,?_⟩;cases r with
   |nx U2 S2=>exact λZ' k' H' u fT g'=>⟨k',U2,S2,fT,g',e3,w1.up u⟩
   |ct U2 S2=>exact λZ' k' H' u fT g'=>⟨k',U2,S2,fT,g',e3,w1.up u⟩
   |bk U2 S2=>cases e3;exact w1
   |rt r S2=>cases e3;exact w1
   |ex C l U2 S2=>cases e3;exact w1
end
abbrev GG:=D->Gm->ak Gm
variable{gs:List GG}
noncomputable def ae(i:Nat):GG:=λd U=>if i<U.length then some (U.set i (some (.d d))) else none
noncomputable def oY:List GG->List D->Gm->ak Gm
 |[],[],U=>some U
 |g::gs,d::ds,U=>(g d U).bind λU1=>oY gs ds U1
 |_,_,_=>none
def ba(gs:List GG):GG:=λd U=>match d with
 |.tup ds=>oY gs ds U
 |_=>none
section
variable{K:aL}
def j0(K:aL)(t:TG)(g:GG):Prop:=
 ∀(k:Kn) (H:Hp) (Z:St) (U U1:Gm) (x:V) (d:D) (Q:St->Hp->Prop),az k.F H->gR K k Z U->ag K k [x] [d]->g d U=some U1->(∀Z',gR K k Z' U1->Q Z' H)->t x Z H Q
def oM(K:aL)(t:tq)(gs:List GG):Prop:=
 ∀(k:Kn) (H:Hp) (Z:St) (U U1:Gm) (xs:List V) (ds:List D) (Q:St->Hp->Prop),az k.F H->gR K k Z U->ag K k xs ds->oY gs ds U=some U1->(∀Z',gR K k Z' U1->Q Z' H)->t xs Z H Q
def vd:j0 K (oX i) (ae i):=by
 intro k H Z U U1 x v Q le gk r e w;unfold ae at e;split at e
 .cases e;exact w _ (gk.set (v:=.d v) r (by assumption))
 .cases e
def vf:oM K CC []:=by
 intro k H Z U U1 xs vs Q le gk r e w;cases vs with
 |nil=>cases e;exact⟨r.eR,w Z gk⟩
 |cons _ _=>cases e
def sO{t:TG}{g:GG}(h1:j0 K t g)(h2:oM K ts gs):oM K (vT t ts) (g::gs):=by
 intro k H Z U U1 xs vs Q le gk r e w;cases vs with
 |nil=>cases e
 |cons d ds=>
  obtain⟨U2,e1,e2⟩:=cA.mp e;obtain⟨x,xs,rfl,r1,r2⟩:=r.ck;exact⟨_,_,rfl,h1 k H Z U U2 _ _ _ le gk r1 e1 λZ1 g1=>h2 k H Z1 U2 U1 _ _ Q le g1 r2 e2 w⟩
def UB:∀{gs:List GG} {vs:List D} {U U1:Gm},oY gs vs U=some U1->vs.length=gs.length:=by
 intro gs
 induction gs with
 |nil=>intro vs U U1 e;cases vs with
  |nil=>rfl
  |cons _ _=>cases e
 |cons g gs ih=>intro vs U U1 e;cases vs with
  |nil=>cases e
  |cons v vs=>obtain⟨U2,_,e2⟩:=cA.mp e;exact congrArg (·+1) (ih e2)
def zr{n:Nat}(h:oM K ts gs)(hn:n=gs.length):j0 K (yr K n ts) (ba gs):=by
 intro k H Z U U1 x d Q le gk r e w;cases d with
 |tup es=>
  obtain⟨a,ws,rfl,sq,rp⟩:=r.isTup;exact⟨a,ws,rfl,le.zo sq,by rw[hn,<-UB e,rp.length],h k H Z U U1 _ _ Q le gk rp e w⟩
 |_=>cases e
end
def gD(g:GE):Gx D:=λU S=>bd (g U S) λr S1=>(oi S1 (mB r)).map λp=>.ok p.1 p.2
abbrev RD(K:aL):Rp D V:=λk _ x d=>ag K k [x] [d]
section
variable{X:Cx}{K:aL}{W:XW}{q:Nat}{g:GE}{gg:GG}{t:TG}{e tg:Expr}{pos:Pos}
def L0{Q:VK}(t:tX (RD K) K W q (gD g) Z H Q):tE K W q g Z H Q:=by
 obtain⟨k,U,S,res,ok,gk,e,w⟩:=t;refine tX.bd ok gk e w λr S1 x k1 H1 bJ g1 r1 e1 w1 _=>?_
 obtain⟨p,e2,rfl⟩:=df.mp e1;obtain⟨k2,u2,cS,r2⟩:=qx bJ r1;obtain⟨k3,u3,jF,r3⟩:=FU cS r2 e2;exact((w1.up (u2 q)).up (u3 q)).now jF r3
end
variable{N:List Str}{n p:Nat}{m:GS}
def aU.cut(S:aU)(b:Nat):aU:=⟨S.s.take b,S.r⟩
def Ci:Cell->ak Rv
 |.o x=>some (.o x)
 |.z x=>some (.v (.d x.d))
 |_=>none
def back(b:Nat)(S:aU):Rv->ak Rv
 |.v (.c n)=>if n<b then some (.v (.c n)) else(S.s[n]?).bind Ci
 |r=>some r
def leave(b:Nat):Fr->ak (Rs Rv)
 |.nx _ S=>some (.ok (.v (.d .aI)) (S.cut b))
 |.rt r S=>(back b S r).map λr'=>.ok r' (S.cut b)
 |.ex C l _ S=>some (.ex C l (S.cut b))
 |_=>none
def runM(p n:Nat)(m:GS):GM:=λvs S=>if vs.length=p then(m (vs.map some++List.replicate (n - vs.length) none) S).bind (leave S.s.length) else none
section
variable{K:aL}{k k':Kn}{H H':Hp}{S:aU}{q b:Nat}
def XT{v:V}{r r':Rv}(ok:cq K k H S)(h:n9 K k H v r)(e:back b S r=some r'):n9 K ⟨k.F,k.A,k.T.take b⟩ H v r':=by
 have go:k.le ⟨k.F,k.A,k.T.take b⟩:=⟨az.refl _,k_ _⟩;cases r with
 |o c=>
  cases e;obtain⟨a,e1,e2,e3,e4⟩:=h;exact⟨a,e1,e2,λm=>e3 ((iQ.mp m).elim (Eu _) λm=>nU _ (List.mem_of_mem_take m)),e4.keep go λ_ z=>z⟩
 |v x=>
  cases x with
  |d y=>cases e;exact ag.mono go h
  |c n=>
   obtain⟨a,e1,e2⟩:=h;unfold back at e;dsimp only at e;split at e
   .rename_i hn
    cases e;exact⟨a,e1,by rw[List.getElem?_take,bM hn];exact e2⟩
   .rename_i hn
    obtain⟨c,h1,h2⟩:=cA.mp e;have h3:=ok.s.at' n a c e2 h1;cases c with
    |ins _ _=>cases h2
    |z x=>cases h2;rw[e1];exact ag.mono go h3.2
    |o x=>
     cases h2;obtain⟨n1,n2,n3⟩:=mH.mp ok.nd;refine⟨a,e1,h3.1,λm=>?_,h3.2.keep go λ_ z=>z⟩
     rcases iQ.mp m with m|m
     .exact n3 a m a (sU e2) rfl
     .obtain⟨j,hj⟩:=zz.mp m;rw[List.getElem?_take] at hj;split at hj
      .rename_i GY
       have:=Fx n2 hj e2;lia
      .cases hj
def UC{xs:List V}{vs:List Val}(h:Paired (c7 K k) xs vs)(hn:N.length=n):gR K k (start N xs) (vs.map some++List.replicate (n - vs.length) none):=by
 have hl:=Paired.length h;refine⟨by unfold start;simp[hl,hn],λi v e=>?_⟩
 by_cases hi:i<vs.length
 .rw[sT (by rw[bx];exact hi),dR] at e
  obtain⟨w,e1,e2⟩:=df.mp e;cases e2;obtain⟨x,h1,h2⟩:=Bv i h e1;refine⟨x,?_,h2⟩;unfold start;rw[sT (by rw[bx,hl];exact hi),dR,h1]
  rfl
 .rw[qE (by rw[bx];lia),Mp] at e
  split at e <;> cases e
end
section
variable{P:dc}{w:cD}{K:aL}{mg:Str->ak ai}{base:bZ}
def QA{x qual:Str}{st:Stmt}{f:aj}{fd:lj}{ps:List Str}{k q:Nat}(F:q_ K x qual st f fd)(S:gm N ps (mV st))(hp:ps.length=p)(hn:N.length=n)
  (rW:∀(fj:ai) (A:cN) (outer:List Env) (s:ax) (H:Hp) (E:XK),cz k (A.deeper (envOfC qual (mV st) s.heap.objs.size f fj))->iT (kU (lH P w) P w K mg base N qual (mV st) f fj A outer s H E) (vH st) (tS K (WF E) q m)) :
  dz P w K mg base (lH P w) (k+1) f fd ps (rA K q p (runM p n m)):=by
 obtain⟨oc,od,kV,doc,pm,an,fj,ct,pd,rfl,lk,rY⟩:=F.ex;refine e8q lk rY S (λvs H Q E h=>h.1.trans hp.symm) λA outer s H xs Q E hr vZ=>⟨_,rW fj A outer s H E hr,?_⟩
 obtain⟨hl,k,vs,S,res,ok,rp,e,w⟩:=vZ;unfold runM at e;split at e
 .obtain⟨fr,e1,e2⟩:=cA.mp e;refine⟨k,_,S,fr,ok,UC rp hn,e1,?_⟩;have lb:k.T.length<=S.s.length:=Ez ok.s.ln;cases fr with
  |nx U S'=>
   cases e2;exact λZ' k' H' u fT g'=>w .aI _ H' (u.take lb) (fT.take _) (show ag K _ [.aI] [.aI] from .flat rfl .nil)
  |bk U S'=>cases e2
  |ct U S'=>cases e2
  |rt r S'=>
   obtain⟨r',e3,rfl⟩:=df.mp e2;exact λv k' H' u fT r1=>w v _ H' (u.take lb) (fT.take _) (XT fT r1 e3)
  |ex C l U S'=>
   cases e2;exact λdx Z' k' H' u fT g' el=>w dx _ H' (u.take lb) (fT.take _) el
 .cases e
def lE:gY (runM p n m) p:=λvs S res e=>by
 unfold runM at e;split at e
 .assumption
 .cases e
end
section
variable{prog:dc}{w:cD}{A:cN}{E:ai->ax->Prop}{h:bZ}{g:Array GenState}{d:Drawn}{t:Nat}{os:OsState}
variable{nm q:Str}{C N:aj}{bs bm x8:List ai}{hdct:Bool}{sn:List Str}{sub:List ai}{ab:Bool}{col:ak Bool}{dd:ak aj}{k0 k1 k2 k3 k5:ak ai}{B Bn newId Sj l9 R8:String}{O1:List ai}
def Ej(Fn:ExcBaseFacts Bn newId R8 O1)(GL:x8.contains (.type Bn)=true)(F:ExcBaseFacts B Sj l9 x8)(T:OwnTail h x8 bm){mN:Str->ak ai}{rest:List ai}{Q:Fin->ax->Prop}
  (hC:h.get? C=some (excClassObj nm q C N bs bm hdct sn sub ab col dd k0 k1 k2 k3 k5 newId)) (hn:h.Ns N mN) (r_:rest.length<=sizeLine)
  (hq:∀i,i=(mN "__init__").getD (.builtin l9)->wpAny (model prog w) A (bindSpecial i (.ref (h.objs.size+1))) (λp s'=>wpAny (model prog w) A (call p.1 (p.2++rest)) (λr sJ=>r=.none/\Q (.done (.ret (.ref (h.objs.size+1)))) sJ) E s') E ⟨((h.push { cls:=.type "tuple",data:=.seq rest.toArray}).push { cls:=.ref C,data:=.fields #[.ref h.objs.size,.none,.none,.none,.bool false,.none]}),g,d,t,os⟩) :
  wpAny (model prog w) A (Builtin.«type.__call__» ⟨.ref C::rest,[]⟩) Q E ⟨h,g,d,t,os⟩:=by
 repeat (first|with_reducible refine wpAny_loadPart_at hC ?_|with_reducible refine wpAny_madeBy_exc hC ?_|wp_step)
 refine codeAny_call_builtin_code (Code.quiet_builtin _ Fn.quiet) (wpAny_check_new_subU Fn GL T hC (codeAny_exc_new_subU Fn GL F T hC ?_ r_));show wpAny _ _ _ _ _ _;have st:∀b o,h.get? b=some o->((h.push { cls:=.type "tuple",data:=.seq rest.toArray}).push { cls:=.ref C,data:=.fields #[.ref h.objs.size,.none,.none,.none,.bool false,.none]}).get? b=some o:=λb o e=>cZ _ (cZ _ e)
 have hC₁:=st _ _ hC;have yx:((h.push { cls:=.type "tuple",data:=.seq rest.toArray}).push { cls:=.ref C,data:=.fields #[.ref h.objs.size,.none,.none,.none,.bool false,.none]}).get? (h.objs.size+1)=some { cls:=.ref C,data:=.fields #[.ref h.objs.size,.none,.none,.none,.bool false,.none]}:=by heap_get
 have hcC:(Value.ref C::bm).contains (.ref C)=true:=by simp
 unfold isInstance
 repeat (first|with_reducible refine wpAny_loadPart_at yx ?_|(with_reducible refine wpAny_isSubtype_exc hC₁ ?_;rw[hcC])|wp_step)
 show wpAny _ _ (typeLookup (.ref C) _) _ _ _;refine wpAny_typeLookup_tail hC₁ (hn.keeps st) (T.keeps st) F.mroIs F.init.lookup ?_;cases hv:mN "__init__" with
 |none=>
  refine ju (ay (wpAny_mono (hq _ (by rw[hv];rfl)) (λp s' z=>ay (wpAny_mono z (λr sJ y=>?_) λ_ _ y=>y)) λ_ _ y=>y))
  obtain⟨rfl,y⟩:=y
  wp_walk
  exact y
 |some v=>
  refine ju (ay (wpAny_mono (hq _ (by rw[hv];rfl)) (λp s' z=>ay (wpAny_mono z (λr sJ y=>?_) λ_ _ y=>y)) λ_ _ y=>y))
  obtain⟨rfl,y⟩:=y
  wp_walk
  exact y
def VQ(Fn:ExcBaseFacts Bn newId R8 O1)(GL:x8.contains (.type Bn)=true)(F:ExcBaseFacts B Sj l9 x8)(T:OwnTail h x8 bm){mN:Str->ak ai}{rest:List ai}{Q:ai->ax->Prop}
  (hC:h.get? C=some (excClassObj nm q C N bs bm hdct sn sub ab col dd k0 k1 k2 k3 k5 newId)) (hn:h.Ns N mN) (r_:rest.length<=sizeLine)
  (hq:∀i,i=(mN "__init__").getD (.builtin l9)->wpAny (model prog w) (A.under (.builtin "type.__call__" ⟨.ref C::rest,[]⟩)) (bindSpecial i (.ref (h.objs.size+1))) (λp s'=>wpAny (model prog w) (A.under (.builtin "type.__call__" ⟨.ref C::rest,[]⟩)) (call p.1 (p.2++rest)) (λr sJ=>r=.none/\Q (.ref (h.objs.size+1)) sJ) E s') E ⟨((h.push { cls:=.type "tuple",data:=.seq rest.toArray}).push { cls:=.ref C,data:=.fields #[.ref h.objs.size,.none,.none,.none,.bool false,.none]}),g,d,t,os⟩) :
  wpAny (model prog w) A (call (.ref C) rest) Q E ⟨h,g,d,t,os⟩:=by
 have f1:=tc_lookup;have f2:=tc_bind (.ref C);have hT:(⟨h,g,d,t,os⟩:ax).TypeIs (.ref C) "type":=⟨_,hC,rfl⟩;refine wpAny_call (codeAny_of_tree (show wpAny _ _ (callAny (.ref C) _) _ _ _ from ?_))
 repeat (any_goals (first|assumption|with_reducible refine wpAny_loadPart_at hC ?_|wp_step))
 exact⟨rfl,codeAny_call_builtin_at (Code.quiet_builtin _ (by decide +kernel)) entry_typeCall (wpAny_check_type_call_sub hC (Ej Fn GL F T hC hn r_ λi e=>hq i e))⟩
end
end L2
namespace L2
open PySem PySem.Spec PySem.W PySem.Calls PyProof.Rows
noncomputable def rP(C t:aj)(d:ak aj):Obj:={ cls:=.ref C,dict:=d,data:=.fields #[.ref t,.none,.none,.none,.bool false,.none]}
section
variable{prog:dc}{w:cD}{A:cN}{E:ai->ax->Prop}{h:bZ}{g:Array GenState}{d:Drawn}{tt:Nat}{os:OsState}{x t:aj}
variable{nm q:Str}{C N:aj}{bs bm x8:List ai}{hdct:Bool}{sn:List Str}{sub:List ai}{ab:Bool}{col:ak Bool}{dd:ak aj}{k0 k1 k2 k3 k5:ak ai}{newId:String}
def Es{u:ai}{Q:ai->ax->Prop}(T:OwnTail h [.type "ValueError",.type "Exception",.type "BaseException",.type "object"] bm)(hC:h.get? C=some (excClassObj nm q C N bs bm hdct sn sub ab col dd k0 k1 k2 k3 k5 newId))(hx:h.get? x=some (rP C t none))
  (hq:∀h',h'.get? x=some (rP C h.objs.size none)->(∀b o,b≠x->h.get? b=some o->h'.get? b=some o)->Q .none ⟨h',g,d,tt,os⟩) :
  wpAny (model prog w) A (call (.builtin "ValueError.__init__") [.ref x,u]) Q E ⟨h,g,d,tt,os⟩:=by
 have FB:=F.excBase_ValueError;have tO:h.get? x=some { cls:=.ref C,data:=.fields #[.ref t,.none,.none,.none,.bool false,.none]}:=hx;refine wpAny_call (codeAny_call_builtin FB.init.plain FB.initEntry (wpAny_check_init_subU FB T hC tO rfl ?_))
 wp_walk
 refine hq _ ?_ λb o n e=>?_
 .rw[qF _ (cZ _ tO) rfl];rfl
 .rw[oF _ _ (Ne.symm n)];exact cZ _ e
end
noncomputable abbrev qy:List ai:=[.type "ValueError",.type "Exception",.type "BaseException",.type "object"]
def fX(K:fI)(C:aj)(bm:List ai)(G6:ak ai):Prop:=∃nm q N bs sn sub ab col dd k0 k1 k2 k3 k5 on AM es ep AO,
 K.lookup C=some (excClassObj nm q C N bs bm true sn sub ab col dd k0 k1 k2 k3 k5 "ValueError.__new__")/\K.lookup N=some ⟨on,AM,.dict es ep,AO⟩/\StrKeys es/\nsFind es "__init__"=G6
section
variable{K:fI}{C C' B0 a:aj}{bm JF:List ai}{i i':ak ai}{l:ak Int}
theorem fX.cls(G:fX K C bm i):∃cd,clsIn K C=some cd/\cd.mro=.ref C::bm/\cd.hasDict=true/\typeIn K (.ref C)=some (.type "type"):=by
 obtain⟨nm,q,N,bs,sn,sub,ab,col,dd,k0,k1,k2,k3,k5,on,AM,es,ep,AO,g1,g2,g3,g4⟩:=G;exact⟨_,by unfold clsIn;rw[g1],rfl,rfl,by show(K.lookup C).map (·.cls)=_;rw[g1];rfl⟩
def fX.sub(G:fX K C bm i)(b:ai):subIn K (.ref C) b=some ((Value.ref C::bm).contains b):=by
 obtain⟨cd,c1,c2,c3,c4⟩:=G.cls;show mroIn K C b=_;unfold mroIn;rw[c1,wM,c2];rfl
def fX.exm{C C':aj}{bm JF:List ai}{i i':ak ai}(G:fX K C bm i)(G':fX K C' JF i')(h:(Value.ref C'::JF).contains (.type "BaseException")=true):exmOne K (.ref C) (.ref C')=some ((Value.ref C::bm).contains (.ref C')):=by
 obtain⟨cd,c1,c2,c3,c4⟩:=G'.cls;unfold exmOne;rw[G'.sub,h,bM (by decide)]
 unfold kitCls;dsimp only;rw[bM (by rw[c1,c4];rfl)]
 exact G.sub _
end
section
variable{X:Cx}{aa:List (aj×Obj)}{Z:St}{H:Hp}{s:ax}{C B0:aj}{R:ai->ax->Prop}
def VR{u:ai}(G:fX X.K C (.ref B0::qy) none)(G0:fX X.K B0 qy none)(I:Inv X aa Z H s)(h:∀h' t,(∀b o,s.heap.get? b=some o->h'.get? b=some o)->h'.get? (s.heap.objs.size+1)=some (rP C t none)->R (.ref (s.heap.objs.size+1)) { s with heap:=h'}):
  wpAny (model X.prog X.w) X.A (call (.ref C) [u]) R X.xe s:=by
 obtain⟨hh,g,d,tt,os⟩:=s;have KX:X.K.In hh:=I.jQ;obtain⟨nm,q,N,bs,sn,sub,ab,col,dd,k0,k1,k2,k3,k5,on,AM,es,ep,AO,g1,g2,g3,g4⟩:=G;obtain⟨nm',q',N',bs',sn',sub',ab',col',dd',k0',k1',k2',k3',k5',on',odn',fL,jl,sln',g1',g2',g3',g4'⟩:=G0;have FB:=F.excBase_ValueError;have T:OwnTail hh qy (.ref B0::qy):=.own (KX _ _ g1') (mA:=λn=>nsFind fL n) ⟨_,_,_,KX _ _ g2',rfl,g3',λ_=>rfl⟩ g4' .base
 refine VQ FB rfl FB T (KX _ _ g1) (mN:=λn=>nsFind es n) ⟨_,_,_,KX _ _ g2,rfl,g3,λ_=>rfl⟩ (by rw[sizeLine_eq];exact(by decide:1<=16777216)) λi ei=>?_
 rw[g4] at ei;subst ei;have st:∀b o,hh.get? b=some o->((hh.push { cls:=.type "tuple",data:=.seq [u].toArray}).push { cls:=.ref C,data:=.fields #[.ref hh.objs.size,.none,.none,.none,.bool false,.none]}).get? b=some o:=λb o e=>cZ _ (cZ _ e)
 have yx:((hh.push { cls:=.type "tuple",data:=.seq [u].toArray}).push { cls:=.ref C,data:=.fields #[.ref hh.objs.size,.none,.none,.none,.bool false,.none]}).get? (hh.objs.size+1)=some (rP C hh.objs.size none):=by unfold rP;heap_get
 refine wpAny_of_eq (FB.init.bind _) (Es (T.keeps st) (st _ _ (KX _ _ g1)) yx λh' e1 e2=>?_)
 exact⟨rfl,h h' _ (λb o z=>e2 b o (gP (zw (cT z))) (st b o z)) e1⟩
end
noncomputable abbrev Cx.eB(X:Cx)(pn:List (aj×Obj))(E:ai->ax->Prop):Cx:={ X with pn:=pn,xe:=E}
noncomputable abbrev Cx.eA(X:Cx)(e:ai):Cx:={ X with A:=X.A.mark (some e),calm:=false,xe:=λ_ _=>False}
structure Bd (X:Cx) (aa:List (aj×Obj)) (n:Nat):Prop where
 s:X.s₀.heap.objs.size<=n
 l:X.env.locals<n
 c:∀x c,X.env.cells.lookup x=some c->c<n
 p:∀q∈X.pn++aa,q.1<n
section
variable{X:Cx}{aa nv:List (aj×Obj)}{pn:List (aj×Obj)}{Z:St}{H:Hp}{s:ax}{E:ai->ax->Prop}{n:Nat}{ch:List aj}{h':bZ}
def Cx.Ok.eB(ok:X.Ok):(X.eB pn E).Ok:=⟨ok.mod,ok.kind,ok.glob,ok.blt,ok.above,ok.inj,ok.has,ok.x9,ok.hd,ok.frames,ok.AQ,ok.GF,ok.bs,ok.rL,ok.ow,ok.qa,ok.iF,ok.uB⟩
def Cx.Ok.eI(ok:(X.eB pn E).Ok):X.Ok:=⟨ok.mod,ok.kind,ok.glob,ok.blt,ok.above,ok.inj,ok.has,ok.x9,ok.hd,ok.frames,ok.AQ,ok.GF,ok.bs,ok.rL,ok.ow,ok.qa,ok.iF,ok.uB⟩
theorem Inv.eB(I:Inv X aa Z H s):Inv (X.eB (X.pn++aa) E) [] Z H s:=⟨I.ok.eB,I.os,I.bare,I.base,I.loc,I.cell,I.free,I.eL,λp hp=>I.pin p (by rw[kN] at hp;exact hp),I.bw,I.len⟩
theorem Inv.eI(I:Inv (X.eB (X.pn++aa) E) nv Z H s):Inv X aa Z H s:=⟨I.ok.eI,I.os,I.bare,I.base,I.loc,I.cell,I.free,I.eL,λp hp=>I.pin p (Eu _ hp),I.bw,I.len⟩
def Inv.eA{e:ai}(I:Inv X aa Z H s):Inv (X.eA e) aa Z H s:=
 ⟨⟨I.ok.mod,I.ok.kind,I.ok.glob,I.ok.blt,I.ok.above,I.ok.inj,I.ok.has,I.ok.x9,λz=>(nomatch z),I.ok.frames,I.ok.AQ,I.ok.GF,I.ok.bs,I.ok.rL,I.ok.ow,I.ok.qa,I.ok.iF,I.ok.uB⟩,I.os,I.bare,I.base,I.loc,I.cell,I.free,I.eL,I.pin,I.bw,I.len⟩
def Inv.eP{e:ai}(I:Inv (X.eA e) aa Z H s)(hd:X.calm=true->X.A.handled=none):Inv X aa Z H s:=
 ⟨⟨I.ok.mod,I.ok.kind,I.ok.glob,I.ok.blt,I.ok.above,I.ok.inj,I.ok.has,I.ok.x9,hd,I.ok.frames,I.ok.AQ,I.ok.GF,I.ok.bs,I.ok.rL,I.ok.ow,I.ok.qa,I.ok.iF,I.ok.uB⟩,I.os,I.bare,I.base,I.loc,I.cell,I.free,I.eL,I.pin,I.bw,I.len⟩
def Inv.SI(I:Inv X aa Z H s):Bd X aa s.heap.objs.size:=⟨I.sz,I.lt,λx c e=>by obtain⟨v,o,ho,_⟩:=I.cell x c e;exact cT ho,λq hq=>cT (I.pin q hq).1⟩
def Bd.far(y:Bd X aa n){b:aj}(h:n<=b):(b∈X.ex\/X.s₀.heap.objs.size<=b)/\b≠X.env.locals/\(∀x c,X.env.cells.lookup x=some c->c≠b)/\∀p∈X.pn++aa,p.1≠b:=
 ⟨.inr (jt y.s h),λz=>cO (gj y.l h) (z ▸ jU _),λx c e z=>cO (gj (y.c x c e) h) (z ▸ jU _),λp hp z=>cO (gj (y.p p hp) h) (z ▸ jU _)⟩
def fY.un{fs:List aj}{h:bZ}(l:fY fs ch h h'):Un fs ch H H h h':=
 ⟨λb o g _ hb hx=>l.keep b o hb hx g,λb o g _ hb hx=>l.slot b o hb hx g,λ_ _ _ n _=>n,λb o g hx=>let ⟨_,g2⟩:=l.any g hx;⟨_,g2⟩,λ_ _ q=>q,λ_ _ _ q=>q,λ_ ps q=>⟨#[],by rw[q];simp⟩⟩
def Inv.left{t':Nat}(I:Inv X aa Z H s)(y:Bd X aa n)(l:fY (kg X.stack) ch s.heap h')(kJ:∀b∈ch,n<=b/\H b=none):Inv X aa Z H { s with heap:=h',toks:=t'}:=
 I.call (g':=s.gens) (d':=s.drawn) (ch:=ch) l.un (l.bw I.bw I.jT λb m=>(kJ b m).2) I.bare λb m=>y.far (kJ b m).1
def VS{M:Model}{A:cN}{e C:aj}{dx:ak aj}{Q:Unit->ax->Prop}(fl:iz n s.heap H e C dx)(h:∀h' ch,(∀b∈ch,n<=b/\H b=none)->fY (kg X.stack) ch s.heap h'->iz n h' H e C dx->Q () { s with heap:=h'}):wpAny M A (setFlight (.ref e) none) Q E s:=by
 obtain⟨fS,tL,oe,vs,he,hc,hx,hd,hsz,h1⟩:=fl;unfold setFlight;rcases h1 with h1|⟨T,oT,ts,h1,G2,GN,GP,hT,CO,h3⟩
 .refine ay (wpAny_field he hd h1 ?_);rw[bc (by decide)]
  exact aX (h s.heap [] (λ_ z=>nomatch z) ⟨λ_ _ _ _ g=>g,λ_ o _ _ g=>⟨o.slots,g⟩⟩ ⟨fS,tL,oe,vs,he,hc,hx,hd,hsz,.inl h1⟩)
 .refine ay (wpAny_field he hd h1 ?_);rw[bM (show(Value.ref T != Value.none)=true by simp)]
  have l3:3<ts.size:=(A1.mp h3).1;have dT:=Obj.data_mapFields CO (·.setIfInBounds 3 ((none:ak aj).elim Value.none λf=>rawInt f))
  refine wpAny_setField hT CO l3 (h _ [T] (λb m=>by cases mG.1 m;exact⟨G2,GN⟩) ⟨λb o _ hb g=>(oF _ _ (by simpa using Ne.symm (by simpa using hb:b≠T))).trans g,λb o _ hb g=>⟨o.slots,(oF _ _ (by simpa using Ne.symm (by simpa using hb:b≠T))).trans g⟩⟩ ⟨fS,tL,oe,vs,(oF _ _ GP).trans he,hc,hx,hd,hsz,.inr ⟨T,_,_,h1,G2,GN,GP,qF _ hT (Obj.isFreed_of_fields dT),dT,by simp[Array.getElem?_setIfInBounds,l3]⟩⟩)
end
end L2
namespace L2
open PySem PySem.Spec PyProof.Rows
variable{P:dc}{w:cD}{K:aL}{tg l:Expr}{X:Cx}{ta:TA}{p pos:Pos}{Q:ak ai->ax->Prop}{n t' x1:Nat}{ob:Obj}{L:List aj}{elts:List Expr}{it:aj}
def rh(K:aL)(a:aj)(n:Nat):It:=
 ⟨λi H=>i<n/\∃xs,c8 K H a xs/\xs.length=n,λi H x H'=>H'=H/\∀xs,c8 K H a xs->xs[n - 1 - i]?=some x,λi H=>n<=i⟩
def VT(a it:aj)(n:Nat):Turn P w K tg (rh K a n) [it] it (λi h=>i<=n/\h.IsRevIter it a ((n:Int) - 1 - i)) where
 mem:=by simp
 obj:=λi h st b hb=>by
  have e:b=it:=by simpa using hb
  subst e;obtain⟨_,o,e,c,d⟩:=st
  simp_all
 keep:=λi h h' st k=>⟨st.1,st.2.at λo e=>k it (by simp) o e⟩
 item:=by
  intro X hP hw hK hc i aa s Z H E I hf st hg;subst hP hw hK;obtain⟨hi,xs,hq,hx⟩:=hg;obtain⟨aG,rv,p,hz⟩:=I.list hq;have tO:xs[n - 1 - i]?=some xs[n - 1 - i]:=fG (by lia)
  obtain⟨u,hu,ru⟩:=rv.get tO;obtain⟨f0,f1,f2,f3,f4,f5⟩:=hf it (by simp)
  have nQ:s.heap.IsRevIter it a (((n - 1 - i:Nat):Int)):=by
   lia
  refine wpAny_pyNext_rev_item nQ p.isList (x:=u) (by simpa using hu) λh' ir sb=>?_
  have I1:Inv X aa Z H { s with heap:=h'}:=I.turned (t':=s.toks) (λb o hb e=>(sb.2 b hb).trans e) f0 f1 f3 f4 f5
  obtain⟨o,e,c,d⟩:=id ir;refine⟨u,rfl,vP (s:={ s with heap:=h'}) e c d (by decide) ⟨_,H,I1,ru,⟨rfl,λys hy=>by rw[I.ky hy hq];exact tO⟩,⟨by lia,?_⟩,λb hb=>(hf b hb).1⟩⟩
  grind
 done:=by
  intro X hP hw hK hc i aa s Z H E I hf st hg;subst hP hw hK;obtain⟨f0,f1,f2,f3,f4,f5⟩:=hf it (by simp)
  have hg:n<=i:=hg;have nQ:s.heap.IsRevIter it a (-1):=by
   grind
  exact wpAny_pyNext_rev_end (I.ok.hd hc) nQ λh' eb=>⟨rfl,I.turned (t':=s.toks) (λb o hb e=>eb b o hb e) f0 f1 f3 f4 f5⟩
 self:=λ_ _ _ _ _ st h=>wpAny_pyIter_revIter st.2 h
def C6(K:aL)(ta:TA):TI:=λZ H R=>ta Z H λvs H1=>∃a xs,vs=[.ref a]/\c8 K H1 a xs/\R (rh K a xs.length) H1
def e2y(hg:Gl X "reversed")(hm:X.mg "reversed"=none)(ha:PA X [l] ta)(hs:starEach [l] X.env=[(false,eval l X.env)]:=by rfl):PI X tg (.Call (.Name "reversed" p) [l] [] pos) (C6 X.K ta):=by
 intro aa s Z H R I h;refine Call_ (vK I hg hm boot_reversed (PyProof.Rows.callWith_type1 (bL (ha pos aa s Z H _ I h) λus s1 hh=>?_) hs rfl))
 obtain⟨vs,H1,I1,r1,q1⟩:=hh;obtain⟨a,xs,e,hq,q⟩:=q1;subst e;cases r1 with
 |cons r rr=>
  cases rr;cases r;obtain⟨aG,rv,pl,hz⟩:=I1.list hq;have hl:=rv.length;refine call_reversed_list pl.isList ?_;have st:(s1.heap.push (revObj a ((aG.toArray.size:Int) - 1))).IsRevIter s1.heap.objs.size a ((aG.toArray.size:Int) - 1):=⟨_,iR _ rfl,rfl,rfl⟩;refine wpAny_pyIter_revIter st ?_;refine⟨s1.heap.objs.size,[s1.heap.objs.size],_,_,H1,rfl,I1.kept (t':=s1.toks) λb o e=>cZ _ e,VT a _ xs.length,⟨k9 _,?_⟩,λb hb=>?_,q⟩
  .simp_all
  .have e:b=s1.heap.objs.size:=by simpa using hb
   subst e;exact I1.kf (bY _) (I1.bw.fresh (bY _))
section
variable{X:Cx}{aa:List (aj×Obj)}{Z:St}{H:Hp}{A:cN}{E:ai->ax->Prop}{s:ax}{d it:aj}{es:List (TK×V×V)}{ep i:Nat}
theorem Ow{Q:ai->ax->Prop}(I:Inv X aa Z H s)(hd:H d=some (.dG es ep))
  (hQ:Q (.ref s.heap.objs.size) { s with heap:=s.heap.push { cls:=.type "dict_keyiterator",data:=.fields #[.ref d,.int 0 0,.int es.length 0,.int ep 0]}}):wpAny (model X.prog X.w) A (pyIter (.ref d)) Q E s:=by
 obtain⟨_,z,ob,xs,g1,g5,g2,g3,g4⟩:=(show bf X.prog X.w H s.heap d (.dG es ep) from I.bw d _ hd);have hT:s.TypeIs (.ref d) "dict":=⟨ob,g1,g5.1⟩;have hl:xs.size=es.length:=by have:=Paired.length g3;simpa using this.symm
 refine wpAny_pyIter_slot hT F.slot_dict_iter (wpAny_call_entry F.slot_dict_iter hT F.entry_dict_iter ?_ (F.args_dict_iter_1 _));unfold Builtin.«dict.__iter__»;refine ay ?_;unfold Builtin.Dict.dictSlotNone;refine ay (wpAny_notOrdered_dict hT (show wpAny _ _ (pure (Value.ref d)) _ _ s from aX (show wpAny _ _ (Builtin.Dict.showsAll d >>= _) _ _ s from ?_)));unfold Builtin.Dict.showsAll;rw[bc (by rw[z];exact sR)]
 refine ay (aX (ay (wpAny_dictEntries g1 g2 (ay (wpAny_dictEpoch g1 g2 ?_)))));refine ay (wpAny_newObj_type (aX ⟨_,rfl,"dict_keyiterator",_,⟨_,iR _ rfl,rfl⟩,F.slot_dict_keyiterator_next.lookup,?_⟩));simpa[rawInt,hl] using hQ
theorem Ny{xs:Array DictEntry}(g1:s.heap.get? d=some ob)(g2:ob.data=.dict xs ep)(hl:xs.size=n)(hit:s.heap.IsKeyIter it d i n ep)(lt':i<xs.size)
  (hQ:∀h',h'.IsKeyIter it d (i+1) n ep->Heap.SameBut it s.heap h'->Q (some xs[i].key) { s with heap:=h'}):wpAny (model P w) A (pyNext (.ref it)) Q E s:=by
 obtain⟨o,k1,k2,k3⟩:=id hit;unfold pyNext;refine ay (wpAny_attempt (wpAny_callSpecial?_slot (name:=Str.ofString "__next__") hit.typeIs F.slot_dict_keyiterator_next (wpAny_call_entry F.slot_dict_keyiterator_next hit.typeIs F.entry_dict_keyiterator_next (ay (aX (ay (ay ?_)))) (F.args_dict_keyiterator_next_1 _))))
 (first|refine ay (wpAny_typeNameOfWhole_keyiter hit.typeIs (aX ?_))|refine ay (wpAny_typeNameOf_keyiter hit.typeIs (aX ?_)));refine ay (wpAny_fieldsOf k1 k3 ?_)
 have yZ:Builtin.Dict_items.ownsTuple "dict_keyiterator"=false:=by decide
 simp only[yZ,qG,jK]
 (show wpAny _ _ (if(Value.ref d == Value.none)=true then _ else _) _ _ s);rw[bc (show ¬((Value.ref d == Value.none)=true) from sR)]
 refine ay (aX (ay (wpAny_dictEntries g1 g2 ?_)));rw[bc (by rw[hl];simp)]
 refine ay (aX (ay (wpAny_dictEpoch g1 g2 ?_)));rw[bc (by simp)]
 refine aX ?_;simp only[show ¬((i:Int)<0) from by lia,jK,Hv,sW lt']
 refine ay ?_
 (first|refine ay (wpAny_typeNameOfWhole_keyiter hit.typeIs (aX ?_))|refine ay (wpAny_typeNameOf_keyiter hit.typeIs (aX ?_)));refine ay (wpAny_isOneOf_keyiter hit.typeIs ?_)
 (show wpAny _ _ (setField (.ref it) 1 (rawInt ((i:Int)+1)) >>= _) _ _ s);refine ay (wpAny_setField k1 k3 (by simp) ?_)
 have CU:(s.heap.update it (Obj.mapFields (·.setIfInBounds 1 (rawInt ((i:Int)+1))))).IsKeyIter it d (i+1) n ep:=
  ⟨_,qF _ k1 (Obj.isFreed_of_fields (Obj.data_mapFields k3 _)),(Obj.cls_mapFields ..).trans k2,by rw[Obj.data_mapFields k3];simp[rawInt]⟩
 refine ay (ju (ay (wpAny_isOneOf_keyiter (s:={ s with heap:=s.heap.update it (Obj.mapFields (·.setIfInBounds 1 (rawInt ((i:Int)+1))))}) CU.typeIs ?_)))
 show wpAny _ _ (pure xs[i].key) _ _ _;exact aX (aX ⟨_,rfl,aX (hQ _ CU (Heap.SameBut.update ..))⟩)
def TL(I:Inv X aa Z H s)(hd:H d=some (.dG es ep))(hit:s.heap.IsKeyIter it d i es.length ep){e:TK×V×V}(hx:es[i]?=some e)
  (hQ:∀key h',RelV e.2.1 key->h'.IsKeyIter it d (i+1) es.length ep->Heap.SameBut it s.heap h'->Q (some key) { s with heap:=h'}):wpAny (model X.prog X.w) A (pyNext (.ref it)) Q E s:=by
 obtain⟨_,z,ob,xs,g1,g5,g2,g3,g4⟩:=(show bf X.prog X.w H s.heap d (.dG es ep) from I.bw d _ hd);have hl:xs.size=es.length:=by have:=Paired.length g3;simpa using this.symm
 obtain⟨x,x1,x2⟩:=Bw i g3 hx;have lt':i<xs.size:=by
  grind
 have ex:xs[i]=x:=by
  have:xs[i]?=some x:=by rw[<-vy];exact x1
  rw[sW lt'] at this;exact Option.some.inj this
 exact Ny g1 g2 hl hit lt' λh' AH sb=>hQ _ h' (by rw[ex];exact x2.2.1) AH sb
theorem NU{xs:Array DictEntry}(hh:A.handled=none)(g1:s.heap.get? d=some ob)(g2:ob.data=.dict xs ep)(hl:xs.size=n)(hit:s.heap.IsKeyIter it d i n ep)(hx:n<=i)
  (hQ:∀h',Heap.ExtBut it s.heap h'->Q none { s with heap:=h'}):wpAny (model P w) A (pyNext (.ref it)) Q E s:=by
 obtain⟨o,k1,k2,k3⟩:=id hit;unfold pyNext;refine ay (wpAny_attempt (wpAny_callSpecial?_slot (name:=Str.ofString "__next__") hit.typeIs F.slot_dict_keyiterator_next (wpAny_call_entry F.slot_dict_keyiterator_next hit.typeIs F.entry_dict_keyiterator_next (ay (aX (ay (ay ?_)))) (F.args_dict_keyiterator_next_1 _))))
 (first|refine ay (wpAny_typeNameOfWhole_keyiter hit.typeIs (aX ?_))|refine ay (wpAny_typeNameOf_keyiter hit.typeIs (aX ?_)));refine ay (wpAny_fieldsOf k1 k3 ?_)
 have yZ:Builtin.Dict_items.ownsTuple "dict_keyiterator"=false:=by decide
 simp only[yZ,qG,jK]
 (show wpAny _ _ (if(Value.ref d == Value.none)=true then _ else _) _ _ s);rw[bc (show ¬((Value.ref d == Value.none)=true) from sR)]
 refine ay (aX (ay (wpAny_dictEntries g1 g2 ?_)));rw[bc (by rw[hl];simp)]
 refine ay (aX (ay (wpAny_dictEpoch g1 g2 ?_)));rw[bc (by simp)]
 refine aX ?_;have hge:xs.size<=i:=by lia
 simp only[show ¬((i:Int)<0) from by lia,jK,Hv,Array.getElem?_eq_none hge]
 refine ay ?_
 (first|refine ay (wpAny_typeNameOfWhole_keyiter hit.typeIs (aX ?_))|refine ay (wpAny_typeNameOf_keyiter hit.typeIs (aX ?_)));(show wpAny _ _ (setField (.ref it) 0 .none >>= _) _ _ s);refine ay (wpAny_setField k1 k3 (by simp) ?_)
 (show wpAny _ _ (newExc (.type "StopIteration") [] >>= _) _ _ _);refine ay ?_
 simp only[newExc,newTuple];refine ay (wpAny_newObj_type (ay (m:=firstArgMember _ _) (wpAny_of_eq (a:=Value.none) (by first|rfl|(simp only[firstArgMember];rfl)) (wpAny_newObj_type ?_ (by size_fits)))) (by size_fits))
 simp only[raiseNew];refine ay (wpAny_handled ?_);rw[show A.in1.handled=none from hh]
 (refine ay (aX (wpAny_throw ?_)));refine ay (wpAny_isInstance (T:="StopIteration") (b:=true) ⟨_,iR _ rfl,rfl⟩ isSubtype_stop ?_)
 exact aX (hQ _ (((Heap.SameBut.update ..).extBut.push _).push _))
def UD(hh:A.handled=none)(I:Inv X aa Z H s)(hd:H d=some (.dG es ep))(hit:s.heap.IsKeyIter it d i es.length ep)(hx:es.length<=i)
  (hQ:∀h',Heap.ExtBut it s.heap h'->Q none { s with heap:=h'}):wpAny (model X.prog X.w) A (pyNext (.ref it)) Q E s:=by
 obtain⟨_,z,ob,xs,g1,g5,g2,g3,g4⟩:=(show bf X.prog X.w H s.heap d (.dG es ep) from I.bw d _ hd);exact NU hh g1 g2 (by have:=Paired.length g3;simpa using this.symm) hit hx hQ
end
def HM(a:aj)(n ep:Nat):It:=
 ⟨λi H=>∃es,H a=some (.dG es ep)/\es.length=n/\i<n,λi H x H'=>H'=H/\∀es,H a=some (.dG es ep)->∃e,es[i]?=some e/\e.2.1=x,λi H=>∃es,H a=some (.dG es ep)/\es.length=n/\n<=i⟩
def UE(a it:aj)(n ep:Nat):Turn P w K tg (HM a n ep) [it] it (λi h=>h.IsKeyIter it a i n ep) where
 mem:=by simp
 obj:=λi h st b hb=>by
  have e:b=it:=by simpa using hb
  subst e;obtain⟨o,e,c,d⟩:=st
  simp_all
 keep:=λi h h' st k=>st.at λo e=>k it (by simp) o e
 item:=by
  intro X hP hw hK hc i aa s Z H E I hf st hg;subst hP hw hK;obtain⟨es,hd,hl,hi⟩:=hg;subst hl;obtain⟨f0,f1,f2,f3,f4,f5⟩:=hf it (by simp)
  refine TL I hd st (e:=es[i]) (fG hi) λkey h' rk ir sb=>?_
  have I1:Inv X aa Z H { s with heap:=h'}:=I.turned (t':=s.toks) (λb o hb e=>(sb.2 b hb).trans e) f0 f1 f3 f4 f5
  obtain⟨o,e,c,d⟩:=id ir;refine⟨key,rfl,vP (s:={ s with heap:=h'}) e c d (by decide) ⟨es[i].2.1,H,I1,rk,⟨rfl,λys hy=>?_⟩,ir,λb hb=>(hf b hb).1⟩⟩
  simp_all
 done:=by
  intro X hP hw hK hc i aa s Z H E I hf st hg;subst hP hw hK;obtain⟨es,hd,hl,hi⟩:=hg;subst hl;obtain⟨f0,f1,f2,f3,f4,f5⟩:=hf it (by simp)
  exact UD (I.ok.hd hc) I hd st hi λh' eb=>⟨rfl,I.turned (t':=s.toks) (λb o hb e=>eb b o hb e) f0 f1 f3 f4 f5⟩
 self:=λ_ _ _ _ _ st h=>wpAny_pyIter_keyiter st h
def v3(tl:TE):TI:=λZ H R=>tl Z H λx H1=>∃a es ep,x=.ref a/\H1 a=some (.dG es ep)/\R (HM a es.length ep) H1
def XU{tl:TE}(hl:PE X l tl):PI X tg l (v3 tl):=by
 intro aa s Z H R I h;refine bL (hl aa s Z H _ I h) λv s1 hh=>?_
 obtain⟨x,H1,I1,r1,q1⟩:=hh;obtain⟨a,es,ep,e,hd,q⟩:=q1;subst e;cases r1;refine Ow I1 hd ?_;refine⟨s1.heap.objs.size,[s1.heap.objs.size],_,_,H1,rfl,I1.kept (t':=s1.toks) λb o e=>cZ _ e,UE a _ _ _,⟨_,iR _ rfl,rfl,rfl⟩,λb hb=>?_,q⟩
 have e:b=s1.heap.objs.size:=by simpa using hb
 subst e;exact I1.kf (bY _) (I1.bw.fresh (bY _))
def J4{w1 w2:TI}(h1:PI X tg l w1)(h2:PI X tg l w2):PI X tg l (λZ H R=>w1 Z H R\/w2 Z H R):=by
 intro aa s Z H R I h;rcases h with h|h
 .exact h1 aa s Z H R I h
 .exact h2 aa s Z H R I h
open PySem PySem.Spec PyProof.Rows
section
variable{X:Cx}{aa:List (aj×Obj)}{Z:List (ak V)}{H:Hp}{s:ax}{h':bZ}
def Inv.vj{T:aj}{o:HO}(I:Inv X aa Z H s)(k:∀b ob,b∉L->s.heap.get? b=some ob->h'.get? b=some ob)(hL:∀b∈L,i5 X aa H b)(hT:s.heap.objs.size<=T)
  (new:bf X.prog X.w (upd H T o) h' T o):Inv X aa Z (upd H T o) { s with heap:=h',toks:=t'}:=by
 have hn:H T=none:=I.bw.fresh hT;have nL:∀b u,H b=some u->b∉L:=λb u e z=>by rw[(hL b z).1] at e;cases e
 have nT:∀b u,H b=some u->b≠T:=λb u e z=>by rw[z,hn] at e;cases e
 refine I.step (g':=s.gens) (d':=s.drawn) (ch:=L) (λb hb=>?_) (λb ob _ _ hc e _=>k b ob hc e) (λb ob _ _ hc e _=>⟨ob.slots,k b ob hc e⟩) (λb ob _ e n=>?_)
  (λb ob hc e=>⟨ob,k b ob hc e⟩) (λb xs e=>?_) (λb ob u e=>?_) (λb ps e=>⟨#[],?_⟩) (λm hm=>?_) (λb u e=>?_) I.bare
 .obtain⟨f0,f1,f2,f3,f4,f5⟩:=hL b hb;exact⟨f3,f1,f4,f5⟩
 .rw[dh (λz=>by subst z;exact cO (gj (cT e) hT) (jU _))];exact n
 .rw[dh (nT b _ e)];exact e
 .rw[dh (nT b _ e)];exact e
 .rw[dh (nT b _ e),e];simp
 .obtain⟨ob,es,ep,ho,r⟩:=hm;exact⟨ob,es,ep,k _ ob (λz=>(hL _ z).2.1 rfl) ho,r⟩
 .by_cases hb:b=T
  .grind [aK]
  .rw[dh hb] at e;refine(I.bw b u e).my (λc v hc q=>k c v ?_ q) (λc q=>by rw[dh (nT c _ q)];exact q) λc xs q=>by rw[dh (nT c _ q)];exact q
   grind
def Inv.El(I:Inv X aa Z H s)(k:∀b ob,b∉L->s.heap.get? b=some ob->h'.get? b=some ob)(hL:∀b∈L,i5 X aa H b):Inv X aa Z H { s with heap:=h',toks:=t'}:=by
 have nL:∀b u,H b=some u->b∉L:=λb u e z=>by rw[(hL b z).1] at e;cases e
 refine I.step (g':=s.gens) (d':=s.drawn) (ch:=L) (λb hb=>?_) (λb ob _ _ hc e _=>k b ob hc e) (λb ob _ _ hc e _=>⟨ob.slots,k b ob hc e⟩) (λb ob _ e n=>n)
  (λb ob hc e=>⟨ob,k b ob hc e⟩) (λb xs e=>e) (λb ob u e=>e) (λb ps e=>⟨#[],by rw[e];simp⟩) (λm hm=>?_) (λb u e=>?_) I.bare
 .obtain⟨f0,f1,f2,f3,f4,f5⟩:=hL b hb;exact⟨f3,f1,f4,f5⟩
 .obtain⟨ob,es,ep,ho,r⟩:=hm;exact⟨ob,es,ep,k _ ob (λz=>(hL _ z).2.1 rfl) ho,r⟩
 .refine(I.bw b u e).my (λc v hc q=>k c v ?_ q) (λc q=>q) λc xs q=>q
  grind
end
def zE(Src:Hp->Prop)(n:Nat)(val:Nat->List V->Prop):It:=
 ⟨λi H=>i<n/\Src H,λi H x H'=>∃p ws,x=.ref p/\H p=none/\val i ws/\H'=upd H p (.tup ws),λi H=>n<=i/\Src H⟩
def NV{FP wr:List aj}{Src:Hp->Prop}{val:Nat->List V->Prop}{tn:Nat->bZ->Prop}(mem:it∈FP)(sub:∀b∈wr,b∈FP)
  (obj:∀i h,tn i h->∀b∈FP,∃o,h.get? b=some o/\∀v,o.data≠.cell v) (keep:∀i h h',tn i h->(∀b∈FP,∀o,h.get? b=some o->h'.get? b=some o)->tn i h')
  (hW:∀(X:Cx),X.prog=P->X.w=w->X.K=K->X.calm=true->∀(aa:List (aj×Obj)) (s:ax) (Z:St) (H:Hp),Inv X aa Z H s->Src H->∃(Ki:List aj) (Pt:Nat->Array ai->Prop) (St:Nat->bZ->Prop) (HQ:Nat->aj->bZ->Prop),WalksT P w X.A it Ki wr n Pt St HQ/\(∀i,tn i s.heap->St i s.heap)/\(∀i h,St i h->tn i h)/\∀i vals,Pt i vals->∃ws,val i ws/\Vals ws vals.toList/\ws.length<=10)
  (self:∀(A:cN) (i:Nat) (s:ax) (Q:ai->ax->Prop) (E:ai->ax->Prop),tn i s.heap->Q (.ref it) s->wpAny (model P w) A (pyIter (.ref it)) Q E s) :
  Turn P w K (.Tuple elts x1 pos) (zE Src n val) FP it (λi h=>i<=n/\tn i h) where
 mem:=mem
 obj:=λi h st=>obj i h st.2
 keep:=λi h h' st k=>⟨st.1,keep i h h' st.2 k⟩
 item:=by
  intro X hP hw hK hc i aa s Z H E I hf st hg;obtain⟨Ki,Pt,St,HQ,W,toSt,Dw,pv⟩:=hW X hP hw hK hc aa s Z H I hg.2;subst hP hw hK;refine W.item i s _ E hg.1 (toSt i st.2) λT vals h1 tk hPt hsz Ku CK hk1=>?_
  refine⟨.ref T,rfl,W.go elts x1 pos i T _ _ E CK λh2 hSt RZ=>?_⟩
  obtain⟨ws,hv,rv,G3⟩:=pv i vals hPt;have Kt:IsTup h2 T vals:=by
   obtain⟨o,e,c⟩:=Ku;exact⟨o,RZ T o (W.apart i T h1 CK) e,c⟩
  have hn:H T=none:=I.bw.fresh hsz;have I2:Inv X aa Z (upd H T (.tup ws)) { s with heap:=h2,toks:=tk}:=I.vj (L:=wr) (λb ob hb e=>RZ b ob hb (hk1 b ob hb e)) (λb hb=>hf b (sub b hb)) hsz ⟨by rw[sizeLine_eq];lia,vals.toList,rv,by simpa using Kt⟩
  refine⟨.ref T,_,I2,rfl,⟨T,ws,rfl,hn,hv,rfl⟩,⟨by have:=hg.1;lia,Dw _ _ hSt⟩,λb hb=>?_⟩
  have vV:=(hf b hb).1;rw[dh]
  .exact vV
  .intro z;subst z;obtain⟨o,e,_⟩:=obj i s.heap st.2 b hb;exact cO (gj (cT e) hsz) (jU _)
 done:=by
  intro X hP hw hK hc i aa s Z H E I hf st hg;obtain⟨Ki,Pt,St,HQ,W,toSt,Dw,pv⟩:=hW X hP hw hK hc aa s Z H I hg.2;subst hP hw hK;have ei:i=n:=by have:=hg.1;have:=st.1;lia
  subst ei;exact W.done s _ E (toSt i st.2) λh2 tk hk=>⟨rfl,I.El (L:=wr) (λb ob hb e=>hk b ob hb e) λb hb=>hf b (sub b hb)⟩
 self:=λA i s Q E st h=>self A i s Q E st.2 h
theorem VU{h:bZ}{a l:aj}{i:Nat}(p:h.IsListIter a l i):∃o,h.get? a=some o/\∀v,o.data≠.cell v:=by
 obtain⟨o,e,_,d⟩:=p
 simp_all
def Eo(xs:List V)(i:Nat)(ws:List V):Prop:=∃x,xs[i]?=some x/\ws=[.int i,x]
def UG{e l:aj}(n1:e≠it)(n2:l≠e)(n3:l≠it)(xs:List V):
  Turn P w K (.Tuple elts x1 pos) (zE (λH=>c8 K H l xs) xs.length (Eo xs)) [e,it] e (λi h=>i<=xs.length/\((∃old,IsEnum h e it (i:Int) old)/\h.IsListIter it l i)):=by
 refine NV (FP:=[e,it]) (wr:=[e,it]) (by simp) (λb hb=>hb) (λi h st b hb=>?_) (λi h h' st k=>?_) (λX hP hw hK hc aa s Z H I hS=>?_) (λA i s Q E st h=>?_)
 .grind [VU]
 .obtain⟨⟨old,s1⟩,s2⟩:=st;exact⟨⟨old,k e (by simp) _ s1⟩,s2.at λo q=>k it (by simp) o q⟩
 .subst hP hw hK;obtain⟨uK,LC,p1,_⟩:=I.list hS;have e1:=LC.length;have W:=WalksT.enumerate (prog:=X.prog) (w:=X.w) (A:=X.A) (I.ok.hd hc) e it l n1 n2 n3 uK.toArray;rw[show uK.toArray.size=xs.length by rw[fm,<-e1]] at W
  refine⟨_,_,_,_,W,λi st=>?_,λi h st=>?_,λi vals hp=>?_⟩
  .exact⟨st.1,st.2,p1.isList⟩
  .simp_all
  .obtain⟨t,u,hu,rfl⟩:=hp;have hu:uK[i]?=some u:=by simpa using hu
   have RX:i<xs.length:=by have:=(eW.mp hu).1;lia
   obtain⟨u',sf,ru⟩:=LC.get (fG RX);rw[hu] at sf;cases sf;exact⟨[.int i,xs[i]],⟨_,fG RX,rfl⟩,.cons ⟨t,rfl⟩ (.cons ru .nil),by show 2<=10;decide⟩
 .obtain⟨old,s1⟩:=st.1;exact wpAny_pyIter_enum s1 h
def v5(K:aL)(ta:TA):TI:=λZ H R=>ta Z H λvs H1=>∃a xs,vs=[.ref a]/\c8 K H1 a xs/\R (zE (λH=>c8 K H a xs) xs.length (Eo xs)) H1
def XX{fP:Pos}{a:Expr}(hg:Gl X "enumerate")(hm:X.mg "enumerate"=none)(ha:PA X [a] ta)(hs:starEach [a] X.env=[(false,eval a X.env)]:=by rfl):
  PI X (.Tuple elts x1 fP) (.Call (.Name "enumerate" p) [a] [] pos) (v5 X.K ta):=by
 intro aa s Z H R I h;refine Call_ (vK I hg hm PyProof.Rows.Boot.enumerate (PyProof.Rows.callWith_type1 (bL (ha pos aa s Z H _ I h) λus s1 hh=>?_) hs rfl))
 obtain⟨vs,H1,I1,r1,q1⟩:=hh;obtain⟨l1,xs,e,hq1,q⟩:=q1;subst e;cases r1 with
 |cons r rr=>
  cases rr;cases r;obtain⟨uK,LC,p1,_⟩:=I1.list hq1;refine call_enumerate_list p1.isList λh' z1 z2 z3 z4=>?_
  have L1:l1<s1.heap.objs.size:=by obtain⟨o,n,e,_⟩:=p1;exact cT e
  refine wpAny_pyIter_enum z1 ?_;refine⟨s1.heap.objs.size+1,[s1.heap.objs.size+1,s1.heap.objs.size],_,_,H1,rfl,I1.kept (t':=s1.toks) z4,UG (e:=s1.heap.objs.size+1) (it:=s1.heap.objs.size) (l:=l1) (wI (by lia)) (gP (gj L1 (Hw _ _))) (gP L1) xs,⟨k9 _,⟨_,z1⟩,z2⟩,λb hb=>?_,q⟩
  simp only[y0a,y1v,or_false] at hb;have l0:s1.heap.objs.size<=b:=by rcases hb with rfl|rfl <;> lia
  exact I1.kf l0 (I1.bw.fresh l0)
noncomputable def f_(i j:Int):Nat:=((j - i+1) / 2).toNat
def MZ(i j:Int):Builtin.Range.rangeSize i j 2=(f_ i j:Nat):=by
 grind [PySem.Builtin.Range.rangeSize,f_]
def UH{i j:Int}(h1:-(2^20)<=i)(h2:i<2^20)(h3:-(2^20)<=j)(h4:j<2^20):Builtin.Range.small i j 2=true:=by
 have:=MZ i j;unfold f_ at this;unfold Builtin.Range.small;rw[this];simp only[Builtin.Range.rangeFitsLong,iW,Mq,decide_eq_true_eq,beq_iff_eq,show(2:Int) > 0 by decide,pJ]
 lia
section
variable{X:Cx}{pos p:Pos}{tg a b c:Expr}
def v9(ta:TA):TI:=λZ H R=>ta Z H λvs H1=>∃i j:Int,vs=[.int i,.int j,.int 2]/\(-(2^20)<=i/\i<2^20 /\ -(2^20)<=j/\j<2^20)/\R (HL i 2 (f_ i j)) H1
def UI(hg:Gl X "range")(hm:X.mg "range"=none)(ha:PA X [a,b,c] ta)(hs:starEach [a,b,c] X.env=[(false,eval a X.env),(false,eval b X.env),(false,eval c X.env)]:=by rfl)
  (yE:starEach [b,c] X.env=[(false,eval b X.env),(false,eval c X.env)]:=by rfl):PI X tg (.Call (.Name "range" p) [a,b,c] [] pos) (v9 ta):=by
 intro aa s Z H R I h;refine Call_ (vK I hg hm boot_range (PyProof.Rows.callWith_type1 (bL (ha pos aa s Z H _ I h) λus s1 ⟨vs,H1,I1,r1,q1⟩=>?_) (by rw[hs,yE]) (by rw[yE];rfl)))
 obtain⟨i,j,e,⟨q1,q2,q3,q4⟩,q⟩:=q1;subst e;cases r1 with
 |cons r rr=>
  cases rr with
  |cons r' rr=>
   cases rr with
   |cons r'' rr=>
    cases rr;obtain⟨t,rfl⟩:=r;obtain⟨t',rfl⟩:=r';obtain⟨AR,rfl⟩:=r'';refine call_range_3 (by decide) ?_ (Or.inl (PyProof.noPylong_small (by lia)))
    refine wpAny_pyIter_range (IsRange.new ..) (UH q1 q2 q3 q4) ?_;have I2:Inv X aa Z H1 { s1 with heap:=s1.heap.push { cls:=.type "range",data:=.fields #[.int i t,.int j t',.int 2 AR]}}:=I1.kept (t':=s1.toks) λb o e=>cZ _ e
    refine⟨(s1.heap.push { cls:=.type "range",data:=.fields #[.int i t,.int j t',.int 2 AR]}).objs.size,[(s1.heap.push { cls:=.type "range",data:=.fields #[.int i t,.int j t',.int 2 AR]}).objs.size],_,_,H1,rfl,I2.kept (t':=s1.toks) λb o e=>cZ _ e,Tn _ i 2 (f_ i j),?_,λb hb=>?_,q⟩
    .have e1:i+((0:Nat):Int)*2=i:=by simp
     have e2:((f_ i j:Nat):Int) - ((0:Nat):Int)=Builtin.Range.rangeSize i j 2:=by rw[MZ];lia
     show IsRangeIter _ _ (i+((0:Nat):Int)*2) (((f_ i j:Nat):Int) - ((0:Nat):Int)) 2;rw[e1,e2];exact iR _ rfl
    .have e:b=(s1.heap.push { cls:=.type "range",data:=.fields #[.int i t,.int j t',.int 2 AR]}).objs.size:=by simpa using hb
     subst e;exact I2.kf (bY _) (I2.bw.fresh (bY _))
end
end L2
set_option autoImplicit false
namespace L2
open PySem PySem.Spec PyProof.Rows
variable{a:aj}{c lo i j:Int}{k:Kn}{q:Nat}{H H':Hp}
def Kept(q:Nat)(H H':Hp):Prop:=∀a o,uM q o=true->H a=some o->H' a=some o
def i7(K:aL)(k:Kn)(H:Hp)(q:Nat)(x:V):D->Prop
 |.lst ds=>∃a ws,x=.ref a/\ag K k ws ds/\∀H',az k.F H'->Kept q H H'->c8 K H' a ws
 |.tup ds=>∃a ws,x=.ref a/\ag K k ws ds/\∀H',az k.F H'->Kept q H H'->iB K H' a ws
 |.av kvs=>∃a es ep,x=.ref a/\es.map (·.1)=kvs.map (·.1)/\ag K k (es.map (·.2.1)) (kvs.map (·.1.d))/\ag K k (es.map (·.2.2)) (kvs.map (·.2))/\∀H',az k.F H'->Kept q H H'->H' a=some (.dG es ep)
 |.str z=>x=.str z
 |_=>True
noncomputable def Bx.lv:Bx->Nat
 |.lst _=>2
 |.av _=>1
noncomputable def r9:Cell->ak (Nat×D)
 |.o b=>some (b.lv,b.d)
 |.z b=>some (0,b.d)
 |.ins _ _=>none
def CZ(fz:Bool)(S:aU):Rv->ak (Rs (Nat×D))
 |.o c=>some (.ok (0,c.d) S)
 |.v (.d (.ref n))=>(S.r[n]?).bind λc=>(r9 c).map λp=>.ok p S
 |.v (.d x)=>some (.ok (0,x) S)
 |.v (.c n)=>if fz=true then(oi S (.c n)).map λp=>.ok (0,p.1) p.2 else(S.s[n]?).bind λc=>(r9 c).map λp=>.ok p S
def vU(fz:Bool)(g:GE):Gx (Nat×D):=λU S=>bd (g U S) (λr S1=>CZ fz S1 r)
abbrev RH(K:aL)(q:Nat):Rp (Nat×D) V:=λk H x p=>i7 K k H (max q p.1) x p.2
section
variable{X:Cx}{K:aL}{W:XW}{q:Nat}{k:Kn}{H:Hp}{x:V}{d:D}{g:GE}{Z:St}
def Fy(h:ag K k [x] [d]):i7 K k H q x d:=by
 cases d with
 |lst ds=>obtain⟨a,ws,rfl,h1,h2⟩:=h.wa;exact⟨a,ws,rfl,h2,λH' s _=>s.LO h1⟩
 |tup ds=>obtain⟨a,ws,rfl,h1,h2⟩:=h.isTup;exact⟨a,ws,rfl,h2,λH' s _=>s.zo h1⟩
 |av kvs=>obtain⟨a,es,ep,rfl,h1,h2,h3,h4⟩:=h.nj;exact⟨a,es,ep,rfl,h2,h3,h4,λH' s _=>s _ _ h1⟩
 |str z=>exact h.bo rfl
 |_=>exact sZ
def K_{o:HO}:uM (max q 2) o=true:=IY (p:=2) (Nat.le_max_right _ _) rfl
def XY{b:Bx}(h:dO K k H a b):i7 K k H (max q b.lv) (.ref a) b.d:=by
 cases b with
 |lst xs=>obtain⟨ws,h1,h2⟩:=h;exact⟨a,ws,rfl,h2,λH' _ c=>.inl (.inl (c _ _ K_ h1))⟩
 |av kvs=>obtain⟨es,ep,h1,h2,h3,h4⟩:=h;exact⟨a,es,ep,rfl,h2,h3,h4,λH' _ c=>c _ _ (IY (p:=1) (Nat.le_max_right _ _) rfl) h1⟩
def NW{c:Cell}{p:Nat×D}(h:bA K k H a c)(e:r9 c=some p):i7 K k H (max q p.1) (.ref a) p.2:=by
 cases c with
 |o b=>cases e;exact XY h.2
 |z b=>cases e;exact Fy h.2
 |ins _ _=>cases e
def PC{fz:Bool}{Q:VK}(t:tX (RH K q) K W q (vU fz g) Z H Q):tE K W q g Z H Q:=by
 obtain⟨k,U,S,res,ok,gk,e,w⟩:=t;refine tX.bd ok gk e w λr S1 x k1 H1 bJ g1 r1 e1 w1 _=>?_
 cases r with
 |o c=>
  cases e1;obtain⟨k2,u2,cS,r2⟩:=qx bJ r1;exact(w1.up (u2 q)).now cS (Fy r2)
 |v y=>
  cases y with
  |d y=>
   cases y with
   |ref n=>
    obtain⟨c,h1,e2⟩:=cA.mp e1;obtain⟨p,h2,rfl⟩:=df.mp e2;obtain⟨a,rfl,h3⟩:=ag.isRef r1;exact w1.now bJ (NW (bJ.r.at' n a c h3 h1) h2)
   |_=>cases e1;exact w1.now bJ (Fy r1)
  |c n=>
   cases fz with
   |true=>
    obtain⟨p,h1,rfl⟩:=df.mp (show(oi S1 (.c n)).map _=some res from e1);obtain⟨k2,u2,cS,r2⟩:=FU (v:=.c n) bJ r1 h1;exact(w1.up (u2 q)).now cS (Fy r2)
   |false=>
    obtain⟨c,h1,e2⟩:=cA.mp (show(S1.s[n]?).bind _=some res from e1);obtain⟨p,h2,rfl⟩:=df.mp e2;obtain⟨a,rfl,h3⟩:=r1;exact w1.now bJ (NW (bJ.s.at' n a c h3 h1) h2)
end
structure g_ (K:aL) (k1:Kn) (H1:Hp) (q:Nat) (J:It) (ds:List D):Prop where
 go:∀i k H,k1.le k->az k.F H->Kept q H1 H->i<ds.length->J.go i H
 stop:∀i k H,k1.le k->az k.F H->Kept q H1 H->ds.length<=i->J.stop i H
 s9:∀i k H x H',k1.le k->az k.F H->Kept q H1 H->J.s9 i H x H'->∀d,ds[i]?=some d->∃F',az k.F F'/\az H H'/\az F' H'/\(∀p,H p≠none->k.F p=none->F' p=none)/\ag K ⟨F',k.A,k.T⟩ [x] [d]
abbrev RI(K:aL)(q:Nat):Rp (Nat×List D) It:=λk H J p=>g_ K k H (max q p.1) J p.2
section
variable{K:aL}{k1:Kn}{H1:Hp}{q n:Nat}{ds:List D}{J:It}{a:aj}{ws xs:List V}
def g_.old(hn:ds.length=n)(h1:∀i H,az k1.F H->Kept q H1 H->i<n->J.go i H)(h2:∀i H,az k1.F H->Kept q H1 H->n<=i->J.stop i H)(h3:∀i H x H' d,az k1.F H->Kept q H1 H->J.s9 i H x H'->ds[i]?=some d->H'=H/\ag K k1 [x] [d]):g_ K k1 H1 q J ds where
 go:=λi k H l s c hi=>h1 i H (l.f.trans s) c (hn ▸ hi)
 stop:=λi k H l s c hi=>h2 i H (l.f.trans s) c (hn ▸ hi)
 s9:=λi k H x H' l s c y d hd=>by
  obtain⟨rfl,r⟩:=h3 i H x H' d (l.f.trans s) c y hd;exact⟨k.F,az.refl _,az.refl _,s,λ_ _ z=>z,r.mono l⟩
def g_.Ds{Src:Hp->Prop}{val:Nat->List V->Prop}{f:Nat->List D}(hs:∀H,az k1.F H->Kept q H1 H->Src H)(hv:∀i us,i<n->val i us->ag K k1 us (f i)):g_ K k1 H1 q (zE Src n val) ((List.range n).map λi=>.tup (f i)) where
 go:=λi k H l s c hi=>⟨by simpa using hi,hs H (l.f.trans s) c⟩
 stop:=λi k H l s c hi=>⟨by simpa using hi,hs H (l.f.trans s) c⟩
 s9:=λi k H x H' l s c y d hd=>by
  obtain⟨p,us,rfl,hp,hw,rfl⟩:=y;have hi:i<n:=by have:=(eW.mp hd).1;simpa using this
  rw[dR,zA hi] at hd;cases hd;have hF:=s.free hp;refine⟨upd k.F p (.tup us),rE hF,rE hp,λb u z=>?_,λb z1 z2=>?_,.tup (.inl (.inl aK)) ((hv i us hi hw).mono ⟨l.f.trans (rE hF),l.a⟩) .nil⟩
  .by_cases z3:b=p
   .subst z3;rw[aK] at z ⊢;exact z
   .rw[dh z3] at z ⊢;exact s b u z
  grind [dh]
def XZ(h:∀H',az k1.F H'->Kept q H1 H'->c8 K H' a ws)(r:ag K k1 ws ds):g_ K k1 H1 q (HN K a) ds:=
 .old r.length.symm (λi H s c hi=>⟨ws,ws[i],h H s c,fG _⟩) (λi H s c hi=>⟨ws,h H s c,hi⟩) λi H x H' d s c y hd=>by
  obtain⟨rfl,y⟩:=y;obtain⟨v,h1,h2⟩:=r.get hd
  simp_all
def e2z(h:∀H',az k1.F H'->Kept q H1 H'->iB K H' a ws)(r:ag K k1 ws ds):g_ K k1 H1 q (HP K a) ds:=
 .old r.length.symm (λi H s c hi=>⟨ws,ws[i],h H s c,fG _⟩) (λi H s c hi=>⟨ws,h H s c,hi⟩) λi H x H' d s c y hd=>by
  obtain⟨rfl,y⟩:=y;obtain⟨v,h1,h2⟩:=r.get hd
  simp_all
def e3a(h:∀H',az k1.F H'->Kept q H1 H'->c8 K H' a ws)(r:ag K k1 ws ds):g_ K k1 H1 q (rh K a ws.length) ds.reverse:=
 .old (by rw[Hx,r.length]) (λi H s c hi=>⟨hi,ws,h H s c,rfl⟩) (λi H s c hi=>hi) λi H x H' d s c y hd=>by
  obtain⟨rfl,y⟩:=y;have hi:=(eW.mp hd).1;rw[Hx] at hi;rw[List.getElem?_reverse hi,<-r.length] at hd;obtain⟨v,h1,h2⟩:=r.get hd
  simp_all
def X0{es:List (TK×V×V)}{ep:Nat}(h:∀H',az k1.F H'->Kept q H1 H'->H' a=some (.dG es ep))(r:ag K k1 (es.map (·.2.1)) ds):g_ K k1 H1 q (HM a es.length ep) ds:=
 .old (by rw[<-r.length,bx]) (λi H s c hi=>⟨es,h H s c,rfl,hi⟩) (λi H s c hi=>⟨es,h H s c,rfl,hi⟩) λi H x H' d s c y hd=>by
  obtain⟨rfl,y⟩:=y;obtain⟨v,h1,h2⟩:=r.get hd;rw[dR] at h1;obtain⟨e,h3,rfl⟩:=df.mp h1;obtain⟨e',h4,rfl⟩:=y es (h _ s c);cases h3.symm.trans h4;exact⟨rfl,h2⟩
def e3b{z:Str}:g_ K k1 H1 q (EI z) (z.cps.toList.map λc=>.str (jB c)):=
 .old (by rw[bx,Ey]) (λi H s _ hi=>hi) (λi H s _ hi=>hi) λi H x H' d s _ y hd=>by
  obtain⟨rfl,c,h1,rfl⟩:=y;rw[dR,vy,h1] at hd;cases hd;exact⟨rfl,.flat rfl .nil⟩
def mq(lo c:Int)(n:Nat):List D:=(List.range n).map λ(i:Nat)=>D.int (lo+(i:Int)*c)
def X1:g_ K k1 H1 q (HL lo c n) (mq lo c n):=
 .old (by unfold mq;rw[bx,wN]) (λi H s _ hi=>hi) (λi H s _ hi=>hi) λi H x H' d s _ y hd=>by
  obtain⟨rfl,rfl⟩:=y;have hi:=(eW.mp hd).1;unfold mq at hi hd;rw[bx,wN] at hi;rw[dR,zA hi] at hd;cases hd;exact⟨rfl,.flat rfl .nil⟩
def fO(lo:Int)(n:Nat):List D:=(List.range n).map λ(i:Nat)=>D.int (lo+(i:Int))
theorem e3c:g_ K k1 H1 q (EH lo n) (fO lo n):=
 .old (by unfold fO;rw[bx,wN]) (λi H s _ hi=>hi) (λi H s _ hi=>hi) λi H x H' d s _ y hd=>by
  obtain⟨rfl,rfl⟩:=y;have hi:=(eW.mp hd).1;unfold fO at hi hd;rw[bx,wN] at hi;rw[dR,zA hi] at hd;cases hd;exact⟨rfl,.flat rfl .nil⟩
end
abbrev lS:=Gx (Nat×List D)
def bC(fz:Bool)(o:D->ak (List D))(g:GE):lS:=λU S=>bd (vU fz g U S) λp S1=>(o p.2).map λds=>.ok (p.1,ds) S1
noncomputable def eM:D->ak (List D)
 |.lst ds=>some ds
 |.tup ds=>some ds
 |.av kvs=>some (kvs.map (·.1.d))
 |.str z=>some (z.cps.toList.map λc=>.str (jB c))
 |_=>none
noncomputable def zg:D->ak (List D)
 |.lst ds=>some ds.reverse
 |_=>none
def eK(ds:List D):List D:=(List.range ds.length).map λi=>.tup [.int (i:Nat),(ds[i]?).getD .aI]
def Kd:D->ak (List D)
 |.lst ds=>some (eK ds)
 |_=>none
noncomputable def kB:List Val->ak (List D)
 |[.d (.int j)]=>if Nat.ble j.natAbs 1000000000000=true then some (fO 0 j.toNat) else none
 |_=>none
noncomputable def iV:Val->ak Int
 |.d (.int i)=>some i
 |_=>none
def J5{v:Val}(h:iV v=some i):v=.d (.int i):=by
 cases v with
 |d x=>cases x <;> cases h;rfl
 |c n=>cases h
def u0:List Val->ak (List D)
 |[a,b,c]=>(iV a).bind λi=>(iV b).bind λj=>(iV c).bind λc=>if c=2/\(Nat.ble i.natAbs 1000000&&Nat.ble j.natAbs 1000000)=true then some (mq i 2 (f_ i j)) else none
 |_=>none
noncomputable def iG(o:List Val->ak (List D))(g:GA):lS:=λU S=>bd (g U S) λvs S1=>(o vs).map λds=>.ok (0,ds) S1
section
variable{X:Cx}{K:aL}{W:XW}{q:Nat}{g:GE}{ga:GA}{fz:Bool}{Z:St}{H:Hp}{R:It->Hp->Prop}
def By{o:D->ak (List D)}(t:tX (RI K q) K W q (bC fz o g) Z H R):(∀Q:VK,tE K W q g Z H Q)\/∃d ds n,o d=some ds/\∀Q:VK,(∀k1 H1 x,az k1.F H1->i7 K k1 H1 n x d->(∀J,g_ K k1 H1 n J ds->R J H1)->Q x H1)->tE K W q g Z H Q:=by
 obtain⟨k,U,S,res,ok,gk,e,w⟩:=t;rcases An e with⟨⟨n,d⟩,S1,e1,e2⟩|⟨C,l,S1,e1,rfl⟩
 .obtain⟨ds,e3,rfl⟩:=df.mp e2;exact .inr ⟨d,ds,max q n,e3,λQ h=>PC ⟨k,U,S,_,ok,gk,e1,λx k1 H1 u bJ r=>h k1 H1 x bJ.le r λJ j=>w J k1 H1 u bJ j⟩⟩
 .exact .inl λQ=>PC ⟨k,U,S,_,ok,gk,e1,w⟩
def i7.now{x:V}{P:Hp->Prop}{n:Nat}(h:∀H',az k.F H'->Kept n H H'->P H')(le:az k.F H):P H:=h H le λ_ _ _ z=>z
def C5(K:aL)(te:TE):TI:=λZ H R=>v7 K te Z H R\/C8 K te Z H R\/v3 te Z H R\/C7 te Z H R
def e3d{tg l:Expr}{te:TE}(h:PE X l te):PI X tg l (C5 X.K te):=J4 (Xn h) (J4 (Ξ h) (J4 (XU h) (π h)))
def e3e(t:tX (RI K q) K W q (bC fz eM g) Z H R):C5 K (tE K W q g) Z H R:=by
 rcases By t with h|⟨d,ds,n,e,h⟩
 .exact .inl (h _)
 .cases d with
  |lst _=>
   cases e;refine .inl (h _ λk1 H1 x le hd j=>?_)
   obtain⟨a,ws,rfl,q2,q1⟩:=hd;exact⟨a,rfl,⟨ws,i7.now (x:=.aI) q1 le⟩,j _ (XZ q1 q2)⟩
  |tup _=>
   cases e;refine .inr (.inl (h _ λk1 H1 x le hd j=>?_))
   obtain⟨a,ws,rfl,q2,q1⟩:=hd;exact⟨a,rfl,⟨ws,i7.now (x:=.aI) q1 le⟩,j _ (e2z q1 q2)⟩
  |av kvs=>
   cases e;refine .inr (.inr (.inl (h _ λk1 H1 x le hd j=>?_)))
   obtain⟨a,es,ep,rfl,q2,q3,q4,q1⟩:=hd;exact⟨a,es,ep,rfl,i7.now (x:=.aI) q1 le,j _ (X0 q1 q3)⟩
  |str z=>
   cases e;exact .inr (.inr (.inr (h _ λk1 H1 x le hd j=>⟨z,hd,j _ e3b⟩)))
  |_=>cases e
def X2(t:tX (RI K q) K W q (bC fz zg g) Z H R):C6 K (sL (tE K W q g) vc) Z H R:=by
 rcases By t with h|⟨d,ds,n,e,h⟩
 .exact h _
 .cases d with
  |lst _=>
   cases e;refine h _ λk1 H1 x le hd j=>?_
   obtain⟨a,ws,rfl,q2,q1⟩:=hd;exact⟨a,ws,rfl,i7.now (x:=.aI) q1 le,j _ (e3a q1 q2)⟩
  |_=>cases e
def e3f(t:tX (RI K q) K W q (bC fz Kd g) Z H R):v5 K (sL (tE K W q g) vc) Z H R:=by
 rcases By t with h|⟨d,ds,n,e,h⟩
 .exact h _
 .cases d with
  |lst es=>
   cases e;refine h _ λk1 H1 x le hd j=>?_
   obtain⟨a,ws,rfl,q2,q1⟩:=hd;refine⟨a,ws,rfl,i7.now (x:=.aI) q1 le,j _ ?_⟩;unfold eK;rw[<-q2.length];refine .Ds q1 λi us hi hv=>?_
   obtain⟨x,h1,rfl⟩:=hv;obtain⟨d,hd⟩:∃d,es[i]?=some d:=⟨es[i]'(by rw[<-q2.length];exact hi),fG _⟩
   obtain⟨v,h3,h4⟩:=q2.get hd;cases h1.symm.trans h3;rw[hd];exact .flat rfl h4
  |_=>cases e
theorem rep1{xs:List V}(h:Paired (c7 K k) xs [.d (.int j)]):xs=[.int j]:=by
 cases h with
 |cons r t=>cases t;rw[(show ag K k [_] [_] from r).bo rfl]
def rep2{xs:List V}(h:Paired (c7 K k) xs [.d (.int i),.d (.int j)]):xs=[.int i,.int j]:=by
 cases h with
 |cons r t=>rw[(show ag K k [_] [_] from r).bo rfl,rep1 t]
def rep3{xs:List V}(h:Paired (c7 K k) xs [.d (.int i),.d (.int j),.d (.int c)]):xs=[.int i,.int j,.int c]:=by
 cases h with
 |cons r t=>rw[(show ag K k [_] [_] from r).bo rfl,rep2 t]
def NX{o:List Val->ak (List D)}{Q:List V->Hp->Prop}(t:tX (RI K q) K W q (iG o ga) Z H R)(h:∀vs ds k1 H1 xs,o vs=some ds->(∀J,g_ K k1 H1 (max q 0) J ds->R J H1)->Paired (c7 K k1) xs vs->Q xs H1):gM K W q ga Z H Q:=by
 obtain⟨k,U,S,res,ok,gk,e,w⟩:=t;rcases An e with⟨vs,S1,e1,e2⟩|⟨C,l,S1,e1,rfl⟩
 .obtain⟨ds,e3,rfl⟩:=df.mp e2;exact⟨k,U,S,_,ok,gk,e1,λxs k1 H1 u bJ r=>h vs ds k1 H1 xs e3 (λJ j=>w J k1 H1 u bJ j) r⟩
 .exact⟨k,U,S,_,ok,gk,e1,w⟩
def X3(t:tX (RI K q) K W q (iG kB ga) Z H R):v8 (gM K W q ga) Z H R:=NX t λvs ds k1 H1 xs e j r=>by
 unfold kB at e;split at e
 .split at e
  .rename_i h
   have h:=zB h
   grind [rep1,e3c]
  .cases e
 .cases e
def X4(t:tX (RI K q) K W q (iG u0 ga) Z H R):v9 (gM K W q ga) Z H R:=NX t λvs ds k1 H1 xs e j r=>by
 unfold u0 at e;split at e
 .obtain⟨_,e1,e4⟩:=cA.mp e;obtain⟨_,e2,e5⟩:=cA.mp e4;obtain⟨_,e3,e6⟩:=cA.mp e5;clear e e4 e5;cases J5 e1;cases J5 e2;cases J5 e3;split at e6
  .rename_i h
   obtain⟨rfl,h⟩:=h;obtain⟨h1,h2⟩:=A2.mp h;have h1:=zB h1;have h2:=zB h2;cases e6;exact⟨_,_,rep3 r,⟨by lia,by lia,by lia,by lia⟩,j _ X1⟩
  .cases e6
 .cases e
end
def aO(g:GG)(f:GS):List D->GS
 |[]=>λU S=>some (.nx U S)
 |d::ds=>λU S=>(g d U).bind λU1=>(f U1 S).bind λr=>match r with
   |.nx U2 S2=>aO g f ds U2 S2
   |.ct U2 S2=>aO g f ds U2 S2
   |.bk U2 S2=>some (.nx U2 S2)
   |r=>some r
noncomputable def bH(q:Nat)(src:lS)(g:GG)(f:Nat->GS):GS:=λU S=>kI U (src U S) λp S1=>aO g (f (max q p.1)) p.2 U S1
def Up.kept{k':Kn}(u:Up q k H k' H'):Kept q H H':=u.h
def Kept.refl:Kept q H H:=λ_ _ _ z=>z
def Kept.trans{A_:Hp}(a:Kept q H H')(b:Kept q H' A_):Kept q H A_:=λx o z h=>b x o z (a x o z h)
theorem Kept.same(a:az H H'):Kept q H H':=λx o _ h=>a x o h
section
variable{X:Cx}{K:aL}{W:XW}{q:Nat}{tg iter:Expr}{body:List Stmt}{wi:TI}{t:TG}{gg:GG}{f:Nat->GS}{src:lS}{pos:Pos}
def e3g(hp:PassesOwn (model X.prog X.w) X.A X.env X.xe)(hc:X.calm=true)(hi:PI X tg iter wi)(qd:∀Z H R,tX (RI K q) K W q src Z H R->wi Z H R)(hg:PG X tg t)(ht:j0 K t gg)(hb:∀n,iT X body (tS K W n (f n)))(hs:∀x,foldedSetIterable iter X.env x=pure x):
  PS X (.For tg iter body [] pos) (tS K W q (bH q src gg f)):=by
 intro aa s Z H De I t;obtain⟨k,U,S,fr,ok,gk,e,w⟩:=t;unfold bH kI at e;split at e
 .cases e
 .rename_i p S1 e1
  obtain⟨n,ds⟩:=p;refine Qu hp hc hi hg (hb (max q n)) hs aa s Z H De I (qd _ _ _ ⟨k,U,S,_,ok,gk,e1,λJ k1 H1 u1 bJ r1=>?_⟩)
  have w1:=(w.up u1).weak (Nat.le_max_left q n);have g1:=gk.up u1;clear w gk ok e1 u1;refine⟨λi m Z H=>m=ds.length - i/\i<=ds.length/\∃k U S,cq K k H S/\gR K k Z U/\k1.le k/\Kept (max q n) H1 H/\aO gg (f (max q n)) (ds.drop i) U S=some fr/\Done K W (max q n) De k H fr,⟨_,rfl,k9 _,k1,U,S1,bJ,g1,.refl,.refl,e,w1⟩,?_⟩
  rintro i m Z H ⟨rfl,hi,k,U,S,ok,gk,l,c,e,w⟩;rcases Nat.lt_or_ge i ds.length with h|h
  .rw[Mt h] at e;refine .inr ⟨r1.go i k H l ok.le c h,λZ' H'=>∃k U S,cq K k H' S/\gR K k Z' U/\k1.le k/\Kept (max q n) H1 H'/\aO gg (f (max q n)) (ds.drop (i+1)) U S=some fr/\Done K W (max q n) De k H' fr,λZ' H' z=>⟨_,by lia,rfl,h,z⟩,λx H' y=>?_⟩
   obtain⟨F',s1,s2,s3,s4,rp⟩:=r1.s9 i k H x H' l ok.le c y _ (fG h);have u:Up (max q n) k H ⟨F',k.A,k.T⟩ H':=.of s1 s2;obtain⟨U1,e1,e2⟩:=cA.mp e;obtain⟨r,e3,e4⟩:=cA.mp e2;have fT:cq K ⟨F',k.A,k.T⟩ H' S:=ok.new s1 (λp _ o z=>s2 p o z) s3 λp m=>s4 p (ok.there p m)
   have l':k1.le ⟨F',k.A,k.T⟩:=⟨l.f.trans s1,l.a⟩;refine ht _ H' Z U U1 x ds[i] _ s3 (gk.up u) rp e1 λZ1 g1=>⟨_,U1,S,r,fT,g1,e3,?_⟩
   have w':=w.up u;have c':Kept (max q n) H1 H':=c.trans (.same s2);cases r with
   |nx U2 S2=>exact λZ' k2 H2 u2 cS g2=>⟨k2,U2,S2,cS,g2,⟨l'.f.trans u2.f,l'.a.trans u2.a⟩,c'.trans u2.kept,e4,w'.up u2⟩
   |ct U2 S2=>exact λZ' k2 H2 u2 cS g2=>⟨k2,U2,S2,cS,g2,⟨l'.f.trans u2.f,l'.a.trans u2.a⟩,c'.trans u2.kept,e4,w'.up u2⟩
   |bk U2 S2=>cases e4;exact w'
   |rt r S2=>cases e4;exact w'
   |ex C l U2 S2=>cases e4;exact w'
  .rw[Hu h] at e;cases e;exact .inl ⟨r1.stop i k H l ok.le c h,cf.now w ok gk⟩
 .rename_i C l S1 e1
  cases e;exact Qu hp hc hi hg (hb q) hs aa s Z H De I (qd _ _ _ ⟨k,U,S,_,ok,gk,e1,λdx k' H' u fT r=>w dx Z k' H' u fT (gk.up u) r⟩)
end
end L2
set_option autoImplicit false
namespace L2
open PySem PySem.Spec PyProof.Rows
variable{ds:List D}{U:Gm}{Z:St}
def tJ{α β:Type}(x:ak (Rs α))(f:α->aU->ak (Rs β)):ak (Rs β):=match x with
 |some (.ok a S)=>f a S
 |_=>none
def W0:XW:=λ_ _ _ _=>False
def a_(gg:GG)(tt:GT)(te:GE):List D->Gm->aU->List D->ak (Rs (List D))
 |[],_,S,aV=>some (.ok aV S)
 |d::ds,U,S,aV=>(gg d U).bind λU1=>tJ (tt U1 S) λb S1=>if b=true then tJ (gD te U1 S1) λx S2=>if aV.length<1000000 then a_ gg tt te ds U1 S2 (aV++[x]) else none else a_ gg tt te ds U1 S1 aV
def uv(n:Nat)(de:List Nat)(U:Gm):Gm:=List.replicate n none++de.map λi=>(U[i]?).join
def cg(q:Nat)(src:lS)(gg:GG)(tt:Nat->GT)(te:Nat->GE)(n:Nat)(de:List Nat):GE:=λU S=>bd (src U S) λp S1=>bd (a_ gg (tt (max q p.1)) (te (max q p.1)) p.2 (uv n de U) S1 []) λds S2=>some (.ok (.o (.lst ds)) S2)
section
variable{X:Cx}{K:aL}{W:XW}{q:Nat}{tg iter elt:Expr}{ifs:List Expr}{scope:Scope}{wi:TI}{t:TG}{gg:GG}{tt:Nat->GT}{te:Nat->GE}{src:lS}{pos:Pos}{M:List Str}{n:Nat}{de:List Nat}
def FW{α β:Type}{x:ak (Rs α)}{f:α->aU->ak (Rs β)}{res:Rs β}(e:tJ x f=some res):∃a S,x=some (.ok a S)/\f a S=some res:=by
 unfold tJ at e;split at e
 .exact⟨_,_,rfl,e⟩
 .cases e
def VW{gg:GG}{tt:GT}{te:GE}{S:aU}{aV:List D}{res:Rs (List D)}(e:a_ gg tt te ds U S aV=some res):∃l S',res=.ok l S':=by
 induction ds generalizing U S aV with
 |nil=>cases e;exact⟨_,_,rfl⟩
 |cons d ds ih=>
  obtain⟨U1,_,e⟩:=cA.mp e;obtain⟨b,S1,_,e⟩:=FW e;cases b with
  |false=>exact ih e
  |true=>
   obtain⟨x,S2,_,e⟩:=FW (show tJ _ _=some res from e);split at e
   .exact ih e
   .cases e
def X5{k:Kn}(g:gR K k Z U):gR K k (kb n de Z) (uv n de U):=by
 refine⟨by unfold kb uv;rw[dw,dw,bx,bx,pH,pH],λi v e=>?_⟩
 unfold uv at e;unfold kb;by_cases hi:i<n
 .rw[sT (by rw[pH];exact hi),Mp,bM hi] at e;cases e
 .have hi:=Nat.le_of_not_lt hi;rw[qE (by rw[pH];exact hi),pH,dR] at e ⊢
  obtain⟨j,h1,h2⟩:=df.mp e;obtain⟨x,h3,h4⟩:=g.at' j v (NT h2)
  simp_all
def e3h{J:It}{k1:Kn}{H1:Hp}{m:Nat}{out:List D}{S1 S2:aU}{τ:St}{gt:GT}{ge:GE}{gF:List V->Hp->Prop}(ht:j0 K t gg)(r1:g_ K k1 H1 m J ds)(bJ:cq K k1 H1 S1)(g1:gR K k1 τ U)(e:a_ gg gt ge ds U S1 []=some (.ok out S2))
  (w:∀k H vs,Up m k1 H1 k H->cq K k H S2->ag K k vs out->gF vs H):oI J t (tT K W0 m gt) (tE K W0 m ge) τ H1 gF:=by
 refine⟨ds.length,λi τ vs H=>i<=ds.length/\∃k U S aV,cq K k H S/\gR K k τ U/\ag K k vs aV/\Up m k1 H1 k H/\a_ gg gt ge (ds.drop i) U S aV=some (.ok out S2),⟨k9 _,k1,U,S1,[],bJ,g1,.nil,.refl,e⟩,?_⟩
 rintro i τ vs H hi ⟨_,k,U,S,aV,ok,gk,rv,u,e⟩;rcases Nat.lt_or_ge i ds.length with h|h
 .rw[Mt h] at e;refine .inr ⟨h,r1.go i k H u.le ok.le u.kept h,λx H' y=>?_⟩
  obtain⟨F',s1,s2,s3,s4,rp⟩:=r1.s9 i k H x H' u.le ok.le u.kept y _ (fG h);have u2:Up m k H ⟨F',k.A,k.T⟩ H':=.of s1 s2;have fT:cq K ⟨F',k.A,k.T⟩ H' S:=ok.new s1 (λp _ o z=>s2 p o z) s3 λp m=>s4 p (ok.there p m)
  obtain⟨U1,e1,e2⟩:=cA.mp e;refine ht _ H' τ U U1 x ds[i] _ s3 (gk.up u2) rp e1 λτ1 g1=>?_
  obtain⟨b,S3,e3,e4⟩:=FW e2;refine⟨_,U1,S,_,fT,g1,e3,λb' k3 H3 u3 jF r3=>?_⟩
  cases r3;have u4:=(u.trans u2).trans u3;cases b with
  |false=>exact si ⟨h,k3,U1,S3,aV,jF,g1.up u3,rv.mono (u2.trans u3).le,u4,e4⟩
  |true=>
   obtain⟨y,S4,e5,e6⟩:=FW (show tJ _ _=some _ from e4);refine sj (L0 ⟨_,U1,S3,_,jF,g1.up u3,e5,λv k5 H5 u5 mh r5=>?_⟩)
   split at e6
   .rename_i hl
    refine⟨gj (by rw[rv.length];exact hl) (by decide),h,k5,U1,S4,aV++[y],mh,(g1.up u3).up u5,(rv.mono ((u2.trans u3).trans u5).le).append r5,u4.trans u5,e6⟩
   .cases e6
 .rw[Hu h] at e;cases e;exact .inl ⟨r1.stop i k H u.le ok.le u.kept h,w k H vs u ok rv⟩
def PD{H:Hp}{Q:VK}(ht:j0 K t gg)(h:tE K W q (cg q src gg tt te n de) Z H Q):∃m,tX (RI K q) K W q src Z H λJ H1=>oI J t (tT K W0 m (tt m)) (tE K W0 m (te m)) (kb n de Z) H1 λaV H'=>∀l,H' l=none->Q (.ref l) (upd H' l (.lst aV)):=by
 obtain⟨k,U,S,res,ok,gk,e,w⟩:=h;rcases An e with⟨⟨m,ds⟩,S1,e1,e2⟩|⟨C,l,S1,e1,rfl⟩
 .refine⟨max q m,k,U,S,_,ok,gk,e1,λJ k1 H1 u1 bJ r1=>?_⟩
  rcases An e2 with⟨out,S2,e3,e4⟩|⟨C,l,S2,e3,rfl⟩
  .cases e4;refine e3h ht r1 bJ (X5 (gk.up u1)) e3 λk2 H2 vs u2 cS rv l hl=>?_
   exact kR.lst (.fin cS ((w.up u1).up (u2.weak (Nat.le_max_left q m)))) cS.le rv hl
  .obtain⟨_,_,z⟩:=VW e3;cases z
 .exact⟨0,k,U,S,_,ok,gk,e1,w⟩
def X6(hc:X.calm=true)(ok:eE X scope M n de)(hi:PI X tg iter wi)(qd:∀Z H R,tX (RI K q) K W q src Z H R->wi Z H R)(ht:j0 K t gg)
  (hg:∀C s H fp,PG (fK X scope M C s H fp) tg t) (hT:∀m C s H fp,rj (fK X scope M C s H fp) ifs (tT K W0 m (tt m))) (hE:∀m C s H fp,PE (fK X scope M C s H fp) elt (tE K W0 m (te m)))
  (hs:∀x,foldedSetIterable iter X.env x=pure x):PE X (.ListComp elt [⟨tg,iter,ifs,0⟩] scope pos) (tE K W q (cg q src gg tt te n de)):=λaa s Z H Q I h=>by
 obtain⟨m,h⟩:=PD ht h;exact XF hc ok hi hg (hT m) (hE m) hs aa s Z H Q I (qd _ _ _ h)
def X7{mu:Bool}{i:Nat}{x:Str}{px nC:Pos}(hc:X.calm=true)(ok:eE X scope M n de)(hN:X.N.Nodup)(yy:X.N[i]?=some x)(hx:Loc X.env.scope x)(hi:PI X tg iter wi)(qd:∀Z H R,tX (RI K q) K W q src Z H R->wi Z H R)(ht:j0 K t gg)
  (hg:∀C s H fp,PG (fK X scope M C s H fp) tg t) (hT:∀m C s H fp,rj (fK X scope M C s H fp) ifs (tT K W0 m (tt m))) (hE:∀m C s H fp,PE (fK X scope M C s H fp) elt (tE K W0 m (te m)))
  (C2:swapsWith (.ListComp elt [⟨tg,iter,ifs,0⟩] scope pos) (some (.Name x px)) nC.line X.env=pure true) (hs:∀x,foldedSetIterable iter X.env x=pure x) (hf:X.fn x=true\/X.env.scope.names.lookup x=some .local) :
  PS X (.Assign [.Name x px] (.ListComp elt [⟨tg,iter,ifs,0⟩] scope pos) nC) (tS K W q (au i mu (cg q src gg tt te n de))):=λaa s Z H D I h=>by
 obtain⟨m,h⟩:=PD ht (Qz h);exact XG hc ok hN yy hx hi hg (hT m) (hE m) C2 hs hf aa s Z H D I (qd _ _ _ h)
end
end L2
namespace L2
open PySem PySem.Spec PySem.W PySem.Calls PyProof.Rows
variable{hs:List ExceptHandler}
noncomputable def nK(C:aj)(fe:GE):GS:=λU S=>kI U (fe U S) λ_ S1=>some (.ex C none U S1)
section
variable{X:Cx}{K:fI}{W:XW}{q:Nat}{C B0:aj}{x:Str}{p cp pos:Pos}{e:Expr}{fe:GE}
def VX(G:fX K C (.ref B0::qy) none)(G0:fX K B0 qy none)(hk:keepIn K (.ref C)=true)(hm:X.mg x=some (.ref C))(hp:fq X W)(he:PE X e (tE K W q fe))(hc:X.calm=true)(hg:Gl X x)(kX:(x == ("__debug__":Str))=false)
  (kY:starEach [e] X.env=(false,eval e X.env)::starEach [] X.env) (hK:X.K=K):PS X (.Raise (some (.Call (.Name x p) [e] [] cp)) none pos) (tS K W q (nK C fe)):=by
 subst hK;intro aa s Z H D I t;have t1:tE X.K W q fe Z H λ_ H1=>W C none Z H1:=by
  obtain⟨k,U,S,fr,ok,gk,e,w⟩:=t;refine tS.bd ok gk e w λr S1 v k1 H1 bJ g1 r1 e1 w1=>?_
  cases e1;exact w1 none Z k1 H1 .refl bJ g1 rfl
 obtain⟨nm,qq,N,bs,sn,sub,ab,col,dd,k0,k1,k2,k3,k5,on,AM,es,ep,AO,g1,g2,g3,g4⟩:=id G;rw[arm_exec_Raise];show wpAny _ _ (do standAt pos;raiseStmt X.env (some (do let v <-eval (.Call (.Name x p) [e] [] cp) X.env;standAt pos;pure v)) none) _ _ _
 refine ay (wpAny_standAt (wpAny_raiseStmt_made_sub (C:=C) (nm:=nm) (q:=qq) (N:=N) (bs:=bs) (bm:=.ref B0::qy) (hdct:=true) (sn:=sn) (sub:=sub) (ab:=ab) (col:=col) (dd:=dd) (k0:=k0) (k1:=k1) (k2:=k2) (k3:=k3) (k5:=k5) (newId:="ValueError.__new__") rfl (I.ok.hd hc) (ay (bL ?_ λv s3 h3=>ay (wpAny_standAt (aX h3))))))
 refine wpAny_Call_Name_kw (Ae I hg hm ?_ kX);have jP:(backTo cp (starEach [] X.env)).any (·.1)=false:=rfl
 refine PySem.W.callWith_K (h₀:=X.base) I.ok.mod.AI hk (bL ((FR he mj kY) cp aa s Z H (λvs H1=>vs.length=1/\W C none Z H1) I (nJ t1 λ_ H1 h=>⟨rfl,h⟩)) λus s1 hh=>?_) kY jP
 obtain⟨vs,H1,I1,r,hl,pp⟩:=hh;refine⟨I1.jQ,?_⟩;obtain⟨u,rfl⟩:∃u,us=[u]:=by
  have l:=r.length;rw[hl] at l;cases us with
  |nil=>cases l
  |cons u us=>cases us with
   |nil=>exact⟨u,rfl⟩
   |cons _ _=>cases l
 refine VR G G0 I1 λh' t kp g=>⟨_,t,rfl,kp _ _ (I1.jQ _ _ g1),g,?_⟩
 exact hp aa Z H1 s1 H1 _ _ C none I1 ⟨rfl,I1.bare,Un.kept kp,I1.bw.kept kp,vx _,I1.bw.fresh (vx _),_,_,g,rfl,rfl,rfl,by show 1<6;decide,.inl rfl⟩ pp
end
abbrev GH:=(aj->ak Bool)×GS
variable{gs:List GH}
noncomputable def Du:Fr->ak Fr
 |.ex _ _ _ _=>none
 |r=>some r
def vh:List GH->aj->GS
 |[],_=>λ_ _=>none
 |h::hs,C=>λU S=>(h.1 C).bind λb=>if b=true then(h.2 U S).bind Du else vh hs C U S
def rV(f:GS)(hs:List GH):GS:=λU S=>(f U S).bind λr=>match r with
 |.ex C _ U1 S1=>vh hs C U1 S1
 |r=>some r
section
variable{X:Cx}{K:fI}{W:XW}{q:Nat}
theorem SP.eP{aa:List (aj×Obj)}{D:Ends}{f:Flow}{s':ax}{e:ai}(h:SP (X.eA e) aa D f s')(hd:X.calm=true->X.A.handled=none):SP X aa D f s':=by
 cases f with
 |next=>obtain⟨Z',H',I,q⟩:=h;exact⟨Z',H',I.eP hd,q⟩
 |brk=>obtain⟨Z',H',I,q⟩:=h;exact⟨Z',H',I.eP hd,q⟩
 |cont=>obtain⟨Z',H',I,q⟩:=h;exact⟨Z',H',I.eP hd,q⟩
 |ret u=>obtain⟨v,Z',H',I,r,q⟩:=h;exact⟨v,Z',H',I.eP hd,r,q⟩
def Done.Du{D:Ends}{k:Kn}{H:Hp}{r fr:Fr}(w:Done K W q D k H fr)(e:L2.Du r=some fr):Done K W0 q D k H r:=by
 cases r with
 |ex _ _ _ _=>cases e
 |_=>cases e;exact w
def HB(X:Cx)(K:fI)(W:XW)(q:Nat)(hs:List ExceptHandler)(gs:List GH):Prop:=∀(aa:List (aj×Obj)) (Z:St) (H:Hp) (s:ax) (D:Ends) (e C:aj) (dx:ak aj) (k:Kn) (U:Gm) (S:aU) (fr:Fr) (n:Nat),Inv X aa Z H s->Bd X aa n->iz n s.heap H e C dx->cq K k H S->gR K k Z U->vh gs C U S=some fr->Done K W q D k H fr->
 wpAny (model X.prog X.w) X.A (handleBy (.ref e) X.env hs) (SP X aa D) X.xe s
def e3i:HB X K W q [] []:=λ_ _ _ _ _ _ _ _ _ _ _ _ _ _ _ _ _ _ e _=>nomatch e
def X8{x:Str}{np hp:Pos}{b0:Stmt}{nE:List Stmt}{wh:aj->ak Bool}{g:GS}{Cc:aj}(hm:X.mg x=some (.ref Cc))(hw:∀C b,wh C=some b->exmOne K (.ref C) (.ref Cc)=some b)(hS:∀e,iT (X.eA e) (b0::nE) (tS K W0 q g))(rest:HB X K W q hs gs)(hg:Gl X x)(kX:(x == ("__debug__":Str))=false)(hK:X.K=K):
  HB X K W q (.ExceptHandler (some (.Name x np)) none (b0::nE) hp::hs) ((wh,g)::gs):=by
 subst hK;intro aa Z H s D e C dx k U S fr n I y f ok gk ee w;obtain⟨bb,q1,ee⟩:=cA.mp ee;dsimp only at q1 ee;refine wpAny_handleBy_cons (codeAny_handlers_test (Ae (I.eA (e:=.ref e)) hg hm ?_ kX)) (by intro q;cases q)
 obtain⟨fS,tL,oe,vs,he,hc,hr⟩:=id f;have LT:Looks (model X.prog X.w) s.heap (typeOf (.ref e)) (.ref C):=by
  rw[<-hc];exact(Looks.ld he).andThen .now
 refine(exm_one I.jQ LT (hw C bb q1)).here ?_;cases bb with
 |true=>
  obtain⟨r,e2,e3⟩:=cA.mp (show(g U S).bind L2.Du=some fr from ee);refine codeAny_handlers_suite (VS (X:=X) f λh' ch kJ lx f2=>?_)
  have I2:Inv X aa Z H { s with heap:=h',toks:=s.toks}:=I.left y lx kJ;refine wpAny_mono (hS (.ref e) aa _ Z H D I2.eA ⟨k,U,S,r,ok,gk,e2,w.Du e3⟩) (λfl s2 q=>?_) λ_ _ z=>z.elim
  exact q.eP I.ok.hd
 |false=>exact rest aa Z H s D e C dx k U S fr n I y f ok gk ee w
theorem SP.eI{aa:List (aj×Obj)}{E:ai->ax->Prop}{D:Ends}{f:Flow}{s':ax}(h:SP (X.eB (X.pn++aa) E) [] D f s'):SP X aa D f s':=by
 cases f with
 |next=>obtain⟨Z',H',I,q⟩:=h;exact⟨Z',H',I.eI,q⟩
 |brk=>obtain⟨Z',H',I,q⟩:=h;exact⟨Z',H',I.eI,q⟩
 |cont=>obtain⟨Z',H',I,q⟩:=h;exact⟨Z',H',I.eI,q⟩
 |ret u=>obtain⟨v,Z',H',I,r,q⟩:=h;exact⟨v,Z',H',I.eI,r,q⟩
def e3j{body:List Stmt}{h0:ExceptHandler}{f:GS}{pos:Pos}(hb:∀(pn:List (aj×Obj)) (E:ai->ax->Prop) (W:XW),fq (X.eB pn E) W->iT (X.eB pn E) body (tS K W q f))(hh:HB X K W q (h0::hs) gs)(kY:X.stack=X.env::X.outer)(hf:X.env.frame=some X.env.locals):
  PS X (.Try body (h0::hs) [] [] pos) (tS K W q (rV f gs)):=by
 intro aa s Z H D I t;obtain⟨k,U,S,fr,ok,gk,e,w⟩:=t;obtain⟨r1,e1,e⟩:=cA.mp e;refine wpAny_Try_except ?_;have hp:fq (X.eB (X.pn++aa) λe s₁=>wpAny (model X.prog X.w) X.A (noteFrame e X.env) (λ_ s₂=>wpAny (model X.prog X.w) X.A (setFlight e none) (λ_ s₃=>wpAny (model X.prog X.w) X.A (handleBy e X.env (h0::hs)) (SP X aa D) X.xe s₃) X.xe s₂) X.xe s₁)
   (λC dx Z' H'=>∃k' U1 S1 fr,cq K k' H' S1/\gR K k' Z' U1/\vh gs C U1 S1=some fr/\Done K W q D k' H' fr):=by
  intro nv Z' H1 s1 H' s' e C dx I1 c q;obtain⟨k',U2,S2,fr2,cS,gk2,e2,w2⟩:=q;have I':Inv X aa Z' H' s':=(c.inv I1).eI;have J:Inv X aa Z' H1 s1:=I1.eI;refine Qy (base:=X.base) (n:=s1.heap.objs.size) (by rw[<-kY];exact I.ok.frames) (by rw[<-kY];exact I'.stack) hf c.GI.lt (λa z=>I'.bw.fresh z) c.GI λh' ch kJ lx fl=>?_
  rw[<-kY] at lx;have I3:Inv X aa Z' H' { s' with heap:=h',toks:=s'.toks}:=I'.left J.SI lx kJ;exact hh aa Z' H' _ D e C dx k' U2 S2 fr2 _ I3 J.SI fl cS gk2 e2 w2
 refine wpAny_mono (hb _ _ _ hp [] s Z H D I.eB ⟨k,U,S,r1,ok,gk,e1,?_⟩) (λff s1 z=>?_) λe s1 z=>z
 .cases r1 with
  |ex C l U1 S1=>exact λdx Z' k' H' u fT g' el=>⟨k',U1,S1,fr,fT,g',e,w.up u⟩
  |_=>cases e;exact w
 .have z:=z.eI;cases ff with
  |next=>
   obtain⟨Z',H',J,r⟩:=z;exact pj aa s1 Z' H' D J r
  |brk=>exact z
  |cont=>exact z
  |ret u=>exact z
end
end L2
namespace L2
open PySem PySem.Spec PyProof.Rows
variable{K:aL}{es:List D}{j n:Nat}
abbrev aZ(K:aL)(H:Hp):List V->List D->Prop:=ag K ⟨H,[],[]⟩
def ag.Hr{H H1:Hp}{vs:List V}{ds:List D}(h:ag K ⟨H,[],[]⟩ vs ds)(s:az H H1):ag K ⟨H1,[],[]⟩ vs ds:=ag.mono (k:=⟨H,[],[]⟩) ⟨s,k_ ([]:List aj)⟩ h
section
variable{X:Cx}
mutual
def gu:D->D->Bool
 |.lst xs,.lst ys=>ic xs ys
 |.tup xs,.tup ys=>ic xs ys
 |.aI,.aI=>true
 |.bl a,.bl b=>a == b
 |.bl a,.int b=>(if a then 1 else 0) == b
 |.int a,.bl b=>a == (if b then 1 else 0)
 |.int a,.int b=>a == b
 |.str a,.str b=>a == b
 |_,_=>false
def ic:List D->List D->Bool
 |[],[]=>true
 |x::xs,y::ys=>gu x y&&ic xs ys
 |_,_=>false
end
noncomputable def eC:Nat->D->Bool
 |n+1,.lst xs=>xs.all (eC n)
 |n+1,.tup xs=>xs.all (eC n)
 |_,.aI=>true
 |_,.bl _=>true
 |_,.int _=>true
 |_,.str _=>true
 |_,_=>false
theorem IZ:∀{xs ys:List D},xs.length≠ys.length->ic xs ys=false
 |[],[],h=>cO rfl h
 |[],_::_,_=>rfl
 |_::_,[],_=>rfl
 |x::xs,y::ys,h=>by show(gu x y&&ic xs ys)=false;rw[IZ (by simpa using h),Bool.and_false]
theorem I_:∀{xs ys:List D} (n:Nat),xs.length=n->ys.length=n->ic xs ys=(List.range n).all λj=>gu (xs.getD j .aI) (ys.getD j .aI)
 |[],[],0,_,_=>rfl
 |x::xs,y::ys,n+1,h1,h2=>by
  show(gu x y&&ic xs ys)=_;rw[I_ n (by simpa using h1) (by simpa using h2),List.range_succ_eq_map,pI,t7]
  rfl
 |[],_,_+1,h,_=>by simp at h
 |_::_,[],_+1,_,h=>by simp at h
 |_::_,_,0,h,_=>by simp at h
 |[],_::_,0,_,h=>by simp at h
variable{aa:List (aj×Obj)}{Z:St}{H:Hp}{s:ax}
def Ge{F:Hp}{ws:List V}(r:aZ K F ws es){aG:List ai}(rv:Vals ws aG)(h:j<aG.toArray.size):∃x,RelV x aG.toArray[j]/\aZ K F [x] [es.getD j .aI]/\j<es.length:=by
 obtain⟨x,hx,rx⟩:=rv.at h;have hl:=r.length;have hj:j<es.length:=by
  grind
 obtain⟨y,hy,ry⟩:=r.get (i:=j) (d:=es[j]) (by simp[hj])
 rw[hx] at hy;cases hy;refine⟨x,rx,?_,hj⟩;rw[show es.getD j .aI=es[j] by simp[hj]]
 exact ry
def Fz{p:D->Bool}(h:es.all p=true)(hj:j<es.length):p (es.getD j .aI)=true:=by
 simp_all
inductive xg (K:aL) (H:Hp) (s:ax):ai->D->Prop
 |none:xg K H s .none .aI
 |bool (b:Bool):xg K H s (.bool b) (.bl b)
 |int (i:Int) (t:Tok):xg K H s (.int i t) (.int i)
 |str (x:Str) (t:Tok):xg K H s (.str x t) (.str x)
 |list {a:aj} {aG:List ai} {ws:List V} {es:List D}:s.heap.IsList a aG.toArray->Vals ws aG->aZ K H ws es->xg K H s (.ref a) (.lst es)
 |tuple {a:aj} {aG:List ai} {ws:List V} {es:List D}:s.heap.IsTuple a aG.toArray->Vals ws aG->aZ K H ws es->xg K H s (.ref a) (.tup es)
def QB(I:Inv X aa Z H s){x:V}{u:ai}{d:D}(r:aZ X.K H [x] [d])(ru:RelV x u)(ok:eC n d=true):xg X.K H s u d:=by
 cases r with
 |lst q i _=>
  cases ru;obtain⟨aG,rv,pl,_⟩:=I.list q;exact .list pl.isList rv i
 |tup q i _=>
  cases ru;obtain⟨aG,rv,pl,_⟩:=I.tuple q;exact .tuple pl rv i
 |av _ _ _ _ _=>cases n <;> cases ok
 |ref _ _=>cases n <;> cases ok
 |flat q _=>
  cases d with
  |aI=>cases q;cases ru;exact .none
  |bl b=>cases q;cases ru;exact .bool b
  |int i=>cases q;obtain⟨t,rfl⟩:=ru;exact .int i t
  |str z=>cases q;obtain⟨t,rfl⟩:=ru;exact .str z t
  |ty _=>cases n <;> cases ok
  |lst _=>cases q
  |tup _=>cases q
  |av _=>cases q
  |ref _=>cases q
def BQ(h:eC n (.lst es)=true):∃m,n=m+1/\es.all (eC m)=true:=by
 cases n with
 |zero=>cases h
 |succ n=>exact⟨n,rfl,h⟩
def BR(h:eC n (.tup es)=true):∃m,n=m+1/\es.all (eC m)=true:=by
 cases n with
 |zero=>cases h
 |succ n=>exact⟨n,rfl,h⟩
def NY(h:∀d∈es,gu d d=true):ic es es=true:=by
 induction es with
 |nil=>rfl
 |cons d es ih=>show(gu d d&&ic es es)=true;rw[h d (by simp),ih λd m=>h d (by simp[m])];rfl
theorem BE:∀(n:Nat) {d:D},eC n d=true->gu d d=true:=by
 intro n
 induction n with
 |zero=>intro d h;cases d <;> first|(cases h;done)|exact rfl|exact fW _
 |succ n ih=>
  intro d h;cases d with
  |lst es=>exact NY λd m=>ih (jJ.mp h d m)
  |tup es=>exact NY λd m=>ih (jJ.mp h d m)
  |av _=>cases h
  |ref _=>cases h
  |ty _=>cases h
  |_=>first|exact rfl|exact fW _
def Te{xs ys:List D}(hl:xs.length=ys.length)(h:∀j,j<xs.length->xs.getD j .aI=ys.getD j .aI):xs=ys:=by
 apply List.ext_getElem hl;intro j h1 h2;have:=h j h1;simpa[h1,h2] using this
noncomputable def L6:V->D
 |.bl b=>.bl b
 |.int i=>.int i
 |.str x=>.str x
 |.ty n=>.ty n
 |_=>.aI
def NZ{d:D}{v:V}(h:vL d=some v):d=L6 v:=by cases d <;> cases h <;> rfl
def z8{d:D}{a:aj}(h:vL d=some (.ref a)):False:=by cases d <;> cases h
theorem FX(I:Inv X aa Z H s):∀(n m:Nat) {x:V} {d e:D},aZ X.K H [x] [d]->aZ X.K H [x] [e]->eC n d=true->eC m e=true->d=e:=by
 intro n
 induction n using Nat.strongRecOn with
 |ind n ih=>
 intro m x d e rd re od oe;have go:∀{ws:List V} {es m9:List D} {n' m':Nat},n'<n->aZ X.K H ws es->aZ X.K H ws m9->es.all (eC n')=true->m9.all (eC m')=true->es=m9:=by
  intro ws es m9 n' m' hn r1 r2 o1 o2;have l1:=r1.length;have l2:=r2.length;refine Te (by lia) λj hj=>?_
  have GY:j<m9.length:=by lia
  obtain⟨v,g1,g2⟩:=r1.get (i:=j) (d:=es[j]) (by simp[hj])
  obtain⟨v',p1,p2⟩:=r2.get (i:=j) (d:=m9[j]) (by simp[GY])
  rw[g1] at p1;cases p1;rw[show es.getD j .aI=es[j] by simp[hj],show m9.getD j .aI=m9[j] by simp[GY]]
  exact ih n' hn m' g2 p2 (jJ.mp o1 _ (zy hj)) (jJ.mp o2 _ (zy GY))
 cases rd with
 |flat q _=>
  cases re with
  |flat q' _=>
   rw[NZ q,NZ q']
  |lst _ _ _=>exact(z8 q).elim
  |tup _ _ _=>exact(z8 q).elim
  |av _ _ _ _ _=>exact(z8 q).elim
  |ref _ _=>exact(z8 q).elim
 |lst q i _=>
  obtain⟨n',rfl,yS⟩:=BQ od;cases re with
  |flat q' _=>exact(z8 q').elim
  |lst q' i' _=>
   obtain⟨m',rfl,yT⟩:=BQ oe;cases I.ky q q';rw[go (vw _) i i' yS yT]
  |tup q' i' _=>
   obtain⟨_,_,p1,_⟩:=I.list q;obtain⟨_,_,p2,_⟩:=I.tuple q';exact cO rfl (SeqAt.ne_of_list_tuple p1.isList p2)
  |av _ _ _ _ _=>cases m <;> cases oe
  |ref _ _=>cases m <;> cases oe
 |tup q i _=>
  obtain⟨n',rfl,yS⟩:=BR od;cases re with
  |flat q' _=>exact(z8 q').elim
  |tup q' i' _=>
   obtain⟨m',rfl,yT⟩:=BR oe;cases I.lF q q';rw[go (vw _) i i' yS yT]
  |lst q' i' _=>
   obtain⟨_,_,p1,_⟩:=I.list q';obtain⟨_,_,p2,_⟩:=I.tuple q;exact cO rfl (SeqAt.ne_of_list_tuple p1.isList p2)
  |av _ _ _ _ _=>cases m <;> cases oe
  |ref _ _=>cases m <;> cases oe
 |av _ _ _ _ _=>cases n <;> cases od
 |ref _ _=>cases n <;> cases od
def B5(I:Inv X aa Z H s):∀(n m:Nat) {A:cN} {x y:V} {u v:ai} {d e:D},aZ X.K H [x] [d]->aZ X.K H [y] [e]->eC n d=true->eC m e=true->RelV x u->RelV y v->A.units+n<cLine->
  SeqAt.EqAt A s u v (gu d e)/\SeqAt.RcAt A s u v (gu d e):=by
 intro n
 induction n using Nat.strongRecOn with
 |ind n ih=>
 intro m A x y u v d e rd re od oe ru rv hu;have fE:A.units<cLine:=by lia
 have s1:=QB I rd ru od;have s2:=QB I re rv oe;cases s1 with
 |none=>
  cases s2 with
  |none=>
   exact⟨SeqAt.EqAt.same _,SeqAt.RcAt.none_none⟩
  |bool a2=>
   exact⟨SeqAt.EqAt.none_bool a2,SeqAt.RcAt.none_bool a2⟩
  |int a2 t2=>
   exact⟨SeqAt.EqAt.none_int a2 t2,SeqAt.RcAt.none_int a2 t2⟩
  |str a2 t2=>
   exact⟨SeqAt.EqAt.none_str a2 t2,SeqAt.RcAt.none_str a2 t2⟩
  |list l2 v2 r2=>
   exact⟨SeqAt.EqAt.none_list l2 fE,SeqAt.RcAt.none_list l2 fE⟩
  |tuple l2 v2 r2=>
   exact⟨SeqAt.EqAt.none_tuple l2 fE,SeqAt.RcAt.none_tuple l2 fE⟩
 |bool a1=>
  cases s2 with
  |none=>
   exact⟨SeqAt.EqAt.bool_none a1,SeqAt.RcAt.bool_none a1⟩
  |bool a2=>
   exact⟨SeqAt.EqAt.bool_bool a1 a2,SeqAt.RcAt.bool_bool a1 a2⟩
  |int a2 t2=>
   exact⟨SeqAt.EqAt.bool_int a1 a2 t2,SeqAt.RcAt.bool_int a1 a2 t2⟩
  |str a2 t2=>
   exact⟨SeqAt.EqAt.bool_str a1 a2 t2,SeqAt.RcAt.bool_str a1 a2 t2⟩
  |list l2 v2 r2=>
   exact⟨SeqAt.EqAt.bool_list a1 l2 fE,SeqAt.RcAt.bool_list a1 l2 fE⟩
  |tuple l2 v2 r2=>
   exact⟨SeqAt.EqAt.bool_tuple a1 l2 fE,SeqAt.RcAt.bool_tuple a1 l2 fE⟩
 |int a1 t1=>
  cases s2 with
  |none=>
   exact⟨SeqAt.EqAt.int_none a1 t1,SeqAt.RcAt.int_none a1 t1⟩
  |bool a2=>
   exact⟨SeqAt.EqAt.int_bool a1 t1 a2,SeqAt.RcAt.int_bool a1 t1 a2⟩
  |int a2 t2=>
   exact⟨SeqAt.EqAt.int_int a1 t1 a2 t2,SeqAt.RcAt.int_int a1 t1 a2 t2⟩
  |str a2 t2=>
   exact⟨SeqAt.EqAt.int_str a1 t1 a2 t2,SeqAt.RcAt.int_str a1 t1 a2 t2⟩
  |list l2 v2 r2=>
   exact⟨SeqAt.EqAt.int_list a1 t1 l2 fE,SeqAt.RcAt.int_list a1 t1 l2 fE⟩
  |tuple l2 v2 r2=>
   exact⟨SeqAt.EqAt.int_tuple a1 t1 l2 fE,SeqAt.RcAt.int_tuple a1 t1 l2 fE⟩
 |str a1 t1=>
  cases s2 with
  |none=>
   exact⟨SeqAt.EqAt.str_none a1 t1,SeqAt.RcAt.str_none a1 t1⟩
  |bool a2=>
   exact⟨SeqAt.EqAt.str_bool a1 t1 a2,SeqAt.RcAt.str_bool a1 t1 a2⟩
  |int a2 t2=>
   exact⟨SeqAt.EqAt.str_int a1 t1 a2 t2,SeqAt.RcAt.str_int a1 t1 a2 t2⟩
  |str a2 t2=>
   exact⟨SeqAt.EqAt.str_str a1 t1 a2 t2,SeqAt.RcAt.str_str a1 t1 a2 t2⟩
  |list l2 v2 r2=>
   exact⟨SeqAt.EqAt.str_list a1 t1 l2 fE,SeqAt.RcAt.str_list a1 t1 l2 fE⟩
  |tuple l2 v2 r2=>
   exact⟨SeqAt.EqAt.str_tuple a1 t1 l2 fE,SeqAt.RcAt.str_tuple a1 t1 l2 fE⟩
 |list l1 v1 r1=>
  cases s2 with
  |none=>
   exact⟨SeqAt.EqAt.list_none l1 fE,SeqAt.RcAt.list_none l1 fE⟩
  |bool a2=>
   exact⟨SeqAt.EqAt.list_bool a2 l1 fE,SeqAt.RcAt.list_bool a2 l1 fE⟩
  |int a2 t2=>
   exact⟨SeqAt.EqAt.list_int a2 t2 l1 fE,SeqAt.RcAt.list_int a2 t2 l1 fE⟩
  |str a2 t2=>
   exact⟨SeqAt.EqAt.list_str a2 t2 l1 fE,SeqAt.RcAt.list_str a2 t2 l1 fE⟩
  |list l2 v2 r2=>
   rename_i a aG ws es b k6 Md m9
   obtain⟨n',rfl,yS⟩:=BQ od;obtain⟨m',rfl,yT⟩:=BQ oe;have la:=v1.length;have lb:=v2.length;have la':=r1.length;have lb':=r2.length;have rc:SeqAt.RcAt A s (.ref a) (.ref b) (gu (.lst es) (.lst m9)):=by
    show SeqAt.RcAt A s _ _ (ic es m9);by_cases hl:es.length=m9.length
    .rw[I_ aG.toArray.size (by simp only[fm];lia) (by simp only[fm];lia)]
     refine SeqAt.RcAt.lists (A:=A) l1 l2 (by simp only[fm];lia) fE λj h1 h2=>?_
     obtain⟨x1,q1,q2,q3⟩:=Ge r1 v1 h1;obtain⟨y1,p1,p2,p3⟩:=Ge r2 v2 h2;exact(ih n' (vw _) m' q2 p2 (Fz yS q3) (Fz yT p3) q1 p1 (by show A.units+1+n'<cLine;lia)).1
    grind [IZ,PySem.SeqAt.RcAt.lists_lengths]
   grind [RelV.inj,FX,BE,PySem.SeqAt.EqAt.same,PySem.SeqAt.EqAt.of_refs]
  |tuple l2 v2 r2=>
   exact⟨SeqAt.EqAt.list_tuple l1 l2 fE,SeqAt.RcAt.list_tuple l1 l2 fE⟩
 |tuple l1 v1 r1=>
  cases s2 with
  |none=>
   exact⟨SeqAt.EqAt.tuple_none l1 fE,SeqAt.RcAt.tuple_none l1 fE⟩
  |bool a2=>
   exact⟨SeqAt.EqAt.tuple_bool a2 l1 fE,SeqAt.RcAt.tuple_bool a2 l1 fE⟩
  |int a2 t2=>
   exact⟨SeqAt.EqAt.tuple_int a2 t2 l1 fE,SeqAt.RcAt.tuple_int a2 t2 l1 fE⟩
  |str a2 t2=>
   exact⟨SeqAt.EqAt.tuple_str a2 t2 l1 fE,SeqAt.RcAt.tuple_str a2 t2 l1 fE⟩
  |list l2 v2 r2=>
   exact⟨SeqAt.EqAt.tuple_list l1 l2 fE,SeqAt.RcAt.tuple_list l1 l2 fE⟩
  |tuple l2 v2 r2=>
   rename_i a aG ws es b k6 Md m9
   obtain⟨n',rfl,yS⟩:=BR od;obtain⟨m',rfl,yT⟩:=BR oe;have la:=v1.length;have lb:=v2.length;have la':=r1.length;have lb':=r2.length;have rc:SeqAt.RcAt A s (.ref a) (.ref b) (gu (.tup es) (.tup m9)):=by
    have z:=SeqAt.RcAt.tuples (A:=A) (e:=λj=>gu (es.getD j .aI) (m9.getD j .aI)) l1 l2 fE λj h1 h2=>by
     obtain⟨x1,q1,q2,q3⟩:=Ge r1 v1 h1;obtain⟨y1,p1,p2,p3⟩:=Ge r2 v2 h2;exact(ih n' (vw _) m' q2 p2 (Fz yS q3) (Fz yT p3) q1 p1 (by show A.units+1+n'<cLine;lia)).1
    show SeqAt.RcAt A s _ _ (ic es m9);by_cases hl:es.length=m9.length
    .rw[I_ aG.toArray.size (by simp only[fm];lia) (by simp only[fm];lia)]
     have e1:k6.toArray.size=aG.toArray.size:=by simp only[fm];lia
     rw[e1,Nat.min_self,fW,Bool.and_true] at z;exact z
    .rw[IZ hl];have e1:(aG.toArray.size == k6.toArray.size)=false:=by rw[qH];simp only[fm];lia
     rw[e1,Bool.and_false] at z;exact z
   grind [RelV.inj,FX,BE,PySem.SeqAt.EqAt.same,PySem.SeqAt.EqAt.of_refs]
end
mutual
theorem Jv:∀k j:TK,gu k.d j.d=decide (k=j)
 |.inl a,.inl b=>by show(a == b)=_;rw[zx];simp
 |.inr a,.inr b=>by show(a == b)=_;rw[zx];simp
 |.tp l,.tp m=>by show ic (TK.dl l) (TK.dl m)=_;rw[m8 l m,zx];simp
 |.inl _,.inr _=>rfl
 |.inl _,.tp _=>rfl
 |.inr _,.inl _=>rfl
 |.inr _,.tp _=>rfl
 |.tp _,.inl _=>rfl
 |.tp _,.inr _=>rfl
 |.aI,.aI=>rfl
 |.aI,.inl _=>rfl
 |.aI,.inr _=>rfl
 |.aI,.tp _=>rfl
 |.inl _,.aI=>rfl
 |.inr _,.aI=>rfl
 |.tp _,.aI=>rfl
theorem m8:∀l m:List TK,ic (TK.dl l) (TK.dl m)=decide (l=m)
 |[],[]=>rfl
 |a::l,b::m=>by show(gu a.d b.d&&ic (TK.dl l) (TK.dl m))=_;rw[Jv a b,m8 l m,zx];simp
 |[],_::_=>rfl
 |_::_,[]=>rfl
end
theorem B6:∀l:List TK,TK.dl l=l.map TK.d
 |[]=>by simp[TK.dl]
 |a::l=>by simp[TK.dl,B6 l]
theorem Ag:∀(n:Nat) {k:TK},k.ok n=true->eC n k.d=true
 |n,.inl i,_=>by cases n <;> rfl
 |n,.inr i,_=>by cases n <;> rfl
 |n,.aI,_=>by cases n <;> rfl
 |0,.tp l,h=>by simp[TK.ok] at h
 |n+1,.tp l,h=>by
  show(TK.dl l).all (eC n)=true;rw[B6,t7];refine jJ.mpr λa m=>?_
  exact Ag n (jJ.mp (by simpa only[TK.ok] using h) a m)
def UJ{α:Type}{M:Model}{A:cN}{E:ai->ax->Prop}{s:ax}{c:Prop}[Decidable c]{a b:Sem α}{Q:α->ax->Prop}(h1:wpAny M A a Q E s)(h2:wpAny M A b Q E s):wpAny M A (if c then a else b) Q E s:=by
 split
 .exact h1
 .exact h2
theorem M8(w:cD):∀l m:List TK,TK.d_ w (l++m)=TK.d_ w l++TK.d_ w m
 |[],m=>by simp[TK.d_]
 |a::l,m=>by simp[TK.d_,M8 w l m]
section
variable{X:Cx}{aa:List (aj×Obj)}{Z:St}{H:Hp}
def PF{A:cN}{E:ai->ax->Prop}{s:ax}{y:V}{u:ai}{i:Int}{Q:Int->ax->Prop}(r:aZ X.K H [y] [TK.d (.inl i)])(ru:RelV y u)(h:∀t,Q (TK.hash X.w (.inl i)) { s with toks:=t}):wpAny (model X.prog X.w) A (pyHash u) Q E s:=by
 simp only[TK.d] at r;cases r with
 |flat q _=>cases q;obtain⟨t,rfl⟩:=ru;exact wpAny_pyHash_int (by simpa only[TK.hash] using h _)
def PH{A:cN}{E:ai->ax->Prop}{s:ax}{y:V}{u:ai}{i:Str}{Q:Int->ax->Prop}(r:aZ X.K H [y] [TK.d (.inr i)])(ru:RelV y u)(h:∀t,Q (TK.hash X.w (.inr i)) { s with toks:=t}):wpAny (model X.prog X.w) A (pyHash u) Q E s:=by
 simp only[TK.d] at r;cases r with
 |flat q _=>cases q;obtain⟨t,rfl⟩:=ru;exact wpAny_pyHash_str (by simpa only[TK.hash] using h _)
theorem PK{A:cN}{E:ai->ax->Prop}{s:ax}{y:V}{u:ai}{Q:Int->ax->Prop}(r:aZ X.K H [y] [TK.d .aI])(ru:RelV y u)(h:∀t,Q (TK.hash X.w .aI) { s with toks:=t}):wpAny (model X.prog X.w) A (pyHash u) Q E s:=by
 simp only[TK.d] at r;cases r with
 |flat q _=>
  cases q;cases ru;have hT:s.TypeIs .none "NoneType":=rfl;unfold pyHash;have hv:[Value.none].any Value.onHeap=false:=rfl;refine ay ?_;rw[cRoomFor,bc (by rw[hv];exact sR)];refine aX ?_
  refine ay (wpAny_specialOf hT F.slot_NoneType_hash.lookup ?_);show wpAny _ _ (if(some (Value.builtin "NoneType.__hash__") == some Value.none)=true then _ else _) Q E s
  rw[bc (by rw[beq_builtin_none];exact sR)]
  refine ay (wpAny_specialOf hT F.slot_NoneType_hash.lookup ?_);show wpAny _ _ (callSpecialIfBoundUnlessNone? .none "__hash__" _ >>= _) Q E s;refine ay (wpAny_callSpecialIfBoundUnlessNone?_slot hT F.slot_NoneType_hash (wpAny_call_entry F.slot_NoneType_hash hT F.entry_NoneType_hash (show wpAny _ _ (do ret (<-mkInt 4238894112)) _ _ s from wpAny_ret_mkInt ?_) (F.args_NoneType_hash_1 _)))
  refine aX ?_
  grind [TK.hash]
theorem Ox:∀(n:Nat) {A:cN} {E:ai->ax->Prop} {s:ax} {y:V} {u:ai} {k:TK} {Q:Int->ax->Prop},Inv X aa Z H s->aZ X.K H [y] [k.d]->k.ok n=true->RelV y u->A.units+n<cLine->
  (∀t,Q (k.hash X.w) { s with toks:=t})->wpAny (model X.prog X.w) A (pyHash u) Q E s:=by
 intro n
 induction n with
 |zero=>
  intro A E s y u k Q I r ok ru hu h;cases k with
  |tp l=>simp[TK.ok] at ok
  |inl i=>exact PF r ru h
  |inr x=>exact PH r ru h
  |aI=>exact PK r ru h
 |succ n ih=>
  intro A E s y u k Q I r ok ru hu h;cases k with
  |inl i=>exact PF r ru h
  |inr x=>exact PH r ru h
  |aI=>exact PK r ru h
  |tp l=>
   simp only[TK.d] at r;cases r with
   |flat q _=>cases q
   |@tup a ws _ _ _ q i _=>
    cases ru;obtain⟨aG,rv,pl,_⟩:=I.tuple q;have hT:s.TypeIs (.ref a) "tuple":=pl.typeIs;obtain⟨o,g1,g2,nn,g3⟩:=pl;have ok:l.all (TK.ok n)=true:=by simpa only[TK.ok] using ok
    show wpAny _ _ (pyHashByItsType (.ref a)) Q E s;unfold pyHashByItsType;refine ay (wpAny_cRoomFor_or (.inr (by lia)) (ay (wpAny_specialOf hT F.slot_tuple_hash.lookup ?_)))
    dsimp only;rw[bc (by rw[beq_builtin_none];exact sR)]
    refine ay (wpAny_specialOf hT F.slot_tuple_hash.lookup (ay ?_));refine wpAny_callSpecialIfBoundUnlessNone?_slot hT F.slot_tuple_hash (wpAny_call_entry F.slot_tuple_hash hT F.entry_tuple_hash ?_ (F.args_tuple_hash_1 _));show wpAny _ _ (Builtin.Tuple.tupleItemsOf (.ref a) >>= λz=>_) _ _ s
    refine ay (wpAny_tupleItemsOf g1 g3 (ay ?_));rw[<-Array.forIn_toList];refine wpAny_forIn_list _ (λrest (b:Array Int) s'=>∃done left wl t,l=done++left/\aZ X.K H wl (TK.dl left)/\Vals wl rest/\b.toList=TK.d_ X.w done/\s'={ s with toks:=t}) _ ?_ ?_ _ _ ⟨[],l,ws,s.toks,rfl,i,rv,by simp[TK.d_],rfl⟩
    .rintro x rest b s' ⟨done,left,wl,t,e,r',v',hb,rfl⟩;cases v' with
     |@cons w1 _ wl _ LD v'=>
      cases left with
      |nil=>have:=r'.length;simp[TK.dl] at this
      |cons k1 left=>
       simp only[TK.dl] at r';have bJ:k1.ok n=true:=jJ.mp ok k1 (by rw[e];simp)
       have fin:∀t',∃vS wg SH AR,l=vS++wg/\aZ X.K H SH (TK.dl wg)/\Vals SH rest/\(b.push (k1.hash X.w)).toList=TK.d_ X.w vS/\({ s with toks:=t'}:ax)={ s with toks:=AR}:=
        λt'=>⟨done++[k1],left,wl,t',by simp[e],r'.inv.2,v',by rw[M8,<-hb];simp[TK.d_],rfl⟩
       exact ay (ih (I.tok t) r'.inv.1 bJ LD (by show A.units+1+n<cLine;lia) λt'=>by
        first
         |exact aX (fin t')
         |exact ay (aX (aX (fin t'))))
    .rintro b s' ⟨done,left,wl,t,e,r',v',hb,rfl⟩;cases v';have hl:left=[]:=by
      cases left with
      |nil=>rfl
      |cons _ _=>have:=r'.length;simp[TK.dl] at this
     subst hl;rw[kN] at e;subst e;show wpAny _ _ (retInt (Builtin.Tuple.tupleHashOf b.toList)) _ _ _;rw[hb];refine wpAny_ret_mkInt ?_;have h':∀t,Q (reduceHash (Builtin.Tuple.tupleHashOf (TK.d_ X.w l))) { s with toks:=t}:=λt=>by simpa only[TK.hash] using h t
     unfold reduceHash at h';show wpAny _ _ (if(decide (-(2:Int)^63<=Builtin.Tuple.tupleHashOf (TK.d_ X.w l))&&decide (Builtin.Tuple.tupleHashOf (TK.d_ X.w l)<2^63))=true then _ else _) Q E _
     split
     .rename_i hc
      rw[bM hc] at h';exact aX (h' _)
     .rename_i hc
      rw[bc hc] at h';exact ay (wpAny_rule (aX (h' _)))
theorem N0:∀(n:Nat) {A:cN} {E:ai->ax->Prop} {s:ax} {y:V} {u:ai} {k:TK} {Q:Bool->ax->Prop},Inv X aa Z H s->aZ X.K H [y] [k.d]->k.ok n=true->RelV y u->Q true s->
  wpAny (model X.prog X.w) A (eqIsQuiet n u) Q E s:=by
 intro n
 induction n with
 |zero=>
  intro A E s y u k Q I r ok ru h;cases k with
  |tp l=>simp[TK.ok] at ok
  |inl i=>simp only[TK.d] at r;cases r with|flat q _=>cases q;obtain⟨t,rfl⟩:=ru;rw[eqIsQuiet_byValue 0 rfl];exact aX h
  |inr i=>simp only[TK.d] at r;cases r with|flat q _=>cases q;obtain⟨t,rfl⟩:=ru;rw[eqIsQuiet_byValue 0 rfl];exact aX h
  |aI=>simp only[TK.d] at r;cases r with|flat q _=>cases q;cases ru;rw[eqIsQuiet_byValue 0 rfl];exact aX h
 |succ n ih=>
  intro A E s y u k Q I r ok ru h;cases k with
  |inl i=>simp only[TK.d] at r;cases r with|flat q _=>cases q;obtain⟨t,rfl⟩:=ru;rw[eqIsQuiet_byValue (n+1) rfl];exact aX h
  |inr i=>simp only[TK.d] at r;cases r with|flat q _=>cases q;obtain⟨t,rfl⟩:=ru;rw[eqIsQuiet_byValue (n+1) rfl];exact aX h
  |aI=>simp only[TK.d] at r;cases r with|flat q _=>cases q;cases ru;rw[eqIsQuiet_byValue (n+1) rfl];exact aX h
  |tp l=>
   simp only[TK.d] at r;cases r with
   |flat q _=>cases q
   |@tup a ws _ _ _ q i _=>
    cases ru;obtain⟨aG,rv,pl,_⟩:=I.tuple q;have hT:s.TypeIs (.ref a) "tuple":=pl.typeIs;obtain⟨o,g1,g2,nn,g3⟩:=pl;have ok:l.all (TK.ok n)=true:=by simpa only[TK.ok] using ok
    unfold eqIsQuiet;refine ay (wpAny_specialOf hT F.slot_tuple_eq.lookup (ay (wpAny_isInstance hT isSubtype_tuple_tuple ?_)));simp only[kH,qG,jK];refine ay (wpAny_seqItems g1 g3 (ay ?_));show wpAny _ _ (forIn aG.toArray _ _) _ _ s;rw[<-Array.forIn_toList];refine wpAny_forIn_list _ (λrest r s'=>r.1=none/\s'=s/\∃left wl,aZ X.K H wl (TK.dl left)/\Vals wl rest/\∀x∈left,x.ok n=true) _ ?_ ?_ _ _ ⟨rfl,rfl,l,ws,i,rv,λx m=>jJ.mp ok x m⟩
    .rintro v rest r s' ⟨hr,rfl,left,wl,r',v',hk⟩;cases v' with
     |@cons w1 _ wl _ LD v'=>
      cases left with
      |nil=>have:=r'.length;simp[TK.dl] at this
      |cons k1 left=>
       simp only[TK.dl] at r';refine ay (ih I r'.inv.1 (hk k1 (by simp)) LD ?_)
       simp only[kH,qG,jK];exact aX ⟨rfl,rfl,left,wl,r'.inv.2,v',λx m=>hk x (by simp[m])⟩
    .rintro⟨r1,r2⟩ s' ⟨hr,rfl,_⟩;cases(show r1=none from hr);exact aX h
structure A6 (X:Cx) (A:cN) (E:ai->ax->Prop) (s:ax) (xs:Array DictEntry) (es:List (TK×V×V)) (k:TK) (u:ai):Prop where
 ent:∀(j:Nat) (x:DictEntry),xs[j]?=some x->∃e,es[j]?=some e/\iX X.w e x/\(∀(R:Bool->ax->Prop),R (decide (e.1=k)) s->wpAny (model X.prog X.w) A (eqBool x.key u) R E s)/\
  ∀(R:Bool->ax->Prop),R true s->wpAny (model X.prog X.w) A (eqIsQuiet 8 x.key) R E s
 ents:∀(j:Nat) (e:TK×V×V),es[j]?=some e->∃x:DictEntry,xs[j]?=some x/\iX X.w e x
 uniq:∀(i j:Nat) (e f:TK×V×V),es[i]?=some e->es[j]?=some f->e.1=k->f.1=k->i=j
def e3k{A:cN}{E:ai->ax->Prop}{s:ax}{xs:Array DictEntry}{es:List (TK×V×V)}{k:TK}{y:V}{u:ai}(I:Inv X aa Z H s)(g3:Paired (iX X.w) es xs.toList)(g4:(es.map (·.1)).Nodup)
  (rk:aZ X.K H (es.map (·.2.1)) (es.map (·.1.d))) (ry:aZ X.K H [y] [k.d]) (ok:k.ok 8=true) (ru:RelV y u) (hu:A.units+8<cLine):A6 X A E s xs es k u where
 ent:=λj x hx=>by
  obtain⟨e,e1,e2⟩:=Bv j g3 (by rw[vy];exact hx)
  obtain⟨v,v1,v2⟩:=rk.get (i:=j) (d:=e.1.d) (by rw[dR,e1];rfl)
  rw[dR,e1] at v1;cases v1;refine⟨e,e1,e2,λR hR=>?_,λR hR=>N0 8 I v2 e2.2.2.2 e2.2.1 hR⟩
  refine(B5 I 8 8 v2 ry (Ag 8 e2.2.2.2) (Ag 8 ok) e2.2.1 ru hu).1 X.prog X.w E R ?_;rw[Jv];exact hR
 ents:=λj e he=>by
  obtain⟨x,x1,x2⟩:=Bw j g3 he
  simp_all
 uniq:=λi j e f he hf ek fk=>by
  have hi:(es.map (·.1))[i]?=some k:=by rw[dR,he,<-ek];rfl
  have hj:(es.map (·.1))[j]?=some k:=by rw[dR,hf,<-fk];rfl
  exact(List.getElem?_inj (eW.mp hi).1 g4).mp (hi.trans hj.symm)
section
variable{A:cN}{E:ai->ax->Prop}{s:ax}{d:aj}{o:Obj}{xs:Array DictEntry}{ep:Nat}{es:List (TK×V×V)}{k:TK}{u:ai}{Q:ak Nat->ax->Prop}
noncomputable abbrev ny(xs:Array DictEntry)(h:Int):List Nat:=placesWithHash xs.size (λi=>xs[i]?.map (·.hash)) h
def mm{h:Int}{i:Nat}:i∈ny xs h↔∃x,xs[i]?=some x/\x.hash=h:=by
 unfold ny placesWithHash;rw[tZ,qm];constructor
 .rintro⟨h1,h2⟩;refine⟨xs[i],sW h1,?_⟩;dsimp only at h2;rw[sW h1] at h2;simpa using h2
 .rintro⟨x,h1,h2⟩;refine⟨(A1.mp h1).1,?_⟩;dsimp only;rw[h1,A3,h2];simp
def UK{h:Int}:(ny xs h).Nodup:=List.Nodup.sublist Hy Mu
def A6.ny(D:A6 X A E s xs es k u){j:Nat}{e:TK×V×V}(he:es[j]?=some e)(ek:e.1=k):j∈ny xs (k.hash X.w):=by
 obtain⟨x,x1,x2⟩:=D.ents j e he;exact mm.mpr ⟨x,x1,by rw[x2.1,ek]⟩
def UL(D:A6 X A E s xs es k u)(g1:s.heap.get? d=some o)(g2:o.data=.dict xs ep)
  (q0:(∀(j:Nat) (e:TK×V×V),es[j]?=some e->e.1≠k)->Q none s) (q1:∀(j:Nat) (e:TK×V×V),es[j]?=some e->e.1=k->Q (some j) s) :
  wpAny (model X.prog X.w) A (dictWalkPlain d u (k.hash X.w) xs (ny xs (k.hash X.w))) Q E s:=by
 unfold dictWalkPlain;refine ay (wpAny_forIn_list _ (λrest b s'=>s'=s/\b=(none,())/\∃done,ny xs (k.hash X.w)=done++rest/\∀j e,j∈done->es[j]?=some e->e.1≠k) _ ?_ ?_ _ _ ⟨rfl,rfl,[],rfl,λ_ _ m=>by cases m⟩)
 .rintro i rest b s' ⟨rfl,rfl,done,hd,tN⟩;obtain⟨x,x1,x2⟩:=mm.mp (show i∈ny xs (k.hash X.w) by rw[hd];simp)
  obtain⟨e,e1,e2,eq,_⟩:=D.ent i x x1;simp only[x1];rw[bM (by rw[x2];simp)]
  refine ay (wpAny_dictEpoch g1 g2 (ay (eq _ (ay (wpAny_dictEpoch g1 g2 ?_)))));rw[bc (by simp)]
  by_cases ek:e.1=k
  .rw[oH ek];exact ay (wpAny_rule (aX (aX (q1 i e e1 ek))))
  .rw[sX ek];refine ay (wpAny_rule (aX ⟨rfl,rfl,done++[i],by simp[hd],λj f m hf=>?_⟩))
   rcases iQ.mp m with m|m
   .exact tN j f m hf
   .simp at m;subst m;rw[e1] at hf;cases hf;exact ek
 .rintro b s' ⟨rfl,rfl,done,hd,tN⟩;refine aX (q0 λj e he ek=>tN j e ?_ he ek)
  have:=D.ny he ek
  simp_all
def idv(u:ai):ai:=u
def VY(D:A6 X A E s xs es k u)(g1:s.heap.get? d=some o)(g2:o.data=.dict xs ep)(hq:∀(R:Bool->ax->Prop),R true s->wpAny (model X.prog X.w) A (eqIsQuiet 8 u) R E s)
  (hs:∀z t,u=.str z t->k=.inr z) (kY:∀(j:Nat) (x:DictEntry) (e:TK×V×V) z t,xs[j]?=some x->es[j]?=some e->x.key=.str z t->e.1=.inr z) (hh:∀a (j:Nat) (x:DictEntry) (e:TK×V×V),u=.ref a->xs[j]?=some x->es[j]?=some e->x.key=u->e.1=k)
  (q0:(∀(j:Nat) (e:TK×V×V),es[j]?=some e->e.1≠k)->Q none s) (q1:∀(j:Nat) (e:TK×V×V),es[j]?=some e->e.1=k->Q (some j) s) :
  wpAny (model X.prog X.w) A (dictFind d u (k.hash X.w)) Q E s:=by
 have walk:=UL D g1 g2 q0 q1;have stored:∀v∈(ny xs (k.hash X.w)).filterMap (λi=>xs[i]?.map (·.key)),∀(R:Bool->ax->Prop),R true s->wpAny (model X.prog X.w) A (eqIsQuiet 8 v) R E s:=by
  intro v hv R hR;obtain⟨i,_,hi⟩:=wJ.mp hv;cases hx:xs[i]? with
  |none=>rw[hx] at hi;cases hi
  |some x=>
   rw[hx] at hi;obtain rfl:x.key=v:=by simpa using hi
   obtain⟨e,_,_,_,h⟩:=D.ent i x hx;exact h R hR
 have tell:∀(R:Bool->ax->Prop),R false s->wpAny (model X.prog X.w) A (tableMayTell u ((ny xs (k.hash X.w)).filterMap λi=>xs[i]?.map (·.key))) R E s:=by
  intro R hR;unfold tableMayTell;split
  .exact aX hR
  .refine ay (hq _ ?_);simp only[kH,qG,jK];refine ay (wpAny_forIn_list _ (λrest r s'=>s'=s/\r=(none,())/\∀v∈rest,∀(R:Bool->ax->Prop),R true s->wpAny (model X.prog X.w) A (eqIsQuiet 8 v) R E s) _ ?_ ?_ _ _ ⟨rfl,rfl,stored⟩)
   .rintro x rest r s' ⟨rfl,rfl,hr⟩;refine ay (hr x (by simp) _ ?_)
    simp only[kH,qG,jK];exact aX ⟨rfl,rfl,λv hv=>hr v (by simp[hv])⟩
   .rintro r s' ⟨rfl,rfl,_⟩;exact aX hR
 have tell2:∀(R:Bool->ax->Prop),R false s->wpAny (model X.prog X.w) A (if((ny xs (k.hash X.w)).filterMap (λi=>xs[i]?.map (·.key)) == [u])=true then pure false else tableMayTell u ((ny xs (k.hash X.w)).filterMap λi=>xs[i]?.map (·.key))) R E s:=by
  intro R hR;split
  .exact aX hR
  .exact tell R hR
 have fin:∀(i:Nat) (x:DictEntry) (e:TK×V×V),xs[i]?=some x->es[i]?=some e->iX X.w e x->(x.hash == k.hash X.w)=false->e.1≠k:=λi x e _ _ he hf ek=>by
  rw[he.1,ek] at hf;simp at hf
 unfold dictFind
 (try with_reducible refine ju ?_);refine ay (wpAny_dictEntries g1 g2 ?_)
 dsimp only;by_cases jC:((u::(ny xs (k.hash X.w)).filterMap λi=>xs[i]?.map (·.key)).all carriedByValue)=true
 .rw[bM jC];split;next z t=>
   split;next KY=>
    unfold foundByValue;cases hf:xs.findIdx? (λe=>e.key.isStr z) with
    |none=>
     refine aX (q0 λj e he ek=>?_)
     obtain⟨x,x1,x2⟩:=D.ents j e he;have n1:=Array.findIdx?_eq_none_iff.mp hf x (Array.mem_of_getElem? x1);have e2:=x2.2.1;have n2:isExactStrKey x.key=true:=by
      have h:=Array.all_eq_true.mp KY j (A1.mp x1).1;rw[(A1.mp x1).2] at h;exact h
     cases hk:x.key with
     |str z2 t2=>
      have e3:=kY j x e z2 t2 x1 he hk;rw[ek,hs z t rfl] at e3;cases e3;rw[hk] at n1;simp[Value.isStr] at n1
     |_=>rw[hk] at n2;cases n2
    |some i=>
     obtain⟨l7,hi,_⟩:=Array.findIdx?_eq_some_iff_getElem.mp hf;obtain⟨e,e1,e2,eq,_⟩:=D.ent i xs[i] (sW l7);have ek:e.1=k:=by
      cases hk:xs[i].key with
      |str z2 t2=>
       rw[hk] at hi;have:z2=z:=by simpa[Value.isStr] using hi
       subst this;rw[kY i _ e z2 t2 (sW l7) e1 hk,hs z2 t rfl]
      |_=>rw[hk] at hi;simp[Value.isStr] at hi
     simp only[sW l7];refine ay (wpAny_dictEpoch g1 g2 (ay (eq _ (ay (wpAny_dictEpoch g1 g2 ?_)))));rw[bc (by simp),oH ek]
     exact ay (wpAny_rule (aX (q1 i e e1 ek)))
   next=>exact walk
  next=>exact walk
 .rw[bc jC];have Dv:∀z t,u=.str z t->¬(xs.all λe=>isExactStrKey e.key)=true:=by
   intro z t hu hx;refine jC (jJ.mpr λv hv=>?_)
   rcases y0a.mp hv with rfl|hv
   .rw[hu];rfl
   .obtain⟨i,_,hi⟩:=wJ.mp hv;cases tP:xs[i]? with
    |none=>rw[tP] at hi;cases hi
    |some x=>
     rw[tP] at hi;obtain rfl:x.key=v:=by simpa using hi
     have h:=Array.all_eq_true.mp hx i (A1.mp tP).1;rw[(A1.mp tP).2] at h;cases hk:x.key with
     |str _ _=>rfl
     |_=>rw[hk] at h;cases h
  have wj:∀a,u=.ref a->¬(xs.any λe=>e.key == u&&e.hash != k.hash X.w)=true:=by
   intro a hu hx;rw[Array.any_eq_true] at hx;obtain⟨i,hi,hc⟩:=hx;rw[iW,beq_iff_eq,bne_iff_ne] at hc;obtain⟨e,e1,e2,_⟩:=D.ent i xs[i] (sW hi);have:=hh a i _ e hu (sW hi) e1 hc.1;exact hc.2 (by rw[e2.1,this])
  have KG:u=idv u:=rfl;refine(λ(key:?P)=>?main) ?k
  case main=>
   rw(occs:=.pos [1]) [KG];split
   .rename_i z t hz
    rw[bc (Dv z t hz)];rw(occs:=.pos [1]) [KG];split
    .rename_i a ha
     rw[bc (wj a ha)];exact key
    .exact key
   .rw(occs:=.pos [1]) [KG];split
    .rename_i a ha
     rw[bc (wj a ha)];exact key
    .exact key
  refine(λ(qh:?P2)=>?Dk) ?k2
  case Dk=>
   refine UJ ?_ ?_
   .refine ay (aX ?_);exact qh
   .refine ay (tell _ ?_);exact qh
  all_goals (
   show wpAny _ _ (if(false&&_)=true then _ else _) _ _ _
   rw[bc (by rw[Bool.false_and];exact sR)]
   refine ay (wpAny_forIn_list _ (λrest b s'=>s'=s/\∃hit done,b=(none,hit)/\ny xs (k.hash X.w)=done++rest/\((hit=none/\∀(j:Nat) (e:TK×V×V),j∈done->es[j]?=some e->e.1≠k)\/∃(j:Nat) (e:TK×V×V),hit=some j/\j∈done/\es[j]?=some e/\e.1=k)) _ ?_ ?_ _ _
    ⟨rfl,none,[],rfl,rfl,.inl ⟨rfl,λ_ _ m=>by cases m⟩⟩)
   .rintro i rest b s' ⟨rfl,hit,done,rfl,hd,hH⟩;obtain⟨x,x1,x2⟩:=mm.mp (show i∈ny xs (k.hash X.w) by rw[hd];simp)
    obtain⟨e,e1,e2,eq,_⟩:=D.ent i x x1;have hni:i∉done:=λm=>by
     have:=UK (xs:=xs) (h:=k.hash X.w);rw[hd] at this;exact(mH.mp this).2.2 i m i (by simp) rfl
    simp only[x1];rw[bM (by rw[x2];simp)]
    refine ay (wpAny_dictEpoch g1 g2 (ay (eq _ (ay (wpAny_dictEpoch g1 g2 ?_)))));rw[bc (by simp)]
    by_cases ek:e.1=k
    .rw[oH ek];rcases hH with⟨rfl,tN⟩|⟨j,f,rfl,jd,jf,fk⟩
     .first|rw[bM rfl]|skip
      simp only[wO,qG,jK];first|refine ay (aX ?_)|skip
      refine ay (wpAny_rule ?_);split
      .exact aX (aX (q1 i e e1 ek))
      .exact aX ⟨rfl,some i,done++[i],rfl,by simp[hd],.inr ⟨i,e,rfl,by simp,e1,ek⟩⟩
     .exact cO (D.uniq i j e f e1 jf ek fk) λz=>hni (by rw[z];exact jd)
    .rw[sX ek];have nx:(hit=none/\∀(j:Nat) (e:TK×V×V),j∈done++[i]->es[j]?=some e->e.1≠k)\/∃(j:Nat) (e:TK×V×V),hit=some j/\j∈done++[i]/\es[j]?=some e/\e.1=k:=by
      rcases hH with⟨h0,tN⟩|⟨j,f,h0,jd,jf,fk⟩
      .refine .inl ⟨h0,λj f m hf=>?_⟩
       rcases iQ.mp m with m|m
       .exact tN j f m hf
       .simp at m;subst m;rw[e1] at hf;cases hf;exact ek
      .exact .inr ⟨j,f,h0,by simp[jd],jf,fk⟩
     simp only[qG,jK];refine ay (wpAny_rule ?_);first|rw[bc (by simp)]|skip
     first
      |exact aX ⟨rfl,hit,done++[i],rfl,by simp[hd],nx⟩
      |exact ay (aX (aX ⟨rfl,hit,done++[i],rfl,by simp[hd],nx⟩))
   .rintro b s' ⟨rfl,hit,done,rfl,hd,hH⟩;rcases hH with⟨rfl,tN⟩|⟨j,f,rfl,jd,jf,fk⟩
    .refine aX (q0 λj e he ek=>tN j e ?_ he ek)
     have:=D.ny he ek;rw[hd] at this;simpa using this
    .exact aX (q1 j f jf fk))
end
end
variable{k:TK}{y:V}{o:ak V}{Q:ai->ax->Prop}{H':Hp}
noncomputable def jI(es:List (TK×V×V))(k:TK):ak V:=(es.find? λe=>decide (e.1=k)).map (·.2.2)
noncomputable def du:List (TK×V×V)->TK->V->V->List (TK×V×V)
 |[],k,y,v=>[(k,y,v)]
 |e::es,k,y,v=>if e.1=k then(e.1,e.2.1,v)::es else e::du es k y v
noncomputable def qk(es:List (TK×V×V))(k:TK)(ep:Nat):Nat:=if(es.any λe=>decide (e.1=k))=true then ep else ep+1
def hV(K:aL)(H:Hp)(a:aj)(y:V)(r:ak V):Prop:=∃es ep k,H a=some (.dG es ep)/\aZ K H (es.map (·.2.1)) (es.map (·.1.d))/\aZ K H [y] [k.d]/\k.ok 8=true/\r=jI es k
def xl(K:aL)(H:Hp)(a:aj)(y v:V)(H':Hp):Prop:=∃es ep k,H a=some (.dG es ep)/\aZ K H (es.map (·.2.1)) (es.map (·.1.d))/\aZ K H [y] [k.d]/\k.ok 8=true/\es.length<sizeLine/\H'=upd H a (.dG (du es k y v) (qk es k ep))
def X9{j:TK}(e:k.d=j.d)(h:k.ok 8=true):k=j:=by
 have h1:=Jv k j;rw[<-e,BE 8 (Ag 8 h)] at h1
 lia
section
variable{X:Cx}{aa:List (aj×Obj)}{Z:St}{H:Hp}
def PL{z:Str}{t:Tok}(r:aZ X.K H [y] [k.d])(ru:RelV y (.str z t)):k=.inr z:=by
 cases k with
 |inl i=>simp only[TK.d] at r;cases r with|flat q _=>cases q;obtain⟨t,e⟩:=ru;cases e
 |inr i=>simp only[TK.d] at r;cases r with|flat q _=>cases q;obtain⟨t,e⟩:=ru;cases e;rfl
 |tp l=>simp only[TK.d] at r;cases r with|flat q _=>cases q|tup q _ _=>cases ru
 |aI=>simp only[TK.d] at r;cases r with|flat q _=>cases q;cases ru
def PM{a:aj}(ru:RelV y (.ref a)):y=.ref a:=by
 cases y with
 |ref b=>cases ru;rfl
 |aI=>cases ru
 |bl _=>cases ru
 |ty _=>cases ru
 |_=>obtain⟨t,e⟩:=ru;cases e
section
variable{A:cN}{E:ai->ax->Prop}{s:ax}{d:aj}{es:List (TK×V×V)}{k:TK}{y v:V}{u r:ai}
def JI{o:Obj}{xs:Array DictEntry}{ep:Nat}{Q:ak Nat->ax->Prop}(I:Inv X aa Z H s)(g1:s.heap.get? d=some o)(g2:o.data=.dict xs ep)(g3:Paired (iX X.w) es xs.toList)(g4:(es.map (·.1)).Nodup)
  (rk:aZ X.K H (es.map (·.2.1)) (es.map (·.1.d))) (ry:aZ X.K H [y] [k.d]) (ok:k.ok 8=true) (ru:RelV y u) (hu:A.units+8<cLine)
  (q0:(∀(j:Nat) (e:TK×V×V),es[j]?=some e->e.1≠k)->Q none s) (q1:∀(j:Nat) (e:TK×V×V),es[j]?=some e->e.1=k->Q (some j) s):wpAny (model X.prog X.w) A (dictFind d u (k.hash X.w)) Q E s:=by
 have at':∀(j:Nat) (x:DictEntry) (e:TK×V×V),xs[j]?=some x->es[j]?=some e->iX X.w e x/\aZ X.K H [e.2.1] [e.1.d]:=by
  intro j x e hx he;obtain⟨e',e1,e2⟩:=Bv j g3 (by rw[vy];exact hx)
  rw[he] at e1;cases e1;obtain⟨v,v1,v2⟩:=rk.get (i:=j) (d:=e.1.d) (by rw[dR,he];rfl)
  simp_all
 refine VY (e3k I g3 g4 rk ry ok ru hu) g1 g2 (λR hR=>N0 8 I ry ok ru hR) (λz t e=>PL ry (by rw[<-e];exact ru)) (λj x e z t hx he hk=>?_) (λa j x e sf hx he hk=>?_) q0 q1
 .obtain⟨g,r'⟩:=at' j x e hx he;exact PL r' (by rw[<-hk];exact g.2.1)
 .obtain⟨g,r'⟩:=at' j x e hx he;have h1:=g.2.1;rw[hk,sf] at h1;rw[sf] at ru;rw[PM h1] at r';rw[PM ru] at ry;exact X9 (FX I 8 8 r' ry (Ag 8 g.2.2.2) (Ag 8 ok)) g.2.2.2
def UM(h:∀(j:Nat) (e:TK×V×V),es[j]?=some e->e.1≠k):jI es k=none:=by
 unfold jI;rw[Mv.mpr λe m z=>?_,Option.map_none]
 obtain⟨j,hj⟩:=zz.mp m;exact h j e hj (sY z)
def UN(hn:(es.map (·.1)).Nodup){j:Nat}{e:TK×V×V}(he:es[j]?=some e)(ek:e.1=k):jI es k=some e.2.2:=by
 induction es generalizing j with
 |nil=>simp at he
 |cons x es ih=>
  rw[cU,qp] at hn;unfold jI;rw[A4];cases j with
  |zero=>
   simp only[List.getElem?_cons_zero,Option.some.injEq] at he;subst he;rw[oH ek];rfl
  |succ j=>
   simp only[List.getElem?_cons_succ] at he;have ne:¬x.1=k:=λz=>hn.1 (by rw[z,<-ek];exact iS.mpr ⟨e,sU he,rfl⟩)
   rw[sX ne];exact ih hn.2 he
def IM{Q:ak ai->ax->Prop}(hu:A.units+8<cLine)(I:Inv X aa Z H s)(g:hV X.K H d y o)(ru:RelV y u)(h:∀w t,iA o w->Q w { s with toks:=t}):
  wpAny (model X.prog X.w) A (dictGet d u) Q E s:=by
 obtain⟨es,ep,k,hd,rk,ry,ok,rfl⟩:=g;obtain⟨_,_,ob,xs,g1,_,g2,g3,g4⟩:=(show bf X.prog X.w H s.heap d (.dG es ep) from I.bw d _ hd);unfold dictGet
 (try with_reducible refine ju ?_);refine ay (Ox 8 I ry ok ru hu λt=>ay (JI (I.tok t) g1 g2 g3 g4 rk ry ok ru hu (λq0=>?_) (λj e he ek=>?_)))
 .exact aX (h none t (by rw[UM q0];exact sZ))
 .obtain⟨x,x1,x2⟩:=Bw j g3 he;refine ay (wpAny_dictEntries (s:={ s with toks:=t}) g1 g2 (aX ?_));rw[<-vy,x1];exact h (some x.val) t (by rw[UN g4 he ek];exact x2.2.2.1)
def hV.ty(I:Inv X aa Z H s)(g:hV X.K H d y o):s.TypeIs (.ref d) "dict"/\(d == sysModules)=false:=by
 obtain⟨es,ep,k,hd,_⟩:=g;obtain⟨_,z,ob,xs,g1,g5,_⟩:=(show bf X.prog X.w H s.heap d (.dG es ep) from I.bw d _ hd);exact⟨⟨ob,g1,g5.1⟩,z⟩
def N1(hu:A.units+9<cLine)(I:Inv X aa Z H s)(g:hV X.K H d y (some v))(ru:RelV y u)(h:∀w' s',Inv X aa Z H s'->RelV v w'->Q w' s'):wpAny (model X.prog X.w) A (getItem (.ref d) u) Q E s:=by
 have hT:=(g.ty I).1;unfold getItem
 (try with_reducible refine ju ?_);refine ay (wpAny_sequenceKey hT (by decide) (ay (wpAny_callSpecial?_slot (name:=Str.ofString "__getitem__") hT slot_dict_getitem (wpAny_call_entry slot_dict_getitem hT entry_dict_getitem ?_ (args_dict_getitem _ _)))))
 show wpAny _ _ (dictGet d u >>= _) _ _ s;refine ay (IM (by show A.units+1+8<cLine;lia) I g ru λw t mr=>?_)
 obtain⟨w',rfl,r'⟩:=iA.some_of mr;exact aX ⟨w',rfl,aX (h w' _ (I.tok t) r')⟩
def Nz{Q:Bool->ax->Prop}(hu:A.units+9<cLine)(I:Inv X aa Z H s)(g:hV X.K H d y o)(ru:RelV y u)(h:∀s',Inv X aa Z H s'->Q o.isSome s'):wpAny (model X.prog X.w) A (contains (.ref d) u) Q E s:=by
 obtain⟨hT,hd⟩:=g.ty I;unfold contains
 (try with_reducible refine ju ?_);refine ay (wpAny_specialOf hT slot_dict_contains.lookup ?_)
 dsimp only;rw[bc (by rw[beq_builtin_none];exact sR)]
 refine ay (wpAny_callSpecialUnlessNone?_slot (name:=Str.ofString "__contains__") hT slot_dict_contains (wpAny_call_entry slot_dict_contains hT entry_dict_contains ?_ (args_dict_contains _ _)));show wpAny _ _ (dictGet d u >>= _) _ _ s;refine ay (IM (by show A.units+1+8<cLine;lia) I g ru λw t mr=>?_)
 have e:=mr.qf;cases w with
 |some w=>
  show wpAny _ _ (ret (.bool true)) _ _ _;refine aX ⟨_,rfl,wpAny_truthy_bool ?_⟩;have:=h _ (I.tok t)
  simp_all
 |none=>
  show wpAny _ _ (Builtin.Dict.pendingKey? d u >>= _) _ _ _;refine ay (wpAny_pendingKey_other hd (aX ⟨_,rfl,wpAny_truthy_bool ?_⟩));have:=h _ (I.tok t)
  simp_all
def Ml(hu:A.units+9<cLine)(I:Inv X aa Z H s)(g:hV X.K H d y o)(ru:RelV y u)(h:∀s',Inv X aa Z H s'->Q (.bool o.isSome) s'):wpAny (model X.prog X.w) A (compareOp .In u (.ref d)) Q E s:=
 ay (Nz hu I g ru λs' I'=>aX (h s' I'))
def X_(hu:A.units+9<cLine)(I:Inv X aa Z H s)(g:hV X.K H d y o)(ru:RelV y u)(h:∀s',Inv X aa Z H s'->Q (.bool (!o.isSome)) s'):wpAny (model X.prog X.w) A (compareOp .NotIn u (.ref d)) Q E s:=
 ay (Nz hu I g ru λs' I'=>aX (h s' I'))
theorem E9(k:TK)(y v:V):∀es:List (TK×V×V),(du es k y v).length<=es.length+1
 |[]=>by simp[du]
 |e::es=>by
  unfold du;have:=E9 k y v es;split <;> simp <;> lia
theorem Oy:∀{es:List (TK×V×V)},(∀(j:Nat) (e:TK×V×V),es[j]?=some e->e.1≠k)->du es k y v=es++[(k,y,v)]
 |[],_=>rfl
 |e::es,h=>by
  unfold du;rw[bc (h 0 e rfl),Oy λj x hx=>h (j+1) x (by simpa using hx)]
  rfl
def Ya{w:cD}{xs:List DictEntry}(g3:Paired (iX w) es xs)(ry:RelV y u)(rv:RelV v r)(ok:k.ok 8=true):Paired (iX w) (es++[(k,y,v)]) (xs++[⟨k.hash w,u,r⟩]):=by
 induction g3 with
 |nil=>exact .cons ⟨rfl,ry,rv,ok⟩ .nil
 |cons a _ ih=>exact .cons a ih
theorem PN{w:cD}:∀{es:List (TK×V×V)} {xs:List DictEntry} {j:Nat} {e:TK×V×V},Paired (iX w) es xs->(es.map (·.1)).Nodup->es[j]?=some e->e.1=k->RelV v r->
  Paired (iX w) (du es k y v) (xs.modify j λx=>{ x with val:=r})/\(du es k y v).map (·.1)=es.map (·.1)
 |_,_,_,_,.nil,_,he,_,_=>by simp at he
 |_::es,_::xs,0,e,.cons a t,hn,he,ek,rv=>by
  simp only[List.getElem?_cons_zero,Option.some.injEq] at he;subst he;unfold du;rw[bM ek];exact⟨.cons ⟨a.1,a.2.1,rv,a.2.2.2⟩ t,rfl⟩
 |x::es,_::xs,j+1,e,.cons a t,hn,he,ek,rv=>by
  simp only[List.getElem?_cons_succ] at he;rw[cU,qp] at hn;have ne:¬x.1=k:=λz=>hn.1 (by rw[z,<-ek];exact iS.mpr ⟨e,sU he,rfl⟩)
  unfold du;rw[bc ne];have ih:=PN t hn.2 he ek rv;exact⟨.cons a ih.1,by rw[cU,cU,ih.2]⟩
def IP{Q:Unit->ax->Prop}(hu:A.units+8<cLine)(I:Inv X aa Z H s)(g:xl X.K H d y v H')(ru:RelV y u)(rv:RelV v r)(h:∀s',Inv X aa Z H' s'->Q () s'):
  wpAny (model X.prog X.w) A (dictSet d u r) Q E s:=by
 obtain⟨es,ep,k,hd,rk,ry,ok,hl,rfl⟩:=g;obtain⟨_,z,ob,xs,g1,g5,g2,g3,g4⟩:=(show bf X.prog X.w H s.heap d (.dG es ep) from I.bw d _ hd);have hz:xs.size<=sizeLine:=by have:=Paired.length g3;simp at this;lia
 have GZ:(du es k y v).length<=sizeLine:=by have:=E9 k y v es;lia
 unfold dictSet
 (try with_reducible refine ju ?_);refine ay (Ox 8 I ry ok ru hu λt=>?_)
 unfold dictSetHashed
 (try with_reducible refine ju ?_);refine ay (JI (I.tok t) g1 g2 g3 g4 rk ry ok ru hu (λq0=>?_) (λj e he ek=>?_))
 .have RK:du es k y v=es++[(k,y,v)]:=Oy q0;have Ke:qk es k ep=ep+1:=bc (by
   rw[Mw];rintro⟨e,m,q⟩;obtain⟨j,hj⟩:=zz.mp m;exact q0 j e hj (sY q))
  rw[Ke] at h;refine ay (wpAny_rule (wpAny_updateDictKeys (hz:=hz) (s:={ s with toks:=t}) g1 g2 (h _ ?_)));refine Js (I.tok t) (by rw[hd];exact sZ) (Heap.SameBut.update ..) ⟨_,qF _ g1 (Obj.isFreed_of_dict (Obj.data_mapDictKeys g2 _))⟩ ⟨GZ,z,_,_,qF _ g1 (Obj.isFreed_of_dict (Obj.data_mapDictKeys g2 _)),g5.mapDictKeys _,Obj.data_mapDictKeys g2 _,?_,?_⟩
  .rw[RK,Array.toList_push];exact Ya g3 ru rv ok
  .rw[RK,fV,mH];refine⟨g4,by simp,λa m b m' e=>?_⟩
   simp at m';subst m';obtain⟨x,mx,rfl⟩:=iS.mp m;obtain⟨j,hj⟩:=zz.mp mx;exact q0 j x hj e
 .have em:=PN (y:=y) g3 g4 he ek rv;have Ke:qk es k ep=ep:=bM (Mw.mpr ⟨e,sU he,oH ek⟩);rw[Ke] at h;refine ay (wpAny_rule (ay (wpAny_updateDict (s:={ s with toks:=t}) g1 g2 (wpAny_point (h _ ?_)))));refine Js (I.tok t) (by rw[hd];exact sZ) (Heap.SameBut.update ..) ⟨_,qF _ g1 (Obj.isFreed_of_dict (Obj.data_mapDict g2 _))⟩ ⟨GZ,z,_,_,qF _ g1 (Obj.isFreed_of_dict (Obj.data_mapDict g2 _)),g5.mapDict _,Obj.data_mapDict g2 _,?_,?_⟩
  all_goals simp_all
def UO{Q:Unit->ax->Prop}(hu:A.units+9<cLine)(I:Inv X aa Z H s)(g:xl X.K H d y v H')(ru:RelV y u)(rv:RelV v r)(h:∀s',Inv X aa Z H' s'->Q () s'):
  wpAny (model X.prog X.w) A (setItem (.ref d) u r) Q E s:=by
 have hT:s.TypeIs (.ref d) "dict":=by
  obtain⟨es,ep,k,hd,rk,ry,ok,_⟩:=g;exact(hV.ty I ⟨es,ep,k,hd,rk,ry,ok,rfl⟩).1
 unfold setItem
 (try with_reducible refine ju ?_);refine ay (wpAny_sequenceKey hT (by decide) (ay (wpAny_callSpecial?_slot (name:=Str.ofString "__setitem__") hT slot_dict_setitem (wpAny_call_entry slot_dict_setitem hT entry_dict_setitem ?_ (args_dict_setitem _ _ _)))))
 show wpAny _ _ (Builtin.Dict.notOrdered "__setitem__" ⟨[.ref d,u,r],[]⟩ >>= _) _ _ s;refine ay (wpAny_notOrdered_dict hT ?_);show wpAny _ _ (dictSet d u r >>= λz=>_) _ _ s
 exact ay (IP (by show A.units+1+8<cLine;lia) I g ru rv λs' I'=>aX ⟨.none,rfl,aX (h s' I')⟩)
def e3l(hu:A.units+9<cLine)(I:Inv X aa Z H s)(g:hV X.K H d y o)(ru:RelV y u)(h:∀w' s',Inv X aa Z H s'->RelV (o.getD .aI) w'->Q w' s'):
  wpAny (model X.prog X.w) A (call (.builtin "dict.get") [.ref d,u]) Q E s:=by
 obtain⟨hT,hd⟩:=g.ty I;refine wpAny_call_entry PySem.F.slot_dict_get hT PySem.F.entry_dict_get ?_ (PySem.F.args_dict_get_2 _ _);show wpAny _ _ (dictGet d u >>= _) _ _ s;refine ay (IM (by show A.units+1+8<cLine;lia) I g ru λw t mr=>?_)
 cases o with
 |none=>
  cases w with
  |none=>
   show wpAny _ _ (Builtin.Dict.missed d u >>= _) _ _ _;exact ay (wpAny_missed_other hd (aX ⟨.none,rfl,h .none _ (I.tok t) rfl⟩))
  |some w=>exact mr.elim
 |some v'=>
  cases w with
  |none=>exact mr.elim
  |some w=>exact aX ⟨w,rfl,h w _ (I.tok t) mr⟩
end
end
section
variable{X:Cx}
def sH(K:aL):R2:=λx y H Q=>∃l b xs zs,x=.ref l/\y=.ref b/\c8 K H l xs/\c8 K H b zs/\xs.length+zs.length<=sizeLine/\∀p,H p=none->Q (.ref p) (upd H p (.lst (xs++zs)))
def Yb:dF X (binaryOp .Add) (sH X.K):=by
 intro aa s Z H x y v u Q I rx ry h;obtain⟨l,b,xs,zs,rfl,rfl,hH,hB,hz,q⟩:=h;cases rx;cases ry;obtain⟨aG,r,pl,_⟩:=I.list hH;obtain⟨k6,r2,Lu,_⟩:=I.list hB;have hl:=r.length;have GZ:=r2.length;obtain⟨⟨cls,dd,data,sl⟩,ho,hc,n,hd⟩:=id pl.isList;obtain⟨⟨cls2,Zo,data2,Hi⟩,R4,rX,n2,hd2⟩:=id Lu.isList;simp only at hc hd rX hd2;subst hc hd rX hd2;have ea:aG.toArray++k6.toArray=(aG++k6).toArray:=by simp
 refine concat_meets ⟨_,ho,rfl⟩ ⟨_,R4,rfl⟩ noFill_list_add seq_list_add PySem.F.slot_list_add PySem.F.entry_list_add (PySem.F.args_list_add_2 _ _) (list_addW l b aG.toArray k6.toArray n n2 dd Zo sl Hi (by simp only[fm];lia)) ⟨ho,R4,?_⟩
 rw[ea];exact⟨.ref _,_,I.Lb (t':=s.toks) (r.append r2) (by rw[dw];lia),rfl,q _ I.fresh⟩
def VZ(K:aL)(hK:X.K=K:=by rfl):dF X (binaryOp .Add) (sH K):=hK ▸ Yb
end
variable{n:Nat}
instance (z:Str) (n:Int):Decidable (MulOk z n):=by unfold MulOk;infer_instance
abbrev rd(x:D):Rv:=.v (.d x)
section
variable{K:aL}{k:Kn}{H:Hp}{x:V}{xs:List V}{d e:D}{vs:List V}{ds:List D}
def ag.tU(h:ag K k vs ds)(ok:ds.all (eC n)=true):ag K ⟨k.F,[],[]⟩ vs ds:=by
 induction h generalizing n with
 |nil=>exact .nil
 |flat e _ ih=>rw[pI,iW] at ok;exact .flat e (ih ok.2)
 |ref _ _ _=>rw[pI,iW] at ok;obtain⟨ok,_⟩:=ok;cases n <;> cases ok
 |lst e _ _ i1 i2=>
  rw[pI,iW] at ok;obtain⟨m,rfl,o⟩:=BQ ok.1;exact .lst e (i1 o) (i2 ok.2)
 |tup e _ _ i1 i2=>
  rw[pI,iW] at ok;obtain⟨m,rfl,o⟩:=BR ok.1;exact .tup e (i1 o) (i2 ok.2)
 |av _ _ _ _ _ _ _ _=>rw[pI,iW] at ok;obtain⟨ok,_⟩:=ok;cases n <;> cases ok
theorem Top.tU{n:Nat}(h:Top K k H x d)(le:az k.F H)(ok:eC n d=true):aZ K H [x] [d]:=ag.tU (k:=k.all H) (n:=n) (h.rep le) (by rw[pI,ok];rfl)
def Top.Sl(r:ag K k vs ds)(le:az k.F H)(ok:ds.all (eC n)=true):aZ K H vs ds:=ag.tU (k:=k.all H) (n:=n) (r.all le) ok
mutual
theorem sr:∀{v:V} (j:TK),ag K k [v] [j.d]->ag K ⟨k.F,[],[]⟩ [v] [j.d]
 |_,.inl i,h=>by simp only[TK.d] at h ⊢;rw[h.bo rfl];exact .flat rfl .nil
 |_,.inr x,h=>by simp only[TK.d] at h ⊢;rw[h.bo rfl];exact .flat rfl .nil
 |_,.aI,h=>by simp only[TK.d] at h ⊢;rw[h.bo rfl];exact .flat rfl .nil
 |_,.tp l,h=>by
  simp only[TK.d] at h ⊢;obtain⟨a,ws,rfl,q,r⟩:=h.isTup;exact .tup q (o_ l r) .nil
theorem o_:∀{vs:List V} (l:List TK),ag K k vs (TK.dl l)->ag K ⟨k.F,[],[]⟩ vs (TK.dl l)
 |_,[],h=>by simp only[TK.dl] at h ⊢;rw[h.eR];exact .nil
 |_,j::l,h=>by
  simp only[TK.dl] at h ⊢;obtain⟨w,us,rfl,h1,h2⟩:=h.ck;exact .cons (sr j h1) (o_ l h2)
end
def FY{es:List (TK×V×V)}{kvs:List (TK×D)}(q:es.map (·.1)=kvs.map (·.1))(r:ag K k (es.map (·.2.1)) (kvs.map (·.1.d)))(le:az k.F H):aZ K H (es.map (·.2.1)) (es.map (·.1.d)):=by
 have e1:kvs.map (·.1.d)=TK.dl (kvs.map (·.1)):=by rw[B6,eU];rfl
 have e2:es.map (·.1.d)=TK.dl (es.map (·.1)):=by rw[B6,eU];rfl
 rw[e1,<-q] at r;rw[e2];exact o_ (k:=k.all H) _ (r.all le)
def PQ(h:Paired (Top K k H) xs [d]):∃x,xs=[x]/\Top K k H x d:=by
 cases h with
 |cons r t=>cases t;exact⟨_,rfl,r⟩
def Yc(h:Paired (Top K k H) xs [d,e]):∃x y,xs=[x,y]/\Top K k H x d/\Top K k H y e:=by
 cases h with
 |cons r t=>obtain⟨y,rfl,r'⟩:=PQ t;exact⟨_,_,rfl,r,r'⟩
end
noncomputable def o1(f:D->ak Rv):List D->ak Rv
 |[a]=>f a
 |_=>none
noncomputable def o2(f:D->D->ak Rv):List D->ak Rv
 |[a,b]=>f a b
 |_=>none
section
variable{X:Cx}{K:aL}
def tV{r:List V->Hp->VK->Prop}{f:D->ak Rv}(h:∀k H x a y Q,az k.F H->Top K k H x a->f a=some y->kR K k H y Q->r [x] H Q):b_ K r (o1 f):=λk H xs ds y Q le t e res=>by
 unfold o1 at e;split at e
 .obtain⟨x,rfl,t1⟩:=PQ t;exact h k H x _ y Q le t1 e res
 .cases e
def uU{r:List V->Hp->VK->Prop}{f:D->D->ak Rv}(h:∀k H x z a b y Q,az k.F H->Top K k H x a->Top K k H z b->f a b=some y->kR K k H y Q->r [x,z] H Q):b_ K r (o2 f):=λk H xs ds y Q le t e res=>by
 unfold o2 at e;split at e
 .obtain⟨x,z,rfl,t1,t2⟩:=Yc t;exact h k H x z _ _ y Q le t1 t2 e res
 .cases e
def uT{r:R2}{f:D->D->ak Rv}(h:∀k H x z a b y Q,az k.F H->Top K k H x a->Top K k H z b->f a b=some y->kR K k H y Q->r x z H Q):b_ K (lA r) (o2 f):=uU λk H x z a b y Q le t1 t2 e res=>⟨x,z,rfl,h k H x z a b y Q le t1 t2 e res⟩
noncomputable def xO:D->D->ak Rv
 |.int i,.int j=>some (rd (.int (i+j)))
 |.str x,.str y=>if x.length+y.length<=1000000 then some (rd (.str (x++y))) else none
 |.lst xs,.lst ys=>if xs.length+ys.length<=1000000 then some (.o (.lst (xs++ys))) else none
 |_,_=>none
def wq(K:aL):R2:=λx y H Q=>pz (λi j=>.int (i+j)) x y H Q\/(∃i j,x=.str i/\y=.str j/\i.length+j.length<=sizeLine/\Q (.str (i++j)) H)\/sH K x y H Q
def Yd(K:aL)(hK:X.K=K):dF X (binaryOp .Add) (wq K):=yW.or (oz.or (VZ K hK))
def e3m:b_ K (lA (wq K)) (o2 xO):=uT λk H x z a b y Q le t1 t2 e res=>by
 cases a with
 |int _=>cases b with
  |int _=>cases e;cases t1.flat rfl;cases t2.flat rfl;exact .inl ⟨_,_,rfl,rfl,res.flat le rfl⟩
  |_=>cases e
 |str _=>cases b with
  |str _=>
   have e:(if _ then _ else _)=_:=e
   split at e
   .cases e;cases t1.flat rfl;cases t2.flat rfl;exact .inr (.inl ⟨_,_,rfl,rfl,ml (by assumption),res.flat le rfl⟩)
   .cases e
  |_=>cases e
 |lst _=>cases b with
  |lst _=>
   have e:(if _ then _ else _)=_:=e
   split at e
   .cases e;obtain⟨a1,ws1,rfl,s1,r1⟩:=t1.lst le;obtain⟨a2,Md,rfl,s2,r2⟩:=t2.lst le;exact .inr (.inr ⟨a1,a2,ws1,Md,rfl,rfl,s1,s2,ml (by rw[r1.length,r2.length];assumption),λp hp=>res.lst le (r1.append r2) hp⟩)
   .cases e
  |_=>cases e
 |_=>cases e
noncomputable def eH(C:Int->Int->Bool)(f:Int->Int->D):D->D->ak Rv
 |.int i,.int j=>if C i j=true then some (rd (f i j)) else none
 |_,_=>none
def B7{r:R2}{C:Int->Int->Bool}{f:Int->Int->D}{g:Int->Int->V}(hf:∀i j,vL (f i j)=some (g i j))(hr:∀i j H Q,C i j=true->Q (g i j) H->r (.int i) (.int j) H Q):b_ K (lA r) (o2 (eH C f)):=uT λk H x z a b y Q le t1 t2 e res=>by
 unfold eH at e;split at e
 .split at e
  .cases e;cases t1.flat rfl;cases t2.flat rfl;exact hr _ _ _ _ (by assumption) (res.flat le (hf _ _))
  .cases e
 .cases e
noncomputable abbrev tY:Int->Int->Bool:=λ_ _=>true
def e3n:b_ K (lA (pz λi j=>.int (i - j))) (o2 (eH tY λi j=>.int (i - j))):=B7 (λ_ _=>rfl) λ_ _ _ _ _ q=>⟨_,_,rfl,rfl,q⟩
def Ye:b_ K (lA (rI wR λi j=>.int (i / j))) (o2 (eH (λ_ j=>decide (0<j/\j<1073741824)) λi j=>.int (i / j))):=B7 (λ_ _=>rfl) λi j _ _ c q=>⟨_,_,rfl,rfl,show wR i j from sY (p:=0<j/\j<1073741824) c,q⟩
def e3o:b_ K (lA (rI (λ_ j=>0<j) λi j=>.int (i%j))) (o2 (eH (λ_ j=>decide (0<j)) λi j=>.int (i%j))):=B7 (λ_ _=>rfl) λ_ _ _ _ c q=>⟨_,_,rfl,rfl,sY c,q⟩
def e3p:b_ K (lA (rI wU λi j=>.int (i^j.toNat))) (o2 (eH (λi j=>decide (0<=j/\j<=1000000/\i.natAbs<2^64)) λi j=>.int (i^j.toNat))):=B7 (λ_ _=>rfl) λi j _ _ c q=>⟨_,_,rfl,rfl,show wU i j from sY (p:=0<=j/\j<=1000000/\i.natAbs<2^64) c,q⟩
def JJ{f:Int->Int->Bool}:b_ K (lA (pz λi j=>.bl (f i j))) (o2 (eH tY λi j=>.bl (f i j))):=B7 (λ_ _=>rfl) λ_ _ _ _ _ q=>⟨_,_,rfl,rfl,q⟩
noncomputable def uQ:D->D->ak Rv
 |.int i,.int j=>if(-(2^64)<i/\i<2^64)\/(-(2^64)<j/\j<2^64) then some (rd (.int (i*j))) else none
 |.str z,.int j=>if MulOk z j then some (rd (.str (Txt.mul z j))) else none
 |_,_=>none
def wy:R2:=λx y H Q=>rI t9 (λi j=>.int (i*j)) x y H Q\/∃z n,x=.str z/\y=.int n/\MulOk z n/\Q (.str (Txt.mul z n)) H
def Yf:dF X (binaryOp .Mult) wy:=yY.or TH
def e3q:b_ K (lA wy) (o2 uQ):=uT λk H x z a b y Q le t1 t2 e res=>by
 unfold uQ at e;split at e
 .split at e
  .cases e;cases t1.flat rfl;cases t2.flat rfl;exact .inl ⟨_,_,rfl,rfl,by assumption,res.flat le rfl⟩
  .cases e
 .split at e
  .cases e;cases t1.flat rfl;cases t2.flat rfl;exact .inr ⟨_,_,rfl,rfl,by assumption,res.flat le rfl⟩
  lia
 lia
noncomputable def uS:D->ak Rv
 |.int i=>some (rd (.int (-i)))
 |_=>none
def e3r:b_ K (Lx (rU λi=>.int (-i))) (o1 uS):=tV λk H x a y Q le t e res=>by
 unfold uS at e;split at e
 .cases e;cases t.flat rfl;exact⟨_,rfl,_,rfl,res.flat le rfl⟩
 .cases e
end
end L2
namespace L2
open PySem PySem.Spec PySem.W PySem.Calls PyProof.Rows
variable{P:dc}{w:cD}{o:Expr}{to:TE}{apos bS pos:Pos}{elts:List Expr}{x1:Nat}
def fJ(es:List (TK×V×V)):Prop:=∀e∈es,∃x,e.1=.inr x/\e.2.1=.str x
def Yg{es:List (TK×V×V)}{xs:List DictEntry}(p:Paired (iX w) es xs)(h:fJ es):∃kvs:List (Str×ai),(∀x∈xs,∃k,(strKind P w).is k x.key=true/\x.hash=(strKind P w).hash k)/\Pairs (strKind P w) xs kvs/\kvs.map (λp=>TK.inr p.1)=es.map (·.1)/\Vals (es.map (·.2.2)) (kvs.map (·.2)):=by
 induction p with
 |nil=>exact⟨[],by simp,.nil,rfl,.nil⟩
 |@cons e x es xs r t ih=>
  obtain⟨kvs,h1,h2,h3,h4⟩:=ih λe m=>h e (qo _ m)
  obtain⟨z,e1,e2⟩:=h e (AW ..);obtain⟨r1,r2,r3,r4⟩:=r;rw[e2] at r2;obtain⟨t',r2⟩:=r2;have hk:(strKind P w).is z x.key=true:=by rw[r2];show Value.isStrOf z (.str z t')=true;simp[Value.isStrOf]
  refine⟨(z,x.val)::kvs,λy m=>?_,.cons hk rfl h2,by rw[cU,cU,h3,e1],.cons r3 h4⟩
  rcases y0a.mp m with rfl|m
  .exact⟨z,hk,by rw[r1,e1];rfl⟩
  .exact h1 y m
section
variable{X:Cx}{aa:List (aj×Obj)}{Z:St}{H:Hp}{s:ax}{d:aj}{es:List (TK×V×V)}{ep:Nat}
def tF(I:Inv X aa Z H s)(hd:H d=some (.dG es ep))(ht:fJ es):∃kvs,s.heap.DictAt (strKind X.prog X.w) d kvs ep/\Vals (es.map (·.2.2)) (kvs.map (·.2))/\kvs.map (λp=>TK.inr p.1)=es.map (·.1)/\kvs.length<=sizeLine/\(d == sysModules)=false:=by
 obtain⟨hz,lo,ob,xs,g1,g5,g2,g3,g4⟩:=(show bf X.prog X.w H s.heap d (.dG es ep) from I.bw d _ hd);obtain⟨kvs,h1,h2,h3,h4⟩:=Yg (P:=X.prog) g3 ht;refine⟨kvs,⟨ob,xs,g1,g5,g2,λx m=>h1 x (Mo.mpr m),h2,?_⟩,h4,h3,?_,lo⟩
 all_goals grind [List.length_map]
def BS(I:Inv X aa Z H s)(hd:H d=some (.dG es ep)):s.TypeIs (.ref d) "dict"/\∀a,Value.ref d=.ref a->∃ob,s.heap.get? a=some ob/\ob.dict=none:=
 JH (x:=.ref d) I rfl (.inr (.inr (.inl ⟨rfl,.inr (.inr ⟨es,ep,hd⟩)⟩)))
def TM{ys:List V}{kvs:List (Str×ai)}{aV:Array ai}(rv:Vals ys (kvs.map (·.2)))(h:ItemsOf (λi v=>∃k,kvs[i]?=some (k,v)) aV kvs.length):Vals ys aV.toList:=by
 have e:aV.toList=kvs.map (·.2):=by
  apply Mx;intro i;by_cases hi:i<aV.toList.length
  .have CT:i<aV.size:=by simpa using hi
   obtain⟨k,hk⟩:=h.2 i aV[i] (sW CT)
   simp_all
  .rw[wQ (by lia),wQ (by rw[bx];have:=h.1;simp at hi;lia)]
 rw[e];exact rv
def e3s(to:TE):TE:=λZ H Q=>to Z H λx H1=>∃d es ep,x=.ref d/\H1 d=some (.dG es ep)/\fJ es/\∀q,H1 q=none->Q (.ref q) (upd H1 q (.lst (es.map (·.2.2))))
def V0{p:Pos}(CS:Gl X "list")(KN:X.mg "list"=none)(ho:PE X o to)(hc:X.calm=true)
  (hs:starEach [.Call (.Attribute o "values" apos) [] [] bS] X.env=[(false,eval (.Call (.Attribute o "values" apos) [] [] bS) X.env)]:=by rfl)
  (cJ:attributeBase o "values" X.env (eval o X.env)=eval o X.env:=by rfl) (cK:(apos.endLine == bS.line)=true:=by rfl):PE X (.Call (.Name "list" p) [.Call (.Attribute o "values" apos) [] [] bS] [] pos) (e3s to):=by
 intro aa s Z H Q I h;refine Call_ (vK I CS KN oV (PyProof.Rows.callWith_type1 ?_ hs rfl));rw[hs];show wpAny _ _ (spliced ((false,eval (.Call (.Attribute o "values" apos) [] [] bS) X.env)::[])) _ _ s;refine Calls.spliced_cons (wpAny_Call_method0_late cJ cK (bL (ho aa s Z H _ I h) λv s1 hh=>?_))
 obtain⟨x,H1,I1,r1,d,es,ep,rfl,hd,ht,q⟩:=hh;cases r1;obtain⟨t1,t2⟩:=BS I1 hd;obtain⟨kvs,D1,D2,D3,D4,lo⟩:=tF I1 hd ht;refine⟨"dict","dict.values",PySem.F.plainAttrs_dict,PySem.F.slot_dict_values,PySem.F.type_dict_values,t1,t2,Calls.callWith_builtin rfl (PySem.evalArgs_none ?_)⟩;refine call_meetsIn PySem.F.slot_dict_values t1 PySem.F.entry_dict_values (PySem.F.args_dict_values_1 _) (meets_dict_values (strKind X.prog X.w) d lo) ⟨⟨kvs,D1.dictOf⟩,?_⟩;refine Calls.spliced_nil ?_;refine kdl_call (kdl_values (knd:=strKind X.prog X.w) (r:=s1.heap.objs.size) (d:=d) (kvs:=kvs) (ep:=ep)) (I1.ok.hd hc) ⟨⟨_,iR _ rfl,rfl,rfl⟩,D1.push _⟩ D4 λh' tk aV c kp hg hi=>?_
 have sz:(s1.heap.push { cls:=.type "dict_values",data:=.fields #[.ref d]}).objs.size=s1.heap.objs.size+1:=by simp[Heap.push]
 rw[show({ s1 with heap:=s1.heap.push { cls:=.type "dict_values",data:=.fields #[.ref d]}}:ax).heap.objs.size=s1.heap.objs.size+1 from sz] at hg ⊢;have rv:=TM D2 hi;refine⟨.ref (s1.heap.objs.size+1),_,I1.laid (t':=tk) (λb o e=>kp b o (cZ _ e)) (vx _) (show bf X.prog X.w _ h' _ (.lst (es.map (·.2.2))) from⟨?_,aV.toList,c,rv,by simpa using hg⟩),rfl,q _ (I1.bw.fresh (vx _))⟩
 grind [List.length_map]
noncomputable def wc:TK->Bool
 |.inr _=>true
 |_=>false
theorem QC{K:fI}{F:Kn}:∀{ws:List (TK×V×V)} {ks:List TK},ws.map (·.1)=ks->ag K F (ws.map (·.2.1)) (ks.map (·.d))->ks.all wc=true->fJ ws
 |[],_,_,_,_=>λe m=>nomatch m
 |w::ws,[],e,_,_=>by cases e
 |w::ws,k::ks,e,r,a=>by
  rw[cU,List.cons.injEq] at e;obtain⟨e1,e2⟩:=e;rw[pI,iW] at a;rw[cU,cU] at r;intro y m;rcases y0a.mp m with rfl|m
  .cases k with
   |inr x=>
    refine⟨x,e1,?_⟩;have:=r.inv.1;obtain⟨y1,y2,y3⟩:=y;dsimp only at this ⊢;cases this with
    |flat z _=>cases z;rfl
   |inl _=>cases a.1
   |tp _=>cases a.1
   |aI=>cases a.1
  .exact QC e2 r.inv.2 a.2 y m
end
def SU:entryFor table "dict_itemiterator.__iter__"=some Builtin.«dict_keyiterator.__iter__»:=
 entryFor_alias (id':="dict_keyiterator.__iter__") (by kernel_rfl) rfl (by decide +kernel) (by kernel_rfl)
section
variable{prog:dc}{w:cD}{A:cN}{E:ai->ax->Prop}{s:ax}{it d:aj}{kvs:List (Str×ai)}{ep:Nat}
def M9{i n ep:Nat}{ok ov:ai}{Q:ai->ax->Prop}(hit:IsItemIter s.heap it d i n ep ok ov)(h:Q (.ref it) s):wpAny (model prog w) A (pyIter (.ref it)) Q E s:=by
 have hT:s.TypeIs (.ref it) "dict_itemiterator":=⟨_,hit,rfl⟩;refine wpAny_pyIter_slot hT PySem.F.slot_dict_itemiterator_iter (wpAny_call_entry PySem.F.slot_dict_itemiterator_iter hT SU ?_ (PySem.F.args_dict_itemiterator_iter_1 _));show wpAny _ _ (ret (.ref it)) _ _ s;exact aX ⟨_,rfl,"dict_itemiterator",_,hT,PySem.F.slot_dict_itemiterator_next.lookup,h⟩
def To(hh:A.handled=none)(it d:aj)(fS:d≠it)(kvs:List (Str×ai))(ep:Nat):
  WalksT prog w A it [it,d] [it] kvs.length (λi vals=>∃k x key,kvs[i]?=some (k,x)/\(PySem.strKind prog w).is k key=true/\vals=#[key,x])
   (λi h=>(∃ok ov,IsItemIter h it d i kvs.length ep ok ov)/\h.DictAt (PySem.strKind prog w) d kvs ep)
   (λi T h=>(∃ok ov,IsItemIterOut h it d (i+1) kvs.length ep ok ov T)/\T≠it/\h.DictAt (PySem.strKind prog w) d kvs ep) where
 sub:=λb hb=>by simp at hb;simp[hb]
 frame:=λi h h' ⟨⟨ok,ov,a⟩,b⟩ k=>⟨⟨ok,ov,k it (by simp) _ a⟩,b.at' λo e=>k d (by simp) o e⟩
 item:=λi s Q E hi ⟨⟨ok,ov,a⟩,b⟩ hQ=>by
  obtain⟨⟨k,x⟩,hx⟩:∃p,kvs[i]?=some p:=⟨kvs[i],by simp[hi]⟩
  have lt:it<s.heap.objs.size:=cT a;refine wpAny_pyNext_items_item a b hx λkey h' hk o1 o2 o3 kp=>?_
  exact hQ s.heap.objs.size #[key,x] h' s.toks ⟨k,x,key,hx,hk,rfl⟩ (bY _) ⟨_,o2,rfl,_,rfl⟩ ⟨⟨_,_,o1⟩,wI lt,b.at' λo e=>kp d o fS e⟩ λb o hb e=>kp b o (λz=>hb (by simp[z])) e
 go:=λelts k pos i T s Q E ⟨⟨ok,ov,a⟩,b,c⟩ hQ=>wpAny_letOwnedTupleGo_items a λh' a' sb=>hQ h' ⟨⟨ok,ov,a'⟩,c.at' λo e=>(sb.2 d fS).trans e⟩ λb o hb e=>(sb.2 b (λz=>hb (by simp[z]))).trans e
 apart:=λi T h ⟨_,b,_⟩=>by simpa using b
 done:=λs Q E ⟨⟨ok,ov,a⟩,b⟩ hQ=>wpAny_pyNext_items_end hh a b (by simp) λh' eb=>hQ h' s.toks λb o hb e=>eb b o (λz=>hb (by simp[z])) e
 self:=λi s Q E ⟨⟨ok,ov,a⟩,_⟩ hQ=>M9 a hQ
end
def Ep(es:List (TK×V×V))(i:Nat)(ws:List V):Prop:=∃e,es[i]?=some e/\ws=[e.2.1,e.2.2]
def TN{K:fI}{it d:aj}(fS:d≠it)(es:List (TK×V×V))(ep:Nat):
  Turn P w K (.Tuple elts x1 pos) (zE (λH=>H d=some (.dG es ep)/\fJ es) es.length (Ep es)) [it] it (λi h=>i<=es.length/\∃ok ov,IsItemIter h it d i es.length ep ok ov):=by
 refine NV (FP:=[it]) (wr:=[it]) (by simp) (λb hb=>hb) (λi h st b hb=>?_) (λi h h' st k=>?_) (λX hP hw hK hc aa s Z H I hS=>?_) (λA i s Q E st h=>?_)
 .grind
 .obtain⟨ok,ov,a⟩:=st;exact⟨ok,ov,k it (by simp) _ a⟩
 .subst hP hw hK;obtain⟨kvs,D1,D2,D3,D4,lo⟩:=tF I hS.1 hS.2;have l1:kvs.length=es.length:=by have:=congrArg List.length D3;simpa using this
  have W:=To (prog:=X.prog) (w:=X.w) (A:=X.A) (I.ok.hd hc) it d fS kvs ep;rw[l1] at W;refine⟨_,_,_,_,W,λi st=>⟨st,D1⟩,λi h st=>st.1,λi vals hp=>?_⟩
  obtain⟨k,x,key,k1,k2,rfl⟩:=hp;have hi:i<es.length:=by have:=(eW.mp k1).1;lia
  have e3:es[i]?=some es[i]:=fG hi;refine⟨[es[i].2.1,es[i].2.2],⟨_,e3,rfl⟩,.cons ?_ (.cons ?_ .nil),by show 2<=10;decide⟩
  .obtain⟨z,z1,z2⟩:=hS.2 es[i] (zy hi);have k3:(kvs.map (λp=>TK.inr p.1))[i]?=(es.map (·.1))[i]?:=by rw[D3]
   rw[dR,dR,k1,e3] at k3;have k4:TK.inr k=es[i].1:=Option.some.inj k3;rw[z1] at k4;cases k4;rw[z2];exact Value.isStrOf_shape k2
  .obtain⟨u,u1,u2⟩:=D2.get (i:=i) (x:=es[i].2.2) (by rw[dR,e3];rfl)
   rw[dR,k1] at u1;cases u1;exact u2
 .obtain⟨ok,ov,a⟩:=st;exact M9 a h
def QD(to:TE):TI:=λZ H R=>to Z H λx H1=>∃d es ep,x=.ref d/\H1 d=some (.dG es ep)/\fJ es/\R (zE (λH=>H d=some (.dG es ep)/\fJ es) es.length (Ep es)) H1
section
variable{X:Cx}{K:fI}
def V1{fP:Pos}(ho:PE X o to)(cJ:attributeBase o "items" X.env (eval o X.env)=eval o X.env:=by rfl)(cK:(apos.endLine == bS.line)=true:=by rfl):
  PI X (.Tuple elts x1 fP) (.Call (.Attribute o "items" apos) [] [] bS) (QD to):=by
 intro aa s Z H R I h;refine wpAny_Call_method0_late cJ cK (bL (ho aa s Z H _ I h) λv s1 hh=>?_)
 obtain⟨x,H1,I1,r1,d,es,ep,rfl,hd,ht,q⟩:=hh;cases r1;obtain⟨t1,t2⟩:=BS I1 hd;obtain⟨kvs,D1,D2,D3,D4,lo⟩:=tF I1 hd ht;have l1:kvs.length=es.length:=by have:=congrArg List.length D3;simpa using this
 have ld:d<s1.heap.objs.size:=D1.lt_size;refine⟨"dict","dict.items",PySem.F.plainAttrs_dict,PySem.F.slot_dict_items,PySem.F.type_dict_items,t1,t2,Calls.callWith_builtin rfl (PySem.evalArgs_none ?_)⟩;refine call_meetsIn PySem.F.slot_dict_items t1 PySem.F.entry_dict_items (PySem.F.args_dict_items_1 _) (meets_dict_items (PySem.strKind X.prog X.w) d lo) ⟨⟨kvs,D1.dictOf⟩,?_⟩;refine wpAny_pyIter_items (knd:=PySem.strKind X.prog X.w) (v:=s1.heap.objs.size) (d:=d) (kvs:=kvs) (ep:=ep) ⟨_,iR _ rfl,rfl,rfl⟩ (D1.push _) ?_;have sz:(s1.heap.push { cls:=.type "dict_items",data:=.fields #[.ref d]}).objs.size=s1.heap.objs.size+1:=by simp[Heap.push]
 have hg:=iR (s1.heap.push { cls:=.type "dict_items",data:=.fields #[.ref d]}) (o:={ cls:=.type "dict_itemiterator",data:=.fields #[.none,.bool false,.ref d,.int 0 0,.int kvs.length 0,.int ep 0,.none,.none]}) rfl;rw[l1] at hg ⊢;refine⟨(s1.heap.push { cls:=.type "dict_items",data:=.fields #[.ref d]}).objs.size,[(s1.heap.push { cls:=.type "dict_items",data:=.fields #[.ref d]}).objs.size],_,_,H1,rfl,I1.kept (t':=s1.toks) λb o e=>cZ _ (cZ _ e),TN (it:=(s1.heap.push { cls:=.type "dict_items",data:=.fields #[.ref d]}).objs.size) (d:=d) (by rw[sz];exact gP (zw ld)) es ep,⟨k9 _,.none,.none,hg⟩,λb hb=>?_,q⟩
 cases mG.mp hb;have l0:s1.heap.objs.size<=(s1.heap.push { cls:=.type "dict_items",data:=.fields #[.ref d]}).objs.size:=by rw[sz];exact vx _
 exact I1.kf l0 (I1.bw.fresh l0)
end
end L2
namespace L2
open PySem PySem.Spec PyProof.Rows
section
variable{X:Cx}{K:aL}
def DB(K:aL):R2:=λx y H Q=>∃d e,aZ K H [x] [d]/\aZ K H [y] [e]/\eC 40 d=true/\eC 40 e=true/\Q (.bl (gu d e)) H
def e3t(K:aL)(hu:X.A.units+40<cLine)(hK:X.K=K:=by rfl):dF X (compareOp .Eq) (DB K):=by
 subst hK;intro aa s Z H x y v u Q I rx ry h;obtain⟨d,e,r1,r2,o1,o2,q⟩:=h;exact(B5 I 40 40 r1 r2 o1 o2 rx ry hu).2 X.prog X.w _ _ ⟨.bl _,H,I,rfl,q⟩
open Classical in
noncomputable def nO (K:aL) (H:Hp) (dx:D) (u:ai):Bool:=decide (∃x d,RelV x u/\aZ K H [x] [d]/\eC 40 d=true/\gu d dx=true)
open Classical in
def QE{aa:List (aj×Obj)}{s:ax}{Z:St}{H:Hp}(I:Inv X aa Z H s){dx d:D}{x:V}{u:ai}(rx:RelV x u)(r:aZ X.K H [x] [d])(ok:eC 40 d=true):nO X.K H dx u=gu d dx:=by
 unfold nO;rw[zx,y9a];constructor
 .rintro⟨x',d',rx',r',fT,e⟩;have:=RelV.inj rx rx';subst this;rw[FX I 40 40 r r' ok fT];exact e
 .exact λe=>⟨x,d,rx,r,ok,e⟩
def Gf{aa:List (aj×Obj)}{s:ax}{Z:St}{H:Hp}(I:Inv X aa Z H s){dx:D}{ws:List V}{aG:List ai}{ds:List D}(t:Vals ws aG)(rp:aZ X.K H ws ds)(ok:ds.all (eC 40)=true):aG.any (nO X.K H dx)=ds.any λd=>gu d dx:=by
 induction t generalizing ds with
 |nil=>
  cases ds with
  |nil=>rfl
  |cons _ _=>have:=rp.length;simp at this
 |cons r t ih=>
  cases ds with
  |nil=>have:=rp.length;simp at this
  |cons d ds=>
   rw[pI,iW] at ok;rw[List.any_cons,List.any_cons,QE I r rp.inv.1 ok.1,ih rp.inv.2 ok.2]
def Gg{aa:List (aj×Obj)}{s:ax}{Z:St}{H:Hp}(I:Inv X aa Z H s){dx:D}{y:V}{v:ai}{A:cN}(rv:RelV y v)(ry:aZ X.K H [y] [dx])(oy:eC 40 dx=true)(hu:A.units+40<cLine):
  ∀{ws:List V} {aG:List ai} {ds:List D},Vals ws aG->aZ X.K H ws ds->ds.all (eC 40)=true->∀u∈aG,SeqAt.EqAt A s u v (nO X.K H dx u):=by
 intro ws aG ds t
 induction t generalizing ds with
 |nil=>intro _ _ u m;cases m
 |cons r t ih=>
  intro rp ok u' m;cases ds with
  |nil=>have:=rp.length;simp at this
  |cons d ds=>
   rw[pI,iW] at ok;rcases y0a.mp m with rfl|m
   .rw[QE I r rp.inv.1 ok.1];exact(B5 I 40 40 rp.inv.1 ry ok.1 oy r rv hu).1
   .exact ih rp.inv.2 ok.2 u' m
noncomputable def zh:D->ak (List D)
 |.lst ds=>some ds
 |.tup ds=>some ds
 |_=>none
def y7(K:aL)(neg:Bool):R2:=λx y H Q=>
 (∃d e ds,aZ K H [x] [d]/\aZ K H [y] [e]/\zh e=some ds/\eC 40 d=true/\ds.all (eC 40)=true/\Q (.bl (if neg then !ds.any λz=>gu z d else ds.any λz=>gu z d)) H)\/
 (∃i j,x=.str i/\y=.str j/\Q (.bl (if neg then !(!(Builtin.Str.occurrences j i 0 j.length 1).isEmpty) else !(Builtin.Str.occurrences j i 0 j.length 1).isEmpty)) H)\/
 ∃a o,y=.ref a/\hV K H a x o/\Q (.bl (if neg then !o.isSome else o.isSome)) H
def e3u(K:aL)(hu:X.A.units+41<cLine)(hK:X.K=K:=by rfl):dF X (compareOp .In) (y7 K false):=by
 subst hK;intro aa s Z H x y v u Q I rx ry h;rcases h with⟨d,e,ds,r1,r2,es,o1,o2,q⟩|⟨i,j,rfl,rfl,q⟩|⟨a,o,rfl,g,q⟩
 .have sf:X.A.in1.units+40<cLine:=by show X.A.units+1+40<cLine;lia
  cases r2 with
  |flat z _=>cases e <;> first|(cases z;done)|cases es
  |lst sq i _=>
   cases es;cases ry;obtain⟨aG,r,pl,hz⟩:=I.list sq;refine SeqAt.in_listAt (nO X.K H d) pl.isList (λw hw=>Gg I rx r1 o1 sf r i o2 w (by simpa using hw)) ⟨.bl _,H,I,rfl,?_⟩
   rw[show aG.toArray.any (nO X.K H d)=aG.any (nO X.K H d) by simp,Gf I r i o2]
   exact q
  |tup sq i _=>
   cases es;cases ry;obtain⟨aG,r,pl,hz⟩:=I.tuple sq;refine SeqAt.in_tupleAt (nO X.K H d) pl (λw hw=>Gg I rx r1 o1 sf r i o2 w (by simpa using hw)) ⟨.bl _,H,I,rfl,?_⟩
   rw[show aG.toArray.any (nO X.K H d)=aG.any (nO X.K H d) by simp,Gf I r i o2]
   exact q
  |av _ _ _ _ _=>cases es
  |ref _ _=>cases es
 .exact Uk aa s Z H _ _ v u Q I rx ry ⟨i,j,rfl,rfl,q⟩
 .cases ry;exact Ml (by lia) I g rx λs3 I3=>⟨.bl o.isSome,H,I3,rfl,q⟩
def UP(K:aL)(hu:X.A.units+41<cLine)(hK:X.K=K:=by rfl):dF X (compareOp .NotIn) (y7 K true):=by
 subst hK;intro aa s Z H x y v u Q I rx ry h;rcases h with⟨d,e,ds,r1,r2,es,o1,o2,q⟩|⟨i,j,rfl,rfl,q⟩|⟨a,o,rfl,g,q⟩
 .have sf:X.A.in1.units+40<cLine:=by show X.A.units+1+40<cLine;lia
  cases r2 with
  |flat z _=>cases e <;> first|(cases z;done)|cases es
  |lst sq i _=>
   cases es;cases ry;obtain⟨aG,r,pl,hz⟩:=I.list sq;refine SeqAt.notIn_listAt (nO X.K H d) pl.isList (λw hw=>Gg I rx r1 o1 sf r i o2 w (by simpa using hw)) ⟨.bl _,H,I,rfl,?_⟩
   rw[show aG.toArray.any (nO X.K H d)=aG.any (nO X.K H d) by simp,Gf I r i o2]
   exact q
  |tup sq i _=>
   cases es;cases ry;obtain⟨aG,r,pl,hz⟩:=I.tuple sq;refine SeqAt.notIn_tupleAt (nO X.K H d) pl (λw hw=>Gg I rx r1 o1 sf r i o2 w (by simpa using hw)) ⟨.bl _,H,I,rfl,?_⟩
   rw[show aG.toArray.any (nO X.K H d)=aG.any (nO X.K H d) by simp,Gf I r i o2]
   exact q
  |av _ _ _ _ _=>cases es
  |ref _ _=>cases es
 .exact Ta aa s Z H _ _ v u Q I rx ry ⟨i,j,rfl,rfl,q⟩
 .cases ry;exact X_ (by lia) I g rx λs3 I3=>⟨.bl (!o.isSome),H,I3,rfl,q⟩
def GD(ne:Bool)(a b:D):ak Rv:=if(eC 40 a&&eC 40 b)=true then some (rd (.bl (if ne=true then !gu a b else gu a b))) else none
def e8y:b_ K (lA (DB K)) (o2 (GD false)):=uT λk H x z a b y Q le t1 t2 e res=>by
 unfold GD at e;split at e
 .rename_i h
  obtain⟨h1,h2⟩:=A2.mp h;cases e;exact⟨_,_,t1.tU le h1,t2.tU le h2,h1,h2,res.flat le rfl⟩
 .cases e
mutual
def qC:D->ak TK
 |.int i=>some (.inl i)
 |.str x=>some (.inr x)
 |.aI=>some .aI
 |.tup l=>(nF l).map .tp
 |_=>none
def nF:List D->ak (List TK)
 |[]=>some []
 |d::l=>(qC d).bind λk=>(nF l).map λks=>k::ks
end
def jE:D->ak TK
 |.int i=>some (.inl i)
 |.str x=>some (.inr x)
 |.aI=>some .aI
 |.tup l=>(nF l).bind λks=>if TK.ok 8 (.tp ks)=true then some (.tp ks) else none
 |_=>none
mutual
theorem e8z:∀{d:D} {k:TK},qC d=some k->k.d=d
 |.int i,k,e=>by simp only[qC] at e;cases e;simp[TK.d]
 |.str i,k,e=>by simp only[qC] at e;cases e;simp[TK.d]
 |.tup l,k,e=>by
  simp only[qC] at e;obtain⟨ks,h1,rfl⟩:=df.mp e;simp only[TK.d];rw[oE h1]
 |.aI,k,e=>by simp only[qC] at e;cases e;simp[TK.d]
 |.ref _,k,e=>by simp[qC] at e
 |.bl _,k,e=>by simp[qC] at e
 |.ty _,k,e=>by simp[qC] at e
 |.lst _,k,e=>by simp[qC] at e
 |.av _,k,e=>by simp[qC] at e
theorem oE:∀{l:List D} {ks:List TK},nF l=some ks->TK.dl ks=l
 |[],ks,e=>by simp only[nF] at e;cases e;simp[TK.dl]
 |d::l,ks,e=>by
  simp only[nF] at e;obtain⟨k,h1,e⟩:=cA.mp e;obtain⟨we,h2,rfl⟩:=df.mp e;simp only[TK.dl];rw[e8z h1,oE h2]
end
def Ah{d:D}{k:TK}(e:jE d=some k):k.d=d/\k.ok 8=true:=by
 cases d with
 |int i=>cases e;exact⟨by simp[TK.d],rfl⟩
 |str i=>cases e;exact⟨by simp[TK.d],rfl⟩
 |aI=>cases e;exact⟨by simp[TK.d],rfl⟩
 |tup l=>
  simp only[jE] at e;obtain⟨ks,h1,e⟩:=cA.mp e
  grind [TK.d,oE]
 |_=>cases e
def aM(kvs:List (TK×D))(k:TK):ak D:=(kvs.find? λkv=>decide (kv.1=k)).map (·.2)
theorem Jw{F:Kn}{k:TK}:∀{ws:List (TK×V×V)} {kvs:List (TK×D)},ws.map (·.1)=kvs.map (·.1)->ag K F (ws.map (·.2.2)) (kvs.map (·.2))->(jI ws k=none/\aM kvs k=none)\/∃v d,jI ws k=some v/\aM kvs k=some d/\ag K F [v] [d]
 |[],[],_,_=>.inl ⟨rfl,rfl⟩
 |w::ws,p::kvs,h,r=>by
  rw[cU,cU] at h;injection h with h1 h2;unfold jI aM;rw[A4,A4,h1];by_cases e:p.1=k
  .rw[oH e];exact .inr ⟨w.2.2,p.2,rfl,rfl,r.inv.1⟩
  .rw[sX e];exact Jw h2 r.inv.2
 |[],_::_,h,_=>by simp at h
 |_::_,[],h,_=>by simp at h
def vv{k:Kn}{H:Hp}{x y:V}{kvs:List (TK×D)}{d:D}{j:TK}(le:az k.F H)(t1:Top K k H x (.av kvs))(t2:Top K k H y d)(hk:jE d=some j):∃a o,x=.ref a/\hV K H a y o/\((o=none/\aM kvs j=none)\/∃v e,o=some v/\aM kvs j=some e/\ag K k [v] [e]):=by
 obtain⟨a,es,ep,rfl,h1,h2,h3,h4⟩:=t1.av le;obtain⟨k1,k2⟩:=Ah hk;refine⟨a,jI es j,rfl,⟨es,ep,j,h1,FY h2 h3 le,?_,k2,rfl⟩,Jw h2 h4⟩;have:=t2.rep le;rw[<-k1] at this;exact sr (k:=k.all H) j this
def AF(neg:Bool)(a b:D):ak Rv:=match b with
 |.av kvs=>(jE a).map λj=>rd (.bl (if neg=true then !(aM kvs j).isSome else(aM kvs j).isSome))
 |.str j=>(match a with
  |.str i=>some (rd (.bl (if neg=true then !(!(Builtin.Str.occurrences j i 0 j.length 1).isEmpty) else !(Builtin.Str.occurrences j i 0 j.length 1).isEmpty)))
  |_=>none)
 |e=>(zh e).bind λds=>if(eC 40 a&&ds.all (eC 40))=true then some (rd (.bl (if neg=true then !ds.any λz=>gu z a else ds.any λz=>gu z a))) else none
def Yh{k:Kn}{H:Hp}{x:V}{e:D}{ds:List D}(le:az k.F H)(t:Top K k H x e)(h:zh e=some ds)(ok:ds.all (eC 40)=true):aZ K H [x] [e]:=by
 cases e with
 |lst _=>cases h;obtain⟨p,ws,rfl,q,r⟩:=t.lst le;exact .lst q (Top.Sl r le ok) .nil
 |tup _=>cases h;obtain⟨p,ws,rfl,q,r⟩:=t.tup le;exact .tup q (Top.Sl r le ok) .nil
 |_=>cases h
def Ro(neg:Bool):b_ K (lA (y7 K neg)) (o2 (AF neg)):=uT λk H x z a b y Q le t1 t2 e res=>by
 unfold AF at e;split at e
 .obtain⟨j,hj,rfl⟩:=df.mp e;obtain⟨p,o,rfl,g,h⟩:=vv le t2 t1 hj;refine .inr (.inr ⟨p,o,rfl,g,?_⟩);have z:=res.flat le rfl;rcases h with⟨rfl,h⟩|⟨v,e,rfl,h,_⟩ <;> rw[h] at z <;> exact z
 .split at e
  .cases e;cases t1.flat rfl;cases t2.flat rfl;exact .inr (.inl ⟨_,_,rfl,rfl,res.flat le rfl⟩)
  .cases e
 .obtain⟨ds,h1,e⟩:=cA.mp e;split at e
  .rename_i h
   obtain⟨h2,h3⟩:=A2.mp h;cases e;exact .inl ⟨_,_,ds,t1.tU le h2,Yh le t2 h1 h3,h1,h2,h3,res.flat le rfl⟩
  .cases e
def y8(neg:Bool):R2:=λx y H Q=>(y=.aI/\Q (.bl (if neg then !decide (x=.aI) else decide (x=.aI))) H)\/∃a b,x=.bl a/\y=.bl b/\Q (.bl (if neg then a != b else a == b)) H
def e3w:dF X (compareOp .Is) (y8 false):=yX.or ρ
def Yi:dF X (compareOp .IsNot) (y8 true):=uV.or XH
noncomputable def sx:D->Bool
 |.aI=>true
 |_=>false
def AG(neg:Bool)(a b:D):ak Rv:=match b with
 |.aI=>some (rd (.bl (if neg=true then !sx a else sx a)))
 |.bl b=>(match a with
  |.bl a=>some (rd (.bl (if neg=true then a != b else a == b)))
  |_=>none)
 |_=>none
def V2{k:Kn}{H:Hp}{x:V}{d:D}(h:Top K k H x d):decide (x=.aI)=sx d:=by
 rcases h with h|⟨p,c,rfl,rfl,h⟩
 .cases h with
  |flat q _=>cases d <;> cases q <;> rfl
  |_=>rfl
 .cases c <;> rfl
def Rq(neg:Bool):b_ K (lA (y8 neg)) (o2 (AG neg)):=uT λk H x z a b y Q le t1 t2 e res=>by
 unfold AG at e;split at e
 .cases e;cases t2.flat rfl;refine .inl ⟨rfl,?_⟩;rw[V2 t1];exact res.flat le rfl
 .split at e
  .cases e;cases t1.flat rfl;cases t2.flat rfl;exact .inr ⟨_,_,rfl,rfl,res.flat le rfl⟩
  .cases e
 .cases e
def DD(K:aL):R2:=λx y H Q=>y9 K x y H Q\/y_ K x y H Q\/DE x y H Q\/∃a v,x=.ref a/\hV K H a y (some v)/\Q v H
def Yj(hu:X.A.units+9<cLine):pW X (λx y H Q=>∃a v,x=.ref a/\hV X.K H a y (some v)/\Q v H):=by
 intro value slice aa s Z H x y v u Q I rx ry h hs;obtain⟨a,w,rfl,g,q⟩:=h;cases rx;exact tail_any (g.ty I).1 PySem.F.slot_dict_getitem.lookup (N1 hu I g ry λw' s3 I3 mr=>⟨w,H,I3,mr,q⟩) hs
def K4(K:aL)(hu:X.A.units+41<cLine)(hK:X.K=K):pW X (DD K):=by
 subst hK;exact(VN X.K rfl).or ((XI X.K rfl).or (yI.or (Yj (by lia))))
noncomputable def intD:D->ak Int
 |.int k=>some k
 |_=>none
def FZ{i:D}{k:Int}(h:intD i=some k):i=.int k:=by
 cases i with
 |int _=>cases h;rfl
 |_=>cases h
def PR{F:Kn}{ws:List V}{ds:List D}{i:Int}{d:D}(r:ag K F ws ds)(e:dq ds i=some d):∃v,dq ws i=some v/\ag K F [v] [d]:=by
 unfold dq at e ⊢;rw[r.length];cases q:uL ds.length i with
 |none=>rw[q] at e;cases e
 |some j=>
  rw[q] at e;exact r.get e
def G8(a i:D):ak Rv:=match a with
 |.lst ds=>(intD i).bind λk=>(dq ds k).map rd
 |.tup ds=>(intD i).bind λk=>(dq ds k).map rd
 |.str z=>(intD i).bind λk=>if z.length<=1000000 then(dq z.cps.toList k).map λc=>rd (.str ⟨#[c]⟩) else none
 |.av kvs=>(jE i).bind λj=>(aM kvs j).map rd
 |_=>none
def e9a:b_ K (lA (DD K)) (o2 G8):=uT λk H x z a b y Q le t1 t2 e res=>by
 unfold G8 at e;split at e
 .obtain⟨i,hi,e⟩:=cA.mp e;cases FZ hi;cases t2.flat rfl;obtain⟨d,h1,rfl⟩:=df.mp e;obtain⟨p,ws,rfl,q,r⟩:=t1.lst le;obtain⟨v,h2,h3⟩:=PR r h1;exact .inl ⟨p,ws,i,v,rfl,rfl,q,h2,res.rep le h3⟩
 .obtain⟨i,hi,e⟩:=cA.mp e;cases FZ hi;cases t2.flat rfl;obtain⟨d,h1,rfl⟩:=df.mp e;obtain⟨p,ws,rfl,q,r⟩:=t1.tup le;obtain⟨v,h2,h3⟩:=PR r h1;exact .inr (.inl ⟨p,ws,i,v,rfl,rfl,q,h2,res.rep le h3⟩)
 .obtain⟨i,hi,e⟩:=cA.mp e;cases FZ hi;cases t2.flat rfl;cases t1.flat rfl;split at e
  .obtain⟨c,h1,rfl⟩:=df.mp e;exact .inr (.inr (.inl ⟨_,i,c,rfl,rfl,ml (by assumption),h1,res.flat le rfl⟩))
  .cases e
 .obtain⟨j,hj,e⟩:=cA.mp e;obtain⟨d,h1,rfl⟩:=df.mp e;obtain⟨p,o,rfl,g,h⟩:=vv le t1 t2 hj;rcases h with⟨_,h⟩|⟨v,e,rfl,h,r⟩
  .lia
  .rw[h] at h1;cases h1;exact .inr (.inr (.inr ⟨p,v,rfl,g,res.rep le r⟩))
 .cases e
noncomputable def cutD(ds:List D)(lo hi:ak Int):List D:=(ds.drop (HT.cP ds.length 0 lo)).take (HT.cP ds.length ds.length hi - HT.cP ds.length 0 lo)
def DI(K:aL):V->ak Int->ak Int->Hp->VK->Prop:=λx lo hi H Q=>DJ x lo hi H Q\/ze K x lo hi H Q\/zf K x lo hi H Q
def LK(K:aL)(hK:X.K=K):rn X (DI K):=zj.or ((VO K hK).or (XJ K hK))
def LJ(a:D)(lo hi:ak Int):ak Rv:=match a with
 |.str z=>if z.length<=1000000 then some (rd (.str (Txt.slice z lo hi))) else none
 |.lst ds=>some (.o (.lst (cutD ds lo hi)))
 |.tup ds=>if HT.cP ds.length 0 lo=0/\HT.cP ds.length ds.length hi=ds.length then none else some (rd (.tup (cutD ds lo hi)))
 |_=>none
def PU{k:Kn}{ws:List V}{ds:List D}{lo hi:ak Int}(r:ag K k ws ds):ag K k (m7 ws lo hi) (cutD ds lo hi):=by
 unfold m7 cutD;rw[r.length];exact(r.drop _).take _
def e9b{k:Kn}{H:Hp}{x:V}{a:D}{y:Rv}{Q:VK}{lo hi:ak Int}(le:az k.F H)(t:Top K k H x a)(e:LJ a lo hi=some y)(res:kR K k H y Q):DI K x lo hi H Q:=by
 unfold LJ at e;split at e
 .split at e
  .cases e;cases t.flat rfl;exact .inl ⟨_,rfl,ml (by assumption),res.flat le rfl⟩
  .cases e
 .cases e;obtain⟨p,ws,rfl,q,r⟩:=t.lst le;exact .inr (.inl ⟨p,ws,rfl,q,λl hl=>res.lst le (PU r) hl⟩)
 .split at e
  .cases e
  .rename_i fS
   cases e;obtain⟨p,ws,rfl,q,r⟩:=t.tup le;exact .inr (.inr ⟨p,ws,rfl,q,by rw[r.length];exact fS,λl hl=>res.tup le (PU r) hl⟩)
 .cases e
abbrev GO:=Gx (ak Int)
abbrev zG:Rp (ak Int) (ak Int):=λ_ _ b a=>b=a
noncomputable def Ao:GO:=λ_ S=>some (.ok none S)
noncomputable def Rv.int:Rv->ak Int
 |.v (.d (.int i))=>some i
 |_=>none
noncomputable def Ap(g:GE):GO:=λU S=>bd (g U S) λr S1=>r.int.map λi=>.ok (some i) S1
def xW(f:GE)(lo hi:GO):GE:=λU S=>bd (f U S) λr S1=>bd (lo U S1) λl S2=>bd (hi U S2) λu S3=>((lB S3 (mB r)).bind λd=>LJ d l u).map λy=>.ok y S3
def Rv.jb{r:Rv}{i:Int}(h:r.int=some i):r=rd (.int i):=by
 unfold Rv.int at h;split at h
 .cases h;rfl
 .cases h
section
variable{W:XW}{q:Nat}{e:Expr}{lo hi:ak Expr}{f:GE}{fl fh:GO}{pos p2:Pos}
def uy:PO X none (tX zG K W q Ao):=λaa s Z H Q I t=>Xz aa s Z H Q I (Cn t λ_ _=>rfl)
def uz(h:PE X e (tE K W q f)):PO X (some e) (tX zG K W q (Ap f)):=λaa s Z H Q I t=>XA h aa s Z H Q I (by
 obtain⟨k,U,S,res,ok,gk,e,w⟩:=t;refine tX.bd ok gk e w λr S1 x k1 H1 bJ g1 r1 e1 w1 _=>?_
 obtain⟨i,e2,rfl⟩:=df.mp e1;cases Rv.jb e2;exact⟨i,(show ag K k1 [x] [.int i] from r1).bo rfl,w1.now bJ rfl⟩)
def V3(he:PE X e (tE K W q f))(hl:PO X lo (tX zG K W q fl))(hu:PO X hi (tX zG K W q fh))(hK:X.K=K):PE X (.Subscript e (.Slice lo hi none p2) pos) (tE K W q (xW f fl fh)):=(VF (LK K hK) he hl hu).mono λZ H Q t=>by
 obtain⟨k,U,S,res,ok,gk,e,w⟩:=t;refine tX.bd ok gk e w λr S1 x k1 H1 bJ g1 r1 e1 w1 _=>?_
 obtain⟨k2,u2,cS,r2⟩:=qx bJ r1;refine tX.bd cS (g1.up (u2 q)) e1 (w1.up (u2 q)) λl S3 l' k3 H3 jF g3 r3 e3 w3 u3=>?_
 cases r3;refine tX.bd jF g3 e3 w3 λu S4 u' k4 H4 qj g4 r4 e4 w4 u4=>?_
 cases r4;obtain⟨y,e5,rfl⟩:=df.mp e4;obtain⟨d,e6,e7⟩:=cA.mp e5;exact e9b qj.le (Gd qj ((r2.up u3).up u4) e6) e7 (.fin qj w4)
end
end
section
variable{X:Cx}{K:aL}
def dP:List Int->Int
 |[]=>0
 |x::xs=>xs.foldl (λa b=>if b<a then b else a) x
def UQ(xs:List Int):∀x:Int,(xs.foldl (λa b=>if b<a then b else a) x<=x/\∀y∈xs,xs.foldl (λa b=>if b<a then b else a) x<=y)/\(xs.foldl (λa b=>if b<a then b else a) x=x\/xs.foldl (λa b=>if b<a then b else a) x∈xs):=by
 induction xs with
 |nil=>intro x;exact⟨⟨My _,λy m=>by cases m⟩,.inl rfl⟩
 |cons z xs ih=>
  grind
def Fo{xs:List Int}(h:xs≠[]):dP xs∈xs/\∀y∈xs,dP xs<=y:=by
 cases xs with
 |nil=>exact cO rfl h
 |cons x xs=>
  obtain⟨⟨h1,h2⟩,h3⟩:=UQ xs x;refine⟨?_,λy m=>?_⟩
  .rcases h3 with h3|h3
   .show List.foldl _ x xs∈_
    simp_all
   .exact .tail _ h3
  .rcases y0a.mp m with rfl|m
   .exact h1
   .exact h2 y m
theorem NA:∀{is:List Int} {aG:List ai},Vals (is.map V.int) aG->∃ps:List (Int×Tok),aG=ps.map (λp=>Value.int p.1 p.2)/\ps.map (·.1)=is
 |[],aG,h=>by
  rw[EA] at h;cases h;exact⟨[],rfl,rfl⟩
 |i::is,aG,h=>by
  rw[cU] at h;cases h with
  |cons r t=>
   obtain⟨ps,e1,e2⟩:=NA t;obtain⟨tk,rfl⟩:=r;exact⟨(i,tk)::ps,by rw[e1];rfl,by rw[cU,e2]⟩
def V4(K:aL)(hc:X.calm=true:=by rfl)(hK:X.K=K:=by rfl):bT X (.builtin "min") (λxs H Q=>∃(a:aj) (is:List Int),xs=[.ref a]/\c8 K H a (is.map V.int)/\is≠[]/\Q (.int (dP is)) H):=by
 subst hK;intro aa s Z H xs us Q I r h;obtain⟨a,is,rfl,hs,fS,q⟩:=h;obtain⟨u,rfl,ru⟩:=vals1 r;cases ru;obtain⟨aG,rv,p,hz⟩:=I.list hs;obtain⟨ps,e1,e2⟩:=NA rv;subst e1;have hl:0<ps.length:=by
  grind
 have el:(ps.map λp=>Value.int p.1 p.2).toArray=intItems ps.toArray:=by unfold intItems;simp
 have pl:=p.isList;rw[el] at pl;refine min_intList (I.ok.hd hc) pl (by simpa using hl) λv h' tk hv hk=>?_
 obtain⟨b1,b2⟩:=argBest_lt (numAt ps.toArray) (ps.toArray.size - 1);generalize argBest (λi j=>decide (numAt ps.toArray i<numAt ps.toArray j)) (ps.toArray.size - 1)=n at *
 have hn:n<ps.length:=by simp at b1;lia
 have CY:∀j (hj:j<ps.length),numAt ps.toArray j=(ps[j]).1:=λj hj=>by unfold numAt;simp[hj]
 have KZ:v=Value.int (ps[n]).1 (ps[n]).2:=by
  unfold intItems at hv;simp[hn] at hv;exact hv.symm
 have hm:dP is=(ps[n]).1:=by
  obtain⟨m1,m2⟩:=Fo fS;have i1:(ps[n]).1∈is:=by rw[<-e2];exact nG (f:=(·.1)) (zy hn)
  have c1:=m2 _ i1;rw[<-e2] at m1;obtain⟨pp,KW,hp2⟩:=iS.mp m1;obtain⟨j,hj,ej⟩:=List.mem_iff_getElem.mp KW;have c2:=b2 j (by simp;lia)
  rw[CY n hn,CY j hj,ej] at c2;rw[e2] at hp2;lia
 rw[KZ];exact⟨.int (dP is),H,I.kept (h':=h') (t':=tk) λb o e=>hk b o e,⟨(ps[n]).2,by rw[hm]⟩,q⟩
def kr:List D->ak (List Int)
 |[]=>some []
 |.int i::ds=>(kr ds).map λis=>i::is
 |_=>none
theorem Fp:∀is:List Int,kr (is.map .int)=some is
 |[]=>rfl
 |i::is=>by rw[cU];show(kr (is.map .int)).map _=_;rw[Fp is];rfl
theorem N2:∀{ds:List D} {is:List Int},kr ds=some is->ds=is.map .int
 |[],is,e=>by cases e;rfl
 |d::ds,is,e=>by
  cases d with
  |int i=>
   obtain⟨js,e1,e2⟩:=df.mp (show(kr ds).map _=some is from e);rw[<-e2,N2 e1];rfl
  |_=>cases e
theorem Nl{F:Kn}:∀{ws:List V} {is:List Int},ag K F ws (is.map .int)->ws=is.map .int
 |[],[],_=>rfl
 |[],_::_,h=>by have:=h.length;simp at this
 |_::_,[],h=>by have:=h.length;simp at this
 |w::ws,i::is,h=>by
  rw[cU] at h;have h1:=h.inv.1;have h2:=Nl h.inv.2;rw[h2,cU];cases h1 with
  |flat e _=>cases e;rfl
end
end L2
namespace L2
open PySem PySem.Spec PySem.W PyProof.Rows
section
variable{X:Cx}{K:aL}
def L5(k:String):Bool:=k == "tuple" || k == "list"
def wu(K:fI):List V->Hp->VK->Prop:=λxs H Q=>∃x k q,xs=[x,.ref q]/\B3 K H x k/\iB K H q [.ty "tuple",.ty "list"]/\Q (.bl (L5 k)) H
def UR(K:fI)(hK:X.K=K:=by rfl):bT X (.builtin "isinstance") (wu K):=by
 subst hK;intro aa s Z H xs us Q I r h;obtain⟨x,k,q,rfl,hk,hq,qq⟩:=h;obtain⟨u,w',rfl,rx,ry⟩:=vals2 r;cases ry;obtain⟨aG,rv,⟨ot,h1,h2,n,h3⟩,_⟩:=I.tuple hq;obtain⟨oc,odd,odt,pd⟩:=ot;dsimp only at h2 h3;subst h2;subst h3;obtain⟨u1,u2,rfl,r1,r2⟩:=vals2 rv;cases r1;cases r2;have fin:∀b,b=L5 k->∀tk,EP X aa Z Q (.bool b) { s with toks:=tk}:=λb e tk=>um (I.tok _) qq e.symm
 cases x with
 |aI=>
  cases rx;have hk:k="NoneType":=hk;subst hk;exact kia_tup (b:=false) kitx_none I.jQ sZ h1 (by rfl) (λz=>nomatch z) (fin _ rfl)
 |bl b=>
  cases rx;have hk:k="bool":=hk;subst hk;exact kia_tup (b:=false) kitx_bool I.jQ sZ h1 (by rfl) (λz=>nomatch z) (fin _ rfl)
 |int i=>
  obtain⟨t,rfl⟩:=rx;have hk:k="int":=hk;subst hk;exact kia_tup (b:=false) kitx_int I.jQ sZ h1 (by rfl) (λz=>nomatch z) (fin _ rfl)
 |str z=>
  obtain⟨t,rfl⟩:=rx;have hk:k="str":=hk;subst hk;exact kia_tup (b:=false) kitx_str I.jQ sZ h1 (by rfl) (λz=>nomatch z) (fin _ rfl)
 |ref a=>
  cases rx;rcases hk with⟨hk,ys,hs⟩|⟨hk,ys,hs⟩
  .subst hk;obtain⟨aG,_,⟨o,n,e,hc,_⟩,_⟩:=I.list hs;exact kia_tup (b:=true) kitx_list I.jQ ⟨o,e,hc⟩ h1 (by rfl) (λz=>nomatch z) (fin _ rfl)
  .subst hk;obtain⟨aG,_,⟨o,e,hc,_⟩,_⟩:=I.tuple hs;exact kia_tup (b:=true) kitx_tuple I.jQ ⟨o,e,hc⟩ h1 (by rfl) (λz=>nomatch z) (fin _ rfl)
 |vQ _=>exact False.elim hk
 |Aw _=>exact False.elim hk
 |ty _=>exact False.elim hk
end
end L2
namespace L2
open PySem PySem.Spec PyProof.Rows
variable{A:cN}{E:ai->ax->Prop}{s:ax}{ep:Nat}
theorem Tp{Q:Bool->ax->Prop}{P:dc}{w:cD}{d:aj}(hT:s.TypeIs (.ref d) "dict")(h:Q false s):wpAny (model P w) A (Builtin.List.listLengthHint (.ref d)) Q E s:=by
 unfold Builtin.List.listLengthHint;refine ay (wpAny_specialOf hT F.slot_dict_len.lookup ?_);dsimp only;rw[show splitId "dict.__len__"=some ("dict","__len__") from by decide +kernel]
 dsimp only;refine ay (wpAny_isInstance (b:=true) hT (by rw[isSubtype_type];kernel_rfl) ?_)
 rw[bc (by decide)]
 refine wpAny_ite_true (by decide +kernel) (ay (wpAny_typeOf hT ?_))
 exact aX h
section
variable{P:dc}{w:cD}{A:cN}{E:ai->ax->Prop}{s:ax}
def US{n:Nat}{ob:Obj}{xs:Array DictEntry}(hh:A.handled=none)(J d:aj)(fS:d≠J)(g2:ob.data=.dict xs ep)(hl:xs.size=n):
  Walks P w A J [J,d] [J] n (λi v=>xs[i]?.map (·.key)=some v) (λi h=>h.IsKeyIter J d i n ep/\h.get? d=some ob) where
 sub:=λb hb=>by simp at hb;simp[hb]
 frame:=λ_ _ _ st hk=>⟨st.1.at λo e=>hk J (by simp) o e,hk d (by simp) _ st.2⟩
 item:=λi s Q E hi st hQ=>by
  have lt:i<xs.size:=by lia
  refine Ny st.2 g2 hl st.1 lt λh' AH sb=>?_
  exact hQ _ h' s.toks (by rw[sW lt];rfl) ⟨AH,(sb.2 d fS).trans st.2⟩ λb o hb e=>sb.extBut b o (λh=>hb (by simp[h])) e
 done:=λs Q E st hQ=>NU hh st.2 g2 hl st.1 (bY _) λh' AA=>hQ h' s.toks λb o hb e=>AA b o (λh=>hb (by simp[h])) e
 self:=λ_ _ _ _ st hQ=>wpAny_pyIter_keyiter st.1 hQ
end
theorem PV:∀{ys:List V} {us:List ai},ys.length=us.length->(∀(j:Nat) (y:V) (u:ai),ys[j]?=some y->us[j]?=some u->RelV y u)->Vals ys us
 |[],[],_,_=>.nil
 |y::ys,u::us,hl,h=>.cons (h 0 y u rfl rfl) (PV (by simpa using hl) λj y' u' e1 e2=>h (j+1) y' u' (by simpa using e1) (by simpa using e2))
 |[],_::_,h,_=>by simp at h
 |_::_,[],h,_=>by simp at h
section
variable{X:Cx}{aa:List (aj×Obj)}{Z:St}{H:Hp}
theorem SX{d:aj}{es:List (TK×V×V)}{Q:ai->ax->Prop}(hh:A.handled=none)(I:Inv X aa Z H s)(hd:H d=some (.dG es ep))
  (hQ:∀s',(∀b u,s.heap.get? b=some u->s'.heap.get? b=some u)->s'={ s with heap:=s'.heap,toks:=s'.toks}->(∃aG c,Vals (es.map (·.2.1)) aG/\s'.heap.get? s.heap.objs.size=some { cls:=.type "list",data:=.seq aG.toArray c})->Q (.ref s.heap.objs.size) s') :
  wpAny (model X.prog X.w) A (call (.type "list") [.ref d]) Q E s:=by
 obtain⟨hz,z,ob,xs,g1,g5,g2,g3,g4⟩:=(show bf X.prog X.w H s.heap d (.dG es ep) from I.bw d _ hd);have hl:xs.size=es.length:=by have:=Paired.length g3;simpa using this.symm
 have ld:d<s.heap.objs.size:=cT g1;refine callType_codes (Q₁:=λobj s₁=>obj=.ref s.heap.objs.size/\s₁={ s with heap:=s.heap.push { cls:=.type "list",data:=.seq #[]}}) F.called_list (F.typeCall_list_1 _) F.entry_list_init (code_list_new _ ⟨rfl,rfl⟩) λobj s₁ q₁=>?_
 obtain⟨rfl,rfl⟩:=q₁;have gS:(s.heap.push { cls:=.type "list",data:=.seq #[]}).get? s.heap.objs.size=some { cls:=.type "list",data:=.seq #[]}:=iR _ rfl;refine⟨⟨_,gS,rfl⟩,F.args_list_init_2 _ _,?_⟩;show wpAny _ _ (do let old <-Builtin.List.listItems (.ref s.heap.objs.size);Builtin.List.listUpdate (.ref s.heap.objs.size) (λ_=>#[]);letGo old.toList.reverse;Builtin.List.listExtendWith (.ref s.heap.objs.size) (.ref d) .none) _ _ _
 refine ay ?_;unfold Builtin.List.listItems;refine ay (wpAny_seqItems gS rfl (aX ?_));show wpAny _ _ (updateSeq s.heap.objs.size (λ_=>#[]) >>= λ_=>letGo (#[]:Array ai).toList.reverse >>= λ_=>Builtin.List.listExtendWith (.ref s.heap.objs.size) (.ref d) .none) _ _ _
 refine ay (wpAny_updateSeq gS rfl ?_);have gT:=qF (Obj.mapSeq (λ_=>(#[]:Array ai))) gS rfl
 refine ay (wpAny_letGo ?_);have nS:∀b u,s.heap.get? b=some u->b≠s.heap.objs.size:=λb u e z=>by rw[z] at e;exact jU _ (cT e)
 have k1:∀b u,s.heap.get? b=some u->((s.heap.push { cls:=.type "list",data:=.seq #[]}).update s.heap.objs.size (Obj.mapSeq (λ_=>(#[]:Array ai)))).get? b=some u:=
  λb u e=>(oF _ _ (Ne.symm (nS b u e))).trans (cZ _ e)
 have SE:((s.heap.push { cls:=.type "list",data:=.seq #[]}).update s.heap.objs.size (Obj.mapSeq (λ_=>(#[]:Array ai)))).objs.size=s.heap.objs.size+1:=by simp[Heap.update,Heap.push]
 generalize(s.heap.push { cls:=.type "list",data:=.seq #[]}).update s.heap.objs.size (Obj.mapSeq (λ_=>(#[]:Array ai)))=h1 at *
 have I1:Inv X aa Z H { s with heap:=h1,toks:=s.toks}:=I.kept k1;have hT1:Shared.TypeIs { s with heap:=h1} (.ref d) "dict":=⟨ob,k1 _ _ g1,g5.1⟩;unfold Builtin.List.listExtendWith;refine ay (wpAny_typeOf hT1 ?_);have ne:s.heap.objs.size≠d:=λe=>jU _ (e ▸ ld)
 have c1:Builtin.List.listSameRef (.ref s.heap.objs.size) (.ref d)=false:=by simp[Builtin.List.listSameRef,ne]
 have c2:(Value.type "dict" == Value.type "list")=false:=by decide
 have c3:(Value.type "dict" == Value.type "tuple")=false:=by decide
 simp only[c1,c2,c3,Bool.or_false,qG,jK];refine ay (Ow I1 hd ?_);have Kt:Shared.TypeIs { s with heap:=h1.push { cls:=.type "dict_keyiterator",data:=.fields #[.ref d,.int 0 0,.int es.length 0,.int ep 0]}} (.ref d) "dict":=⟨ob,cZ _ (k1 _ _ g1),g5.1⟩;refine ay (ju (Tp Kt ?_));refine wpAny_ite_true (by decide +kernel) (ay (wpAny_rule (ay ?_)))
 show wpAny _ _ (updateSeq s.heap.objs.size (·.push .none) >>= λ_=>updateSeq s.heap.objs.size (·.pop)) _ _ _
 have gU:=cZ { cls:=.type "dict_keyiterator",data:=.fields #[.ref d,.int 0 0,.int es.length 0,.int ep 0]} gT;refine ay (wpAny_updateSeq gU rfl ?_);have gV:=qF (Obj.mapSeq (·.push Value.none)) gU rfl
 refine wpAny_updateSeq (hz:=by seq_fits) gV rfl ?_
 have gW:=qF (Obj.mapSeq (·.pop)) gV rfl
 have gJ:(h1.push { cls:=.type "dict_keyiterator",data:=.fields #[.ref d,.int 0 0,.int es.length 0,.int ep 0]}).get? h1.objs.size=some { cls:=.type "dict_keyiterator",data:=.fields #[.ref d,.int 0 0,.int es.length 0,.int ep 0]}:=iR _ rfl;have Lj:∀b o,b≠s.heap.objs.size->(h1.push { cls:=.type "dict_keyiterator",data:=.fields #[.ref d,.int 0 0,.int es.length 0,.int ep 0]}).get? b=some o->
   (((h1.push { cls:=.type "dict_keyiterator",data:=.fields #[.ref d,.int 0 0,.int es.length 0,.int ep 0]}).update s.heap.objs.size (Obj.mapSeq (·.push Value.none))).update s.heap.objs.size (Obj.mapSeq (·.pop))).get? b=some o:=
  λb o hb e=>(oF _ _ (Ne.symm hb)).trans ((oF _ _ (Ne.symm hb)).trans e)
 have hJ:h1.objs.size≠s.heap.objs.size:=by rw[SE];exact Nat.succ_ne_self _
 have dJ:d≠h1.objs.size:=gP (by rw[SE];exact zw ld)
 have W:=(US (P:=X.prog) (w:=X.w) (A:=A.in1.in1) (n:=es.length) (ep:=ep) hh h1.objs.size d dJ g2 hl).toS;have hSf:s.heap.objs.size∉[h1.objs.size,d]:=λm=>by
  grind
 refine aX ⟨plainId_quiet F.plain_extend_loop _,codeAny_extend_loopS W hz _ hSf _ es.length 0 _ _ _ rfl (k9 _) ⟨⟨_,Lj _ _ hJ gJ,rfl,rfl⟩,Lj _ _ (Ne.symm ne) (cZ _ (k1 _ _ g1))⟩ gW (ItemsOf.nil _) λs' BP c' hm hS' uE=>?_⟩
 obtain⟨m1,m2,m3,m4,m5⟩:=hm;have fL:s'={ s with heap:=s'.heap,toks:=s'.toks}:=by
  cases s'
  lia
 refine⟨rfl,hQ s' (λb u e=>m1 b u (λq=>?_) (Lj b u (nS b u e) (cZ _ (k1 b u e)))) fL ⟨BP.toList,c',?_,by simpa using hS'⟩⟩
 .rcases y0a.mp q with q|q
  .exact nS b u e q
  .rw[mG] at q;have:=cT e
   lia
 .have h2:BP.size=es.length:=uE.1;refine PV (by simp[h2]) λj y u e1 e2=>?_
  rw[dR] at e1;obtain⟨e,e3,rfl⟩:=df.mp e1;obtain⟨x,x1,x2⟩:=Bw j g3 e3;have h3:=uE.2 j u (by rw[<-vy];exact e2)
  have x1:xs[j]?=some x:=by rw[<-vy];exact x1
  have h3:Option.map (λx=>x.key) xs[j]?=some u:=h3
  rw[x1] at h3;cases h3;exact x2.2.1
def Sr(K:aL):List V->Hp->VK->Prop:=λxs H Q=>∃d es ep,xs=[.ref d]/\H d=some (.dG es ep)/\∀l,H l=none->Q (.ref l) (upd H l (.lst (es.map (·.2.1))))
def TQ(hc:X.calm=true):bT X (.type "list") (Sr X.K):=by
 intro aa s Z H xs us Q I r h;obtain⟨d,es,ep,rfl,hd,q⟩:=h;obtain⟨u,rfl,ru⟩:=vals1 r;cases ru;refine SX (I.ok.hd hc) I hd λs' kp fL hh=>?_
 obtain⟨aG,c,rv,g⟩:=hh;have hz:=(show bf X.prog X.w H s.heap d (.dG es ep) from I.bw d _ hd).1;rw[fL];exact⟨.ref s.heap.objs.size,_,I.laid kp (bY _) (show bf X.prog X.w _ s'.heap _ (.lst (es.map (·.2.1))) from⟨by rw[bx];exact hz,aG,c,rv,g⟩),rfl,q _ (I.bw.fresh (bY _))⟩
end
section
variable{X:Cx}{K:aL}
def pA(r:V->List V->Hp->VK->Prop):List V->Hp->VK->Prop:=λvs H Q=>∃x xs,vs=x::xs/\r x xs H Q
def eD:List D->ak (List Str)
 |[]=>some []
 |.str x::ds=>(eD ds).map λxs=>x::xs
 |_=>none
theorem N3:∀xs:List Str,eD (xs.map .str)=some xs
 |[]=>rfl
 |i::is=>by rw[cU];show(eD (is.map .str)).map _=_;rw[N3 is];rfl
theorem Fq:∀{ds:List D} {xs:List Str},eD ds=some xs->ds=xs.map .str
 |[],xs,e=>by cases e;rfl
 |d::ds,xs,e=>by
  cases d with
  |str i=>
   obtain⟨js,e1,e2⟩:=df.mp (show(eD ds).map _=some xs from e);rw[<-e2,Fq e1];rfl
  |_=>cases e
theorem Ij{F:Kn}:∀{ws:List V} {xs:List Str},ag K F ws (xs.map .str)->ws=xs.map .str
 |[],[],_=>rfl
 |[],_::_,h=>by have:=h.length;simp at this
 |_::_,[],h=>by have:=h.length;simp at this
 |w::ws,i::is,h=>by
  rw[cU] at h;have h1:=h.inv.1;have h2:=Ij h.inv.2;rw[h2,cU];cases h1 with
  |flat e _=>cases e;rfl
theorem Ir:∀{xs:List Str} {aG:List ai},Vals (xs.map V.str) aG->∃ps:List (Str×Tok),aG=ps.map (λp=>Value.str p.1 p.2)/\ps.map (·.1)=xs
 |[],aG,h=>by
  rw[EA] at h;cases h;exact⟨[],rfl,rfl⟩
 |i::is,aG,h=>by
  rw[cU] at h;cases h with
  |cons r t=>
   obtain⟨ps,e1,e2⟩:=Ir t;obtain⟨tk,rfl⟩:=r;exact⟨(i,tk)::ps,by rw[e1];rfl,by rw[cU,e2]⟩
def ib:List D->ak (List Bool)
 |[]=>some []
 |.bl b::ds=>(ib ds).map λbs=>b::bs
 |_=>none
theorem NB:∀{ds:List D} {bs:List Bool},ib ds=some bs->ds=bs.map .bl
 |[],bs,e=>by cases e;rfl
 |d::ds,bs,e=>by
  cases d with
  |bl i=>
   obtain⟨js,e1,e2⟩:=df.mp (show(ib ds).map _=some bs from e);rw[<-e2,NB e1];rfl
  |_=>cases e
theorem NC{F:Kn}:∀{ws:List V} {bs:List Bool},ag K F ws (bs.map .bl)->ws=bs.map .bl
 |[],[],_=>rfl
 |[],_::_,h=>by have:=h.length;simp at this
 |_::_,[],h=>by have:=h.length;simp at this
 |w::ws,i::is,h=>by
  rw[cU] at h;have h1:=h.inv.1;have h2:=NC h.inv.2;rw[h2,cU];cases h1 with
  |flat e _=>cases e;rfl
def UT(K:aL)(hc:X.calm=true:=by rfl)(hK:X.K=K:=by rfl):bT X (.builtin "all") (λxs H Q=>∃(a:aj) (bs:List Bool),xs=[.ref a]/\c8 K H a (bs.map V.bl)/\Q (.bl (bs.all id)) H):=hK ▸ Uw hc
noncomputable def Aq(z:Str):ai->Bool
 |.str y _=>y == z
 |_=>false
def QF(K:aL):V->List V->Hp->VK->Prop:=λx xs H Q=>∃(a:aj) (ys:List Str) (z:Str) (j:Nat),x=.ref a/\xs=[.str z]/\c8 K H a (ys.map V.str)/\ys[j]?=some z/\(∀i y,i<j->ys[i]?=some y->y≠z)/\Q (.int (j:Nat)) H
theorem V5(K:aL)(hK:X.K=K:=by rfl):w6 X "list.index" (QF K):=by
 subst hK;intro aa s Z H x xs v us Q I rx rs h;obtain⟨a,ys,z,j,rfl,rfl,hq,hj,fS,q⟩:=h;cases rx;obtain⟨u,rfl,ru⟩:=vals1 rs;obtain⟨t,rfl⟩:=ru;obtain⟨aG,rv,p,hz⟩:=I.list hq;obtain⟨ps,e1,e2⟩:=Ir rv;subst e1;obtain⟨ob,n,eo,o4,hdi,hda⟩:=p;have hlen:ps.length=ys.length:=by rw[<-e2,bx]
 have hjl:j<ys.length:=(eW.mp hj).1;have hit:∀i (hi:i<ps.length),(ps.map λp=>Value.str p.1 p.2)[i]?=some (Value.str ps[i].1 ps[i].2):=λi hi=>by simp[hi]
 have G4:∀i (hi:i<ps.length),ys[i]?=some ps[i].1:=λi hi=>by rw[<-e2];simp[hi]
 have hsz:(ps.map λp=>Value.str p.1 p.2).toArray.size=ps.length:=by simp
 have KH:ps[j].1=z:=by
  simp_all
 obtain⟨cl,di,da,sl⟩:=ob;cases o4;cases hda;have G5:ys.length<=16777216:=by rw[bx,sizeLine_eq] at hz;exact hz
 refine call_meets F.slot_list_index ⟨_,eo,rfl⟩ F.entry_list_index (F.args_list_index_2 _ _) (SeqAt.list_indexAt a _ n di sl (.str z t) (Aq z) j (by rw[hsz];lia) (by lia) ?_ ?_) ⟨eo,?_,?_⟩
 .simp[Aq,KH]
 .intro i hi o6;rw[hsz] at hi;have:=fS i _ o6 (G4 i hi);simp[Aq];exact this
 .intro y hy;simp at hy;obtain⟨b,t',_,rfl⟩:=hy;exact SeqAt.EqAt.str_str b t' z t
 .exact⟨.int (j:Nat),H,I.tok _,⟨_,rfl⟩,q⟩
def findS(ys:List Str)(z:Str):ak Nat:=ys.findIdx? (· == z)
def zT{ys:List Str}{z:Str}{j:Nat}(e:findS ys z=some j):ys[j]?=some z/\∀i y,i<j->ys[i]?=some y->y≠z:=by
 unfold findS at e;rw[List.findIdx?_eq_some_iff_getElem] at e;obtain⟨h,h1,h2⟩:=e;refine⟨by rw[fG h];congr 1;exact eq_of_beq h1,λi y hi ey=>?_⟩
 have:=h2 i hi;obtain⟨hl,e3⟩:=eW.mp ey;rw[e3] at this;intro z';subst z';simp at this
def PX:V->List V->Hp->VK->Prop:=λx xs H Q=>∃(l:aj) (ys:List Str) (z:Str) (j:Nat),x=.ref l/\xs=[.str z]/\H l=some (.lst (ys.map V.str))/\ys[j]?=some z/\(∀i y,i<j->ys[i]?=some y->y≠z)/\Q .aI (upd H l (.lst ((ys.eraseIdx j).map V.str)))
theorem Fs{α β:Type}(f:α->β):∀(xs:List α) (j:Nat),(xs.map f).eraseIdx j=(xs.eraseIdx j).map f
 |[],j=>by simp
 |_::_,0=>rfl
 |x::xs,j+1=>by show f x::(xs.map f).eraseIdx j=f x::(xs.eraseIdx j).map f;rw[Fs f xs j]
theorem M0:∀{ps:List (Str×Tok)},Vals ((ps.map (·.1)).map V.str) (ps.map λp=>Value.str p.1 p.2)
 |[]=>.nil
 |p::ps=>.cons ⟨p.2,rfl⟩ M0
theorem UU:w6 X "list.remove" PX:=by
 intro aa s Z H x xs v us Q I rx rs h;obtain⟨l,ys,z,j,rfl,rfl,hH,hj,fS,q⟩:=h;cases rx;obtain⟨u,rfl,ru⟩:=vals1 rs;obtain⟨t,rfl⟩:=ru;obtain⟨hz,aG,n,rv,hl,eo⟩:=I.uO hH;obtain⟨ps,e1,e2⟩:=Ir rv;subst e1;have hlen:ps.length=ys.length:=by rw[<-e2,bx]
 have hjl:j<ys.length:=(eW.mp hj).1;have G4:∀i (hi:i<ps.length),ys[i]?=some ps[i].1:=λi hi=>by rw[<-e2];simp[hi]
 have hsz:(ps.map λp=>Value.str p.1 p.2).toArray.size=ps.length:=by simp
 have KH:ps[j].1=z:=by
  have:=G4 j (by lia)
  rw[hj] at this;exact(Option.some.inj this).symm
 refine call_meets F.slot_list_remove ⟨_,eo,rfl⟩ F.entry_list_remove (F.args_list_remove_2 _ _) (MeetsSeq.list_remove l _ n (.str z t) (Aq z) ?_ j (by rw[hsz];lia) ?_ ?_ (by rw[hsz,hlen];simpa using hz)) ⟨eo,?_⟩
 .intro y hy;simp at hy;obtain⟨b,t',_,rfl⟩:=hy;show MeetsSeq.EqGives _ _ (b == z);rw[<-SeqAt.str_beq];exact SeqRoads2.EqGives.str b z t' t
 .simp[Aq,KH]
 .intro i hi o6;rw[hsz] at hi;have:=fS i _ o6 (G4 i hi);simp[Aq];exact this
 .refine⟨.aI,_,I.uN (its':=(ps.eraseIdx j).map λp=>Value.str p.1 p.2) hH eo ?_ ?_ ?_,rfl,q⟩
  .apply Array.toList_inj.mp;simp[Array.toList_eraseIdxIfInBounds,Fs]
  .rw[<-e2,Fs];exact M0
  .rw[bx];have:=List.length_eraseIdx_le ys j;rw[bx] at hz;lia
end
end L2
namespace L2
open PySem PySem.Spec PySem.W PyProof.Rows
def V6{P:dc}{w:cD}{xs:List DictEntry}{kvs:List (Str×ai)}(p:Pairs (strKind P w) xs kvs):∀{es:List (TK×V×V)},(∀x∈xs,∃k,(strKind P w).is k x.key=true/\x.hash=(strKind P w).hash k)->kvs.map (λp=>TK.inr p.1)=es.map (·.1)->Vals (es.map (·.2.2)) (kvs.map (·.2))->fJ es->Paired (iX w) es xs:=by
 induction p with
 |nil=>
  intro es _ e _ _;cases es with
  |nil=>exact .nil
  |cons _ _=>cases e
 |@cons x kv xs kvs h1 h2 _ ih=>
  intro es hk e v t;cases es with
  |nil=>cases e
  |cons a es=>
   rw[cU,cU,List.cons.injEq] at e;cases v with
   |cons v1 v2=>
    refine .cons ?_ (ih (λy m=>hk y (.tail _ m)) e.2 v2 λy m=>t y (.tail _ m))
    obtain⟨k,k1,k2⟩:=hk x (.head _);obtain⟨z,t1,t2⟩:=t a (.head _);have i1:Value.isStrOf kv.1 x.key=true:=h1;have i2:Value.isStrOf k x.key=true:=k1;cases hx:x.key with
    |str s tk=>
     rw[hx] at i1 i2;have j1:s=kv.1:=by simpa[Value.isStrOf] using i1
     have j2:s=k:=by simpa[Value.isStrOf] using i2
     have j3:kv.1=z:=by
      lia
     refine⟨?_,?_,by rw[h2];exact v1,by rw[t1];rfl⟩
     .rw[k2,t1,<-j2,j1,j3];rfl
     .rw[t2,hx,j1,j3];exact⟨tk,rfl⟩
    |_=>rw[hx] at i1;cases i1
noncomputable def iM(z:Str)(k:TK):Bool:=decide (k≠.inr z)
theorem PY(z:Str):∀{es:List (TK×V×V)} {kvs:List (Str×ai)},kvs.map (λp=>TK.inr p.1)=es.map (·.1)->Vals (es.map (·.2.2)) (kvs.map (·.2))->(without kvs z).map (λp=>TK.inr p.1)=(es.filter λe=>iM z e.1).map (·.1)/\Vals ((es.filter λe=>iM z e.1).map (·.2.2)) ((without kvs z).map (·.2))
 |[],[],_,_=>⟨rfl,.nil⟩
 |[],_::_,e,_=>by cases e
 |_::_,[],e,_=>by cases e
 |a::es,kv::kvs,e,v=>by
  rw[cU,cU,List.cons.injEq] at e;cases v with
  |cons v1 v2=>
   obtain⟨i1,i2⟩:=PY z e.2 v2;unfold without at *;by_cases h:kv.1=z
   .grind [iM]
   .have h':iM z a.1=true:=by unfold iM;rw[<-e.1];simpa using h
    rw[AZ,AZ,bM (by simpa using h),bM h']
    exact⟨by rw[cU,cU,i1,e.1],.cons v1 i2⟩
theorem QG(z:Str){v:V}:∀{es:List (TK×V×V)} {kvs:List (Str×ai)},kvs.map (λp=>TK.inr p.1)=es.map (·.1)->Vals (es.map (·.2.2)) (kvs.map (·.2))->jI es (.inr z)=some v->∃u,valueAt kvs z=some u/\RelV v u
 |[],[],_,_,h=>by cases h
 |[],_::_,e,_,_=>by cases e
 |_::_,[],e,_,_=>by cases e
 |a::es,kv::kvs,e,vs,h=>by
  rw[cU,cU,List.cons.injEq] at e;cases vs with
  |cons v1 v2=>
   unfold jI at h;unfold valueAt;rw[A4] at h ⊢;by_cases g:kv.1=z
   .simp_all
   .have g':¬a.1=.inr z:=by rw[<-e.1];intro x;cases x;exact g rfl
    rw[sX g'] at h;rw[sX g];exact QG z e.2 v2 h
def wz(K:aL):V->List V->Hp->VK->Prop:=λx vs H Q=>∃d es ep z v,x=.ref d/\vs=[.str z]/\H d=some (.dG es ep)/\fJ es/\jI es (.inr z)=some v/\∀jl,Q v (upd H d (.dG (es.filter λe=>iM z e.1) jl))
def Yk{X:Cx}(K:aL):w6 X "dict.pop" (wz K):=by
 intro aa s Z H x xs v us Q I rx rs h;obtain⟨d,es,ep,z,v',rfl,rfl,hd,ht,hv,q⟩:=h;cases rx;obtain⟨u,rfl,ru⟩:=rs.one;obtain⟨tk,rfl⟩:=ru;obtain⟨kvs,D1,D2,D3,D4,lo⟩:=tF I hd ht;obtain⟨w,hw,mr⟩:=QG z D3 D2 hv;refine call_meetsIn PySem.F.slot_dict_pop (BS I hd).1 PySem.F.entry_dict_pop (PySem.F.args_dict_pop_2 _ _) (meets_dict_pop_there (strKind X.prog X.w) d (k:=z) (by show Value.isStrOf z (.str z tk)=true;simp[Value.isStrOf]) [] (.inl rfl) (by rfl)) ⟨kvs,w,D1.dictOf,D4,hw,λh' hD hs=>?_⟩
 obtain⟨o,xs,jl,g1,g2,g3,g4,g5,g6⟩:=hD;obtain⟨f1,f2⟩:=PY z D3 D2;obtain⟨hz,_⟩:=(show bf X.prog X.w H s.heap d (.dG es ep) from I.bw d _ hd);refine⟨v',_,Js (ob:=.dG (es.filter λe=>iM z e.1) jl) I (by rw[hd];exact sZ) hs ⟨_,g1⟩ ⟨?_,lo,o,xs,g1,g2,g3,V6 g5 (λx m=>g4 x (Mo.mp m)) f1 f2 λe m=>ht e (tZ.mp m).1,?_⟩,mr,q jl⟩
 .exact jt (vz _ _) hz
 .rw[<-f1,show(λp:Str×ai=>TK.inr p.1)=TK.inr∘(·.1) from rfl,<-eU]
  exact List.Pairwise.map _ (λa b ne z=>ne (by cases z;rfl)) g6
end L2
namespace L2
open PySem PySem.Spec PyProof.Rows
section
variable{X:Cx}{K:aL}
def wt(K:aL):V->List V->Hp->VK->Prop:=λx xs H Q=>∃a y o,x=.ref a/\xs=[y]/\hV K H a y o/\Q (o.getD .aI) H
def Yl(K:aL)(hu:X.A.units+41<cLine)(hK:X.K=K:=by rfl):w6 X "dict.get" (wt K):=by
 subst hK;intro aa s Z H x xs v us Q I r rs h;obtain⟨a,y,o,rfl,rfl,g,q⟩:=h;obtain⟨u,rfl,ru⟩:=Vals.one rs;cases r;exact e3l (by lia) I g ru λw' s' I' mr=>⟨o.getD .aI,H,I',mr,q⟩
end
end L2
namespace L2
open PySem PySem.Spec PySem.W PyProof.Rows
end L2
namespace L2
open PySem PySem.Spec PyProof.Rows
def Ja{P:dc}{w:cD}{H:Hp}(h:bZ)(hb:sysModules<h.objs.size):bf P w H (h.push { cls:=.type "dict",data:=.dict #[]}) h.objs.size (.dG [] 0):=
 ⟨k9 _,qH.mpr (Ne.symm (gP hb)),_,#[],iR _ rfl,⟨rfl,rfl,rfl⟩,rfl,.nil,Hz⟩
def e3y:TE:=λ_ H Q=>∀p,H p=none->Q (.ref p) (upd H p (.dG [] 0))
end L2
namespace L2
open PySem PySem.Spec PySem.W PyProof.Rows
variable{H:Hp}{ps:List (TK×V×V)}{A:cN}{l:aj}{ys:List V}{E:ai->ax->Prop}{s:ax}
def MQ:entryFor table "dict.update.loop"=some Builtin.«dict.update.loop»:=entryFor_of_tree (by kernel_rfl)
def EV:plainId "dict.update.loop"=true:=by decide +kernel
def eY(es:List (TK×V×V))(ps:List (TK×V×V)):List (TK×V×V):=ps.foldl (λes p=>du es p.1 p.2.1 p.2.2) es
def FA{d:aj}{o:HO}(h:H d=none):az H (upd H d o):=λb u e=>by
 grind [dh]
section
variable{X:Cx}{aa:List (aj×Obj)}{Z:St}{H:Hp}
structure jL (K:aL) (H:Hp) (ys:List V) (ps:List (TK×V×V)):Prop where
 len:ys.length=ps.length
 item:∀(i:Nat) p,ps[i]?=some p->∃a,ys[i]?=some (.ref a)/\iB K H a [p.2.1,p.2.2]/\aZ K H [p.2.1] [p.1.d]/\p.1.ok 8=true
def TR(es ps:List (TK×V×V)):(eY es ps).length<=es.length+ps.length:=by
 induction ps generalizing es with
 |nil=>exact bY _
 |cons p ps ih=>
  grind [E9,eY]
def ND(K:aL)(h:∀p∈ps,aZ K H [p.2.1] [p.1.d]):∀{es:List (TK×V×V)},aZ K H (es.map (·.2.1)) (es.map (·.1.d))->aZ K H ((eY es ps).map (·.2.1)) ((eY es ps).map (·.1.d)):=by
 induction ps with
 |nil=>exact λr=>r
 |cons p ps ih=>
  intro es r;refine ih (λq m=>h q (.tail _ m)) ?_
  have hp:=h p (.head _);clear ih h
  induction es with
  |nil=>exact hp
  |cons e es ih=>
   obtain⟨r1,r2⟩:=ag.inv r;show aZ K H ((if e.1=p.1 then(e.1,e.2.1,p.2.2)::es else e::du es p.1 p.2.1 p.2.2).map (·.2.1)) ((if e.1=p.1 then(e.1,e.2.1,p.2.2)::es else e::du es p.1 p.2.1 p.2.2).map (·.1.d))
   split
   .exact .cons r1 r2
   .exact .cons r1 (ih r2)
def TU{R:Result->ax->Prop}{d J:aj}(hd:H d=none)(hl:c8 X.K H l ys)(hp:jL X.K H ys ps)(hh:A.handled=none)(hu:A.units+12<cLine)(hn:ps.length<1000)
  (hJ:∀u,i5 X aa (upd H d u) J)
  (fin:∀s ep,Inv X aa Z (upd H d (.dG (eY [] ps) ep)) s->R (.ok (.ret .none)) s) :
  ∀(n i:Nat) (ep:Nat) (s:ax) (tk:Tok),ps.length - i=n->i<=ps.length->Inv X aa Z (upd H d (.dG (eY [] (ps.take i)) ep)) s->s.heap.IsListIter J l i->codeAny (model X.prog X.w) A (.builtin "dict.update.loop" ⟨[.ref d,.ref J,.int (i:Int) tk,.none],[]⟩) R s:=by
 intro n
 induction n with
 |zero=>
  intro i ep s tk hi hi2 I it;have e:i=ps.length:=by lia
  subst e;refine codeAny_builtin MQ ?_;rw[Around.under_plainId EV _];show wpAny _ A.in1 (pyNext (.ref J) >>= _) _ _ s;have l6:=(FA (o:=.dG (eY [] (ps.take ps.length)) ep) hd).seq hl;obtain⟨aG,rv,p,hz⟩:=I.list l6;obtain⟨f0,f1,f2,f3,f4,f5⟩:=hJ (.dG (eY [] (ps.take ps.length)) ep);have hlen:=rv.length;have CW:=hp.len;refine ay (wpAny_pyNext_list_end hh it p.isList (by simp;lia) λh' eb=>?_)
  have I1:=I.turned (t':=s.toks) (λb o hb e=>eb b o hb e) f0 f1 f3 f4 f5
  rw[List.take_length] at I1;exact ay (aX (aX (fin _ ep I1)))
 |succ n ih=>
  intro i ep s tk hi hi2 I it;have lt:i<ps.length:=by lia
  obtain⟨a,ya,sq,rk,ok⟩:=hp.item i ps[i] (fG lt);refine codeAny_builtin MQ ?_;rw[Around.under_plainId EV _];show wpAny _ A.in1 (pyNext (.ref J) >>= _) _ _ s;have sm:=FA (o:=.dG (eY [] (ps.take i)) ep) hd;obtain⟨aG,rv,p,hz⟩:=I.list (sm.seq hl);obtain⟨u,hu1,ru⟩:=rv.get ya;obtain rfl:u=Value.ref a:=ru;obtain⟨f0,f1,f2,f3,f4,f5⟩:=hJ (.dG (eY [] (ps.take i)) ep);refine ay (wpAny_pyNext_list_item it p.isList (x:=.ref a) (by simpa using hu1) λh' AH sb=>?_)
  have I1:Inv X aa Z (upd H d (.dG (eY [] (ps.take i)) ep)) { s with heap:=h'}:=I.turned (t':=s.toks) (λb o hb e=>(sb.2 b hb).trans e) f0 f1 f3 f4 f5
  obtain⟨k6,Hh,tp,_⟩:=I1.tuple (sm.zo sq);obtain⟨w1,w2,rfl,r1,r2⟩:∃w1 w2,k6=[w1,w2]/\RelV ps[i].2.1 w1/\RelV ps[i].2.2 w2:=by
   cases Hh with
   |cons r1 t=>
    cases t with
    |cons r2 t=>cases t;exact⟨_,_,rfl,r1,r2⟩
  obtain⟨o,ho,hc,n0,uG⟩:∃o,h'.get? a=some o/\o.cls=.type "tuple"/\∃n,o.data=.seq #[w1,w2] n:=by
   obtain⟨o,h1,h2,h3⟩:=tp;exact⟨o,h1,h2,h3⟩
  have hT:({ s with heap:=h'}:ax).TypeIs (.ref a) "tuple":=⟨o,ho,hc⟩;refine ay (ju (ay (wpAny_tryCatch ?_)));unfold Builtin.Dict.pairItems;refine ay (wpAny_typeOf hT ?_);rw[bM (by decide)]
  refine ay (m:=seqItems? (.ref a)) (ay (wpAny_load ho ?_));rw[uG];refine aX (aX ?_);show wpAny _ _ (holding [w1,w2] (dictSet d w1 w2)) _ _ _;refine ju ?_;have I2:=I1.pinned (fp:=[J]) (λb hb=>by rw[mG.mp hb];exact hJ _) (λb hb=>by
   rw[mG.mp hb];obtain⟨oj,ej,_,dj⟩:=AH
   simp_all)
  have L4:ps.take (i+1)=ps.take i++[ps[i]]:=(List.take_append_getElem lt).symm;have hpa:du (eY [] (ps.take i)) ps[i].1 ps[i].2.1 ps[i].2.2=eY [] (ps.take (i+1)):=by rw[L4];unfold eY;rw[Mz];rfl
  have hlen:=TR [] (ps.take i);rw[wK,A0] at hlen;refine IP (H':=upd (upd H d (.dG (eY [] (ps.take i)) ep)) d (.dG (eY [] (ps.take (i+1))) (qk (eY [] (ps.take i)) ps[i].1 ep))) (show A.in1.units+8<cLine from ?_) I2 ⟨_,ep,ps[i].1,aK,?_,(ag.Hr rk sm),ok,?_,by rw[hpa]⟩ r1 r2 λs' I3=>?_
  .lia
  .exact ag.Hr (H:=H) (ND X.K (λq m=>by
    obtain⟨j,hj⟩:=zz.mp (List.mem_of_mem_take m);obtain⟨_,_,_,r,_⟩:=hp.item j q hj;exact r) .nil) sm
  .exact gj (by lia:(eY [] (ps.take i)).length<1000000) (by decide)
  .have eu:upd (upd H d (.dG (eY [] (ps.take i)) ep)) d (.dG (eY [] (ps.take (i+1))) (qk (eY [] (ps.take i)) ps[i].1 ep))=upd H d (.dG (eY [] (ps.take (i+1))) (qk (eY [] (ps.take i)) ps[i].1 ep)):=by
    funext b;unfold upd;split <;> rfl
   rw[eu] at I3;obtain⟨oj,ej,cj,dj⟩:=id AH;have ej':s'.heap.get? J=some oj:=(I3.pin (J,oj) (nU _ (nU _ (Bp (by simp) ej)))).1
   refine aX ⟨plainId_quiet EV _,?_⟩;exact ih (i+1) _ s' _ (by lia) lt I3.eS ⟨oj,ej',cj,dj⟩
theorem UW{aG:Array ai}{Q:ak ai->ax->Prop}(pl:PlainL s.heap l aG)(hA:A.handled=none)
  (h:∀h' tk,(∀b u,s.heap.get? b=some u->h'.get? b=some u)->Q none { s with heap:=h',toks:=tk}):wpAny (model X.prog X.w) A (getAttr? (.ref l) "keys") Q E s:=by
 obtain⟨o,n,hx,hc,hd,uG⟩:=pl;obtain⟨c,av,dat,sl⟩:=o;simp only at hc uG hd;subst hc uG hd;obtain⟨hp,g,d,tk,os⟩:=s;have hT:∀SG,(⟨hp,g,d,SG,os⟩:ax).TypeIs (.ref l) "list":=λ_=>⟨_,hx,rfl⟩
 have f1:=sub_AttributeError;have f3:=F.slot_list_getattribute.lookup;have f4:=F.slot_list_getattribute.bind (.ref l);have f5:=am_list_getattr_none;unfold getAttr? getAttrBy? getAttrBy
 repeat (any_goals (first|assumption|exact hT _|((with_reducible show wpAny _ _ (call (Value.builtin "list.__getattribute__") _ _) _ _ _);refine call_meets F.slot_list_getattribute (hT _) am_entry_list_getattribute (F.args_list_getattribute_2 _ _) (meets_getattribute_miss_list l aG n sl "keys" _ (by rw[typeLookup_type,builtinLookup_eq_fast];kernel_rfl) (by decide) (by size_fits)) ⟨hx,hA,λh' SG e tO=>?_⟩)|wp_step))
 obtain⟨t',u',he⟩:=tO.there;show wpAny _ _ (getattributeRaised _ _ _ _ _ _ _) _ _ _;unfold getattributeRaised
 repeat (any_goals (first|assumption|wp_step))
 exact h _ _ tO.keeps
theorem SW{Q:ai->ax->Prop}(I:Inv X aa Z H s)(hl:c8 X.K H l ys)(hp:jL X.K H ys ps)(hh:A.handled=none)(hu:A.units+20<cLine)(hn:ps.length<1000)
  (q:∀s' ep,Inv X aa Z (upd H s.heap.objs.size (.dG (eY [] ps) ep)) s'->Q (.ref s.heap.objs.size) s'):wpAny (model X.prog X.w) A (call (.type "dict") [.ref l]) Q E s:=by
 refine callType_codes (Q₁:=λobj s₁=>obj=.ref s.heap.objs.size/\s₁={ s with heap:=s.heap.push { cls:=.type "dict",data:=.dict #[]}}) F.kt_called_dict (F.kt_typeCall_dict_1 _) F.entry_dict_init (kt_code_dict_new _ ⟨rfl,rfl⟩) ?_
 rintro obj s₁ ⟨rfl,rfl⟩;have hd:H s.heap.objs.size=none:=I.bw.fresh (bY _);have I1:=I.laid (a:=s.heap.objs.size) (o:=.dG [] 0) (h':=s.heap.push { cls:=.type "dict",data:=.dict #[]}) (t':=s.toks) (λ_ _ q=>cZ _ q) (bY _) (Ja s.heap I.big)
 generalize s.heap.objs.size=d at *;generalize s.heap.push { cls:=.type "dict",data:=.dict #[]}=KW at *;have hT:=(BS I1 aK).1;obtain⟨aG,rv,pl,hz⟩:=I1.list ((FA hd).seq hl);have hTl:({ s with heap:=KW,toks:=s.toks}:ax).TypeIs (.ref l) "list":=by
  obtain⟨o,n,h1,h2,_⟩:=pl;exact⟨o,h1,h2⟩
 refine⟨hT,F.args_dict_init_2 _ _,?_⟩;unfold Builtin.«dict.__init__»;refine ay ?_;unfold Builtin.Dict.selfAndRest;refine ay (wpAny_notOrdered_dict hT ?_);show wpAny _ _ (pure (d,[Value.ref l])) _ _ _;refine aX ?_;show wpAny _ _ (Builtin.Dict.updateFrom "dict.__init__" d (.ref l) [] .none) _ _ _;unfold Builtin.Dict.updateFrom;refine ay (wpAny_typeOf hTl ?_);rw[bM (by decide)]
 refine ay (UW (X:=X) pl (show A.in1.in1.handled=none from hh) λh' tk kp=>?_)
 have I2:Inv X aa Z (upd H d (.dG [] 0)) { s with heap:=h',toks:=tk}:=I1.kept (t':=tk) kp;obtain⟨k6,Hh,Lu,_⟩:=I2.list ((FA hd).seq hl);show wpAny _ _ (rule _ >>= _) _ _ _;refine ay (wpAny_rule ?_);refine ay (wpAny_pyIter_list Lu.isList ?_);have I3:=I2.kept (h':=h'.push { cls:=.type "list_iterator",data:=.fields #[.ref l,.int 0 0]}) (t':=tk) (λ_ _ e=>cZ _ e)
 have Rl:d<h'.objs.size:=by
  obtain⟨_,_,o,xs,g1,_⟩:=(show bf X.prog X.w _ h' d (.dG [] 0) from I2.bw d _ aK);exact cT g1
 refine aX ⟨plainId_quiet EV _,?_⟩;refine TU (A:=A.in1) (J:=h'.objs.size) hd hl hp hh (show A.units+1+12<cLine by lia) hn (λu=>I2.kf (bY _) ?_) (λs' ep I4=>⟨rfl,q s' ep I4⟩) ps.length 0 0 _ _ rfl (k9 _) I3 ⟨_,iR _ rfl,rfl,rfl⟩
 rw[dh (wI Rl)];have:=I2.bw.fresh (bY _)
 rwa[dh (wI Rl)] at this
def QH(K:aL):List V->Hp->VK->Prop:=λvs H Q=>∃a ys ps,vs=[.ref a]/\c8 K H a ys/\jL K H ys ps/\ps.length<1000/\∀p ep,H p=none->Q (.ref p) (upd H p (.dG (eY [] ps) ep))
def TV(K:aL)(hu:X.A.units+41<cLine)(hc:X.calm=true:=by rfl)(hK:X.K=K:=by rfl):bT X (.type "dict") (QH K):=by
 subst hK;intro aa s Z H xs us Q I r h;obtain⟨a,ys,ps,rfl,hl,hp,hn,q⟩:=h;obtain⟨u,rfl,ru⟩:=vals1 r;cases ru;exact SW I hl hp (I.ok.hd hc) (by lia) hn λs' ep I'=>⟨.ref s.heap.objs.size,_,I',rfl,q _ ep (I.bw.fresh (bY _))⟩
end
end L2
namespace L2
open PySem PySem.Spec PySem.W PySem.Calls PyProof.Rows
section
variable{prog:dc}{w:cD}{A:cN}{E:ai->ax->Prop}{s:ax}
def QI{vs:List ai}(h:vs.length<2):(arrOf (SortSt.mk' general' (vs.toArray.zip vs.toArray) #[] 7 none)).map (·.2)=vs.toArray:=by
 grind
def TX{a:aj}{vs:List ai}{n:Nat}{P:Fin->ax->Prop}(ho:s.heap.get? a=some (seqObj "list" vs.toArray n))(h1:vs.length<2)
  (h:P (.done (.ret .none)) { s with heap:=sortedHeap s.heap a vs vs.toArray}):wpAny (model prog w) A (Builtin.«list.sort» ⟨[.ref a],[]⟩) P E s:=by
 rw[list_sort_plain];have ha:a<s.heap.objs.size:=cT ho;have hz:vs.length<=sizeLine:=by rw[sizeLine_eq];lia
 refine ay (listItems_at ho rfl ?_);refine ay (listUpdate_at ho rfl ?_ (by rw[fm];exact hz) (k9 _))
 obtain⟨e1,yA⟩:∃e1,(s.heap.update a (Obj.mapSeq λ_=>#[])).get? a=some (seqObj "list" #[] e1):=⟨_,get?_update_seq ho (λ_=>#[])⟩
 refine ay (seqEpoch_at yA rfl ?_);refine ay (wpAny_newTuple ?_ (by show vs.length<=_;exact hz))
 refine ay (wpAny_newList ?_ (k9 _));refine ju ?_;have yB:(((s.heap.update a (Obj.mapSeq λ_=>#[])).push (seqObj "tuple" vs.toArray 0)).push (seqObj "list" #[] 0)).get? a=some (seqObj "list" #[] e1):=by
  rw[EC _ _ _ (by rw[size_push',MA];exact gP (zw ha)),EC _ _ _ (by rw[MA];exact gP ha)]
  exact yA
 show wpAny (model prog w) A _ P E { s with heap:=((s.heap.update a (Obj.mapSeq λ_=>#[])).push (seqObj "tuple" vs.toArray 0)).push (seqObj "list" #[] 0)}
 dsimp only;have h2:vs.toArray.size<2:=by simpa using h1
 rw[bM h2,bM h2];refine ay (aX ?_);rw[StateT.run_pure];refine ay (aX ?_);dsimp only;refine ay (seqEpoch_at yB rfl ?_);refine ay (listUpdate_at yB rfl ?_ (k9 _) (by rw[QI h1,fm];first|exact hz|exact Nat.le_succ_of_le hz))
 simp only[bne_self_eq_false,qG,jK];rw[QI h1];exact aX h
def V7{vs:List ai}{h0:bZ}{Q:ai->ax->Prop}(h1:vs.length<2)(h:∀h' c,(∀b o,h0.get? b=some o->h'.get? b=some o)->h'.get? h0.objs.size=some (seqObj "list" vs.toArray c)->Q (.ref h0.objs.size) { s with heap:=h'}):
  wpAny (model prog w) A (call (.builtin "list.sort") [.ref h0.objs.size]) (λ_ s'=>Q (.ref h0.objs.size) s') E { s with heap:=h0.push (seqObj "list" vs.toArray 0)}:=by
 have ho:(h0.push (seqObj "list" vs.toArray 0)).get? h0.objs.size=some (seqObj "list" vs.toArray 0):=iR _ rfl;refine wpAny_call_entry slot_list_sort ⟨_,ho,rfl⟩ entry_list_sort ?_ (args_list_sort _);refine TX (s:={ s with heap:=h0.push (seqObj "list" vs.toArray 0)}) ho h1 ⟨_,rfl,?_⟩;have lt:h0.objs.size<(h0.push (seqObj "list" vs.toArray 0)).objs.size:=cT ho;obtain⟨e1,yA⟩:∃e1,((h0.push (seqObj "list" vs.toArray 0)).update h0.objs.size (Obj.mapSeq λ_=>#[])).get? h0.objs.size=some (seqObj "list" #[] e1):=⟨_,get?_update_seq ho (λ_=>#[])⟩
 have yB:((((h0.push (seqObj "list" vs.toArray 0)).update h0.objs.size (Obj.mapSeq λ_=>#[])).push (seqObj "tuple" vs.toArray 0)).push (seqObj "list" #[] 0)).get? h0.objs.size=some (seqObj "list" #[] e1):=cZ _ (cZ _ yA)
 have ho7:=get?_update_seq yB (λ_=>vs.toArray)
 refine h _ _ (λb o e=>?_) ho7
 have nb:b≠h0.objs.size:=gP (cT e);unfold sortedHeap;rw[HA _ _ _ _ nb];refine cZ _ (cZ _ ?_);rw[HA _ _ _ _ nb];exact cZ _ e
def UX{P:List ai->Prop}{r:aj}{Q:ai->ax->Prop}(h1:∀vs,P vs->vs.length<2)(hc:∀R:List ai->ax->Prop,(∀vs (h':bZ) (tk:Nat),P vs->(∀b o,s.heap.get? b=some o->h'.get? b=some o)->R vs { s with heap:=h',toks:=tk})->wpAny (model prog w) A.in1 (collect (.ref r)) R E s)
  (h:∀vs (h0:bZ) (tk:Nat),P vs->(∀b o,s.heap.get? b=some o->h0.get? b=some o)->∀(h':bZ) (c:Nat),(∀b o,h0.get? b=some o->h'.get? b=some o)->h'.get? h0.objs.size=some (seqObj "list" vs.toArray c)->Q (.ref h0.objs.size) { s with heap:=h',toks:=tk}):wpAny (model prog w) A (call (.builtin "sorted") [.ref r]) Q E s:=by
 refine Calls.call_function_entry kind_sorted plain_sorted entry_sorted (args_sorted1 _) ?_;unfold Builtin.«sorted»;refine ay (m:=checkCount "sorted" 1 1 _) (aX ?_);refine ay (hc _ λvs h' tk hP kp=>?_)
 have hl:=h1 vs hP;refine ay (wpAny_newList ?_ (by rw[sizeLine_eq];lia))
 refine ay (ju (wpAny_mono (V7 (s:={ s with heap:=h',toks:=tk}) (h0:=h') (vs:=vs) (Q:=λv s'=>Q v s') hl λh2 c Di hg=>h vs h' tk hP kp h2 c Di hg) (λ_ s' x=>?_) λ_ _ e=>e))
 exact aX ⟨_,rfl,x⟩
end
section
variable{X:Cx}{K:fI}
theorem Jb:∀{ys:List V} {us:List ai},ys.length=us.length->(∀(j:Nat) (y:V) (u:ai),ys[j]?=some y->us[j]?=some u->RelV y u)->Vals ys us
 |[],[],_,_=>.nil
 |[],_::_,h,_=>by simp at h
 |_::_,[],h,_=>by simp at h
 |y::ys,u::us,h,r=>.cons (r 0 y u rfl rfl) (Jb (by simpa using h) λj y' u' e1 e2=>r (j+1) y' u' (by simpa using e1) (by simpa using e2))
def QJ(K:fI):List V->Hp->VK->Prop:=λxs H Q=>∃a ys,xs=[.ref a]/\(c8 K H a ys\/∃es ep,H a=some (.dG es ep)/\fJ es/\ys=es.map (·.2.1))/\ys.length<2/\∀l,H l=none->Q (.ref l) (upd H l (.lst ys))
def Tg(hc:X.calm=true):bT X (.builtin "sorted") (QJ X.K):=by
 intro aa s Z H xs us Q I r h;obtain⟨a,ys,rfl,hq,hl,q⟩:=h;obtain⟨u,rfl,ru⟩:=Vals.one r;cases ru;refine UX (P:=Vals ys) (λvs rv=>by have:=rv.length;lia) ?_ λvs h0 tk rv kp h' c Di hg=>?_
 .intro R hR;rcases hq with hq|⟨es,ep,hd,ht,rfl⟩
  .obtain⟨aG,rv,pl,hz⟩:=I.list hq;refine collect_list pl.isList (hR aG _ s.toks rv λb o e=>?_) (by have:=rv.length;rw[sizeLine_eq];lia)
   have nb:b≠s.heap.objs.size:=gP (cT e);rw[HA _ _ _ _ nb];exact cZ _ e
  .obtain⟨kvs,D1,D2,D3,D4,lo⟩:=tF I hd ht;have l1:kvs.length=es.length:=by have:=congrArg List.length D3;simpa using this
   refine kdu_collect (kdl_dict (knd:=strKind X.prog X.w) (kvs:=kvs) (ep:=ep) lo) (I.ok.hd hc) D1 D4 λh' tk aV kp hi=>hR _ h' tk ?_ kp
   refine Jb (by have:=hi.1;rw[bx,<-l1,<-this];simp) λj y u e1 e2=>?_
   rw[dR] at e1;obtain⟨e,e3,rfl⟩:=df.mp e1;obtain⟨z,z1,z2⟩:=ht e (sU e3);obtain⟨k,v,k1,k2⟩:=hi.2 j u (by rw[<-vy];exact e2)
   have k3:(kvs.map (λp=>TK.inr p.1))[j]?=(es.map (·.1))[j]?:=by rw[D3]
   rw[dR,dR,k1,e3] at k3;have k4:TK.inr k=e.1:=Option.some.inj k3;rw[z1] at k4;cases k4;rw[z2];exact Value.isStrOf_shape k2
 .have e:=rv.length;have I0:Inv X aa Z H { s with heap:=h0,toks:=tk}:=I.kept kp;have I1:=I0.laid (h':=h') (t':=tk) (o:=.lst ys) Di (bY _) (show bf X.prog X.w _ h' _ (.lst ys) from⟨by rw[sizeLine_eq];lia,vs,c,rv,hg⟩)
  exact⟨.ref h0.objs.size,_,I1,rfl,q _ (I0.bw.fresh (bY _))⟩
end
end L2
namespace L2
open PySem PySem.Spec PySem.W PyProof.Rows
variable{p:Array Nat}{i m k l:Nat}
def pw(lt:Nat->Nat->Bool)(n:Nat){α:Type}:KasT α->(α->Prop)->Prop
 |.ret a,P=>P a
 |.ask i j k,P=>i<n/\j<n/\i≠j/\pw lt n (k (lt i j)) P
section
variable{lt:Nat->Nat->Bool}{n:Nat}
theorem F0{α:Type}{P Q:α->Prop}(h:∀a,P a->Q a):∀{t:KasT α},pw lt n t P->pw lt n t Q
 |.ret a,p=>h a p
 |.ask i j k,p=>⟨p.1,p.2.1,p.2.2.1,F0 h p.2.2.2⟩
theorem Ai{α β:Type}{P:α->Prop}{Q:β->Prop}{f:α->KasT β}(h:∀a,P a->pw lt n (f a) Q):∀{t:KasT α},pw lt n t P->pw lt n (t.bind f) Q
 |.ret a,p=>h a p
 |.ask i j k,p=>⟨p.1,p.2.1,p.2.2.1,Ai h p.2.2.2⟩
structure Ord (lt:Nat->Nat->Bool) (n:Nat):Prop where
 zt:∀i j,i<n->j<n->i≠j->lt i j=false->lt j i=true
 asy:∀i j,i<n->j<n->lt i j=true->lt j i=false
 tr:∀i j k,i<n->j<n->k<n->lt i j=true->lt j k=true->lt i k=true
structure qr (n:Nat) (p:Array Nat):Prop where
 pm:p.Perm (List.toArray (List.range n))
def qr.size{p:Array Nat}(h:qr n p):p.size=n:=by have:=h.pm.size_eq;simpa using this
def qr.below(h:qr n p)(hi:i<n):p.getD i 0<n:=by
 have hs:=h.size;have e:p.getD i 0=p[i]'(by lia):=by simp[Array.getD,hs,hi]
 rw[e];have:p[i]'(by lia)∈p:=Array.getElem_mem _
 have:=h.pm.mem_iff.mp this
 simp_all
theorem qr.inj(h:qr n p){j:Nat}(hi:i<n)(hj:j<n)(e:p.getD i 0=p.getD j 0):i=j:=by
 have hs:=h.size;have nd:p.toList.Nodup:=(Array.perm_iff_toList_perm.mp h.pm).nodup_iff.mpr (by simpa using Mu)
 have ei:p.getD i 0=p.toList[i]'(by simp;lia):=by simp[Array.getD,hs,hi]
 have ej:p.getD j 0=p.toList[j]'(by simp;lia):=by simp[Array.getD,hs,hj]
 rw[ei,ej] at e;exact(Ew nd).mp e
def qt(lt:Nat->Nat->Bool)(p:Array Nat)(k:Nat):Prop:=∀i j,i<j->j<k->lt (p.getD i 0) (p.getD j 0)=true
def zD(lt:Nat->Nat->Bool)(p:Array Nat)(k:Nat):Prop:=∀i j,i<j->j<k->lt (p.getD j 0) (p.getD i 0)=true
variable(O:Ord lt n){p:Array Nat}(hp:qr n p)
include O hp
theorem V8(h1:1<=m)(hm:m<n)(h:qt lt p m)(e:lt (p.getD (m - 1) 0) (p.getD m 0)=true):qt lt p (m+1):=by
 intro i j o6 hj;by_cases z:j=m
 .subst z;by_cases z2:i=j - 1
  .rw[z2];exact e
  .exact O.tr _ _ _ (hp.below (by lia)) (hp.below (by lia)) (hp.below hm) (h i (j - 1) (by lia) (by lia)) e
 .exact h i j o6 (by lia)
theorem V9(h1:1<=m)(hm:m<n)(h:zD lt p m)(e:lt (p.getD m 0) (p.getD (m - 1) 0)=true):zD lt p (m+1):=by
 intro i j o6 hj;by_cases z:j=m
 .subst z;by_cases z2:i=j - 1
  .rw[z2];exact e
  .exact O.tr _ _ _ (hp.below hm) (hp.below (by lia)) (hp.below (by lia)) e (h i (j - 1) (by lia) (by lia))
 .exact h i j o6 (by lia)
theorem JK:∀(f m:Nat),1<=m->m+f<=n->qt lt p m->pw lt n (kas_asc p f m) λr=>m<=r/\r<=m+f/\qt lt p r/\(r<m+f->lt (p.getD r 0) (p.getD (r - 1) 0)=true)
 |0,m,_,_,h=>⟨bY _,bY _,h,λz=>cO z (jU _)⟩
 |f+1,m,h1,hm,h=>by
  refine⟨hp.below (by lia),hp.below (by lia),λz=>by have:=hp.inj (by lia) (by lia) z;lia,?_⟩
  cases e:lt (p.getD m 0) (p.getD (m - 1) 0) with
  |true=>exact⟨bY _,by lia,h,λ_=>e⟩
  |false=>
   have:=O.zt _ _ (hp.below (by lia)) (hp.below (by lia)) (λz=>by have:=hp.inj (by lia) (by lia) z;lia) e
   exact F0 (λr hr=>⟨by lia,by lia,hr.2.2.1,λz=>hr.2.2.2 (by lia)⟩) (JK f (m+1) (by lia) (by lia) (V8 O hp h1 (by lia) h this))
theorem PZ:∀(f m:Nat),1<=m->m+f<=n->zD lt p m->pw lt n (kas_desc f p m 0) λr=>r.1=p/\r.2.2=0/\m<=r.2.1/\r.2.1<=m+f/\zD lt p r.2.1
 |0,m,_,_,h=>⟨rfl,rfl,bY _,bY _,h⟩
 |f+1,m,h1,hm,h=>by
  refine⟨hp.below (by lia),hp.below (by lia),λz=>by have:=hp.inj (by lia) (by lia) z;lia,?_⟩
  cases e:lt (p.getD m 0) (p.getD (m - 1) 0) with
  |true=>exact F0 (λr hr=>⟨hr.1,hr.2.1,by lia,by lia,hr.2.2.2.2⟩) (PZ f (m+1) (by lia) (by lia) (V9 O hp h1 (by lia) h e))
  |false=>
   have:=O.zt _ _ (hp.below (by lia)) (hp.below (by lia)) (λz=>by have:=hp.inj (by lia) (by lia) z;lia) e
   refine⟨hp.below (by lia),hp.below (by lia),λz=>by have:=hp.inj (by lia) (by lia) z;lia,?_⟩
   rw[this];exact⟨rfl,rfl,bY _,Hw _ _,h⟩
omit O in
theorem QK(hm:m<=n)(i:Nat):(kas_rev p 0 m).getD i 0=if i<m then p.getD (m - 1 - i) 0 else p.getD i 0:=by
 have hs:=hp.size;have:=getElem?_mirror_all (xs:=p) (i:=0) (j:=m) (by lia) i
 have g:∀(q:Array Nat) (j:Nat),q.getD j 0=(q[j]?).getD 0:=λq j=>by
  simp_all
 unfold kas_rev;rw[g,this];simp only[k9,true_and,Nat.zero_add];split
 .rw[g]
 .rw[g]
omit O in
theorem P1(m:Nat):qr n (kas_rev p 0 m):=⟨(mirror_perm _ _ _ _).trans hp.pm⟩
theorem Ym(hm:m<=n)(h:zD lt p m):qt lt (kas_rev p 0 m) m:=by
 intro i j o6 hj;rw[QK hp hm,QK hp hm,bM (by lia),bM hj]
 exact h _ _ (by lia) (by lia)
theorem Jc{k:Nat}(hk:k<n)(hs:qt lt p k):∀(f l r:Nat),l<=r->r<=k->r - l<=f->(∀i,i<l->lt (p.getD i 0) (p.getD k 0)=true)->(∀i,r<=i->i<k->lt (p.getD k 0) (p.getD i 0)=true)->
  pw lt n (kas_place p k f l r) λx=>x<=k/\(∀i,i<x->lt (p.getD i 0) (p.getD k 0)=true)/\∀i,x<=i->i<k->lt (p.getD k 0) (p.getD i 0)=true
 |0,l,r,h1,h2,h3,a,b=>⟨by lia,a,λi hi hk=>b i (by lia) hk⟩
 |f+1,l,r,h1,h2,h3,a,b=>by
  unfold kas_place;split
  .exact⟨by lia,a,λi hi hk=>b i (by lia) hk⟩
  .refine⟨hp.below hk,hp.below (by lia),λz=>by have:=hp.inj hk (by lia) z;lia,?_⟩
   have hm:(l+r) / 2<k:=by lia
   cases e:lt (p.getD k 0) (p.getD ((l+r) / 2) 0) with
   |true=>
    refine Jc hk hs f l _ (by lia) (by lia) (by lia) a λi hi hik=>?_
    by_cases z:i=(l+r) / 2
    .rw[z];exact e
    .exact O.tr _ _ _ (hp.below hk) (hp.below (by lia)) (hp.below (by lia)) e (hs _ _ (by lia) hik)
   |false=>
    have e2:=O.zt _ _ (hp.below hk) (hp.below (by lia)) (λz=>by have:=hp.inj hk (by lia) z;lia) e
    refine Jc hk hs f _ r (by lia) (by lia) (by lia) (λi hi=>?_) b
    by_cases z:i=(l+r) / 2
    .rw[z];exact e2
    .exact O.tr _ _ _ (hp.below (by lia)) (hp.below (by lia)) (hp.below hk) (hs _ _ (by lia) (by lia)) e2
omit O in
theorem QL(hk:k<n)(hl:l<=k)(i:Nat):(bubble p k (k - l)).getD i 0=if i=l then p.getD k 0 else if l<i/\i<=k then p.getD (i - 1) 0 else p.getD i 0:=by
 have hs:=hp.size;have:=getElem?_bubble (xs:=p) (src:=k) (by lia) (k - l) (by lia) i
 have g:∀(q:Array Nat) (j:Nat),q.getD j 0=(q[j]?).getD 0:=λq j=>by
  simp_all
 rw[g,this,show k - (k - l)=l by lia]
 split
 .rw[g]
 .split
  .rw[g]
  .rw[g]
theorem Yn(hk:k<n)(hl:l<=k)(hs:qt lt p k)(a:∀i,i<l->lt (p.getD i 0) (p.getD k 0)=true)(b:∀i,l<=i->i<k->lt (p.getD k 0) (p.getD i 0)=true):qt lt (bubble p k (k - l)) (k+1):=by
 intro i j o6 hj;rw[QL hp hk hl,QL hp hk hl];by_cases j1:j=l
 .rw[bM j1,bc (show ¬i=l by lia),bc (show ¬(l<i/\i<=k) by lia)]
  exact a i (by lia)
 .rw[bc j1];by_cases i1:i=l
  .grind
  .rw[bc i1];by_cases j2:l<j
   .rw[bM (show l<j/\j<=k by lia)]
    by_cases i2:l<i
    .rw[bM (show l<i/\i<=k by lia)];exact hs _ _ (by lia) (by lia)
    .rw[bc (show ¬(l<i/\i<=k) by lia)]
     by_cases z:i=j - 1
     .lia
     .exact hs _ _ (by lia) (by lia)
   .rw[bc (show ¬(l<j/\j<=k) by lia),bc (show ¬(l<i/\i<=k) by lia)]
    exact hs _ _ o6 (by lia)
omit hp in
theorem QM:∀(f:Nat) (p:Array Nat) (k:Nat),qr n p->k+f=n->qt lt p k->pw lt n (kas_bin f p k) λq=>qr n q/\qt lt q n
 |0,p,k,hp,e,h=>by subst e;exact⟨hp,h⟩
 |f+1,p,k,hp,e,h=>by
  refine Ai (λl hl=>?_) (Jc O hp (by lia) h k 0 k (k9 _) (bY _) (by lia) (λi hi=>by lia) λi hi hk=>by lia)
  exact QM f _ (k+1) ⟨(bubble_perm _ _ _).trans hp.pm⟩ (by lia) (Yn O hp (by lia) hl.1 h hl.2.1 hl.2.2)
theorem V_(h1:1<=n):pw lt n (kas_count n p) λr=>1<=r.1/\r.1<=n/\qr n r.2/\qt lt r.2 r.1:=by
 refine Ai (λm hm=>?_) (JK O hp (n - 1) 1 (bY _) (by lia) λi j o6 hj=>by lia)
 obtain⟨m1,m2,m3,m4⟩:=hm;by_cases e:m=n
 .rw[bM (by simpa using e)]
  exact⟨m1,by show m<=n;lia,hp,m3⟩
 .rw[bc (by simpa using e)]
  by_cases g:m > 1
  .rw[bM g];refine⟨hp.below (by lia),hp.below (by lia),λz=>by have:=hp.inj (by lia) (by lia) z;lia,?_⟩
   rw[m3 0 (m - 1) (by lia) (by lia)]
   exact⟨m1,by show m<=n;lia,hp,m3⟩
  .rw[bc g];have em:m=1:=by lia
   subst em;have d2:zD lt p 2:=λi j o6 hj=>by
    have:i=0/\j=1:=by lia
    rw[this.1,this.2];exact m4 (by lia)
   refine Ai (λr hr=>?_) (PZ O hp (n - (1+1)) (1+1) (by lia) (by lia) d2)
   obtain⟨r1,r2,r3,r4,r5⟩:=hr;rw[bc (by rw[r2];exact jU 0),r1]
   refine Ai (λx hx=>?_) (JK O (P1 hp r.2.1) (n - r.2.1) r.2.1 (by lia) (by lia) (Ym O hp (by lia) r5))
   exact⟨by show 1<=x;lia,by show x<=n;lia,P1 hp _,hx.2.2.1⟩
omit hp in
theorem P4(h1:1<=n):pw lt n (kas_sort n) λq=>qr n q/\qt lt q n:=by
 refine Ai (λr hr=>?_) (V_ O ⟨Array.Perm.refl _⟩ h1)
 obtain⟨r1,r2,r3,r4⟩:=hr;have e:max r.1 1=r.1:=by lia
 rw[e];split
 .exact QM O (n - r.1) r.2 r.1 r3 (by lia) r4
 .have:r.1=n:=by lia
  rw[this] at r4;exact⟨r3,r4⟩
end
variable{ks:List (Int×Int)}
def AS(lt:Nat->Nat->Bool){α:Type}:KasT α->α
 |.ret a=>a
 |.ask i j k=>AS lt (k (lt i j))
theorem Gh{lt:Nat->Nat->Bool}{n:Nat}{α:Type}{P:α->Prop}:∀{t:KasT α},pw lt n t P->P (AS lt t)/\pw lt n t λa=>a=AS lt t
 |.ret _,p=>⟨p,rfl⟩
 |.ask _ _ _,p=>⟨(Gh p.2.2.2).1,p.1,p.2.1,p.2.2.1,(Gh p.2.2.2).2⟩
theorem QN{lt:Nat->Nat->Bool}{n:Nat}{α:Type}{cmp:Nat->Nat->(Bool->ax->Prop)->ax->Prop}{Q:α->ax->Prop}{s:ax}(hc:∀i j C,i<n->j<n->i≠j->C (lt i j) s->cmp i j C s):∀{t:KasT α},pw lt n t (λa=>Q a s)->t.kasWp cmp Q s
 |.ret _,p=>p
 |.ask i j k,p=>hc i j _ p.1 p.2.1 p.2.2.1 (QN hc p.2.2.2)
def G9(x y:Int×Int):Bool:=decide (x.1<y.1\/(x.1=y.1/\x.2<y.2))
def ltAt(ks:List (Int×Int))(i j:Nat):Bool:=G9 (ks.getD i (0,0)) (ks.getD j (0,0))
def QO(nd:ks.Nodup):Ord (ltAt ks) ks.length:=by
 refine⟨λi j hi hj hn h=>?_,λi j _ _ h=>?_,λi j k _ _ _ h1 h2=>?_⟩
 all_goals grind [List.getElem_inj,ltAt,G9]
def dm(ks:List (Int×Int)):List Nat:=(AS (ltAt ks) (kas_sort ks.length)).toList
def eX(h:bZ)(vs:List ai)(ks:List (Int×Int)):Prop:=vs.length=ks.length/\∀i,i<ks.length->∃x o a b t t' z m,vs.getD i Value.none=.ref x/\h.get? x=some o/\o.cls=.type "tuple"/\o.data=.seq #[.int a t,.int b t',z] m/\ks.getD i (0,0)=(a,b)
def eX.keep{h h':bZ}{vs:List ai}(T:eX h vs ks)(k:∀b o,h.get? b=some o->h'.get? b=some o):eX h' vs ks:=⟨T.1,λi hi=>by
 obtain⟨x,o,a,b,t,t',z,m,h1,h2,r⟩:=T.2 i hi;exact⟨x,o,a,b,t,t',z,m,h1,k _ _ h2,r⟩⟩
section
variable{prog:dc}{w:cD}{A:cN}{E:ai->ax->Prop}{s:ax}{vs:List ai}{ks:List (Int×Int)}
def Yo(T:eX s.heap vs ks)(nd:ks.Nodup)(i j:Nat)(C:Bool->ax->Prop)(hi:i<ks.length)(hj:j<ks.length)(ij:i≠j)(h:C (ltAt ks i j) s):kas_ask prog w A (tuples' true) vs i j C s:=by
 obtain⟨x,o,a,b,t,t',z,m,x1,x2,x3,x4,x5⟩:=T.2 i hi;obtain⟨y,p,c,d,u,u',z',m',y1,y2,y3,y4,y5⟩:=T.2 j hj;have hl:ltAt ks i j=decide (a<c\/(a=c/\b<d)):=by unfold ltAt G9;rw[x5,y5]
 rw[hl] at h;unfold kas_ask;rw[x1,y1];refine kat_lt x2 x4 y2 y4 ?_;show KatLex prog w A true _ C [(.int a t,.int c u),(.int b t',.int d u'),(z,z')] 0 s;refine kat_cons (wpAny_eqBool_int (kat_go (λe=>?_) λe=>?_))
 .have e:a=c:=by simpa using e
  refine kat_yes (kat_cons (wpAny_eqBool_int (kat_go (λe2=>?_) λe2=>?_)))
  .grind [List.getElem_inj]
  .have e2:b≠d:=by simpa using e2
   refine kat_no (kat_one _ _ (wpAny_lt_int ?_));rw[show decide (a<c\/(a=c/\b<d))=decide (b<d) by simp[e]] at h
   exact h
 .have e:a≠c:=by simpa using e
  refine kat_no (oneLt_int ?_);rw[show decide (a<c\/(a=c/\b<d))=decide (a<c) by simp[e]] at h
  exact h
theorem Oz{h:bZ}:∀{vs:List ai} {ks:List (Int×Int)},eX h vs ks->∃fs,KatTups h vs fs/\fs.length=vs.length/\∀v∈fs,∃a t,v=Value.int a t
 |[],_,_=>⟨[],.nil,rfl,λv m=>by cases m⟩
 |v::vs,[],T=>by have:=T.1;simp at this
 |v::vs,k::ks,T=>by
  obtain⟨fs,f1,f2,f3⟩:=Oz (h:=h) (vs:=vs) (ks:=ks) ⟨by have:=T.1;simpa using this,λi hi=>by
   obtain⟨x,o,a,b,t,t',z,m,r⟩:=T.2 (i+1) (by simpa using hi)
   exact⟨x,o,a,b,t,t',z,m,by simpa using r⟩⟩
  obtain⟨x,o,a,b,t,t',z,m,h1,h2,h3,h4,_⟩:=T.2 0 (by simp)
  have h1:v=.ref x:=by simpa using h1
  subst h1;refine⟨.int a t::fs,.cons h2 h3 h4 (by simp) f1,by simp[f2],λv m=>?_⟩
  rcases y0a.mp m with rfl|m
  .exact⟨a,t,rfl⟩
  .exact f3 v m
def S9{a:aj}{n:Nat}{P:PySem.Fin->ax->Prop}(ho:s.heap.get? a=some (seqObj "list" vs.toArray n))(T:eX s.heap vs ks)(nd:ks.Nodup)(na:∀i x,i<ks.length->vs.getD i Value.none=.ref x->x≠a)(h2:2<=vs.length)(CI:vs.length<64)
  (h:P (.done (.ret .none)) { s with heap:=sortedHeap s.heap a vs (List.toArray ((dm ks).map λi=>vs.getD i Value.none))}):wpAny (model prog w) A (Builtin.«list.sort» ⟨[.ref a],[]⟩) P E s:=by
 rw[list_sort_plain];have ha:a<s.heap.objs.size:=cT ho;refine ay (listItems_at ho rfl ?_);refine ay (listUpdate_at ho rfl ?_ (by rw[fm,sizeLine_eq];lia) (k9 _))
 obtain⟨e1,yA⟩:∃e1,(s.heap.update a (Obj.mapSeq λ_=>#[])).get? a=some (seqObj "list" #[] e1):=⟨_,get?_update_seq ho (λ_=>#[])⟩
 refine ay (seqEpoch_at yA rfl ?_);refine ay (wpAny_newTuple ?_ (by show vs.length<=_;rw[sizeLine_eq];lia))
 refine ay (wpAny_newList ?_ (k9 _));refine ju ?_;have yB:(((s.heap.update a (Obj.mapSeq λ_=>#[])).push (seqObj "tuple" vs.toArray 0)).push (seqObj "list" #[] 0)).get? a=some (seqObj "list" #[] e1):=by
  rw[EC _ _ _ (by rw[size_push',MA];exact gP (zw ha)),EC _ _ _ (by rw[MA];exact gP ha)]
  exact yA
 have T6:eX (((s.heap.update a (Obj.mapSeq λ_=>#[])).push (seqObj "tuple" vs.toArray 0)).push (seqObj "list" #[] 0)) vs ks:=⟨T.1,λi hi=>by
  obtain⟨x,o,b,c,t,t',z,m,y1,y2,r⟩:=T.2 i hi;refine⟨x,o,b,c,t,t',z,m,y1,cZ _ (cZ _ ?_),r⟩;rw[HA _ _ _ _ (na i x hi y1)];exact y2⟩
 show wpAny (model prog w) A _ P E { s with heap:=((s.heap.update a (Obj.mapSeq λ_=>#[])).push (seqObj "tuple" vs.toArray 0)).push (seqObj "list" #[] 0)}
 dsimp only;have yz:¬vs.toArray.size<2:=by rw[fm];lia
 rw[bc yz,bc yz];obtain⟨fs,f1,f2,f3⟩:=Oz T6;refine ay (kat_kind (T:=.type "int") f1 (by lia) (λv hv=>?_) (by decide) ?_)
 .obtain⟨b,t,rfl⟩:=f3 v hv;exact λA Q E s' _ q=>wpAny_typeOf (typeIs_int s' b t) q
 .have O:=QO nd;have pq:=P4 O (show 1<=ks.length by have:=T.1;lia)
  obtain⟨⟨q1,q2⟩,q3⟩:=Gh pq;have hlen:=T.1;refine ay (wpAny_mono (kat_run (Q:=λir s'=>s'={ s with heap:=((s.heap.update a (Obj.mapSeq λ_=>#[])).push (seqObj "tuple" vs.toArray 0)).push (seqObj "list" #[] 0)}/\arrOf ir=(AS (ltAt ks) (kas_sort ks.length)).map (kas_item (vs.toArray.zip vs.toArray))/\failedOf ir=none) rfl h2 CI (λp' ir s' a1 a2 a3 a4=>⟨a4.2,by rw[<-a4.1];exact a2,a3⟩) (G:=λp s'=>p=AS (ltAt ks) (kas_sort ks.length)/\s'=_) ?_) ?_ λ_ _ e=>e)
  .rw[hlen];exact QN (λi j C hi hj ij hC=>Yo T6 nd i j C hi hj ij hC) (F0 (λp hp=>⟨hp,rfl⟩) q3)
  .rintro⟨⟨⟩,ir⟩ s' ⟨rfl,Kx,hf⟩;dsimp only;have KS:=kat_snds rfl Kx;rw[KS];refine ay (seqEpoch_at yB rfl ?_);refine ay (listUpdate_at yB rfl ?_ (k9 _) (by rw[fm,bx,Ey,q1.size,sizeLine_eq];lia))
   rw[hf];simp only[bne_self_eq_false,qG,jK];exact aX h
def TY{l:aj}{Q:ai->ax->Prop}(hl:s.heap.IsList l vs.toArray)(T:eX s.heap vs ks)(nd:ks.Nodup)(h2:2<=vs.length)(CI:vs.length<64)
  (h:Q (.ref (s.heap.objs.size+1)) { s with heap:=sortedAll s.heap vs (List.toArray ((dm ks).map λi=>vs.getD i Value.none))}):wpAny (model prog w) A (call (.builtin "sorted") [.ref l]) Q E s:=by
 refine Calls.call_function_entry kind_sorted plain_sorted entry_sorted (args_sorted1 _) ?_;unfold Builtin.«sorted»;refine ay (m:=checkCount "sorted" 1 1 _) (aX ?_);refine ay (collect_list hl ?_ (by rw[sizeLine_eq];lia))
 refine ay (wpAny_newList ?_ (by rw[sizeLine_eq];lia))
 have hsz:((s.heap.push (seqObj "list" #[] 0)).update s.heap.objs.size (Obj.mapSeq (·++vs.toArray))).objs.size=s.heap.objs.size+1:=by
  simp_all
 have iq:(((s.heap.push (seqObj "list" #[] 0)).update s.heap.objs.size (Obj.mapSeq (·++vs.toArray))).push (seqObj "list" vs.toArray 0)).get? (s.heap.objs.size+1)=some (seqObj "list" vs.toArray 0):=by
  rw[<-hsz];exact iR _ rfl
 have keep:∀b o,s.heap.get? b=some o->(((s.heap.push (seqObj "list" #[] 0)).update s.heap.objs.size (Obj.mapSeq (·++vs.toArray))).push (seqObj "list" vs.toArray 0)).get? b=some o:=λb o q=>by
  have l7:b<s.heap.objs.size:=cT q;rw[EC _ _ _ (by rw[hsz];exact gP (zw l7)),HA _ _ _ _ (gP l7),EC _ _ _ (gP l7)]
  exact q
 show wpAny _ _ _ _ _ { s with heap:=((s.heap.push (seqObj "list" #[] 0)).update s.heap.objs.size (Obj.mapSeq (·++vs.toArray))).push (seqObj "list" vs.toArray 0)}
 rw[hsz];refine ay (ju (wpAny_call_entry slot_list_sort ⟨_,iq,rfl⟩ entry_list_sort (S9 iq (T.keep keep) nd (λi x hi e=>?_) h2 CI ⟨_,rfl,?_⟩) (args_list_sort _)))
 .obtain⟨y,o,_,_,_,_,_,_,y1,y2,_⟩:=T.2 i hi;rw[y1] at e;cases e;exact gP (zw (cT y2))
 .exact aX ⟨_,rfl,h⟩
end
section
variable{X:Cx}{K:aL}{H:Hp}
def vC(K:aL)(H:Hp)(ys:List V)(ks:List (Int×Int)):Prop:=ys.length=ks.length/\∀i,i<ks.length->∃p z,ys[i]?=some (.ref p)/\iB K H p [.int (ks.getD i (0,0)).1,.int (ks.getD i (0,0)).2,z]
def QP(K:aL):List V->Hp->VK->Prop:=λvs H Q=>∃a ys ks,vs=[.ref a]/\c8 K H a ys/\vC K H ys ks/\ks.Nodup/\2<=ks.length/\ks.length<64/\∀l,H l=none->Q (.ref l) (upd H l (.lst ((dm ks).map λi=>ys.getD i .aI)))
theorem N4{ys:List V}{us:List ai}(r:Vals ys us):∀{is:List Nat},(∀i∈is,i<ys.length)->Vals (is.map λi=>ys.getD i .aI) (is.map λi=>us.getD i Value.none)
 |[],_=>.nil
 |i::is,h=>by
  have hi:=h i (.head _);obtain⟨u,e,ru⟩:=r.get (fG hi);have e1:ys.getD i .aI=ys[i]:=by simp[hi]
  have e2:us.getD i Value.none=u:=by rw[zC,e];rfl
  refine .cons ?_ (N4 r λj m=>h j (.tail _ m))
  lia
theorem BF(nd:ks.Nodup)(h:1<=ks.length):(dm ks).Perm (List.range ks.length)/\(dm ks).Pairwise λi j=>ltAt ks i j=true:=by
 obtain⟨⟨q1,q2⟩,_⟩:=Gh (P4 (QO nd) h);refine⟨by unfold dm;have:=Array.perm_iff_toList_perm.mp q1.pm;simpa using this,?_⟩
 rw[List.pairwise_iff_getElem];intro i j hi hj o6;have hs:=q1.size;have:=q2 i j o6 (by unfold dm at hj;simp at hj;lia)
 unfold dm at hi hj ⊢;simp only[Ey] at hi hj;simpa[Array.getD,hi,hj] using this
def TZ(K:aL)(hK:X.K=K:=by rfl):bT X (.builtin "sorted") (QP K):=by
 subst hK;intro aa s Z H xs us Q I r h;obtain⟨a,ys,ks,rfl,hl,T,nd,h2,CI,q⟩:=h;obtain⟨u,rfl,ru⟩:=vals1 r;cases ru;obtain⟨aG,rv,pl,hz⟩:=I.list hl;have hlen:=rv.length;have CW:=T.1;have T':eX s.heap aG ks:=⟨by lia,λi hi=>by
  obtain⟨p,z,y1,y2⟩:=T.2 i hi;obtain⟨u,e,ru⟩:=rv.get y1;obtain rfl:u=Value.ref p:=ru;obtain⟨it2,Hh,⟨o,g1,g2,n,g3⟩,_⟩:=I.tuple y2;cases Hh with
  |cons r1 t=>
   cases t with
   |cons r2 t=>
    cases t with
    |cons r3 t=>
     cases t;obtain⟨t1,rfl⟩:=r1;obtain⟨t2,rfl⟩:=r2;exact⟨p,o,_,_,t1,t2,_,n,by rw[zC,e];rfl,g1,g2,g3,rfl⟩⟩
 refine TY pl.isList T' nd (by lia) (by lia) ?_
 obtain⟨c,hc⟩:=sortedAll_at s.heap aG (List.toArray ((dm ks).map λi=>aG.getD i Value.none))
 obtain⟨s1,_⟩:=BF nd (by lia)
 have hm:∀i∈dm ks,i<ys.length:=λi m=>by have:=s1.mem_iff.mp m;rw[qm] at this;lia
 have I3:=I.laid (h':=sortedAll s.heap aG (List.toArray ((dm ks).map λi=>aG.getD i Value.none))) (t':=s.toks) (o:=.lst ((dm ks).map λi=>ys.getD i .aI)) (λb o g=>sortedAll_old g) (vx _) (show bf X.prog X.w _ _ _ (.lst _) from⟨by rw[bx,s1.length_eq,wN,sizeLine_eq];lia,_,c,N4 rv hm,hc⟩)
 exact⟨.ref (s.heap.objs.size+1),_,I3,rfl,q _ (I.bw.fresh (vx _))⟩
end
end L2
set_option autoImplicit false
namespace L2
open PySem PySem.Spec PySem.W PySem.Calls PyProof.Rows
variable{tg:Expr}
def ML(a:aj)(es:List (TK×V×V))(ep:Nat):It:=
 ⟨λi H=>H a=some (.dG es ep)/\fJ es/\i<es.length,λi H x H'=>H'=H/\∃e,es[i]?=some e/\e.2.2=x,λi H=>H a=some (.dG es ep)/\fJ es/\es.length<=i⟩
def UY{P:dc}{w:cD}{K:fI}(a it:aj)(es:List (TK×V×V))(ep:Nat):Turn P w K tg (ML a es ep) [it] it (λi h=>h.IsValIter it a i es.length ep) where
 mem:=by simp
 obj:=λi h st b hb=>by
  have e:b=it:=by simpa using hb
  subst e;obtain⟨o,e,c,d⟩:=st
  simp_all
 keep:=λi h h' st k=>st.at λo e=>k it (by simp) o e
 item:=by
  intro X hP hw hK hc i aa s Z H E I hf st hg;subst hP hw hK;obtain⟨hd,ht,hi⟩:=hg;obtain⟨f0,f1,f2,f3,f4,f5⟩:=hf it (by simp)
  obtain⟨kvs,D1,D2,D3,D4,lo⟩:=tF I hd ht;have l1:kvs.length=es.length:=by have:=congrArg List.length D3;simpa using this
  obtain⟨p,hp⟩:∃p,kvs[i]?=some p:=⟨kvs[i]'(by lia),fG _⟩
  obtain⟨u,u1,u2⟩:=D2.get (i:=i) (x:=es[i].2.2) (by rw[dR,fG hi];rfl)
  rw[dR,hp] at u1;cases u1;have ir:s.heap.IsValIter it a i kvs.length ep:=by rw[l1];exact st
  refine wpAny_pyNext_values_item ir D1 (k:=p.1) (v:=p.2) hp λh' nQ sb=>?_
  rw[l1] at nQ;have I1:Inv X aa Z H { s with heap:=h'}:=I.turned (t':=s.toks) (λb o hb e=>(sb.2 b hb).trans e) f0 f1 f3 f4 f5
  obtain⟨o,e,c,d⟩:=id nQ;exact⟨p.2,rfl,vP (s:={ s with heap:=h'}) e c d (by decide) ⟨es[i].2.2,H,I1,u2,⟨rfl,_,fG hi,rfl⟩,nQ,λb hb=>(hf b hb).1⟩⟩
 done:=by
  intro X hP hw hK hc i aa s Z H E I hf st hg;subst hP hw hK;obtain⟨hd,ht,hi⟩:=hg;obtain⟨f0,f1,f2,f3,f4,f5⟩:=hf it (by simp)
  obtain⟨kvs,D1,D2,D3,D4,lo⟩:=tF I hd ht;have l1:kvs.length=es.length:=by have:=congrArg List.length D3;simpa using this
  have ir:s.heap.IsValIter it a i kvs.length ep:=by rw[l1];exact st
  exact wpAny_pyNext_values_end (I.ok.hd hc) ir D1 (wQ (by lia)) λh' eb=>⟨rfl,I.turned (t':=s.toks) (λb o hb e=>eb b o hb e) f0 f1 f3 f4 f5⟩
 self:=λ_ _ _ _ _ st h=>wpAny_pyIter_valiter st h
def v_(to:TE):TI:=λZ H R=>to Z H λx H1=>∃d es ep,x=.ref d/\H1 d=some (.dG es ep)/\fJ es/\R (ML d es ep) H1
def Yp{X:Cx}{o:Expr}{apos bS:Pos}{to:TE}(ho:PE X o to)(cJ:attributeBase o "values" X.env (eval o X.env)=eval o X.env)(cK:(apos.endLine == bS.line)=true):
  PI X tg (.Call (.Attribute o "values" apos) [] [] bS) (v_ to):=by
 intro aa s Z H R I h;refine wpAny_Call_method0_late cJ cK (bL (ho aa s Z H _ I h) λv s1 hh=>?_)
 obtain⟨x,H1,I1,r1,d,es,ep,rfl,hd,ht,q⟩:=hh;cases r1;obtain⟨t1,t2⟩:=BS I1 hd;obtain⟨kvs,D1,D2,D3,D4,lo⟩:=tF I1 hd ht;have l1:kvs.length=es.length:=by have:=congrArg List.length D3;simpa using this
 refine⟨"dict","dict.values",PySem.F.plainAttrs_dict,PySem.F.slot_dict_values,PySem.F.type_dict_values,t1,t2,Calls.callWith_builtin rfl (PySem.evalArgs_none ?_)⟩;refine call_meetsIn PySem.F.slot_dict_values t1 PySem.F.entry_dict_values (PySem.F.args_dict_values_1 _) (meets_dict_values (PySem.strKind X.prog X.w) d lo) ⟨⟨kvs,D1.dictOf⟩,?_⟩;refine wpAny_pyIter_values (knd:=PySem.strKind X.prog X.w) (v:=s1.heap.objs.size) (d:=d) (kvs:=kvs) (ep:=ep) ⟨_,iR _ rfl,rfl,rfl⟩ (D1.push _) ?_;have sz:(s1.heap.push { cls:=.type "dict_values",data:=.fields #[.ref d]}).objs.size=s1.heap.objs.size+1:=by simp[Heap.push]
 have hg:=iR (s1.heap.push { cls:=.type "dict_values",data:=.fields #[.ref d]}) (o:={ cls:=.type "dict_valueiterator",data:=.fields #[.ref d,.int 0 0,.int kvs.length 0,.int ep 0]}) rfl;rw[l1] at hg ⊢;refine⟨(s1.heap.push { cls:=.type "dict_values",data:=.fields #[.ref d]}).objs.size,[(s1.heap.push { cls:=.type "dict_values",data:=.fields #[.ref d]}).objs.size],_,_,H1,rfl,I1.kept (t':=s1.toks) λb o e=>cZ _ (cZ _ e),UY d _ es ep,⟨_,hg,rfl,rfl⟩,λb hb=>?_,q⟩
 cases mG.mp hb;have l0:s1.heap.objs.size<=(s1.heap.push { cls:=.type "dict_values",data:=.fields #[.ref d]}).objs.size:=by rw[sz];exact vx _
 exact I1.kf l0 (I1.bw.fresh l0)
def eQ(kvs:List (TK×D)):Bool:=kvs.all λp=>wc p.1
def Hs:D->ak (List D)
 |.av kvs=>if eQ kvs=true then some (kvs.map (·.2)) else none
 |_=>none
def uJ:D->ak (List D)
 |.av kvs=>if eQ kvs=true then some ((List.range kvs.length).map λi=>.tup (((kvs[i]?).map λp=>[p.1.d,p.2]).getD [])) else none
 |_=>none
section
variable{K:fI}{W:XW}{q:Nat}{g:GE}{fz:Bool}{Z:St}{H:Hp}{R:It->Hp->Prop}{k:Kn}{es:List (TK×V×V)}{kvs:List (TK×D)}
def Gv(h1:es.map (·.1)=kvs.map (·.1))(h2:ag K k (es.map (·.2.1)) (kvs.map (·.1.d)))(h:eQ kvs=true):fJ es:=QC h1 (by rw[eU];exact h2) (by rw[t7];exact h)
def Yq(t:tX (RI K q) K W q (bC fz Hs g) Z H R):v_ (tE K W q g) Z H R:=by
 rcases By t with h|⟨d,ds,n,e,h⟩
 .exact h _
 .cases d with
  |av kvs=>
   unfold Hs at e;dsimp only at e;split at e
   .rename_i ht
    cases e;refine h _ λk1 H1 x le hd j=>?_
    obtain⟨a,es,ep,rfl,q2,q3,q4,q1⟩:=hd;have tx:=Gv q2 q3 ht;refine⟨a,es,ep,rfl,i7.now (x:=.aI) q1 le,tx,j _ (.old (by rw[<-q4.length,bx]) (λi H s c hi=>⟨q1 H s c,tx,hi⟩) (λi H s c hi=>⟨q1 H s c,tx,hi⟩) λi H x H' d s c y hd=>?_)⟩
    obtain⟨rfl,e,h1,rfl⟩:=y;obtain⟨v,h3,h4⟩:=q4.get hd
    simp_all
   .cases e
  |_=>cases e
def Yr(t:tX (RI K q) K W q (bC fz uJ g) Z H R):QD (tE K W q g) Z H R:=by
 rcases By t with h|⟨d,ds,n,e,h⟩
 .exact h _
 .cases d with
  |av kvs=>
   unfold uJ at e;dsimp only at e;split at e
   .rename_i ht
    cases e;refine h _ λk1 H1 x le hd j=>?_
    obtain⟨a,es,ep,rfl,q2,q3,q4,q1⟩:=hd;have tx:=Gv q2 q3 ht;refine⟨a,es,ep,rfl,i7.now (x:=.aI) q1 le,tx,j _ ?_⟩;have hl:kvs.length=es.length:=by have:=q4.length;rw[bx,bx] at this;exact this.symm
    rw[hl];refine .Ds (λH s c=>⟨q1 H s c,tx⟩) λi us hi hv=>?_
    obtain⟨e,h1,rfl⟩:=hv;have CT:i<kvs.length:=by lia
    obtain⟨v,h3,h4⟩:=q4.get (i:=i) (d:=kvs[i].2) (by rw[dR,fG CT];rfl)
    obtain⟨v',h5,h6⟩:=q3.get (i:=i) (d:=kvs[i].1.d) (by rw[dR,fG CT];rfl)
    rw[dR,h1] at h3 h5;cases h3;cases h5;rw[fG CT];exact .cons h6 h4
   .cases e
  |_=>cases e
end
end L2
namespace L2
open PySem PySem.Spec PyProof.Rows
section
variable{X:Cx}{K:aL}{k:Kn}{H:Hp}{x:V}{d:D}
def Top.txt{kvs:List (TK×D)}(t:Top K k H x (.av kvs))(le:az k.F H)(h:eQ kvs=true):∃p es ep,x=.ref p/\H p=some (.dG es ep)/\fJ es/\es.map (·.1)=kvs.map (·.1)/\ag K k (es.map (·.2.1)) (kvs.map (·.1.d))/\ag K k (es.map (·.2.2)) (kvs.map (·.2)):=by
 obtain⟨p,es,ep,rfl,h1,h2,h3,h4⟩:=t.av le;exact⟨p,es,ep,rfl,h1,Gv h2 h3 h,h2,h3,h4⟩
def DF(K:aL):List V->Hp->VK->Prop:=λxs H Q=>(∃p ys,xs=[.ref p]/\(c8 K H p ys\/iB K H p ys)/\Q (.int ys.length) H)\/(∃z,xs=[.str z]/\z.length<=sizeLine/\Q (.int z.length) H)\/∃p es ep,xs=[.ref p]/\H p=some (.dG es ep)/\fJ es/\Q (.int es.length) H
def UZ(hK:X.K=K):bT X (.builtin "len") (DF K):=(S7 K hK).or (lV.or (by
 intro aa s Z H xs us Q I r h;obtain⟨p,es,ep,rfl,hp,ht,q⟩:=h;obtain⟨u,rfl,ru⟩:=vals1 r;cases ru;obtain⟨kvs,D1,D2,D3,D4,lo⟩:=tF I hp ht;have l1:kvs.length=es.length:=by have:=congrArg List.length D3;simpa using this
 refine call_len_dict lo D1.dictOf (by rw[sizeLine_eq] at D4;lia) ?_
 rw[l1];exact⟨.int es.length,H,I.tok _,⟨_,rfl⟩,q⟩))
def eO:D->ak Rv
 |.lst ds=>some (rd (.int ds.length))
 |.tup ds=>some (rd (.int ds.length))
 |.str z=>if z.length<=1000000 then some (rd (.int z.length)) else none
 |.av kvs=>if eQ kvs=true then some (rd (.int kvs.length)) else none
 |_=>none
def e3z:b_ K (DF K) (o1 eO):=tV λk H x a y Q le t e res=>by
 unfold eO at e;split at e
 .cases e;obtain⟨p,ws,rfl,q,r⟩:=t.lst le;exact .inl ⟨p,ws,rfl,.inl q,by rw[r.length];exact res.flat le rfl⟩
 .cases e;obtain⟨p,ws,rfl,q,r⟩:=t.tup le;exact .inl ⟨p,ws,rfl,.inr q,by rw[r.length];exact res.flat le rfl⟩
 .split at e
  .cases e;cases t.flat rfl;exact .inr (.inl ⟨_,rfl,ml (by assumption),res.flat le rfl⟩)
  .cases e
 .split at e
  .cases e;obtain⟨p,es,ep,rfl,h1,h2,h3,h4,h5⟩:=t.txt le (by assumption)
   refine .inr (.inr ⟨p,es,ep,rfl,h1,h2,?_⟩);have:=h5.length;rw[bx,bx] at this;rw[this];exact res.flat le rfl
  .cases e
 .cases e
def su:D->ak String
 |.aI=>some "NoneType"
 |.bl _=>some "bool"
 |.int _=>some "int"
 |.str _=>some "str"
 |.lst _=>some "list"
 |.tup _=>some "tuple"
 |_=>none
def OA{n:String}(le:az k.F H)(t:Top K k H x d)(e:su d=some n):B3 K H x n:=by
 cases d with
 |lst _=>cases e;obtain⟨p,ws,rfl,q,r⟩:=t.lst le;exact .inl ⟨rfl,_,q⟩
 |tup _=>cases e;obtain⟨p,ws,rfl,q,r⟩:=t.tup le;exact .inr ⟨rfl,_,q⟩
 |_=>cases e <;> cases t.flat rfl <;> rfl
def DC(K:aL):List V->Hp->VK->Prop:=λxs H Q=>(∃x k T,xs=[x,.ty T]/\B3 K H x k/\(T="int"\/T="str"\/T="bool"\/T="list"\/T="tuple")/\Q (.bl (qg k T)) H)\/wu K xs H Q
def U0(hK:X.K=K):bT X (.builtin "isinstance") (DC K):=(Uy K hK).or (UR K hK)
def yH:List D->Bool
 |[.ty a,.ty b]=>decide (a="tuple"/\b="list")
 |_=>false
def Ys{ds:List D}(h:yH ds=true):ds=[.ty "tuple",.ty "list"]:=by
 unfold yH at h;split at h
 .obtain⟨rfl,rfl⟩:=sY h;rfl
 .cases h
def cM(a t:D):ak Rv:=match t with
 |.ty T=>if T="int"\/T="str"\/T="bool"\/T="list"\/T="tuple" then(su a).map λk=>rd (.bl (qg k T)) else none
 |.tup ds=>if yH ds=true then(su a).map λk=>rd (.bl (L5 k)) else none
 |_=>none
def e4a:b_ K (DC K) (o2 cM):=uU λk H x z a b y Q le t1 t2 e res=>by
 unfold cM at e;split at e
 .split at e
  .obtain⟨n,h,rfl⟩:=df.mp e;cases t2.flat rfl;exact .inl ⟨x,n,_,rfl,OA le t1 h,by assumption,res.flat le rfl⟩
  .cases e
 .split at e
  .rename_i ht
   cases Ys ht;obtain⟨n,h,rfl⟩:=df.mp e;obtain⟨p,ws,rfl,q,r⟩:=t2.tup le;obtain⟨w1,us,rfl,r1,r2⟩:=r.ck;obtain⟨w2,us,rfl,r3,r4⟩:=r2.ck;cases r4.eR;cases r1.bo rfl;cases r3.bo rfl;exact .inr ⟨x,n,p,rfl,OA le t1 h,q,res.flat le rfl⟩
  .cases e
 .cases e
def wx(K:aL):List V->Hp->VK->Prop:=λxs H Q=>(∃p ys,xs=[.ref p]/\(c8 K H p ys\/iB K H p ys)/\∀l,H l=none->Q (.ref l) (upd H l (.lst ys)))\/Sr K xs H Q
def T1(hc:X.calm=true)(hK:X.K=K):bT X (.type "list") (wx K):=(S8 K hK).or (hK ▸ TQ hc)
noncomputable def kx:D->ak Rv
 |.lst ds=>some (.o (.lst ds))
 |.tup ds=>some (.o (.lst ds))
 |.av kvs=>some (.o (.lst (kvs.map (·.1.d))))
 |_=>none
def Yt:b_ K (wx K) (o1 kx):=tV λk H x a y Q le t e res=>by
 unfold kx at e;split at e
 .cases e;obtain⟨p,ws,rfl,q,r⟩:=t.lst le;exact .inl ⟨p,ws,rfl,.inl q,λl hl=>res.lst le r hl⟩
 .cases e;obtain⟨p,ws,rfl,q,r⟩:=t.tup le;exact .inl ⟨p,ws,rfl,.inr q,λl hl=>res.lst le r hl⟩
 .cases e;obtain⟨p,es,ep,rfl,h1,h2,h3,h4⟩:=t.av le;exact .inr ⟨p,es,ep,rfl,h1,λl hl=>res.lst le h3 hl⟩
 .cases e
def pG:D->ak Rv
 |.av kvs=>if eQ kvs=true then some (.o (.lst (kvs.map (·.2)))) else none
 |_=>none
def Yu:b_ K (λxs H Q=>∃d es ep,xs=[.ref d]/\H d=some (.dG es ep)/\fJ es/\∀q,H q=none->Q (.ref q) (upd H q (.lst (es.map (·.2.2))))) (o1 pG):=tV λk H x a y Q le t e res=>by
 unfold pG at e;split at e
 .split at e
  .cases e;obtain⟨p,es,ep,rfl,h1,h2,h3,h4,h5⟩:=t.txt le (by assumption)
   exact⟨p,es,ep,rfl,h1,h2,λl hl=>res.lst le h5 hl⟩
  .cases e
 .cases e
noncomputable def Gi(q:List Bool->Bool):D->ak Rv
 |.lst ds=>(ib ds).map λbs=>rd (.bl (q bs))
 |_=>none
def V'(q:List Bool->Bool):b_ K (λxs H Q=>∃(a:aj) (bs:List Bool),xs=[.ref a]/\c8 K H a (bs.map V.bl)/\Q (.bl (q bs)) H) (o1 (Gi q)):=tV λk H x a y Q le t e res=>by
 unfold Gi at e;split at e
 .obtain⟨bs,h,rfl⟩:=df.mp e;obtain⟨p,ws,rfl,s,r⟩:=t.lst le;rw[NB h] at r;cases NC r;exact⟨p,bs,rfl,s,res.flat le rfl⟩
 .cases e
noncomputable def m6(f:List Int->Int):D->ak Rv
 |.lst ds=>(kr ds).bind λis=>if is=[] then none else some (rd (.int (f is)))
 |_=>none
def Yv(f:List Int->Int):b_ K (λxs H Q=>∃(a:aj) (is:List Int),xs=[.ref a]/\c8 K H a (is.map V.int)/\is≠[]/\Q (.int (f is)) H) (o1 (m6 f)):=tV λk H x a y Q le t e res=>by
 unfold m6 at e;split at e
 .obtain⟨is,h,e⟩:=cA.mp e;split at e
  .cases e
  .cases e;obtain⟨p,ws,rfl,s,r⟩:=t.lst le;rw[N2 h] at r;cases Nl r;exact⟨p,is,rfl,s,by assumption,res.flat le rfl⟩
 .cases e
def iD:D->ak Int
 |.int i=>some i
 |_=>none
def J6{v:D}{i:Int}(h:iD v=some i):v=.int i:=by cases v <;> cases h;rfl
def qh:List D->ak (Int×Int)
 |[a,b,_]=>(iD a).bind λi=>(iD b).map λj=>(i,j)
 |_=>none
def Dh:D->ak (Int×Int)
 |.tup l=>qh l
 |_=>none
def ku:List D->ak (List (Int×Int))
 |[]=>some []
 |d::ds=>(Dh d).bind λk=>(ku ds).map λks=>k::ks
theorem OB:∀{ds:List D} {ks:List (Int×Int)} {ws:List V},ku ds=some ks->ag K k ws ds->az k.F H->vC K H ws ks
 |[],ks,ws,e,r,le=>by cases e;exact⟨by rw[r.length];rfl,λi hi=>nomatch hi⟩
 |d::ds,ks,ws,e,r,le=>by
  obtain⟨w,us,rfl,r1,r2⟩:=r.ck;obtain⟨k0,e0,e⟩:=cA.mp (show(Dh d).bind _=_ from e);obtain⟨we,e1,rfl⟩:=df.mp e;cases d with
  |tup l=>
   have e0:qh l=some k0:=e0;unfold qh at e0;split at e0
   case h_2=>cases e0
   obtain⟨a,z1,e0⟩:=cA.mp e0;obtain⟨b,z2,rfl⟩:=df.mp e0;cases J6 z1;cases J6 z2;obtain⟨l1,l2⟩:=OB e1 r2 le;obtain⟨p,ws,rfl,q,r3⟩:=r1.isTup;obtain⟨w1,us1,rfl,t1,r3⟩:=r3.ck;obtain⟨w2,us2,rfl,t2,r3⟩:=r3.ck;obtain⟨w3,us3,rfl,t3,r3⟩:=r3.ck;cases r3.eR;cases t1.bo rfl;cases t2.bo rfl;refine⟨congrArg (·+1) l1,λi hi=>?_⟩
   cases i with
   |zero=>exact⟨p,w3,rfl,le.zo q⟩
   |succ i=>exact l2 i (Nat.lt_of_succ_lt_succ hi)
  |_=>cases e0
def wC(K:aL):List V->Hp->VK->Prop:=λvs H Q=>QJ K vs H Q\/QP K vs H Q
def T2(hc:X.calm=true)(hK:X.K=K):bT X (.builtin "sorted") (wC K):=(hK ▸ Tg hc).or (TZ K hK)
def lz(ds:List D)(is:List Nat):List D:=is.map λi=>ds.getD i .aI
def pC:D->ak Rv
 |.lst ds=>if ds.length<2 then some (.o (.lst ds)) else(ku ds).bind λks=>if ks.Nodup/\ks.length<64 then some (.o (.lst (lz ds (dm ks)))) else none
 |.av kvs=>if(eQ kvs&&Nat.blt kvs.length 2)=true then some (.o (.lst (kvs.map (·.1.d)))) else none
 |_=>none
theorem OC{ws:List V}{ds:List D}(r:ag K k ws ds):∀{is:List Nat},(∀i∈is,i<ds.length)->ag K k (is.map λi=>ws.getD i .aI) (lz ds is)
 |[],_=>.nil
 |i::is,h=>by
  have hi:=h i (.head _);obtain⟨v,h1,h2⟩:=r.get (i:=i) (d:=ds[i]) (fG hi);unfold lz;rw[cU,cU,show ws.getD i .aI=v by rw[zC,h1];rfl,show ds.getD i .aI=ds[i] by rw[zC,fG hi];rfl]
  exact .cons h2 (OC r λj m=>h j (.tail _ m))
def Yw:b_ K (wC K) (o1 pC):=tV λk H x a y Q le t e res=>by
 unfold pC at e;split at e
 .obtain⟨p,ws,rfl,s,r⟩:=t.lst le;split at e
  .cases e;exact .inl ⟨p,ws,rfl,.inl s,by rw[r.length];assumption,λl hl=>res.lst le r hl⟩
  .rename_i h2
   obtain⟨ks,h,e⟩:=cA.mp e;split at e
   .rename_i hk
    cases e;have T:=OB h r le;have l1:ks.length=ws.length:=T.1.symm;have l2:=r.length;refine .inr ⟨p,ws,ks,rfl,s,T,hk.1,by lia,hk.2,λl hl=>res.lst le (OC r λi m=>?_) hl⟩
    grind [BF]
   .cases e
 .split at e
  .rename_i hh
   obtain⟨h1,h2⟩:=A2.mp hh;cases e;obtain⟨p,es,ep,rfl,h3,h4,h5,h6,h7⟩:=t.txt le h1;have:=h6.length;have l2:_<2:=gj (zB h2) (bY _);exact .inl ⟨p,_,rfl,.inr ⟨es,ep,h3,h4,rfl⟩,by rw[this,bx];exact l2,λl hl=>res.lst le h6 hl⟩
  .cases e
 .cases e
def bN{α:Type}:List (TK×α)->TK->α->List (TK×α)
 |[],k,v=>[(k,v)]
 |(j,w)::r,k,v=>if j=k then(j,v)::r else(j,w)::bN r k v
def ik:List D->ak (List (TK×D))
 |[]=>some []
 |.tup [a,b]::ds=>(jE a).bind λj=>(ik ds).map λps=>(j,b)::ps
 |_=>none
noncomputable def oW:D->ak Rv
 |.lst ds=>(ik ds).bind λps=>if ps.length<1000 then some (.o (.av (ps.foldl (λkvs p=>bN kvs p.1 p.2) []))) else none
 |_=>none
theorem Jx{j:TK}{y v:V}{e:D}(ry:ag K k [y] [j.d])(rv:ag K k [v] [e]):∀{ws:List (TK×V×V)} {kvs:List (TK×D)},ws.map (·.1)=kvs.map (·.1)->ag K k (ws.map (·.2.1)) (kvs.map (·.1.d))->ag K k (ws.map (·.2.2)) (kvs.map (·.2))->
  (du ws j y v).map (·.1)=(bN kvs j e).map (·.1)/\ag K k ((du ws j y v).map (·.2.1)) ((bN kvs j e).map (·.1.d))/\ag K k ((du ws j y v).map (·.2.2)) ((bN kvs j e).map (·.2))
 |[],[],_,_,_=>⟨rfl,ry,rv⟩
 |w::ws,p::kvs,h,r1,r2=>by
  obtain⟨h1,h2⟩:=List.cons.inj (show w.1::ws.map (·.1)=p.1::kvs.map (·.1) from h)
  obtain⟨a1,a2⟩:=ag.inv r1;obtain⟨b1,b2⟩:=ag.inv r2;unfold du bN;by_cases q:p.1=j
  .rw[bM (h1.trans q),bM q];exact⟨congr (congrArg List.cons h1) h2,.cons a1 a2,.cons rv b2⟩
  .rw[bc (λz=>q (h1.symm.trans z)),bc q]
   obtain⟨c1,c2,c3⟩:=Jx ry rv h2 a2 b2;exact⟨congr (congrArg List.cons h1) c1,.cons a1 c2,.cons b1 c3⟩
 |[],_::_,h,_,_=>nomatch h
 |_::_,[],h,_,_=>nomatch h
def rm(K:aL)(k:Kn)(q:TK×V×V)(p:TK×D):Prop:=q.1=p.1/\ag K k [q.2.1] [q.1.d]/\ag K k [q.2.2] [p.2]
theorem OE:∀{ds:List D} {ps:List (TK×D)} {ws:List V},ik ds=some ps->ag K k ws ds->az k.F H->∃qs:List (TK×V×V),jL K H ws qs/\Paired (rm K k) qs ps
 |[],ps,ws,e,r,le=>by cases e;cases r.eR;exact⟨[],⟨rfl,λi p h=>nomatch h⟩,.nil⟩
 |d::ds,ps,ws,e,r,le=>by
  obtain⟨a,b,rfl,e⟩:∃a b,d=.tup [a,b]/\((jE a).bind λj=>(ik ds).map ((j,b)::·))=some ps:=by
   cases d with
   |tup l=>
    rcases l with _|⟨a,_|⟨b,_|_⟩⟩
    case cons.cons.nil=>exact⟨a,b,rfl,e⟩
    all_goals cases e
   |_=>cases e
  .obtain⟨j,q1,e⟩:=cA.mp e;obtain⟨ps',q2,rfl⟩:=df.mp e;obtain⟨w,us,rfl,r1,r2⟩:=r.ck;obtain⟨p,ws,rfl,sq,ri⟩:=r1.isTup;obtain⟨y,us1,rfl,t1,ri⟩:=ri.ck;obtain⟨v,us2,rfl,t2,ri⟩:=ri.ck;cases ri.eR;obtain⟨qs,h1,h3⟩:=OE q2 r2 le;have rk:ag K k [y] [j.d]:=by rw[(Ah q1).1];exact t1
   refine⟨(j,y,v)::qs,⟨congrArg (·+1) h1.len,λi p h=>?_⟩,.cons ⟨rfl,rk,t2⟩ h3⟩
   cases i with
   |zero=>cases h;exact⟨_,rfl,le.zo sq,sr (k:=k.all H) j (rk.all le),(Ah q1).2⟩
   |succ i=>exact h1.item i p h
def P5{qs:List (TK×V×V)}{ps:List (TK×D)}(p:Paired (rm K k) qs ps):∀{ws:List (TK×V×V)} {kvs:List (TK×D)},ws.map (·.1)=kvs.map (·.1)->ag K k (ws.map (·.2.1)) (kvs.map (·.1.d))->ag K k (ws.map (·.2.2)) (kvs.map (·.2))->
  (eY ws qs).map (·.1)=(ps.foldl (λkvs p=>bN kvs p.1 p.2) kvs).map (·.1)/\ag K k ((eY ws qs).map (·.2.1)) ((ps.foldl (λkvs p=>bN kvs p.1 p.2) kvs).map (·.1.d))/\ag K k ((eY ws qs).map (·.2.2)) ((ps.foldl (λkvs p=>bN kvs p.1 p.2) kvs).map (·.2)):=by
 induction p with
 |nil=>exact λa b c=>⟨a,b,c⟩
 |@cons q p qs ps h _ ih=>
  intro ws kvs a b c;obtain⟨h1,h2,h3⟩:=h;obtain⟨j1,j2,j3⟩:=Jx h2 h3 a b c;rw[h1] at j1 j2 j3;have:=ih (ws:=du ws p.1 q.2.1 q.2.2) (kvs:=bN kvs p.1 p.2) j1 j2 j3;rw[show eY ws (q::qs)=eY (du ws p.1 q.2.1 q.2.2) qs by unfold eY;rw[MB,h1],MB]
  exact this
def Wa:b_ K (QH K) (o1 oW):=tV λk H x a y Q le t e res=>by
 unfold oW at e;split at e
 .obtain⟨ps,q1,e⟩:=cA.mp e;split at e
  .rename_i hn
   cases e;obtain⟨p,ws,rfl,s,r⟩:=t.lst le;obtain⟨qs,g1,g3⟩:=OE q1 r le;obtain⟨o1,o2,o3⟩:=P5 g3 (ws:=[]) (kvs:=[]) rfl .nil .nil;exact⟨p,ws,qs,rfl,s,g1,by rw[Paired.length g3];exact hn,λl ep hl=>res.av le o1 o2 o3 hl⟩
  .cases e
 .cases e
noncomputable def Sd:D->ak String
 |.str _=>some "str"
 |.lst _=>some "list"
 |.av _=>some "dict"
 |_=>none
def e4b{T:String}(le:az k.F H)(t:Top K k H x d)(e:Sd d=some T):Em K T x H:=by
 cases d with
 |str _=>cases e;cases t.flat rfl;rfl
 |lst _=>cases e;obtain⟨p,ws,rfl,q,r⟩:=t.lst le;exact .inl ⟨rfl,_,q⟩
 |av _=>cases e;obtain⟨p,es,ep,rfl,h1,h2⟩:=t.av le;exact .inr (.inr (.inl ⟨rfl,.inr (.inr ⟨es,ep,h1⟩)⟩))
 |_=>cases e
def B8(T:String)(o:List D->ak Rv)(f:GE)(g:GA):GE:=λU S=>bd (f U S) λr S1=>if(lB S1 (mB r)).bind Sd=some T then bd (g U S1) λvs S2=>(u9 S2 (mB r::vs)).bind λds=>(o ds).map λy=>.ok y S2 else none
def Wb{W:XW}{q:Nat}{T:String}{o:List D->ak Rv}{r:V->List V->Hp->VK->Prop}{f:GE}{g:GA}{Z:St}{H:Hp}{Q:VK}(bw:b_ K (pA r) o)(t:tE K W q (B8 T o f g) Z H Q):LQ K T r (tE K W q f) (gM K W q g) Z H Q:=by
 obtain⟨k,U,S,res,ok,gk,e,w⟩:=t;refine tX.bd ok gk e w λr S1 x k1 H1 bJ g1 r1 e1 w1 _=>?_
 obtain⟨k2,u2,cS,r2⟩:=qx bJ r1;split at e1
 .rename_i hT
  obtain⟨d,h1,h2⟩:=cA.mp hT;refine⟨e4b cS.le (Gd cS r2 h1) h2,tX.bd cS (g1.up (u2 q)) e1 (w1.up (u2 q)) λvs S3 xs k3 H3 jF g3 r3 e3 w3 u3=>?_⟩
  obtain⟨ds,e4,e5⟩:=cA.mp e3;obtain⟨y,e6,rfl⟩:=df.mp e5;obtain⟨x',xs',z,rr⟩:=bw k3 H3 (x::xs) ds y Q jF.le (Py jF (.cons (r2.up u3) r3) e4) e6 (.fin jF w3)
  lia
 .cases e1
def ja:D->D->ak Rv
 |.lst ds,.str z=>(eD ds).bind λys=>(findS ys z).map λj=>rd (.int (j:Nat))
 |_,_=>none
def Wc:b_ K (pA (QF K)) (o2 ja):=uU λk H x z a b y Q le t1 t2 e res=>by
 unfold ja at e;split at e
 .obtain⟨ys,e1,e2⟩:=cA.mp e;obtain⟨j,e3,rfl⟩:=df.mp e2;obtain⟨p,ws,rfl,s,r⟩:=t1.lst le;rw[Fq e1] at r;cases Ij r;cases t2.flat rfl;obtain⟨s1,s2⟩:=zT e3;exact⟨_,_,rfl,p,ys,_,j,rfl,rfl,s,s1,s2,res.flat le rfl⟩
 .cases e
noncomputable def ng:D->D->ak Rv
 |.av kvs,i=>(jE i).map λj=>rd ((aM kvs j).getD .aI)
 |_,_=>none
def Yx:b_ K (pA (wt K)) (o2 ng):=uU λk H x z a b y Q le t1 t2 e res=>by
 unfold ng at e;split at e
 .obtain⟨j,hj,rfl⟩:=df.mp e;obtain⟨p,o,rfl,g,h⟩:=vv le t1 t2 hj;refine⟨_,_,rfl,p,_,o,rfl,rfl,g,?_⟩;rcases h with⟨rfl,h⟩|⟨v,e,rfl,h,r⟩
  .rw[h] at res;exact res.flat le rfl
  .rw[h] at res;exact res.rep le r
 .cases e
end
variable{k:Kn}{ws:List V}{ds:List D}{v:V}
noncomputable def Cell.box:Cell->ak Bx
 |.o b=>some b
 |_=>none
noncomputable def ie(S:aU):Val->ak Bx
 |.c n=>(S.s[n]?).bind Cell.box
 |.d (.ref n)=>(S.r[n]?).bind Cell.box
 |_=>none
noncomputable def setB(S:aU)(b:Bx):Val->aU
 |.c n=>⟨S.s.set n (.o b),S.r⟩
 |.d (.ref n)=>⟨S.s,S.r.set n (.o b)⟩
 |_=>S
noncomputable def Bx.mb(q:Nat):Bx->Bool
 |.lst _=>Nat.ble q 1
 |.av _=>q == 0
noncomputable def Bx.ty:Bx->String
 |.lst _=>"list"
 |.av _=>"dict"
section
variable{K:aL}{k:Kn}{H:Hp}{S:aU}{x:V}{v:Val}{b:Bx}{a:aj}
def QQ{c:Cell}(h:c.box=some b):c=.o b:=by
 cases c <;> cases h;rfl
def QR{q:Nat}(h:dO K k H a b)(m:b.mb q=true):∀o,H a=some o->uM q o=false:=by
 intro o e;cases b with
 |lst xs=>
  obtain⟨ws,e1,_⟩:=h;rw[e] at e1;cases e1;have:=zB m
  match q,this with
  |0,_=>rfl
  |1,_=>rfl
 |av kvs=>cases(beq_iff_eq.mp m);rfl
def BU(ok:cq K k H S)(r:c7 K k x v)(e:ie S v=some b):∃a,x=.ref a/\dO K k H a b/\∀q b' H',lq H H' a->b.mb q=true->dO K k H' a b'->cq K k H' (setB S b' v)/\Up q k H k H':=by
 cases v with
 |c n=>
  obtain⟨a,rfl,h1⟩:=r;obtain⟨c,h2,h3⟩:=cA.mp e;cases QQ h3;obtain⟨h4,h5⟩:=ok.s.at' n a _ h1 h2;exact⟨a,rfl,h5,λq b' H' o m h=>ok.LI h1 o h4 (QR h5 m) (c:=.o b') ⟨h4,h⟩⟩
 |d y=>
  cases y with
  |ref n=>
   obtain⟨a,rfl,h1⟩:=ag.isRef r;obtain⟨c,h2,h3⟩:=cA.mp e;cases QQ h3;obtain⟨h4,h5⟩:=ok.r.at' n a _ h1 h2;exact⟨a,rfl,h5,λq b' H' o m h=>ok.DP h1 o h4 (QR h5 m) (c:=.o b') ⟨h4,h⟩⟩
  |_=>cases e
def e9c{T:String}(h:dO K k H a b)(e:b.ty=T):Em K T (.ref a) H:=by
 cases b with
 |lst xs=>obtain⟨ws,h1,_⟩:=h;exact .inl ⟨e.symm,ws,.inl (.inl h1)⟩
 |av kvs=>obtain⟨es,ep,h1,_⟩:=h;exact .inr (.inr (.inl ⟨e.symm,.inr (.inr ⟨es,ep,h1⟩)⟩))
end
def ji(K:aL)(r:V->List V->Hp->VK->Prop)(m:Bx->List D->ak (Bx×D)):Prop:=∀k H a b ds b' d xs Q,az k.F H->dO K k H a b->ag K k xs ds->m b ds=some (b',d)->(∀x o',dO K k (upd H a o') a b'->ag K k [x] [d]->Q x (upd H a o'))->r (.ref a) xs H Q
def eG(q:Nat)(T:String)(m:Bx->List D->ak (Bx×D))(f:GE)(g:GA):GE:=λU S=>bd (f U S) λr S1=>if(ie S1 (mB r)).map Bx.ty=some T then bd (g U S1) λvs S2=>(qb vs S2).bind λp=>(ie p.2 (mB r)).bind λb=>if b.mb q=true then(m b p.1).map λz=>.ok (rd z.2) (setB p.2 z.1 (mB r)) else none else none
section
variable{X:Cx}{K:aL}{W:XW}{q:Nat}{T:String}{m:Bx->List D->ak (Bx×D)}{r:V->List V->Hp->VK->Prop}{f:GE}{g:GA}{Z:St}{H:Hp}{Q:VK}
def QS(hm:ji K r m)(t:tE K W q (eG q T m f g) Z H Q):LQ K T r (tE K W q f) (gM K W q g) Z H Q:=by
 obtain⟨k,U,S,res,ok,gk,e,w⟩:=t;refine tX.bd ok gk e w λr S1 x k1 H1 bJ g1 r1 e1 w1 _=>?_
 obtain⟨k2,u2,cS,r2⟩:=qx bJ r1;split at e1
 .rename_i hT
  obtain⟨b0,h1,h2⟩:=df.mp hT;obtain⟨a0,ea,h3,_⟩:=BU cS r2 h1;refine⟨ea ▸ e9c h3 h2,tX.bd cS (g1.up (u2 q)) e1 (w1.up (u2 q)) λvs S3 xs k3 H3 jF g3 r3 e3 w3 u3=>?_⟩
  obtain⟨⟨ds,S4⟩,e4,e5⟩:=cA.mp e3;obtain⟨k4,u4,qj,r4⟩:=FV jF r3 e4;obtain⟨b,e6,e7⟩:=cA.mp e5;obtain⟨a,rfl,h4,h5⟩:=BU qj ((r2.up u3).up (u4 q)) e6;split at e7
  .rename_i hb
   obtain⟨⟨b',d⟩,e8,rfl⟩:=df.mp e7;refine hm k4 H3 a b ds b' d xs Q qj.le h4 r4 e8 λy o' h6 h7=>?_
   obtain⟨mh,u5⟩:=h5 q b' _ BD hb h6;exact(w3.up (u4 q)) y k4 _ u5 mh h7
  .cases e7
 .cases e1
def Yy(hm:ji K r m)(t:tE K W q (eG q T m f gN) Z H Q):Eb K T r (tE K W q f) Z H Q:=nJ (QS hm t) λx H1 h=>⟨h.1,xV h.2⟩
noncomputable def rH:Bx->List D->ak (Bx×D)
 |.lst xs,[d]=>if xs.length<1000000 then some (.lst (xs++[d]),.aI) else none
 |_,_=>none
def u7:ag K k [.aI] [.aI]:=.flat rfl .nil
def F1{xs:List V}{d:D}(h:ag K k xs [d]):∃x,xs=[x]/\ag K k [x] [d]:=by
 obtain⟨x,us,rfl,h1,h2⟩:=h.ck;cases h2.eR;exact⟨x,rfl,h1⟩
def U3:ji K Pu rH:=by
 intro k H a b ds b' d xs Q le hb r e h;unfold rH at e;split at e
 .split at e
  .rename_i hl
   cases e;obtain⟨ws,h1,h2⟩:=hb;obtain⟨y,rfl,r1⟩:=F1 r;exact⟨a,ws,y,rfl,rfl,h1,gj (by rw[h2.length];exact hl) (by decide),h .aI _ ⟨_,aK,h2.append r1⟩ u7⟩
  .cases e
 .cases e
noncomputable def BV:Bx->List D->ak (Bx×D)
 |.lst xs,[.int i,d]=>if 0<=i/\i<2^62/\xs.length<1000000 then some (.lst (xs.take i.toNat++d::xs.drop i.toNat),.aI) else none
 |_,_=>none
def U4:ji K Pw BV:=by
 intro k H a b ds b' d xs Q le hb r e h;unfold BV at e;split at e
 .split at e
  .rename_i hl
   cases e;obtain⟨ws,h1,h2⟩:=hb;obtain⟨y,us,rfl,r1,r2⟩:=r.ck;obtain⟨z,rfl,r3⟩:=F1 r2;cases r1.bo rfl;refine⟨a,ws,_,z,rfl,rfl,h1,hl.1,hl.2.1,gj (by rw[h2.length];exact hl.2.2) (by decide),h .aI _ ⟨_,aK,?_⟩ u7⟩
   have:∀(n:Nat) (l:List V),qe l n z=l.take n++z::l.drop n:=λn l=>by unfold qe;rfl
   rw[this];exact(h2.take _).append (.cons r3 (h2.drop _))
  .cases e
 .cases e
noncomputable def Gj:Bx->List D->ak (Bx×D)
 |.lst _,[]=>some (.lst [],.aI)
 |_,_=>none
def Wd:ji K Qw Gj:=by
 intro k H a b ds b' d xs Q le hb r e h;unfold Gj at e;split at e
 .cases e;obtain⟨ws,h1,h2⟩:=hb;cases r.eR;exact⟨a,ws,rfl,rfl,h1,h .aI _ ⟨[],aK,.nil⟩ u7⟩
 .cases e
noncomputable def F2:Bx->List D->ak (Bx×D)
 |.lst xs,[.str z]=>(eD xs).bind λys=>(findS ys z).map λj=>(.lst (xs.eraseIdx j),.aI)
 |_,_=>none
def U5(h:ag K k ws ds)(j:Nat):ag K k (ws.eraseIdx j) (ds.eraseIdx j):=by
 rw[List.eraseIdx_eq_take_drop_succ,List.eraseIdx_eq_take_drop_succ];exact(h.take _).append (h.drop _)
def U6:ji K PX F2:=by
 intro k H a b ds b' d xs Q le hb r e h;unfold F2 at e;split at e
 .obtain⟨ys,e1,e2⟩:=cA.mp e;obtain⟨j,e3,e4⟩:=df.mp e2;cases e4;obtain⟨ws,h1,h2⟩:=hb;obtain⟨y,rfl,r1⟩:=F1 r;cases r1.bo rfl;obtain⟨s1,s2⟩:=zT e3;have h3:=U5 h2 j;rw[Fq e1] at h2;cases Ij h2;exact⟨a,ys,_,j,rfl,rfl,h1,s1,s2,h .aI _ ⟨_,aK,by rw[<-Fs];exact h3⟩ u7⟩
 .cases e
def dB{α:Type}(kvs:List (TK×α))(z:Str):List (TK×α):=kvs.filter λe=>iM z e.1
def jo:Bx->List D->ak (Bx×D)
 |.av kvs,[.str z]=>if eQ kvs=true then(aM kvs (.inr z)).map λd=>(.av (dB kvs z),d) else none
 |_,_=>none
theorem OF{k:Kn}(z:Str):∀{ws:List (TK×V×V)} {kvs:List (TK×D)},ws.map (·.1)=kvs.map (·.1)->ag K k (ws.map (·.2.1)) (kvs.map (·.1.d))->ag K k (ws.map (·.2.2)) (kvs.map (·.2))->
  (dB ws z).map (·.1)=(dB kvs z).map (·.1)/\ag K k ((dB ws z).map (·.2.1)) ((dB kvs z).map (·.1.d))/\ag K k ((dB ws z).map (·.2.2)) ((dB kvs z).map (·.2))
 |[],[],_,_,_=>⟨rfl,.nil,.nil⟩
 |w::ws,p::kvs,h,r1,r2=>by
  obtain⟨h1,h2⟩:=List.cons.inj (show w.1::ws.map (·.1)=p.1::kvs.map (·.1) from h)
  obtain⟨a1,a2⟩:=ag.inv r1;obtain⟨b1,b2⟩:=ag.inv r2;obtain⟨c1,c2,c3⟩:=OF z h2 a2 b2;unfold dB at *;rw[AZ,AZ,h1];split
  .exact⟨congr (congrArg List.cons h1) c1,.cons a1 c2,.cons b1 c3⟩
  .exact⟨c1,c2,c3⟩
 |[],_::_,h,_,_=>nomatch h
 |_::_,[],h,_,_=>nomatch h
def Yz:ji K (wz K) jo:=by
 intro k H a b ds b' d xs Q le hb r e h;unfold jo at e;split at e
 .split at e
  .rename_i ht
   obtain⟨v0,e1,e2⟩:=df.mp e;cases e2;obtain⟨es,ep,h1,h2,h3,h4⟩:=hb;obtain⟨y,rfl,r1⟩:=F1 r;cases r1.bo rfl;obtain⟨f1,f2,f3⟩:=OF (K:=K) _ h2 h3 h4;rcases Jw (k:=.inr _) h2 h4 with⟨_,z⟩|⟨v,e,z1,z2,z3⟩
   .rw[z] at e1;cases e1
   .rw[z2] at e1;cases e1;exact⟨a,es,ep,_,v,rfl,rfl,h1,Gv h2 h3 ht,z1,λjl=>h v _ ⟨_,jl,aK,f1,f2,f3⟩ z3⟩
  .cases e
 .cases e
end
def pB(K:aL):pX:=λo i v H Q=>wB o i v H Q\/∃a H4,o=.ref a/\xl K H a i v H4/\Q H4
def Rr{X:Cx}(hu:X.A.units+41<cLine):uc X (pB X.K):=by
 intro aa s Z H o i v ov iv u Q I ro ri rv h;rcases h with h|⟨a,H4,rfl,g,q⟩
 .exact VG aa s Z H o i v ov iv u Q I ro ri rv h
 .cases ro;exact UO (by lia) I g ri rv λs4 I4=>⟨H4,I4,q⟩
def u_(b:Bx)(i v:D):ak Bx:=match b with
 |.lst xs=>(intD i).bind λk=>(uL xs.length k).map λj=>.lst (xs.set j v)
 |.av kvs=>(jE i).bind λj=>if kvs.length<1000000 then some (.av (bN kvs j v)) else none
section
variable{X:Cx}{K:aL}{W:XW}{q:Nat}{fv fo fi:GE}{o e i:Expr}{pos pos':Pos}{Z:St}{H:Hp}
def YA{d:D}(h:ag K k ws ds)(r:ag K k [v] [d])(j:Nat):ag K k (ws.set j v) (ds.set j d):=by
 induction ds generalizing ws j with
 |nil=>rw[h.eR];exact .nil
 |cons x ds ih=>
  obtain⟨w,us,rfl,h1,h2⟩:=h.ck;cases j with
  |zero=>exact .cons r h2
  |succ j=>exact .cons h1 (ih h2 j)
def QT{a:aj}{b b':Bx}{di dv:D}{y:V}{Q:Hp->Prop}(le:az k.F H)(hb:dO K k H a b)(ri:ag K k [y] [di])(rv:ag K k [v] [dv])(e:u_ b di dv=some b')(h:∀o',dO K k (upd H a o') a b'->Q (upd H a o')):pB K (.ref a) y v H Q:=by
 unfold u_ at e;split at e
 .obtain⟨j,h1,e⟩:=cA.mp e;obtain⟨n,h2,rfl⟩:=df.mp e;cases FZ h1;cases ri.bo rfl;obtain⟨ws,h3,h4⟩:=hb;exact .inl ⟨a,ws,j,n,rfl,rfl,h3,by rw[h4.length];exact h2,h _ ⟨_,aK,YA h4 rv n⟩⟩
 .obtain⟨j,h1,e⟩:=cA.mp e;split at e
  .rename_i hl
   cases e;obtain⟨es,ep,h2,h3,h4,h5⟩:=hb;obtain⟨k1,k2⟩:=Ah h1;have ry:ag K k [y] [j.d]:=by rw[k1];exact ri
   obtain⟨p1,p2,p3⟩:=Jx ry rv h3 h4 h5;have l6:es.length<sizeLine:=by
    have:=h5.length;rw[bx,bx] at this;rw[this];exact gj hl (by decide)
   exact .inr ⟨a,_,rfl,⟨es,ep,j,h2,FY h3 h4 le,sr (k:=k.all H) j (ry.all le),k2,l6,rfl⟩,h _ ⟨_,_,aK,p1,p2,p3⟩⟩
  .cases e
def cv(q:Nat)(fv fo fi:GE):GS:=λU S=>kI U (mY fv (mY fo (mY fi gN)) U S) λvs S1=>match vs with
 |[v,o,i]=>(qb [v,i] S1).bind λp=>(ie p.2 o).bind λb=>if b.mb q=true then(match p.1 with
  |[dv,di]=>(u_ b di dv).map λb'=>.nx U (setB p.2 b' o)
  |_=>none) else none
 |_=>none
def e4d{D:Ends}(t:tS K W q (cv q fv fo fi) D Z H):tE K W q fv Z H λv H1=>tE K W q fo Z H1 λo H2=>tE K W q fi Z H2 λi H3=>pB K o i v H3 λH4=>D.nx Z H4:=by
 have t1:gM K W q (mY fv (mY fo (mY fi gN))) Z H λxs H3=>∃v o i,xs=[v,o,i]/\pB K o i v H3 λH4=>D.nx Z H4:=by
  obtain⟨k,U,S,fr,ok,gk,e,w⟩:=t;refine tS.bd ok gk e w λvs S1 xs k1 H1 bJ g1 r1 e1 w1=>?_
  split at e1
  .rename_i v o i
   cases r1 with
   |@cons xv _ _ _ rv t=>
    cases t with
    |@cons xo _ _ _ ro t=>
     cases t with
     |@cons xi _ _ _ ri t=>
      cases t;refine⟨xv,xo,xi,rfl,?_⟩;obtain⟨⟨ds,S2⟩,e2,e3⟩:=cA.mp e1;obtain⟨k2,u2,cS,r2⟩:=FV bJ (.cons rv (.cons ri .nil)) e2;obtain⟨b,e4,e5⟩:=cA.mp e3;obtain⟨a,rfl,h4,h5⟩:=BU cS (ro.up (u2 q)) e4;split at e5
      .rename_i hb
       obtain _|⟨dv,_|⟨di,_|⟨_,_⟩⟩⟩:=ds
       .cases e5
       .cases e5
       .obtain⟨b',e6,rfl⟩:=df.mp e5;obtain⟨s1,s2⟩:=r2.inv;refine QT cS.le h4 s2 s1 e6 λo' h6=>?_
        obtain⟨mh,u5⟩:=h5 q b' _ BD hb h6;exact cf.now (cf.up (cf.up w1 (u2 q)) u5) mh ((g1.up (u2 q)).up u5)
       .cases e5
      .cases e5
  .cases e1
 refine nJ (ui t1) λv H1 h=>nJ (ui h) λo H2 h=>nJ (ui h) λi H3 h=>?_
 obtain⟨v',o',i',e,h⟩:=xV h;cases e;exact h
def e4e(he:PE X e (tE K W q fv))(ho:PE X o (tE K W q fo))(hi:PE X i (tE K W q fi))(hu:X.A.units+41<cLine)(hK:X.K=K)
  (ha:∀v,assign (.Subscript o i pos') X.env v=(do
   let ov <-holding [v] (eval o X.env)
   let iv <-holding [v,ov] (eval i X.env)
   standAt pos'
   holding [v,ov,iv] (setItem ov iv v)
   release [v,ov,iv] []))
  (hs:swapsWithSole [.Subscript o i pos'] e pos.line X.env=pure false) (hw:swappedStores [.Subscript o i pos'] e X.env=pure none)
  (h1:(assignEach [.Subscript o i pos'] X.env).map (·.2)=[assign (.Subscript o i pos') X.env]):PS X (.Assign [.Subscript o i pos'] e pos) (tS K W q (cv q fv fo fi)):=by
 subst hK;exact(Γ he (Z_ ho hi (Rr hu) ha) hs hw h1).mono λD Z H t=>e4d t
end
end L2
namespace L2
open PySem PySem.Spec PySem.W PyProof.Rows
section
variable{X:Cx}{K:fI}{W:XW}{q:Nat}{pos:Pos}{aa:List (aj×Obj)}{Z:St}
def sC:PE X (.Dict [] [] pos) e3y:=λaa s Z H Q I h=>
 wpAny_Dict_empty ⟨.ref s.heap.objs.size,_,I.laid (a:=s.heap.objs.size) (o:=.dG [] 0) (t':=s.toks) (λ_ _ q=>cZ _ q) (bY _) (Ja s.heap I.big),rfl,h _ (I.bw.fresh (bY _))⟩
noncomputable def og:GE:=λ_ S=>some (.ok (.o (.av [])) S)
def rM:PE X (.Dict [] [] pos) (tE K W q og):=sC.mono λZ H Q t p hp=>by
 obtain⟨k,U,S,res,ok,gk,e,w⟩:=t;cases e;exact kR.av (.fin ok w) ok.le rfl .nil .nil hp
def oJ(K:fI)(F:Hp)(e:TK×V×V):Prop:=aZ K F [e.2.1] [e.1.d]/\e.1.ok 8=true
def QU(K:fI)(vg:List (TE×TE)):TE:=λZ H Q=>∀p,H p=none->Ga vg Z (upd H p (.dG [] 0)) λps H2=>(∃e0,H2 p=some (.dG [] e0))/\∃(F:Hp) (qs:List (TK×V×V)),F p=none/\az F H2/\ps=qs.map (·.2)/\(∀e∈qs,oJ K F e)/\qs.length<=15/\∀ep,Q (.ref p) (upd H2 p (.dG (eY [] qs) ep))
def We{F:Hp}{qs:List (TK×V×V)}(h:∀e∈qs,oJ K F e):∀{es:List (TK×V×V)},aZ K F (es.map (·.2.1)) (es.map (·.1.d))->aZ K F ((eY es qs).map (·.2.1)) ((eY es qs).map (·.1.d)):=λ{es} r=>ND K (λp m=>(h p m).1) r
theorem N5{A:cN}{E:ai->ax->Prop}{F H2:Hp}{p:aj}(hF:F p=none)(le:az F H2)(hu:A.units+8<cLine){Q:Unit->ax->Prop}:∀{qs:List (TK×V×V)} {ws:List (ai×ai)} {es:List (TK×V×V)} {ep:Nat} {s:ax},VV (qs.map (·.2)) ws->(∀e∈qs,oJ X.K F e)->aZ X.K F (es.map (·.2.1)) (es.map (·.1.d))->es.length+qs.length<=1000->Inv X aa Z (upd H2 p (.dG es ep)) s->(∀ep s,Inv X aa Z (upd H2 p (.dG (eY es qs) ep)) s->Q () s)->
  wpAny (model X.prog X.w) A (forIn ws () λ(x:ai×ai) _=>do dictSet p x.1 x.2;pure (ForInStep.yield ())) Q E s
 |[],_,es,ep,s,v,_,_,_,I,h=>by
  rw[EA] at v;cases v;rw[List.forIn_nil];exact aX (h ep s I)
 |e::qs,_,es,ep,s,v,hk,r,hl,I,h=>by
  rw[cU] at v;cases v with
  |cons rv v=>
   rw[List.forIn_cons];have sm:az F (upd H2 p (.dG es ep)):=λb o z=>by rw[dh (λy=>by rw[y,hF] at z;cases z)];exact le b o z
   have KI:=hk e (.head _);rw[kG] at hl;refine ay (ay (IP (by lia) I ⟨es,ep,e.1,aK,r.Hr sm,KI.1.Hr sm,KI.2,by rw[sizeLine_eq];lia,rfl⟩ rv.1 rv.2 λs' I'=>aX ?_))
   rw[Xg] at I';have GZ:=E9 e.1 e.2.1 e.2.2 es;have e3:(eY es [e]).length=(du es e.1 e.2.1 e.2.2).length:=rfl;exact N5 (es:=eY es [e]) hF le hu v (λe m=>hk e (.tail _ m)) (We (qs:=[e]) (λx m=>by cases mG.mp m;exact KI) r) (by lia) I' h
def Wf{keys:List (ak Expr)}{values:List Expr}{vg:List (TE×TE)}(h:zF X pos keys values vg)(hu:X.A.units+41<cLine)(jC:keys.all (·.isSome)=true)(hl:keys.length=values.length)(h0:keys≠[])(yu:keys.length<=15):PE X (.Dict keys values pos) (QU X.K vg):=by
 intro aa s Z H Q I q;have hn:=I.bw.fresh (bY s.heap.objs.size);have I1:=I.laid (a:=s.heap.objs.size) (o:=.dG [] 0) (h':=s.heap.push { cls:=.type "dict",data:=.dict #[]}) (t':=s.toks) (λ_ _ q=>cZ _ q) (bY _) (Ja s.heap I.big)
 have lp:∀(ks:List (ak Expr)) (vs:List Expr),ks.all (·.isSome)=true->ks.length=vs.length->(pairTrees ks vs X.env pos).length=ks.length:=by
  intro ks
  induction ks with
  |nil=>intro vs _ e;cases vs with
   |nil=>rfl
   |cons _ _=>cases e
  |cons k ks ih=>
   intro vs a e;rw[pI,iW] at a;cases k with
   |none=>cases a.1
   |some k=>cases vs with
    |nil=>cases e
    |cons v vs=>exact congrArg (·+1) (ih vs a.2 (Nat.succ.inj e))
 have Lc:=lp keys values jC hl;rw[arm_eval_Dict,zip_pairTrees keys values X.env pos jC hl,dictDisplay_pairs _ (λz=>h0 (List.eq_nil_of_length_eq_zero (by rw[<-Lc,z];rfl))) (by rw[Lc];lia)]
 refine ay (wpAny_standAt (ay ?_));unfold subDict;refine ay (wpAny_alloc (ay (ju ?_)));rw[bM (by rw[Lc];exact yu)]
 refine ay (bL (h aa _ Z _ _ I1 (q _ hn)) λws s2 hh=>?_)
 obtain⟨ps,H2,I2,rel,⟨e0,e⟩,F,qs,hF,le,ep,hk,hq,q2⟩:=hh;subst ep;refine ju (ay ?_);have eu:upd H2 s.heap.objs.size (.dG [] e0)=H2:=by
  grind [aK,dh]
 refine N5 hF le (by show X.A.units+8<cLine;lia) rel hk .nil (by rw[A0];lia) (eu ▸ I2) λep s' I'=>?_
 exact aX (aX (aX ⟨.ref _,_,I',rfl,q2 ep⟩))
noncomputable def JL:List D->ak (List (TK×D))
 |[]=>some []
 |a::b::ds=>(jE a).bind λj=>(JL ds).map λps=>(j,b)::ps
 |_=>none
def nc(g:GA):GE:=λU S=>bd (g U ⟨S.s++[.o (.av [])],S.r⟩) λvs S1=>(qb vs S1).bind λz=>if z.2.s.length=S.s.length+1 then(match z.2.s[S.s.length]? with
 |some (.o (.av []))=>(JL z.1).bind λps=>if ps.length<=15 then some (.ok (.o (.av (ps.foldl (λkvs p=>bN kvs p.1 p.2) []))) ⟨z.2.s.take S.s.length,z.2.r⟩) else none
 |_=>none) else none
def xE:List (GE×GE)->GA
 |[]=>gN
 |p::r=>mY p.1 (mY p.2 (xE r))
noncomputable def rQ:List (V×V)->List V
 |[]=>[]
 |p::r=>p.1::p.2::rQ r
noncomputable abbrev Ho(K:fI)(W:XW)(q:Nat)(gs:List (GE×GE)):List (TE×TE):=gs.map λp=>(tE K W q p.1,tE K W q p.2)
def Wg{gs:List (GE×GE)}:∀{H:Hp} {Q:List (V×V)->Hp->Prop},gM K W q (xE gs) Z H (λxs H2=>∀ps,rQ ps=xs->Q ps H2)->Ga (Ho K W q gs) Z H Q:=by
 induction gs with
 |nil=>intro H Q t;exact xV t [] rfl
 |cons p gs ih=>intro H Q t;exact nJ (ui t) λx H1 t=>nJ (ui t) λy H2 t=>ih (nJ t λxs H3 h ps e=>h _ (by rw[<-e];rfl))
theorem P6{k:Kn}:∀{ps:List (V×V)} {ds:List D} {es:List (TK×D)},JL ds=some es->ag K k (rQ ps) ds->∃qs:List (TK×V×V),ps=qs.map (·.2)/\(∀e∈qs,oJ K k.F e)/\Paired (rm K k) qs es
 |[],ds,es,e,r=>by
  cases ds with
  |nil=>cases e;exact⟨[],rfl,(λ_ m=>nomatch m),.nil⟩
  |cons _ _=>have:=r.length;cases this
 |p::ps,ds,es,e,r=>by
  cases ds with
  |nil=>have:=r.length;cases this
  |cons a ds=>cases ds with
   |nil=>have:=r.length;cases this
   |cons b ds=>
    obtain⟨j,q1,e⟩:=cA.mp e;obtain⟨ps',q2,rfl⟩:=df.mp e;obtain⟨r1,r⟩:=ag.inv r;obtain⟨r2,r⟩:=ag.inv r;obtain⟨qs,h1,h2,h3⟩:=P6 q2 r;have rk:ag K k [p.1] [j.d]:=by rw[(Ah q1).1];exact r1
    refine⟨(j,p.1,p.2)::qs,by rw[h1];rfl,λe m=>?_,.cons ⟨rfl,rk,r2⟩ h3⟩
    rcases y0a.mp m with rfl|m
    .exact⟨sr (k:=k) j rk,(Ah q1).2⟩
    .exact h2 e m
def U7{α:Type}{l:List α}{n:Nat}{p:α}(h:l.length=n+1)(e:l[n]?=some p):l=l.take n++[p]:=by
 conv=>lhs;rw[<-List.take_append_drop n l]
 congr 1
 obtain⟨hn,e⟩:=eW.mp e;rw[Mt hn,e,Hu (by lia)]
def YB{gs:List (GE×GE)}{H:Hp}{Q:VK}(t:tE K W q (nc (xE gs)) Z H Q):QU K (Ho K W q gs) Z H Q:=by
 intro p hp;obtain⟨k,U,S,res,ok,gk,e,w⟩:=t;have sm:az H (upd H p (.dG [] 0)):=rE hp;obtain⟨fx,nx⟩:=ok.fresh hp;have cS:cq K k _ S:=ok.new (az.refl _) (λa _ o z=>sm a o z) (ok.le.trans sm) λ_ _ z=>z
 obtain⟨jF,u3⟩:=cS.pushS (b:=.av []) fx nx ⟨[],0,aK,rfl,.nil,.nil⟩;have u4:Up q k H ⟨k.F,k.A,k.T++[p]⟩ (upd H p (.dG [] 0)):=(Up.of (az.refl _) sm).trans (u3 q);refine Wg ?_;refine tX.bd (R':=RE K) (Q':=Q) jF (gk.up u4) e (w.up u4) λvs S1 xs k1 H1 bJ g1 r1 e1 w1 u1 ps0 e0=>?_
 subst e0;obtain⟨z,e2,e1⟩:=cA.mp e1;obtain⟨k2,u2,mh,r5⟩:=FV bJ r1 e2;split at e1
 .rename_i hl
  split at e1
  .rename_i hc
   obtain⟨ps,e3,e1⟩:=cA.mp e1;split at e1
   .rename_i yu
    cases e1;have ep:k2.T[S.s.length]?=some p:=Gb (u2 q).t (Gb u1.t (by rw[<-ok.s.ln];exact FT))
    obtain⟨hF,es,e0,hH,hk,_,_⟩:=mh.s.at' _ _ _ ep hc;cases es with
    |cons _ _=>cases hk
    |nil=>
     obtain⟨qs,h1,h2,h3⟩:=P6 e3 r5;have hlT:k2.T.length=S.s.length+1:=mh.s.ln.trans hl;have eT:=U7 hlT ep;have np:p∉k2.A++k2.T.take S.s.length:=by
      have nd:=mh.nd;rw[eT,<-lG] at nd;exact λm=>(mH.mp nd).2.2 p m p (List.mem_singleton_self _) rfl
     refine⟨⟨e0,hH⟩,k2.F,qs,hF,mh.le,h1,h2,by rw[Paired.length h3];exact yu,λjl=>?_⟩
     obtain⟨o1,o2,o3⟩:=P5 h3 (ws:=[]) (kvs:=[]) rfl .nil .nil;have ho:lq H1 (upd H1 p (.dG (eY [] qs) jl)) p:=BD;have Li:=mh.take S.s.length;have ok7:cq K ⟨k2.F,k2.A,k2.T.take S.s.length⟩ (upd H1 p (.dG (eY [] qs) jl)) ⟨z.2.s.take S.s.length,z.2.r⟩:=Li.new (az.refl _) (λa m o y=>by rw[ho a λy=>np (y ▸ m)];exact y) (λb o y=>by rw[ho b λy'=>by rw[y',hF] at y;cases y];exact mh.le b o y) λ_ _ y=>y
     have uu:=u4.trans (u1.trans (u2 q));refine w (.ref p) ⟨k2.F,k2.A,k2.T.take S.s.length⟩ _ ⟨uu.f,uu.a,Ou uu.t (Ez ok.s.ln),λa o y1 y2=>?_⟩ ok7 ⟨p,rfl,hF,np,_,jl,aK,o1,ag.mono (k:=k2) ⟨az.refl k2.F,k_ k2.A⟩ o2,ag.mono (k:=k2) ⟨az.refl k2.F,k_ k2.A⟩ o3⟩
     rw[ho a λy=>by rw[y,hp] at y2;cases y2]
     exact uu.h a o y1 y2
   .cases e1
  .cases e1
 .cases e1
def YC{keys:List (ak Expr)}{values:List Expr}{gs:List (GE×GE)}(hK:X.K=K)(h:zF X pos keys values (Ho K W q gs))(hu:X.A.units+41<cLine)(jC:keys.all (·.isSome)=true)(hl:keys.length=values.length)(h0:keys≠[])(yu:keys.length<=15):PE X (.Dict keys values pos) (tE K W q (nc (xE gs))):=(Wf h hu jC hl h0 yu).mono λZ H Q t=>by
 rw[hK];exact YB t
end
end L2
namespace L2
open PySem PySem.Spec PyProof.Rows
variable{aV:Str}{Z:St}{H:Hp}{Q:Str->Hp->Prop}
noncomputable def lY:D->ak Rv
 |.str x=>if x.length<=1000000 then some (rd (.str x)) else none
 |.int i=>if i.natAbs.log2<1920 then some (rd (.str (Str.ofString (toString i)))) else none
 |_=>none
def Lz:V->Hp->VK->Prop:=λx H Q=>(∃z:Str,x=.str z/\z.length<=sizeLine/\Q (.str z) H)\/∃i:Int,x=.int i/\i.natAbs.log2<1920/\Q (.str (Str.ofString (toString i))) H
abbrev TJ:=Str->St->Hp->(Str->Hp->Prop)->Prop
def wH:TJ:=λaV _ H Q=>Q aV H
def QV(te:TE)(tj:TJ):TJ:=λaV Z H Q=>te Z H λx H1=>∃y,x=.str y/\(aV++y).length<=sizeLine/\tj (aV++y) Z H1 Q
def PJ(X:Cx)(es:List Expr)(tj:TJ):Prop:=∀(aV:Str) (aa:List (aj×Obj)) (s:ax) (Z:St) (H:Hp) (Q:Str->Hp->Prop) (R:Str->ax->Prop),Inv X aa Z H s->tj aV Z H Q->aV.length<=sizeLine->
 (∀out s' H',out.length<=sizeLine->Inv X aa Z H' s'->Q out H'->R out s')->Joins (model X.prog X.w) X.A X.xe (evalEach es X.env) aV R s
abbrev GJ:=Str->Gx Str
noncomputable def kl:GJ:=λaV _ S=>some (.ok aV S)
noncomputable def Rv.str:Rv->ak Str
 |.v (.d (.str i))=>some i
 |_=>none
noncomputable def mF(f:GE)(j:GJ):GJ:=λaV U S=>bd (f U S) λr S1=>r.str.bind λy=>if(aV++y).length<=1000000 then j (aV++y) U S1 else none
noncomputable def xF(j:GJ):GE:=λU S=>bd (j Str.empty U S) λz S1=>some (.ok (rd (.str z)) S1)
abbrev RS:Rp Str Str:=λ_ _ b a=>b=a
section
variable{X:Cx}{K:aL}{W:XW}{q:Nat}{f:GE}{e v:Expr}{es:List Expr}{j:GJ}{pos:Pos}{te:TE}{tj:TJ}
def Rv.zp{r:Rv}{i:Str}(h:r.str=some i):r=rd (.str i):=by
 unfold Rv.str at h;split at h
 .cases h;rfl
 .cases h
def e4f:b_ K (Lx Lz) (o1 lY):=tV λk H x a y Q le t e res=>by
 unfold lY at e;split at e
 .split at e
  .cases e;cases t.flat rfl;exact⟨_,rfl,.inl ⟨_,rfl,ml (by assumption),res.flat le rfl⟩⟩
  .cases e
 .split at e
  .cases e;cases t.flat rfl;exact⟨_,rfl,.inr ⟨_,rfl,by assumption,res.flat le rfl⟩⟩
  lia
 lia
def Cr(h:PE X v (tE K W q f)):PE X (.FormattedValue v (-1) none pos) (tE K W q (gO (o1 lY) (br f))):=by
 intro aa s Z H Q I t;refine wpAny_FormattedValue_plain (bL (h aa s Z H _ I (Kb (uo e4f t))) λu s1 ⟨x,H1,I1,r1,q1⟩=>?_)
 rcases q1 with⟨z,rfl,hz,q⟩|⟨i,rfl,hi,q⟩
 .obtain⟨t',rfl⟩:=r1;exact PyProof.Rows.formatField_str (λt2 tk=>⟨.str z,H1,I1.tok _,⟨_,rfl⟩,q⟩) hz
 .obtain⟨t',rfl⟩:=r1;exact wpAny_formatField_int hi ⟨.str _,H1,I1.tok _,⟨_,rfl⟩,q⟩
def e4g:PJ X [] wH:=λaV aa s Z H Q R I t hl hR=>Joins_nil (hR _ _ _ hl I t)
def YD(he:PE X e te)(hj:PJ X es tj):PJ X (e::es) (QV te tj):=λaV aa s Z H Q R I t hl hR=>
 Joins_cons (bL (he aa s Z H _ I t) λu s1 h1=>by
  obtain⟨x,H1,I1,r1,y,rfl,R0,q1⟩:=h1;obtain⟨t,rfl⟩:=r1;exact⟨y,t,rfl,R0,hj (aV++y) aa s1 Z H1 Q R I1 q1 R0 hR⟩)
def YE(t:tX RS K W q (kl aV) Z H Q):wH aV Z H Q:=Cn t λ_ _=>rfl
def Wq(hj:∀aV Z H Q,tX RS K W q (j aV) Z H Q->tj aV Z H Q)(t:tX RS K W q (mF f j aV) Z H Q):QV (tE K W q f) tj aV Z H Q:=by
 obtain⟨k,U,S,res,ok,gk,e,w⟩:=t;refine tX.bd ok gk e w λr S1 x k1 H1 bJ g1 r1 e1 w1 _=>?_
 obtain⟨y,e2,e3⟩:=cA.mp e1;cases Rv.zp e2;split at e3
 .exact⟨y,(show ag K k1 [x] [.str y] from r1).bo rfl,ml (by assumption),hj _ _ _ _ ⟨k1,U,S1,res,bJ,g1,e3,w1⟩⟩
 .cases e3
def U8{v1 v2:Expr}{rest:List Expr}(h:PJ X (v1::v2::rest) tj)(hj:∀aV Z H Q,tX RS K W q (j aV) Z H Q->tj aV Z H Q):PE X (.JoinedStr (v1::v2::rest) pos) (tE K W q (xF j)):=by
 intro aa s Z H Q I t;refine wpAny_JoinedStr (h Str.empty aa s Z H (λout H'=>Q (.str out) H') _ I (hj _ _ _ _ ?_) (k9 _) λout s' H' h1 I' hQ=>⟨h1,.str out,H',I'.tok _,⟨_,rfl⟩,hQ⟩)
 obtain⟨k,U,S,res,ok,gk,e,w⟩:=t;refine tX.bd ok gk e w λz S1 z' k1 H1 bJ g1 r1 e1 w1 _=>?_
 cases e1;cases r1;exact w1.now bJ (show ag K k1 [_] [_] from .flat rfl .nil)
end
variable{S:aU}{n:Nat}{op:Operator}{h:Int->Int->Int}
def jV(K:aL)(atr:List (aj×Str)):Prop:=∀p∈atr,Cls K p.1/\fZ K p.1 p.2
noncomputable def sg(S:aU)(n:Nat):ak (aj×List (Str×D)):=(S.r[n]?).bind λc=>match c with
 |.ins C fs=>some (C,fs)
 |_=>none
def F3{p:aj×List (Str×D)}(h:sg S n=some p):S.r[n]?=some (.ins p.1 p.2):=by
 obtain⟨c,h1,h2⟩:=cA.mp h;cases c <;> cases h2;exact h1
def bu(atr:List (aj×Str))(g:Str)(f:GE):GE:=λU S=>bd (f U S) λr S1=>r.ref.bind λn=>(sg S1 n).bind λp=>if atr.contains (p.1,g)=true then(p.2.lookup g).map λd=>.ok (rd d) S1 else none
noncomputable def gd(f:Str)(v:D):List (Str×D)->List (Str×D)
 |[]=>[(f,v)]
 |(g,x)::r=>if g=f then(g,v)::r else(g,x)::gd f v r
section
variable{X:Cx}{K:aL}{W:XW}{q:Nat}{atr:List (aj×Str)}{g:Str}{f fv fo fe fi:GE}{e o value i:Expr}{pos pos' fP:Pos}{Z:St}{H:Hp}
theorem Jd{k:Kn}{g:Str}{d:D}:∀{gs:List (Str×V)} {fs:List (Str×D)},gs.map (·.1)=fs.map (·.1)->ag K k (gs.map (·.2)) (fs.map (·.2))->fs.lookup g=some d->∃v,gs.lookup g=some v/\ag K k [v] [d]
 |[],[],_,_,e=>nomatch e
 |(x,v)::gs,(y,c)::fs,h,r,e=>by
  obtain⟨h1,h2⟩:=List.cons.inj (show x::gs.map (·.1)=y::fs.map (·.1) from h)
  obtain⟨a1,a2⟩:=ag.inv r;subst h1;rw[List.lookup_cons] at e ⊢;split at e
  .cases e;exact⟨v,rfl,a1⟩
  .exact Jd h2 a2 e
 |[],_::_,h,_,_=>nomatch h
 |_::_,[],h,_,_=>nomatch h
theorem OG{k:Kn}{g:Str}{v:V}{d:D}(rv:ag K k [v] [d]):∀{gs:List (Str×V)} {fs:List (Str×D)},gs.map (·.1)=fs.map (·.1)->ag K k (gs.map (·.2)) (fs.map (·.2))->(dQ g v gs).map (·.1)=(gd g d fs).map (·.1)/\ag K k ((dQ g v gs).map (·.2)) ((gd g d fs).map (·.2))
 |[],[],_,_=>⟨rfl,rv⟩
 |(x,w)::gs,(y,c)::fs,h,r=>by
  obtain⟨h1,h2⟩:=List.cons.inj (show x::gs.map (·.1)=y::fs.map (·.1) from h)
  obtain⟨a1,a2⟩:=ag.inv r;subst h1;unfold dQ gd;split
  .exact⟨congrArg (List.cons x) h2,.cons rv a2⟩
  .obtain⟨c1,c2⟩:=OG rv h2 a2;exact⟨congrArg (List.cons x) c1,.cons a1 c2⟩
 |[],_::_,h,_=>nomatch h
 |_::_,[],h,_=>nomatch h
def e4h(ha:jV K atr)(he:PE X e (tE K W q f))(hb:attributeBase e g X.env (eval e X.env)=eval e X.env)(hK:X.K=K):PE X (.Attribute e g pos) (tE K W q (bu atr g f)):=by
 subst hK;refine(ε he hb).mono λZ H Q t=>?_
 obtain⟨k,U,S,res,ok,gk,e,w⟩:=t;refine tX.bd ok gk e w λr S1 x k1 H1 bJ g1 r1 e1 w1 _=>?_
 obtain⟨n,e2,e3⟩:=cA.mp e1;cases Rv.mn e2;obtain⟨p,e4,e5⟩:=cA.mp e3;split at e5
 .rename_i hc
  obtain⟨h1,h2⟩:=ha _ (lh.mp hc);obtain⟨d,e6,rfl⟩:=df.mp e5;obtain⟨a,dx,gs,rfl,h3,h4,h5,h6,h7⟩:=B4 bJ r1 (F3 e4);obtain⟨v,h8,h9⟩:=Jd h6 h7 e6;exact⟨a,_,dx,gs,v,rfl,h5,h1,h2,h8,w1.now bJ h9⟩
 .cases e5
def cq.DO{k:Kn}{a C dx:aj}{gs:List (Str×V)}{fs:List (Str×D)}{v:V}{d:D}(ok:cq K k H S)(hA:k.A[n]?=some a)(hF:k.F a=none)(h5:H a=some (.ins C dx gs))(h6:gs.map (·.1)=fs.map (·.1))(h7:ag K k (gs.map (·.2)) (fs.map (·.2)))(rv:ag K k [v] [d])(hq:Nat.ble q 1=true):
  cq K k (upd H a (.ins C dx (dQ g v gs))) ⟨S.s,S.r.set n (.ins C (gd g d fs))⟩/\Up q k H k (upd H a (.ins C dx (dQ g v gs))):=by
 obtain⟨c1,c2⟩:=OG (g:=g) rv h6 h7;refine ok.DP hA BD hF (λo z=>?_) ⟨hF,dx,_,aK,c1,c2⟩
 rw[h5] at z;cases z;have:=zB hq
 match q,this with
 |0,_=>rfl
 |1,_=>rfl
def fD(q:Nat)(atr:List (aj×Str))(g:Str)(fv fo:GE):GS:=λU S=>kI U (fv U S) λr1 S1=>kI U (fo U S1) λr2 S2=>(oi S2 (mB r1)).bind λz=>r2.ref.bind λn=>(sg z.2 n).bind λp=>if(atr.contains (p.1,g)&&Nat.ble q 1&&Nat.blt p.2.length 1000)=true then some (.nx U ⟨z.2.s,z.2.r.set n (.ins p.1 (gd g z.1 p.2))⟩) else none
def e4i(ha:jV K atr)(ho:PE X o (tE K W q fo))(hv:PE X value (tE K W q fv))(hs:swapsWith value (some (.Attribute o g pos')) pos.line X.env=pure false)(hK:X.K=K):PS X (.Assign [.Attribute o g pos'] value pos) (tS K W q (fD q atr g fv fo)):=by
 subst hK;refine(ζ ho hv hs).mono λD Z H t=>?_
 obtain⟨k,U,S,fr,ok,gk,e,w⟩:=t;refine tS.bd ok gk e w λr1 S1 y k1 H1 bJ g1 q1 e1 w1=>?_
 obtain⟨k2,u2,cS,q2⟩:=qx bJ q1;refine tS.Cj cS (g1.up (u2 q)) e1 (w1.up (u2 q)) λr2 S2 x k3 H3 jF g3 r3 e2 w3 u3=>?_
 obtain⟨⟨d,S3⟩,e3,e4⟩:=cA.mp e2;obtain⟨k4,u4,qj,r4⟩:=FU jF (q2.up u3) e3;obtain⟨n,e5,e6⟩:=cA.mp e4;cases Rv.mn e5;obtain⟨p,e7,e8⟩:=cA.mp e6;split at e8
 .rename_i hc
  cases e8;simp only[iW] at hc;obtain⟨⟨GU,rX⟩,Ky⟩:=hc;obtain⟨h1,h2⟩:=ha _ (lh.mp GU);obtain⟨a,dx,gs,rfl,h3,h4,h5,h6,h7⟩:=B4 qj (ag.mono (u4 q).le r3) (F3 e7);have hl:gs.length<1000:=by
   have:=h7.length;rw[bx,bx] at this;rw[this];exact zB Ky
  obtain⟨mh,u5⟩:=qj.DO (g:=g) h3 h4 h5 h6 h7 r4 rX;exact⟨a,_,dx,gs,rfl,h5,h1,h2,hl,cf.now (cf.up w3 ((u4 q).trans u5)) mh (g3.up ((u4 q).trans u5))⟩
 .cases e8
def JM(q:Nat)(h:Int->Int->Int)(atr:List (aj×Str))(g:Str)(fo fe:GE):GS:=λU S=>kI U (fo U S) λr S1=>r.ref.bind λn=>(sg S1 n).bind λp=>if atr.contains (p.1,g)=true then(match p.2.lookup g with
 |some (.int a)=>kI U (fe U S1) λr2 S2=>r2.int.bind λb=>(sg S2 n).bind λp2=>if(p2.1 == p.1&&Nat.ble q 1&&Nat.blt p2.2.length 1000)=true then some (.nx U ⟨S2.s,S2.r.set n (.ins p2.1 (gd g (.int (h a b)) p2.2))⟩) else none
 |_=>none) else none
def YF(yD:wZ X op λx y H Q=>∃i j,x=.int i/\y=.int j/\Q (.int (h i j)) H)(ha:jV K atr)(ho:PE X o (tE K W q fo))(hv:PE X value (tE K W q fe))(hK:X.K=K):PS X (.AugAssign (.Attribute o g fP) op value pos) (tS K W q (JM q h atr g fo fe)):=by
 subst hK;refine(Uo ho hv yD).mono λD Z H t=>?_
 obtain⟨k,U,S,fr,ok,gk,e,w⟩:=t;refine tS.bd ok gk e w λr S1 x k1 H1 bJ g1 r1 e1 w1=>?_
 obtain⟨n,e2,e3⟩:=cA.mp e1;cases Rv.mn e2;obtain⟨p,e4,e5⟩:=cA.mp e3;split at e5
 case isFalse=>cases e5
 rename_i hc
 obtain⟨h1,h2⟩:=ha _ (lh.mp hc);obtain⟨a,dx,gs,rfl,h3,h4,h5,h6,h7⟩:=B4 bJ r1 (F3 e4);split at e5
 case h_2=>cases e5
 rename_i iv hl
 obtain⟨v,h8,h9⟩:=Jd h6 h7 hl;cases h9.bo rfl;refine⟨a,_,dx,gs,_,rfl,h5,h1,h2,h8,tS.Cj bJ g1 e5 w1 λr2 S2 y k2 H2 cS g2 q2 e6 w2 u2=>?_⟩
 obtain⟨b,e7,e8⟩:=cA.mp e6;cases Rv.jb e7;cases(show ag X.K k2 [y] [.int b] from q2).bo rfl;obtain⟨p2,e9,Ka⟩:=cA.mp e8;split at Ka
 case isFalse=>cases Ka
 rename_i hc
 cases Ka;simp only[iW,beq_iff_eq] at hc;obtain⟨⟨GU,rX⟩,Ky⟩:=hc;obtain⟨a',Zr,i_,z,h3',h4',RM,h6',RN⟩:=B4 cS (ag.mono u2.le r1) (F3 e9);cases z;have hl:i_.length<1000:=by
  have:=RN.length;rw[bx,bx] at this;rw[this];exact zB Ky
 obtain⟨mh,u5⟩:=cS.DO (g:=g) (v:=.int (h iv b)) (d:=.int (h iv b)) h3' h4' RM h6' RN (.flat rfl .nil) rX;exact⟨_,_,rfl,rfl,Zr,i_,GU ▸ RM,hl,GU ▸ cf.now (cf.up w2 u5) mh (g2.up u5)⟩
def JN(q:Nat)(h:Int->Int->Int)(fo fi fe:GE):GS:=λU S=>kI U (fo U S) λr1 S1=>kI U (fi U S1) λr2 S2=>(match mB r2,ie S2 (mB r1) with
 |.d di,some (.av kvs)=>(jE di).bind λj=>(match aM kvs j with
  |some (.int a)=>kI U (fe U S2) λr3 S3=>r3.int.bind λb=>(ie S3 (mB r1)).bind λc=>if c.mb q=true then(match c with
   |.av sv=>if sv.length<1000000 then some (.nx U (setB S3 (.av (bN sv j (.int (h a b)))) (mB r1))) else none
   |_=>none) else none
  |_=>none)
 |_,_=>none)
def Wr(hu:X.A.units+41<cLine):Ba X (λo i H Q=>∃a v,o=.ref a/\hV X.K H a i (some v)/\Q v H):=by
 intro aa s Z H o i ov iv Q I ro ri h;obtain⟨p,v,rfl,g,q⟩:=h;cases ro;exact N1 (by lia) I g ri λw' s3 I3 mr=>⟨v,H,I3,mr,q⟩
def YG(yD:EL X op (K2 h))(ho:PE X o (tE K W q fo))(hi:PE X i (tE K W q fi))(hv:PE X value (tE K W q fe))(hu:X.A.units+41<cLine)(hK:X.K=K)
  (ha:∀ov iv new,augStore i ov iv new=(do holding [new,ov,iv] (setItem ov iv new);release [new,ov,iv] [];pure .next)):PS X (.AugAssign (.Subscript o i fP) op value pos) (tS K W q (JN q h fo fi fe)):=by
 subst hK;refine(Xm ho hi (Wr hu) hv yD (Rr hu) ha).mono λD Z H t=>?_
 obtain⟨k,U,S,fr,ok,gk,e,w⟩:=t;refine tS.bd ok gk e w λr1 S1 x k1 H1 bJ g1 q1 e1 w1=>?_
 obtain⟨k2,u2,cS,q2⟩:=qx bJ q1;refine tS.Cj cS (g1.up (u2 q)) e1 (w1.up (u2 q)) λr2 S2 y k3 H3 jF g3 r3 e2 w3 u3=>?_
 obtain⟨k4,u4,qj,q4⟩:=qx jF r3;have q5:=(q2.up u3).up (u4 q);split at e2
 case h_2=>cases e2
 rename_i di kvs hd hg
 rw[hd] at q4;obtain⟨j,e3,e4⟩:=cA.mp e2;obtain⟨a,rfl,hb,_⟩:=BU qj q5 hg;split at e4
 case h_2=>cases e4
 rename_i iv C3
 have tp:Top X.K k4 H3 (.ref a) (.av kvs):=.inr ⟨a,.av kvs,rfl,rfl,hb⟩;obtain⟨p,o,z,g,hh⟩:=vv qj.le tp (.inl q4) e3;cases z;rcases hh with⟨_,z⟩|⟨v,d,rfl,z,rv⟩
 .rw[C3] at z;cases z
 rw[C3] at z;cases z;cases rv.bo rfl;refine⟨a,_,rfl,g,tS.Cj qj (g3.up (u4 q)) e4 (w3.up (u4 q)) λr5 S5 y5 k5 H5 mh g5 q6 e5 w5 u5=>?_⟩
 obtain⟨b,e6,e7⟩:=cA.mp e5;cases Rv.jb e6;cases(show ag X.K k5 [y5] [.int b] from q6).bo rfl;obtain⟨c,e8,e9⟩:=cA.mp e7;obtain⟨a',z,l0,L7⟩:=BU mh (q5.up u5) e8;cases z;split at e9
 case isFalse=>cases e9
 rename_i hm
 cases c with
 |lst _=>cases e9
 |av sv=>
  dsimp only at e9;split at e9
  case isFalse=>cases e9
  rename_i hl
  cases e9;refine⟨_,_,rfl,rfl,QT (b:=.av sv) (dv:=.int (h iv b)) (di:=di) (b':=.av (bN sv j (.int (h iv b)))) mh.le l0 ((show c7 X.K k4 y (.d di) from q4).up u5) (.flat rfl .nil) ?_ λo' h6=>?_⟩
  .unfold u_;dsimp only;rw[e3,wM,bM hl]
  .obtain⟨Li,u6⟩:=L7 q _ _ BD hm h6;exact cf.now (cf.up w5 u6) Li (g5.up u6)
end
end L2
namespace L2
open PySem PySem.Spec PySem.W PyProof.Rows
variable{k k':Int->Int->Bool}{op:CmpOp}{j:GJ}{T:String}{m:Str}{o':Bx->List D->ak (Bx×D)}
def cz.le{k k':Nat}{A:PySem.Around}(h:cz k A)(e:k'<=k:=by decide):cz k' A:=h.mono e
def uX{X:Cx}:fq X W0:=λ_ _ _ _ _ _ _ _ _ _ _ z=>z.elim
def AL:List Str->Bool
 |[]=>true
 |x::l => !l.contains x&&AL l
theorem Gk:∀{l:List Str},AL l=true->l.Nodup
 |[],_=>.nil
 |x::l,h=>by
  obtain⟨h1,h2⟩:=A2.mp h;rw[MC,<-Bool.not_eq_true,lh] at h1;exact qp.mpr ⟨h1,Gk h2⟩
section
variable{X:Cx}{K:fI}{W:XW}{q:Nat}{a b c e o:Expr}{es rest:List Expr}{f g h:GE}{fs:GA}{ft fu:GT}{pos p apos bS:Pos}{x:Str}
def xv(i:Nat)(hN:X.N[i]?=some x)(hv:HV X.env.scope x)(hd:(x == ("__debug__":Str))=false)(rY:(x == ("__classdict__":Str))=false):PE X (.Name x pos) (tE K W q (rT i)):=υ (ZU hN hv hd rY)
def xi{i:Int}{j}:PE X (.Constant (.int i) j pos) (tE K W q (gC (.int i))):=ye ZV
def xs{i:Str}{j}:PE X (.Constant (.str i) j pos) (tE K W q (gC (.str i))):=ye ZX
def xb{i:Bool}{j}:PE X (.Constant (.bool i) j pos) (tE K W q (gC (.bl i))):=ye e8k
def xn{j}:PE X (.Constant .none j pos) (tE K W q (gC .aI)):=ye ZW
def xty{n:String}(hm:X.mg x=none)(hv:bootBuiltins x=some (.type n))(hg:Gl X x)(hn:x≠"__name__")(hd:(x == ("__debug__":Str))=false):PE X (.Name x pos) (tE K W q (gC (.ty n))):=ye (e8s hg hm hv hn hd)
def nV(K:fI)(op:Operator)(o:List D->ak Rv):Prop:=∀X:Cx,X.K=K->∃r,dF X (binaryOp op) r/\b_ K (lA r) o
def Me:nV K .Add (o2 xO):=λX h=>⟨_,Yd K h,e3m⟩
def Mj:nV K .Sub (o2 (eH tY λi j=>.int (i - j))):=λX h=>⟨_,Φ,e3n⟩
def Mh:nV K .Mult (o2 uQ):=λX h=>⟨_,Yf,e3q⟩
def Er:nV K .FloorDiv (o2 (eH (λ_ j=>decide (0<j/\j<1073741824)) λi j=>.int (i / j))):=λX h=>⟨_,Xo,Ye⟩
def Mg:nV K .Mod (o2 (eH (λ_ j=>decide (0<j)) λi j=>.int (i%j))):=λX h=>⟨_,Ψ,e3o⟩
def Mi:nV K .Pow (o2 (eH (λi j=>decide (0<=j/\j<=1000000/\i.natAbs<2^64)) λi j=>.int (i^j.toNat))):=λX h=>⟨_,Ω,e3p⟩
def xo{op:Operator}{o:List D->ak Rv}(c:nV K op o)(ha:PE X a (tE K W q f))(hb:PE X b (tE K W q g))(hK:X.K=K):PE X (.BinOp a op b pos) (tE K W q (gO o (bO f g))):=by
 obtain⟨r,h1,h2⟩:=c X hK;exact e8u h1 h2 ha hb
def Mm(ha:PE X a (tE K W q f)):PE X (.UnaryOp .USub a pos) (tE K W q (gO (o1 uS) (br f))):=e8v γ e3r ha
def jv(K:fI)(op:CmpOp)(o:List D->ak Rv):Prop:=∀X:Cx,X.K=K->X.A.units+41<cLine->∃r,dF X (compareOp op) r/\b_ K (lA r) o
def Wh:jv K .Eq (o2 (GD false)):=λX h u=>⟨_,e3t K (by lia) h,e8y⟩
def Wm:jv K .Lt (o2 (eH tY λi j=>.bl (decide (i<j)))):=λX h u=>⟨_,wm,JJ⟩
def Wl:jv K .LtE (o2 (eH tY λi j=>.bl (decide (i<=j)))):=λX h u=>⟨_,wk,JJ⟩
def Wi:jv K .Gt (o2 (eH tY λi j=>.bl (decide (j<i)))):=λX h u=>⟨_,e8p,JJ⟩
def Wj:jv K .In (o2 (AF false)):=λX h u=>⟨_,e3u K u h,Ro false⟩
def J0:jv K .NotIn (o2 (AF true)):=λX h u=>⟨_,UP K u h,Ro true⟩
def Wk:jv K .Is (o2 (AG false)):=λX h u=>⟨_,e3w,Rq false⟩
def JX:jv K .IsNot (o2 (AG true)):=λX h u=>⟨_,Yi,Rq true⟩
def xc{o:List D->ak Rv}(c:jv K op o)(ha:PE X a (tE K W q f))(hb:PE X b (tE K W q g))(hu:X.A.units+41<cLine)(hK:X.K=K)(hm:behindInMarks op b=false):PE X (.Compare a [op] [b] pos) (tE K W q (gO o (bO f g))):=by
 obtain⟨r,h1,h2⟩:=c X hK hu;exact χ h1 h2 ha hb hm
def yc{o:List D->ak Rv}(c:jv K op o)(ha:PE X a (tE K W q f))(hb:PE X b (tE K W q g))(hu:X.A.units+41<cLine)(hK:X.K=K)(hm:behindInMarks op b=false):PT X (.Compare a [op] [b] pos) (tT K W q (gB (gO o (bO f g)))):=by
 obtain⟨r,h1,h2⟩:=c X hK hu;exact RG (Xq h1 ha hb hm) λ_ _ _ t=>GC (uo h2 t)
noncomputable def JO(c c':Int->Int->Bool)(f g h:GE):GE:=λU S=>bd (f U S) λr1 S1=>bd (g U S1) λr2 S2=>r1.int.bind λi=>r2.int.bind λj=>if c i j=true then bd (h U S2) λr3 S3=>r3.int.map λl=>.ok (rd (.bl (c' j l))) S3 else some (.ok (rd (.bl false)) S2)
def Ws{Z:St}{H:Hp}{Q:VK}(t:tE K W q (JO k k' f g h) Z H Q):Qv (pz λi j=>.bl (k i j)) (pz λi j=>.bl (k' i j)) (tE K W q f) (tE K W q g) (tE K W q h) Z H Q:=by
 obtain⟨n,U,S,res,ok,gk,e,w⟩:=t;refine tX.bd ok gk e w λr1 S1 x k1 H1 bJ g1 q1 e1 w1 _=>tX.bd bJ g1 e1 w1 λr2 S2 y k2 H2 cS g2 q2 e2 w2 _=>?_
 obtain⟨i,h1,e3⟩:=cA.mp e2;obtain⟨j,h2,e4⟩:=cA.mp e3;cases Rv.jb h1;cases Rv.jb h2;cases(show ag K k1 [x] [.int i] from q1).bo rfl;cases(show ag K k2 [y] [.int j] from q2).bo rfl;refine⟨i,j,rfl,rfl,k i j,rfl,?_⟩;split at e4
 .rename_i hk
  rw[hk];refine sj (tX.bd cS g2 e4 w2 λr3 S3 z k3 H3 jF g3 q3 e5 w3 _=>?_)
  obtain⟨l,h3,rfl⟩:=df.mp e5;cases Rv.jb h3;cases(show ag K k3 [z] [.int l] from q3).bo rfl;exact⟨_,_,rfl,rfl,w3.now jF (show ag K k3 [_] [_] from .flat rfl .nil)⟩
 .rename_i hk
  cases e4;rw[Bool.not_eq_true] at hk;rw[hk];exact si (w2.now cS (show ag K k2 [_] [_] from .flat rfl .nil))
def ych{yU:CmpOp}(h1:∀X:Cx,dF X (compareOp op) (pz λi j=>.bl (k i j)))(h2:∀X:Cx,dF X (compareOp yU) (pz λi j=>.bl (k' i j)))(ha:PE X a (tE K W q f))(hb:PE X b (tE K W q g))(hc:PE X c (tE K W q h))(hm:lastMarks [op,yU] [b,c]=false):PT X (.Compare a [op,yU] [b,c] pos) (tT K W q (gB (JO k k' f g h))):=RG (Vx (h1 X) (h2 X) ha hb hc hm) λ_ _ _ t=>Ws t
def yt(ha:PE X a (tE K W q f))(hK:X.K=K)(ht:∀whole,isTrue a X.env whole=(do let v <-whole;standAt a.pos;holding [v] (truthy v))):PT X a (tT K W q (cI f)):=ψ hK ha ht
def ya1(h:PT X a (tT K W q ft)):PW X (.BoolOp .And [a] pos) (tT K W q ft):=Xj h
def yo1(h:PT X a (tT K W q ft)):PW X (.BoolOp .Or [a] pos) (tT K W q ft):=ZY h
def xix(ha:PE X a (tE K W q f))(hb:PE X b (tE K W q g))(hu:X.A.units+41<cLine)(hK:X.K=K)(hs:Jr b):PE X (.Subscript a b pos) (tE K W q (gO (o2 G8) (bO f g))):=e8w (K4 K hu hK) e9a ha hb hs
def xsl{lo hi:ak Expr}{p2:Pos}{fl fh}(he:PE X e (tE K W q f))(hl:PO X lo (tX zG K W q fl))(hu:PO X hi (tX zG K W q fh))(hK:X.K=K):PE X (.Subscript e (.Slice lo hi none p2) pos) (tE K W q (xW f fl fh)):=V3 he hl hu hK
def zc{g:GE}{h:GA}(ha:PE X e (tE K W q g))(hr:PA X es (gM K W q h))(hs:starEach (e::es) X.env=(false,eval e X.env)::starEach es X.env):PA X (e::es) (gM K W q (mY g h)):=XM ha hr hs
def xd{keys:List (ak Expr)}{values:List Expr}{gs:List (GE×GE)}(h:zF X pos keys values (Ho K W q gs))(hu:X.A.units+41<cLine)(hK:X.K=K)(jC:keys.all (·.isSome)=true)(hl:keys.length=values.length)(h0:keys≠[])(yu:keys.length<=15):PE X (.Dict keys values pos) (tE K W q (nc (xE gs))):=YC hK h hu jC hl h0 yu
def EM(X:Cx)(K:fI)(W:XW)(q:Nat)(es:List Expr)(j:GJ):Prop:=∃tj,PJ X es tj/\∀aV Z H Q,tX RS K W q (j aV) Z H Q->tj aV Z H Q
def jn:EM X K W q [] kl:=⟨_,e4g,λ_ _ _ _ t=>YE t⟩
def jc(he:PE X e (tE K W q f))(hr:EM X K W q es j):EM X K W q (e::es) (mF f j):=by
 obtain⟨tj,h1,h2⟩:=hr;exact⟨_,YD he h1,λ_ _ _ _ t=>Wq h2 t⟩
def xj{v1 v2:Expr}(h:EM X K W q (v1::v2::rest) j):PE X (.JoinedStr (v1::v2::rest) pos) (tE K W q (xF j)):=by
 obtain⟨tj,h1,h2⟩:=h;exact U8 h1 h2
def tf(K:fI)(v:ai)(o:List D->ak Rv):Prop:=∀X:Cx,X.K=K->X.calm=true->X.A.units+41<cLine->∃r,bT X v r/\b_ K r o
def K7:tf K (.builtin "len") (o1 eO):=λX h c u=>⟨_,UZ h,e3z⟩
def K6:tf K (.builtin "isinstance") (o2 cM):=λX h c u=>⟨_,U0 h,e4a⟩
def K5:tf K (.builtin "all") (o1 (Gi λbs=>bs.all id)):=λX h c u=>⟨_,UT K c h,V' _⟩
def K8:tf K (.builtin "min") (o1 (m6 dP)):=λX h c u=>⟨_,V4 K c h,Yv _⟩
def Dg:tf K (.builtin "sorted") (o1 pC):=λX h c u=>⟨_,T2 c h,Yw⟩
def Dd:tf K (.type "list") (o1 kx):=λX h c u=>⟨_,T1 c h,Yt⟩
def Dc:tf K (.type "dict") (o1 oW):=λX h c u=>⟨_,TV K u c h,Wa⟩
def xB{id:String}{o:List D->ak Rv}(k:tf K (.builtin id) o)(hm:X.mg x=none)(hv:bootBuiltins x=some (.builtin id))(ha:PA X (e::es) (gM K W q fs))(hu:X.A.units+41<cLine)(hc:X.calm=true)(hK:X.K=K)(hg:Gl X x)(hn:x≠"__name__")(kX:(x == ("__debug__":Str))=false)
  (he:starEach (e::es) X.env=(false,eval e X.env)::starEach es X.env) (jP:(backTo pos (starEach es X.env)).any (·.1)=false):PE X (.Call (.Name x p) (e::es) [] pos) (tE K W q (gO o fs)):=by
 obtain⟨r,h1,h2⟩:=k X hK hc hu;exact(VD h1 hg hm hv ha hn kX he jP).mono λ_ _ _ t=>uo h2 t
def xT{o:List D->ak Rv}(k:tf K (.type T) o)(hm:X.mg x=none)(hv:bootBuiltins x=some (.type T))(ha:PA X (e::es) (gM K W q fs))(hu:X.A.units+41<cLine)(hc:X.calm=true)(hK:X.K=K)(hg:Gl X x)(hn:x≠"__name__")(kX:(x == ("__debug__":Str))=false)
  (he:starEach (e::es) X.env=(false,eval e X.env)::starEach es X.env) (jP:(backTo pos (starEach es X.env)).any (·.1)=false):PE X (.Call (.Name x p) (e::es) [] pos) (tE K W q (gO o fs)):=by
 obtain⟨r,h1,h2⟩:=k X hK hc hu;exact(Ur h1 hg hm hv ha hn kX he jP).mono λ_ _ _ t=>uo h2 t
def HR(K:fI)(T:String)(m:Str)(o:List D->ak Rv):Prop:=∀X:Cx,X.K=K->X.A.units+41<cLine->∃id r,PlainAttrs T/\Slot T m id/\typeOf (.builtin id)=pure (.type "method_descriptor")/\EJ X id r/\b_ K (pA r) o
def yO:HR K "list" "index" (o2 ja):=λX h u=>⟨_,_,PySem.F.plainAttrs_list,PySem.F.slot_list_index,PySem.F.type_list_index,V5 K h,Wc⟩
def Dj:HR K "dict" "get" (o2 ng):=λX h u=>⟨_,_,PySem.F.plainAttrs_dict,PySem.F.slot_dict_get,PySem.F.type_dict_get,Yl K u h,Yx⟩
def xM{o':List D->ak Rv}(k:HR K T m o')(ho:PE X o (tE K W q f))(ha:PA X (e::es) (gM K W q fs))(hu:X.A.units+41<cLine)(hK:X.K=K)
  (cJ:attributeBase o m X.env (eval o X.env)=eval o X.env)
  (rZ:((backTo bS (starEach (e::es) X.env)).all (λx => !x.1)&&(backToKw bS (keywordEach [] X.env)).all (λx=>x.1.isSome) && decide ((e::es).length+([]:List Keyword).length+(if([]:List Keyword).isEmpty then 0 else 1)<30))=true)
  (cK:(apos.endLine == bS.line)=true) (hs:starEach (e::es) X.env=(false,eval e X.env)::starEach es X.env) (kq:(backTo bS (starEach es X.env)).any (·.1)=false):PE X (.Call (.Attribute o m apos) (e::es) [] bS) (tE K W q (B8 T o' f fs)):=by
 subst hK;obtain⟨id,r,h1,h2,h3,h4,h5⟩:=k X rfl hu;exact(Rn h1 h2 h3 h4 ho ha cJ rZ cK hs kq).mono λ_ _ _ t=>Wb h5 t
def w9(K:fI)(T:String)(m:Str)(o:Bx->List D->ak (Bx×D)):Prop:=∀X:Cx,X.K=K->∃id r,PlainAttrs T/\Slot T m id/\typeOf (.builtin id)=pure (.type "method_descriptor")/\EJ X id r/\ji K r o
def vk:w9 K "list" "append" rH:=λX h=>⟨_,_,PySem.F.plainAttrs_list,PySem.F.slot_list_append,PySem.F.type_list_append,Us,U3⟩
def vm:w9 K "list" "insert" BV:=λX h=>⟨_,_,PySem.F.plainAttrs_list,PySem.F.slot_list_insert,PySem.F.type_list_insert,Ux,U4⟩
def zv:w9 K "list" "clear" Gj:=λX h=>⟨_,_,PySem.F.plainAttrs_list,PySem.F.slot_list_clear,PySem.F.type_list_clear,VH,Wd⟩
def vn:w9 K "list" "remove" F2:=λX h=>⟨_,_,PySem.F.plainAttrs_list,PySem.F.slot_list_remove,PySem.F.type_list_remove,UU,U6⟩
def En:w9 K "dict" "pop" jo:=λX h=>⟨_,_,PySem.F.plainAttrs_dict,PySem.F.slot_dict_pop,PySem.F.type_dict_pop,Yk K,Yz⟩
def xU(k:w9 K T m o')(ho:PE X o (tE K W q f))(ha:PA X (e::es) (gM K W q fs))(hK:X.K=K)
  (cJ:attributeBase o m X.env (eval o X.env)=eval o X.env)
  (rZ:((backTo bS (starEach (e::es) X.env)).all (λx => !x.1)&&(backToKw bS (keywordEach [] X.env)).all (λx=>x.1.isSome) && decide ((e::es).length+([]:List Keyword).length+(if([]:List Keyword).isEmpty then 0 else 1)<30))=true)
  (cK:(apos.endLine == bS.line)=true) (hs:starEach (e::es) X.env=(false,eval e X.env)::starEach es X.env) (kq:(backTo bS (starEach es X.env)).any (·.1)=false):PE X (.Call (.Attribute o m apos) (e::es) [] bS) (tE K W q (eG q T o' f fs)):=by
 subst hK;obtain⟨id,r,h1,h2,h3,h4,h5⟩:=k X rfl;exact(Rn h1 h2 h3 h4 ho ha cJ rZ cK hs kq).mono λ_ _ _ t=>QS h5 t
def xU0(k:w9 K T m o')(ho:PE X o (tE K W q f))(hK:X.K=K)(cJ:attributeBase o m X.env (eval o X.env)=eval o X.env)(cK:(apos.endLine == bS.line)=true):PE X (.Call (.Attribute o m apos) [] [] bS) (tE K W q (eG q T o' f gN)):=by
 subst hK;obtain⟨id,r,h1,h2,h3,h4,h5⟩:=k X rfl;exact(ο h1 h2 h3 h4 ho cJ cK).mono λ_ _ _ t=>Yy h5 t
def xf{atr:List (aj×Str)}(ha:jV K atr)(he:PE X e (tE K W q f))(hb:attributeBase e m X.env (eval e X.env)=eval e X.env)(hK:X.K=K):PE X (.Attribute e m pos) (tE K W q (bu atr m f)):=e4h ha he hb hK
end
structure MethAt (K:fI) (C:aj) (m qual:Str) (st:Stmt) (f:aj) (fd:lj) (ps:List Str):Prop where
 fn:q_ K m qual st f fd
 mt:Meth K C m f
 bd:Binds K fd ps []
section
variable{X:Cx}{K:fI}{W:XW}{q k n:Nat}{e o:Expr}{es:List Expr}{f:GE}{fs:GA}{m:GM}{pos p apos:Pos}{x y z:Str}{st:Stmt}{fa C:aj}{fd:lj}{ps:List Str}
def xC(D:vA K X.mg x st fa fd ps)(F:dz X.prog X.w X.K X.mg X.base (lH X.prog X.w) k fa fd ps (rA K q n m))(ha:PA X (e::es) (gM K W q fs))(hr:cz k X.A)(hm:gY m n)(hp:fq X W)(hK:X.K=K)(hg:Gl X x)(kX:(x == ("__debug__":Str))=false)
  (he:starEach (e::es) X.env=(false,eval e X.env)::starEach es X.env) (jP:(backTo pos (starEach es X.env)).any (·.1)=false):PE X (.Call (.Name x p) (e::es) [] pos) (tE K W q (aw m fs)):=by
 subst hK;exact(Xv F hr hg D.mg D.fn.kp D.bd .nil (pe hp) ha kX he jP).mono λ_ _ _ t=>XQ hm t
def xN(M:Mk K C fa)(hx:X.mg x=some (.ref C))(D:MethAt K C y z st fa fd ps)(F:dz X.prog X.w X.K X.mg X.base (lH X.prog X.w) k fa fd ps (rA K q n m))(ha:PA X (e::es) (gM K W q fs))(hr:cz (k+1) X.A)(hm:gY m n)(hp:fq X W)(hK:X.K=K)(hg:Gl X x)(kX:(x == ("__debug__":Str))=false)
  (he:starEach (e::es) X.env=(false,eval e X.env)::starEach es X.env) (jP:(backTo pos (starEach es X.env)).any (·.1)=false):PE X (.Call (.Name x p) (e::es) [] pos) (tE K W q (rS C m fs)):=by
 subst hK;exact(Xx M F hr hg hx D.bd .nil (pe hp) ha kX he jP).mono λ_ _ _ t=>XR hm t
end
section
variable{X:Cx}{K:fI}{W:XW}{q k n:Nat}{e o:Expr}{es:List Expr}{f:GE}{fs:GA}{m:GM}{pos p apos:Pos}{x y:Str}{st:Stmt}{fa C:aj}{fd:lj}{ps:List Str}{pl:Sem Bool}
def xH(c:Cls K C)(D:MethAt K C x y st fa fd ps)(F:dz X.prog X.w X.K X.mg X.base (lH X.prog X.w) k fa fd ps (rA K q n m))(ho:PE X o (tE K W q f))(ha:PA X (e::es) (gM K W q fs))(hr:cz k X.A)(hm:gY m n)(hp:fq X W)(hK:X.K=K)
  (kY:starEach (e::es) X.env=(false,eval e X.env)::starEach es X.env) (jP:(backTo pos (starEach es X.env)).any (·.1)=false)
  (ht:eval (.Call (.Attribute o x apos) (e::es) [] pos) X.env=(do
   let ov <-eval o X.env
   standAt apos.atName
   let (f,first) <-holding [ov] (getMethod ov x pl)
   callWith pos f first (backTo pos (starEach (e::es) X.env)) (backToKw pos (keywordEach [] X.env)))):PE X (.Call (.Attribute o x apos) (e::es) [] pos) (tE K W q (bj C x m f fs)):=by
 subst hK;exact(Xw ho c D.mt F hr D.bd .nil (pe hp) ha kY jP ht).mono λ_ _ _ t=>PB hm t
def xH0(c:Cls K C)(D:MethAt K C x y st fa fd ps)(F:dz X.prog X.w X.K X.mg X.base (lH X.prog X.w) k fa fd ps (rA K q n m))(ho:PE X o (tE K W q f))(hr:cz k X.A)(hm:gY m n)(hp:fq X W)(hK:X.K=K)
  (ht:eval (.Call (.Attribute o x apos) [] [] pos) X.env=(do
   let ov <-eval o X.env
   standAt apos.atName
   let (f,first) <-holding [ov] (getMethod ov x pl)
   callWith pos f first (backTo pos (starEach [] X.env)) (backToKw pos (keywordEach [] X.env)))):PE X (.Call (.Attribute o x apos) [] [] pos) (tE K W q (bj C x m f gN)):=by
 subst hK;refine(VB ho c D.mt F hr D.bd .nil (pe hp) ht).mono λZ H Q t=>?_
 refine nJ (PB hm t) λz H1 h=>?_
 obtain⟨a,dx,fs,h1,h2,h3,h4⟩:=h;exact⟨a,dx,fs,h1,h2,h3,xV h4⟩
end
section
variable{X:Cx}{K:fI}{W:XW}{q:Nat}{a b c e o l tg:Expr}{es:List Expr}{f g:GE}{fz:Bool}{pos p apos bS:Pos}
def xLV(KN:X.mg "list"=none)(ho:PE X o (tE K W q f))(hc:X.calm=true)(CS:Gl X "list")(hs:starEach [.Call (.Attribute o "values" apos) [] [] bS] X.env=[(false,eval (.Call (.Attribute o "values" apos) [] [] bS) X.env)])
  (cJ:attributeBase o "values" X.env (eval o X.env)=eval o X.env) (cK:(apos.endLine == bS.line)=true):PE X (.Call (.Name "list" p) [.Call (.Attribute o "values" apos) [] [] bS] [] pos) (tE K W q (gO (o1 pG) (br f))):=(V0 CS KN ho hc hs cJ cK).mono λZ H Q t=>Kb (nJ (uo Yu t) λxs H1 h=>by
 obtain⟨d,es,ep,rfl,h⟩:=h;exact⟨_,rfl,d,es,ep,rfl,h⟩)
def pgn(i:Nat){x:Str}(hN:AL X.N=true)(hi:X.N[i]?=some x)(hx:Loc X.env.scope x)(hf:X.fn x=true\/X.env.scope.names.lookup x=some .local):PG X (.Name x pos) (oX i):=Xl (Gk hN) hi hx hf
def pgt{es:List Expr}{k:Nat}{t:tq}{n:Nat}(h:Bb X es t)(hn:(assignEach es X.env).length=n)(kY:(assignEach es X.env).findIdx? (·.1)=none)(hc:X.calm=true)(hK:X.K=K):PG X (.Tuple es k pos) (yr K n t):=hK ▸ Z9 hc h hn kY
def tm(X:Cx)(K:fI)(W:XW)(q:Nat)(tg iter:Expr)(src:lS):Prop:=∃wi,PI X tg iter wi/\∀Z H R,tX (RI K q) K W q src Z H R->wi Z H R
def sA(he:PE X l (tE K W q g))(hK:X.K=K):tm X K W q tg l (bC fz eM g):=⟨_,e3d he,λ_ _ _ t=>by rw[hK];exact e3e t⟩
def LG(hm:X.mg "reversed"=none)(he:PE X l (tE K W q g))(hK:X.K=K)(hg:Gl X "reversed")(hs:starEach [l] X.env=[(false,eval l X.env)]):tm X K W q tg (.Call (.Name "reversed" p) [l] [] pos) (bC fz zg g):=⟨_,e2y hg hm (FR he mj (by rw[hs,starEach])) hs,λ_ _ _ t=>by rw[hK];exact X2 t⟩
def sEn{elts:List Expr}{x1:Nat}{fP:Pos}(hm:X.mg "enumerate"=none)(he:PE X l (tE K W q g))(hK:X.K=K)(hg:Gl X "enumerate")(hs:starEach [l] X.env=[(false,eval l X.env)]):tm X K W q (.Tuple elts x1 fP) (.Call (.Name "enumerate" p) [l] [] pos) (bC fz Kd g):=⟨_,XX hg hm (FR he mj (by rw[hs,starEach])) hs,λ_ _ _ t=>by rw[hK];exact e3f t⟩
def sV(ho:PE X o (tE K W q g))(cJ:attributeBase o "values" X.env (eval o X.env)=eval o X.env)(cK:(apos.endLine == bS.line)=true):tm X K W q tg (.Call (.Attribute o "values" apos) [] [] bS) (bC fz Hs g):=⟨_,Yp ho cJ cK,λ_ _ _ t=>Yq t⟩
def sI{elts:List Expr}{x1:Nat}{fP:Pos}(ho:PE X o (tE K W q g))(cJ:attributeBase o "items" X.env (eval o X.env)=eval o X.env)(cK:(apos.endLine == bS.line)=true):tm X K W q (.Tuple elts x1 fP) (.Call (.Attribute o "items" apos) [] [] bS) (bC fz uJ g):=⟨_,V1 ho cJ cK,λ_ _ _ t=>Yr t⟩
def sR1{fs:GA}(hm:X.mg "range"=none)(ha:PA X [a] (gM K W q fs))(hg:Gl X "range")(hs:starEach [a] X.env=[(false,eval a X.env)]):tm X K W q tg (.Call (.Name "range" p) [a] [] pos) (iG kB fs):=⟨_,Ui hg hm ha hs,λ_ _ _ t=>X3 t⟩
def sRT{fs:GA}(hm:X.mg "range"=none)(ha:PA X [a,b,c] (gM K W q fs))(hg:Gl X "range")(hs:starEach [a,b,c] X.env=[(false,eval a X.env),(false,eval b X.env),(false,eval c X.env)])(yE:starEach [b,c] X.env=[(false,eval b X.env),(false,eval c X.env)]):tm X K W q tg (.Call (.Name "range" p) [a,b,c] [] pos) (iG u0 fs):=⟨_,UI hg hm ha hs yE,λ_ _ _ t=>X4 t⟩
def yn:rj X [] (tT K W0 q (gw true)):=λaa s Z H Q I t=>XD aa s Z H Q I (by
 obtain⟨k,U,S,res,ok,gk,e,w⟩:=t;cases e;exact w.now ok rfl)
def y1{ft:GT}(h:PT X c (tT K W0 q ft)):rj X [c] (tT K W0 q ft):=XE h
end
variable{x g:Str}{atr:List (aj×Str)}{mg:Str->ak ai}{tab:List (Str×aj)}{B0 C:aj}
section
variable{X:Cx}{K:fI}{W:XW}{q:Nat}{tg iter elt:Expr}{ifs:List Expr}{scope:Scope}{t:TG}{gg:GG}{tt:Nat->GT}{te:Nat->GE}{src:lS}{pos:Pos}{M:List Str}{n:Nat}{de:List Nat}
def Qs(h:gq scope.names X.env.scope.names X.N M n de=true)(hk:scope.kind=.function):eE X scope M n de:=.of _ _ h rfl rfl hk
def xL(M:List Str)(s:tm X K W q tg iter src)(ht:j0 K t gg)(hg:∀C s H fp,PG (fK X scope M C s H fp) tg t)(hT:∀m C s H fp,rj (fK X scope M C s H fp) ifs (tT K W0 m (tt m)))(hE:∀m C s H fp,PE (fK X scope M C s H fp) elt (tE K W0 m (te m)))
  (ok:gq scope.names X.env.scope.names X.N M n de=true) (hk:scope.kind=.function) (hc:X.calm=true) (hs:∀x,foldedSetIterable iter X.env x=pure x):PE X (.ListComp elt [⟨tg,iter,ifs,0⟩] scope pos) (tE K W q (cg q src gg tt te n de)):=by
 obtain⟨wi,h1,h2⟩:=s;exact X6 hc (Qs ok hk) h1 h2 ht hg hT hE hs
def wL{mu:Bool}{i:Nat}{px nC:Pos}(M:List Str)(s:tm X K W q tg iter src)(ht:j0 K t gg)(hg:∀C s H fp,PG (fK X scope M C s H fp) tg t)(hT:∀m C s H fp,rj (fK X scope M C s H fp) ifs (tT K W0 m (tt m)))(hE:∀m C s H fp,PE (fK X scope M C s H fp) elt (tE K W0 m (te m)))
  (ok:gq scope.names X.env.scope.names X.N M n de=true) (hN:AL X.N=true) (hk:scope.kind=.function) (yy:X.N[i]?=some x) (hx:Loc X.env.scope x) (hc:X.calm=true) (C2:swapsWith (.ListComp elt [⟨tg,iter,ifs,0⟩] scope pos) (some (.Name x px)) nC.line X.env=pure true) (hs:∀x,foldedSetIterable iter X.env x=pure x) (hf:X.fn x=true\/X.env.scope.names.lookup x=some .local) :
  PS X (.Assign [.Name x px] (.ListComp elt [⟨tg,iter,ifs,0⟩] scope pos) nC) (tS K W q (au i mu (cg q src gg tt te n de))):=by
 obtain⟨wi,h1,h2⟩:=s;exact X7 hc (Qs ok hk) (Gk hN) yy hx h1 h2 ht hg hT hE C2 hs hf
end
section
variable{X:Cx}{K:fI}{W:XW}{q:Nat}{tg iter e o i value:Expr}{body:List Stmt}{t:TG}{gg:GG}{src:lS}{pos pos' fP:Pos}{f fv fo fi fe:GE}{x:Str}
def wF{fb:Nat->GS}(s:tm X K W q tg iter src)(ht:j0 K t gg)(hg:PG X tg t)(hb:∀n,iT X body (tS K W n (fb n)))(hp:PassesOwn (model X.prog X.w) X.A X.env X.xe)(hc:X.calm=true)(hs:∀x,foldedSetIterable iter X.env x=pure x):PS X (.For tg iter body [] pos) (tS K W q (bH q src gg fb)):=by
 obtain⟨wi,h1,h2⟩:=s;exact e3g hp hc h1 h2 hg ht hb hs
def wS{mu:Bool}{i:Nat}(he:PE X e (tE K W q f))(hN:AL X.N=true)(hi:X.N[i]?=some x)(hx:Loc X.env.scope x)(hs:swapsWith e (some (.Name x pos')) pos.line X.env=pure false)(hf:X.fn x=true\/X.env.scope.names.lookup x=some .local):PS X (.Assign [.Name x pos'] e pos) (tS K W q (au i mu f)):=e2x (Gk hN) hi hx he hs hf
def wE(he:PE X e (tE K W q f))(hs:swapsWith e none pos.line X.env=pure false):PS X (.Expr e pos) (tS K W q (c_ f)):=XS he hs
def wP(he:PE X e (tE K W q fv))(ho:PE X o (tE K W q fo))(hi:PE X i (tE K W q fi))(hu:X.A.units+41<cLine)(hK:X.K=K)
  (ha:∀v,assign (.Subscript o i pos') X.env v=(do
   let ov <-holding [v] (eval o X.env)
   let iv <-holding [v,ov] (eval i X.env)
   standAt pos'
   holding [v,ov,iv] (setItem ov iv v)
   release [v,ov,iv] []))
  (hs:swapsWithSole [.Subscript o i pos'] e pos.line X.env=pure false) (hw:swappedStores [.Subscript o i pos'] e X.env=pure none)
  (h1:(assignEach [.Subscript o i pos'] X.env).map (·.2)=[assign (.Subscript o i pos') X.env]):PS X (.Assign [.Subscript o i pos'] e pos) (tS K W q (cv q fv fo fi)):=e4e he ho hi hu hK ha hs hw h1
def wA(ha:jV K atr)(ho:PE X o (tE K W q fo))(hv:PE X value (tE K W q fv))(hs:swapsWith value (some (.Attribute o g pos')) pos.line X.env=pure false)(hK:X.K=K):PS X (.Assign [.Attribute o g pos'] value pos) (tS K W q (fD q atr g fv fo)):=e4i ha ho hv hs hK
def wAI(ha:jV K atr)(ho:PE X o (tE K W q fo))(hv:PE X value (tE K W q fe))(hK:X.K=K):PS X (.AugAssign (.Attribute o g fP) .Add value pos) (tS K W q (JM q (λi j=>i+j) atr g fo fe)):=YF (λaa s Z H x y v u Q I r1 r2 h=>η aa s Z H x y v u Q I r1 r2 (by
 obtain⟨i,j,rfl,rfl,h⟩:=h;exact⟨i,j,rfl,rfl,h⟩)) ha ho hv hK
def wAD{op:Operator}{h:Int->Int->Int}(yD:∀X:Cx,EL X op (K2 h))(ho:PE X o (tE K W q fo))(hi:PE X i (tE K W q fi))(hv:PE X value (tE K W q fe))(hu:X.A.units+41<cLine)(hK:X.K=K)
  (ha:∀ov iv new,augStore i ov iv new=(do holding [new,ov,iv] (setItem ov iv new);release [new,ov,iv] [];pure .next)):PS X (.AugAssign (.Subscript o i fP) op value pos) (tS K W q (JN q h fo fi fe)):=YG (yD X) ho hi hv hu hK ha
structure pK (K:fI) (mg:Str->ak ai) (tab:List (Str×aj)) (B0:aj):Prop where
 all:∀p∈tab,mg p.1=some (.ref p.2)/\fX K p.2 (.ref B0::qy) none/\keepIn K (.ref p.2)=true
 G0:fX K B0 qy none
 mg0:mg "CarryError"=some (.ref B0)
def pK.ix(E:pK K mg tab B0){i:Nat}{n:Str}(h:tab[i]?=some (n,C)):mg n=some (.ref C)/\fX K C (.ref B0::qy) none/\keepIn K (.ref C)=true:=E.all (n,C) (sU h)
def wX{p cp:Pos}(j:Nat)(E:pK K X.mg tab B0)(he:PE X e (tE K W q fe))(hp:fq X W)(hj:tab[j]?=some (x,C))(hc:X.calm=true)(hg:Gl X x)(kX:(x == ("__debug__":Str))=false)
  (kY:starEach [e] X.env=(false,eval e X.env)::starEach [] X.env) (hK:X.K=K):PS X (.Raise (some (.Call (.Name x p) [e] [] cp)) none pos) (tS K W q (nK C fe)):=by
 obtain⟨h1,h2,h4⟩:=E.ix hj;exact VX h2 E.G0 h4 h1 hp he hc hg kX kY hK
noncomputable def wT(tab:List (Str×aj))(C:aj):ak Bool:=if tab.any (λp=>p.2 == C)=true then some true else none
def wY{np hp:Pos}{b0:Stmt}{nE:List Stmt}{g f:GS}(E:pK K X.mg tab B0)(hb:∀(pn:List (aj×Obj)) (E:ai->ax->Prop) (W:XW),fq (X.eB pn E) W->iT (X.eB pn E) body (tS K W q f))(hS:∀e,iT (X.eA e) (b0::nE) (tS K W0 q g))
  (hg:Gl X "CarryError") (hK:X.K=K) (kY:X.stack=X.env::X.outer) (hf:X.env.frame=some X.env.locals) :
  PS X (.Try body [.ExceptHandler (some (.Name "CarryError" np)) none (b0::nE) hp] [] [] pos) (tS K W q (rV f [(wT tab,g)])):=by
 refine e3j hb (X8 E.mg0 (λC b h=>?_) hS e3i hg (by decide) hK) kY hf
 unfold wT at h;split at h
 .rename_i hC
  cases h;obtain⟨p,m,e⟩:=Mw.mp hC;cases(beq_iff_eq.mp e);refine((E.all p m).2.1.exm E.G0 rfl).trans (congrArg some ?_);simp
 .cases h
end
def YH{P:dc}{w:cD}{K:fI}{base:bZ}{k:Nat}{f:aj}{fd:lj}{m:GM}(F:dz P w K mg base (lH P w) k f fd [x] (rA K 0 1 m)){n:Nat}(h:∀ns:List Int,ns.length<=n->∃S,m [.d (.lst (ns.map D.int))] ⟨[],[]⟩=some (.ok (.v (.d (.bl true))) S)):
  dz P w K mg base (lH P w) k f fd [x] (λvs H Q _=>∃(a:aj) (ns:List Int),vs=[.ref a]/\c8 K H a (ns.map V.int)/\ns.length<=n/\∀H',Q (.bl true) H'):=⟨λvs H Q E h=>by obtain⟨a,ns,rfl,_⟩:=h;rfl,λA outer s H args us vs Q E hr e0 hb r hq=>by
 obtain⟨a,ns,rfl,hs,hl,q⟩:=hq;obtain⟨S,e⟩:=h ns hl;refine F.run A outer s H args us [.ref a] Q E hr e0 hb r ⟨rfl,⟨H,[],[]⟩,[.d (.lst (ns.map D.int))],⟨[],[]⟩,_,⟨az.refl _,.nil,⟨rfl,λ_ _ _ z=>nomatch z⟩,⟨rfl,λ_ _ _ z=>nomatch z⟩⟩,.cons (show ag K ⟨H,[],[]⟩ [.ref a] [.lst (ns.map D.int)] from .lst hs ?_ .nil) .nil,e,λv k' H' u ok r'=>?_⟩
 .exact VP ns
 .cases(show ag K k' [v] [.bl true] from r').bo rfl;exact q H'⟩
def CB{N P:List Str}{sc:Scope}(h1:sc.kind=.function:=by rfl)(h2:sc.isCoroutine=false:=by rfl)(h3:sc.isGenerator=false:=by rfl)(h4:N.Nodup:=by decide +kernel)(h5:N.take P.length=P:=by rfl)(h6:∀x∈P,sc.names.lookup x=some .local \/ sc.names.lookup x=some .cell:=by decide +kernel)(h7:∀y∈sc.names,y.2≠.free:=by decide +kernel):gm N P sc:=⟨h1,h2,h3,h4,h5,h6,h7⟩
def P7{A:PySem.Around}{k:Nat}(hr:cz k A):A.units+41<PySem.cLine:=Ms (Nat.add_le_add_left (by decide:41<=64) _) hr.units
section
variable{X:Cx}{K:fI}{W:XW}{q:Nat}{pos:Pos}{x:Str}
def xk{z:Str}(hm:∃t,X.mg x=some (.str z t))(hg:Gl X x)(hd:(x == ("__debug__":Str))=false):PE X (.Name x pos) (tE K W q (gC (.str z))):=ye (v:=.str z) (by
 intro aa s Z H Q I h;obtain⟨t,hm⟩:=hm;exact Ae I hg hm ⟨.str z,H,I,⟨t,rfl⟩,h⟩ hd)
def xki{n:Int}(hm:∃t,X.mg x=some (.int n t))(hg:Gl X x)(hd:(x == ("__debug__":Str))=false):PE X (.Name x pos) (tE K W q (gC (.int n))):=ye (v:=.int n) (by
 intro aa s Z H Q I h;obtain⟨t,hm⟩:=hm;exact Ae I hg hm ⟨.int n,H,I,⟨t,rfl⟩,h⟩ hd)
end
abbrev bB:=o2 xO
abbrev lU:=o2 (eH tY λi j=>.int (i - j))
abbrev jA:=o2 uQ
abbrev rK:=o2 (eH (λ_ j=>decide (0<j/\j<1073741824)) λi j=>.int (i / j))
abbrev ia:=o2 (eH (λ_ j=>decide (0<j)) λi j=>.int (i%j))
abbrev Cg:=o2 (eH (λi j=>decide (0<=j/\j<=1000000/\i.natAbs<2^64)) λi j=>.int (i^j.toNat))
abbrev fU:=o2 (GD false)
abbrev iLt:Int->Int->Bool:=λi j=>decide (i<j)
abbrev K1:Int->Int->Bool:=λi j=>decide (i<=j)
abbrev iGt:Int->Int->Bool:=λi j=>decide (j<i)
abbrev C4:Int->Int->Int:=λi j=>i+j
abbrev pk:=o2 (eH tY λi j=>.bl (iLt i j))
abbrev Sq:=o2 (eH tY λi j=>.bl (K1 i j))
abbrev So:=o2 (eH tY λi j=>.bl (iGt i j))
abbrev jS:=o2 (AF false)
abbrev jG:=o2 (AF true)
abbrev y6:=o2 (AG false)
abbrev ql:=o2 (AG true)
noncomputable abbrev Lw:List Bool->Bool:=λbs=>bs.all id
noncomputable def QW(e:DictEntry):Bool:=match e.key with|.str _ _=>true|_=>false
def errC_mk{K:fI}{C:aj}{bm:List ai}{G6:ak ai}{nm q:Str}{N:aj}{bs:List ai}{sn:List Str}{sub:List ai}{ab:Bool}{col:ak Bool}{dd:ak aj}{k0 k1 k2 k3 k5:ak ai}{on:ai}{AM:ak aj}{es:Array DictEntry}{ep:Nat}{AO:Array (ak ai)}
  (l:K.lookup C=some (excClassObj nm q C N bs bm true sn sub ab col dd k0 k1 k2 k3 k5 "ValueError.__new__")) (d:K.lookup N=some ⟨on,AM,.dict es ep,AO⟩) (s:es.toList.all QW=true) (i:nsFind es "__init__"=G6):fX K C bm G6:=by
 refine⟨_,_,_,_,_,_,_,_,_,_,_,_,_,_,_,_,_,_,_,l,d,λe he=>?_,i⟩
 have:=jJ.1 s e (Mo.2 he);unfold QW at this;split at this
 .exact⟨_,_,by assumption⟩
 .cases this
instance instGE (n:Nat):OfNat GE n:=⟨rT n⟩
abbrev gI(n:Int):GE:=gC (.int n)
abbrev gX(a b:GE):GE:=gO (o2 G8) (bO a b)
abbrev bK(o:List D->ak Rv)(a b:GE):GE:=gO o (bO a b)
abbrev dI(a b c:GE):GA:=mY a (bO b c)
abbrev kj(a b c d:GE):GA:=mY a (dI b c d)
abbrev cF(a:GS):GS:=dH a ko
abbrev i_(a b:GS):GS:=dH a (cF b)
abbrev nh(a b c:GS):GS:=dH a (i_ b c)
abbrev om(a b c d:GS):GS:=dH a (nh b c d)
abbrev oo(a b c d e:GS):GS:=dH a (om b c d e)
instance instGG (n:Nat):OfNat GG n:=⟨ae n⟩
abbrev cG(f:GT)(g:GS):GS:=fM f (cF g) ko
abbrev gQ(o:List D->ak Rv)(a b:GE):GT:=gB (bK o a b)
noncomputable def aT(p n:Nat)(m:Nat->GS)(q:Nat):GM:=runM p n (m q)
end L2
namespace L2
open PySem Lean Meta
variable{s:List Cell}{z:List D}
def rO(e:Lean.Expr)(i:Nat)(k:Lean.Expr->ak (Lean.Expr×Bool)):SimpM Simp.Step:=do
 let a:=e.getAppArgs
 let r0 <-Simp.simp a[i]!
 let x:=(<-instantiateMVars r0.expr).cleanupAnnotations.headBeta
 let pr <-match r0.proof? with
  |none=>pure none
  |some p=>pure (some (<-mkCongrArg (.lam `z (<-inferType a[i]!) (mkAppN e.getAppFn (a.set! i (.bvar 0))) .default) p))
 match k x with
 |some (y,true)=>return .visit { expr:=y.headBeta,proof?:=pr}
 |some (y,false)=>return .done { expr:=y.headBeta,proof?:=pr}
 |none=>return .done { expr:=mkAppN e.getAppFn (a.set! i x),proof?:=pr}
def isOk(x:Lean.Expr):ak (Lean.Expr×Lean.Expr):=if x.isAppOfArity ``Option.some 2&&x.appArg!.isAppOfArity ``Rs.ok 3 then some (x.appArg!.appFn!.appArg!,x.appArg!.appArg!) else none
def CA(n:Name):Bool:=(n.getRoot == `L2 && !(#[``dq,``findS,``eD,``ib,``kr,``jB,``cM,``aU.cut,``aM,``gu,``bN,``ik,``ku,``dm,``lz,``fO,``mq,``eK,``dP,``aO,``a_,``cY,``bd,``kI,``tJ,``ja,``Cell.jD,``runM].contains n)) || (n.getRoot == `List&&n != ``List.toArray) || n.getRoot == `Option || n.getRoot == `Prod || n.getRoot == `GetElem? || n.getRoot == `OfNat || n.getRoot == `Nat || n.getRoot == `BEq || n == ``ite || n == ``dite || n.getRoot == `Bool || n.getRoot == `Decidable || n == ``and || n == ``or || n == ``not || n.getRoot == `id || n.getRoot == `HAppend || n.getRoot == `Append || n.getRoot == `instHAppendOfAppend
def e4j(e:Lean.Expr):MetaM Lean.Expr:=withCanUnfoldPred (λ_ c=>return CA c.name || c.name.isInternal || (<-isInstance c.name) || (<-isMatcher c.name)) (withDefault (whnf e))
def e4k(e:Lean.Expr):MetaM Bool:=do
 if e.isFVar || e.isLit then return true
 let .const n _:=e.getAppFn|return false
 if n == ``OfNat.ofNat then return true
 if n == ``Nat.succ then return false
 return (<-getEnv).isConstructor n
simproc_decl ev (_):=λe=>do
 let .const n ls:=e.getAppFn|return .continue
 let a:=e.getAppArgs
 if n == ``OfNat.ofNat&&a.size>=3&&(a[2]!.isAppOf ``instGG || a[2]!.isAppOf ``instGE) then return .visit { expr:=mkAppN (mkApp (mkConst (if a[2]!.isAppOf ``instGG then ``ae else ``rT)) a[1]!) (a.extract 3 a.size)}
 if n == ``Option.bind&&a.size == 4 then
  return <-rO e 2 λx=>if x.isAppOfArity ``Option.some 2 then some (mkApp a[3]! x.appArg!,true) else if x.isAppOfArity ``Option.none 1 then some (mkApp (.const ``Option.none (ls.drop 1)) a[1]!,false) else none
 if n == ``Option.map&&a.size == 4 then
  return <-rO e 3 λx=>if x.isAppOfArity ``Option.some 2 then some (mkApp2 (.const ``Option.some (ls.drop 1)) a[1]! (mkApp a[2]! x.appArg!).headBeta,true) else if x.isAppOfArity ``Option.none 1 then some (mkApp (.const ``Option.none (ls.drop 1)) a[1]!,false) else none
 if(n == ``bd || n == ``tJ || n == ``kI)&&a.size == 4 then
  return <-rO e 2 λx=>match isOk x with
   |some (v,S)=>some (mkApp2 a[3]! v S,true)
   |none=>if n != ``tJ&&x.isAppOfArity ``Option.some 2&&x.appArg!.isAppOfArity ``Rs.ex 4 then
     let b:=x.appArg!.getAppArgs
     if n == ``kI then some (mkApp2 (.const ``Option.some [0]) (.const ``Fr []) (mkApp4 (.const ``Fr.ex []) b[1]! b[2]! a[1]! b[3]!),true) else some (mkApp2 (.const ``Option.some [0]) (mkApp (.const ``Rs []) a[1]!) (mkApp4 (.const ``Rs.ex []) a[1]! b[1]! b[2]! b[3]!),true)
    else none
 if n == ``ite then return <-reduceIte e
 if n == ``List.length&&a.size == 2 then
  let some (_,vs):=a[1]!.listLit?|return .continue
  return .done { expr:=mkNatLit vs.length}
 if n == ``runM&&a.size == 5 then
  let some (_,vs):=a[3]!.listLit?|return .continue
  let (some p,some k):=(a[0]!.nat?,a[1]!.nat?)|return .continue
  unless vs.length == p do return .continue
  let V:=mkConst ``Val
  let G <-mkListLit (mkApp (.const ``Option [0]) V) (vs.map (λv=>mkApp2 (.const ``Option.some [0]) V v)++List.replicate (k - p) (mkApp (.const ``Option.none [0]) V))
  let f <-mkAppM ``leave #[<-mkAppM ``List.length #[<-mkAppM ``aU.s #[a[4]!]]]
  return .visit { expr:=<-mkAppM ``Option.bind #[(mkApp2 a[2]! G a[4]!).headBeta,f]}
 if n.getRoot == `Nat || n.getRoot == `OfNat || n.getRoot == `BEq || n.getRoot == `Decidable || n == ``dite then return .continue
 unless CA n || n == ``getElem? || n == ``HAppend.hAppend do return .continue
 if <-isMatcher n then return .continue
 if(<-getEnv).isConstructor n then return .continue
 if n.getRoot == `L2&&(<-isReducible n) then
  let some e' <-withDefault (unfoldDefinition? e)|return .continue
  return .visit { expr:=e'.headBeta}
 let t <-whnfR (<-inferType e)
 if t.isAppOfArity ``Option 1&&n.getRoot == `L2 then
  let some e' <-withDefault (unfoldDefinition? e)|return .continue
  let e' <-whnfCore e'
  if(<-isMatcherApp e') then return .continue
  return .visit { expr:=e'}
 if t.isForall then return .continue
 let e' <-e4j e
 if e' != e&&(<-e4k e') then return .visit { expr:=e'}
 return .continue
def Kf:List Simp.DSimproc:=[Nat.reduceAdd,Nat.reduceSub,Nat.reduceMul,Nat.reduceDiv,Nat.reduceMod,Int.reduceAdd,Int.reduceSub,Int.reduceMul,Int.reduceDiv,Int.reduceMod,Int.reduceNeg,Int.reduceToNat,Int.reduceBEq,Nat.reduceBEq]
def Kg:List Simp.Simproc:=[reduceCtorEq,Nat.reduceLT,Nat.reduceLeDiff,Nat.reduceEqDiff,Int.reduceLT,Int.reduceLE,Int.reduceEq]
simproc_decl aQ (_):=λe=>do
 for p in Kf do
  match <-p e with
  |.done x=>return .done { expr:=x}
  |.visit x=>return .visit { expr:=x}
  |.continue (some x)=>return .continue (some { expr:=x})
  |_=>pure ()
 for p in Kg do
  match <-p e with
  |.continue none=>pure ()
  |r=>return r
 return .continue
section
variable{α:Type}{l L M:List α}{c:α}{j:Nat}{S:aU}{r L':List Cell}
def dX:S.cut S.s.length=S:=by unfold aU.cut;rw[List.take_length]
def qA:aU.cut ⟨s++L',r⟩ s.length=⟨s,r⟩:=by unfold aU.cut;rw[List.take_left]
def cx:aU.cut ⟨s,r⟩ s.length=⟨s,r⟩:=by unfold aU.cut;rw[List.take_length]
def dy:(l++L)[l.length]?=L[0]?:=by rw[qE (bY _),Mr]
def Am:(l++L)[l.length+j]?=L[j]?:=by rw[qE (Hw _ _),Nat.add_sub_cancel_left]
def iU:(l++L).set l.length c=l++L.set 0 c:=by rw[List.set_append_right _ _ (bY _),Mr]
def DN:(l++L).set (l.length+j) c=l++L.set j c:=by rw[List.set_append_right _ _ (Hw _ _),Nat.add_sub_cancel_left]
def yL:(l++L).length=l.length+L.length:=dw
def vM:(l++L)++M=l++(L++M):=lG _ _ _
def uP:(l.length<l.length)=False:=eq_false (jU _)
def lt2:(l.length+j<l.length)=False:=eq_false (by lia)
def f7{a b:Int}:gu (.int a) (.int b)=(a == b):=rfl
def fB{a b:Str}:gu (.str a) (.str b)=(a == b):=rfl
def C9{z:Str}:cM (.str z) (.ty "str")=some (rd (.bl true)):=rfl
def C_:cM (.tup z) (.ty "tuple")=some (rd (.bl true)):=rfl
def K3{z:Str}:cM (.str z) (.ty "tuple")=some (rd (.bl false)):=rfl
def R9:cM (.lst z) (.ty "list")=some (rd (.bl true)):=rfl
def Qt{n:Nat}{x:Cell}:aU.cut ⟨s.set n x,r⟩ s.length=⟨s.set n x,r⟩:=by
 unfold aU.cut;dsimp only;rw[EB (by rw[t5];exact bY _)]
def bQ{a:α}:dq (a::l) 0=some a:=rG (j:=0) rfl
def cB{a b:α}:dq (a::b::l) 1=some b:=rG (j:=1) rfl
def gp{a b c:α}:dq (a::b::c::l) 2=some c:=rG (j:=2) rfl
def rJ{a b c d:α}:dq (a::b::c::d::l) 3=some d:=rG (j:=3) rfl
end
end L2
namespace L2
open PySem
section
variable{α:Type}{gg:GG}{tt:GT}{te:GE}{S:aU}{f:α->D}{U cs:Gm}{a:ak Val}
theorem Gn(h:α->ak D)(G:Gm->Prop):∀(xs:List α) (U:Gm) (aV:List D),G U->aV.length+xs.length<=1000000->(∀x∈xs,∀U,G U->∃U',gg (f x) U=some U'/\G U'/\((h x=none/\tt U' S=some (.ok false S))\/∃r d,h x=some d/\tt U' S=some (.ok true S)/\te U' S=some (.ok r S)/\mB r=.d d))->
  a_ gg tt te (xs.map f) U S aV=some (.ok (aV++xs.filterMap h) S)
 |[],U,aV,_,_,_=>by rw[A5,kN];rfl
 |x::xs,U,aV,g,hl,hx=>by
  obtain⟨U',e1,g',e2⟩:=hx x (.head _) U g;rw[kG] at hl;rw[cU];unfold a_;rw[e1,wM];rcases e2 with⟨e2,e3⟩|⟨r,d,e2,e3,e4,e5⟩
  .rw[e3,List.filterMap_cons_none e2];exact Gn h G xs U' aV g' (by lia) λy m=>hx y (.tail _ m)
  .have e6:gD te U' S=some (.ok d S):=by unfold gD bd;rw[e4];show(oi S (mB r)).map _=_;rw[e5];rfl
   rw[e3,List.filterMap_cons_some e2];show tJ (gD te U' S) _=_;rw[e6];show(if aV.length<1000000 then _ else _)=_
   rw[bM (by lia),Gn h G xs U' (aV++[d]) g' (by rw[dw,t6];lia) λy m=>hx y (.tail _ m),lG]
   rfl
def Ko{d:D}:ae 0 d (a::cs)=some (some (.d d)::cs):=by
 rfl
def uw(h:α->ak D)(xs:List α)(hl:xs.length<=1000000)(hx:∀x∈xs,(h x=none/\tt (some (.d (f x))::cs) S=some (.ok false S))\/∃r d,h x=some d/\tt (some (.d (f x))::cs) S=some (.ok true S)/\te (some (.d (f x))::cs) S=some (.ok r S)/\mB r=.d d):a_ (ae 0) tt te (xs.map f) (a::cs) S []=some (.ok (xs.filterMap h) S):=by
 rw[Gn h (λU=>∃a,U=a::cs) xs _ [] ⟨a,rfl⟩ (by rw[A0];lia) λx m U ⟨a,hU⟩=>⟨_,by rw[hU];exact Ko,⟨_,rfl⟩,hx x m⟩,ED]
def qz(h:α->D)(xs:List α)(hl:xs.length<=1000000)(hx:∀x∈xs,∃r,te (some (.d (f x))::cs) S=some (.ok r S)/\mB r=.d (h x)):a_ (ae 0) (gw true) te (xs.map f) (a::cs) S []=some (.ok (xs.map h) S):=by
 rw[uw (λx=>some (h x)) xs hl λx m=>.inr (let ⟨r,h1,h2⟩:=hx x m;⟨r,_,rfl,rfl,h1,h2⟩),List.filterMap_eq_map']
theorem QX{body:GS}(I:List α->Gm->aU->Prop):∀(xs dn:List α) (U:Gm) (S:aU),I dn U S->(∀d x r,dn++xs=d++x::r->∀U S,I d U S->∃U1 U' S',gg (f x) U=some U1/\(body U1 S=some (.nx U' S')\/body U1 S=some (.ct U' S'))/\I (d++[x]) U' S')->∃U' S',aO gg body (xs.map f) U S=some (.nx U' S')/\I (dn++xs) U' S'
 |[],dn,U,S,i,_=>⟨U,S,rfl,by rw[kN];exact i⟩
 |x::xs,dn,U,S,i,hx=>by
  obtain⟨U1,U',S',e1,e2,i'⟩:=hx dn x xs rfl U S i;obtain⟨U2,S2,e3,i2⟩:=QX I xs (dn++[x]) U' S' i' λd y r e=>hx d y r (by rw[<-e,lG];rfl)
  refine⟨U2,S2,?_,by rw[lG] at i2;exact i2⟩
  rw[cU];unfold aO;rw[e1,wM];rcases e2 with e2|e2
  .rw[e2];exact e3
  .rw[e2];exact e3
def iC{body:GS}(I:List α->Gm->aU->Prop)(xs:List α)(i:I [] U S)(hx:∀d x r,xs=d++x::r->∀U S,I d U S->∃U1 U' S',gg (f x) U=some U1/\(body U1 S=some (.nx U' S')\/body U1 S=some (.ct U' S'))/\I (d++[x]) U' S'):∃U' S',aO gg body (xs.map f) U S=some (.nx U' S')/\I xs U' S':=QX I xs [] U S i λd x r e=>hx d x r e
theorem P8{β:Type}{body:GS}(st:β->aU->Gm×aU)(I:List α->β->Prop):∀(xs dn:List α) (b:β),I dn b->(∀d x r,dn++xs=d++x::r->∀b,I d b->∃b',I (d++[x]) b'/\∀S,∃U1,gg (f x) (st b S).1=some U1/\(body U1 (st b S).2=some (.nx (st b' S).1 (st b' S).2)\/body U1 (st b S).2=some (.ct (st b' S).1 (st b' S).2)))->
  ∃b',I (dn++xs) b'/\∀S,aO gg body (xs.map f) (st b S).1 (st b S).2=some (.nx (st b' S).1 (st b' S).2)
 |[],dn,b,i,_=>⟨b,by rw[kN];exact i,λS=>rfl⟩
 |x::xs,dn,b,i,hx=>by
  obtain⟨b1,i1,h1⟩:=hx dn x xs rfl b i;obtain⟨b2,i2,h2⟩:=P8 st I xs (dn++[x]) b1 i1 λd y r e=>hx d y r (by rw[<-e,lG];rfl)
  refine⟨b2,by rw[lG] at i2;exact i2,λS=>?_⟩
  obtain⟨U1,e1,e2⟩:=h1 S;rw[cU];unfold aO;rw[e1,wM];rcases e2 with e2|e2
  .rw[e2];exact h2 S
  .rw[e2];exact h2 S
def QY{β:Type}{body:GS}(st:β->aU->Gm×aU)(I:List α->β->Prop)(xs:List α)(b:β)(i:I [] b)(hx:∀d x r,xs=d++x::r->∀b,I d b->∃b',I (d++[x]) b'/\∀S,∃U1,gg (f x) (st b S).1=some U1/\(body U1 (st b S).2=some (.nx (st b' S).1 (st b' S).2)\/body U1 (st b S).2=some (.ct (st b' S).1 (st b' S).2))):
  ∃b',I xs b'/\∀S,aO gg body (xs.map f) (st b S).1 (st b S).2=some (.nx (st b' S).1 (st b' S).2):=P8 st I xs [] b i λd x r e=>hx d x r e
def e4l(enc:α->D)(xs:List α):eK (xs.map enc)=((List.range xs.length).zip xs).map λ(p:Nat×α)=>D.tup [.int (p.1:Nat),enc p.2]:=by
 unfold eK;rw[bx];refine Mx λi=>?_
 rw[dR,dR];by_cases h:i<xs.length
 .have z:((List.range xs.length).zip xs)[i]?=some (i,xs[i]):=List.getElem?_zip_eq_some.mpr ⟨zA h,fG h⟩;rw[zA h,z];simp[h]
 .rw[wQ (by simp;lia),wQ (by simp;lia)]
  rfl
def e9d{body:GS}(enc:α->D)(I:List α->Gm->aU->Prop)(xs:List α)(i:I [] U S)(hx:∀d x r,xs=d++x::r->∀U S,I d U S->∃U1 U' S',gg (.tup [.int (d.length:Nat),enc x]) U=some U1/\body U1 S=some (.nx U' S')/\I (d++[x]) U' S'):∃U' S',aO gg body (eK (xs.map enc)) U S=some (.nx U' S')/\I xs U' S':=by
 have hs:((List.range xs.length).zip xs).map Prod.snd=xs:=by rw[List.map_snd_zip];simp
 rw[e4l];obtain⟨U',S',e,p⟩:=iC (gg:=gg) (body:=body) (f:=λ(p:Nat×α)=>D.tup [.int (p.1:Nat),enc p.2]) (U:=U) (S:=S) (λpre U S=>I (pre.map Prod.snd) U S) ((List.range xs.length).zip xs) i (by
  intro q x post e U S p;have tO:xs=q.map Prod.snd++x.2::post.map Prod.snd:=by
   simp_all
  have hi:x.1=(q.map Prod.snd).length:=by
   have:((List.range xs.length).zip xs)[q.length]?=some x:=by rw[e,qE (bY _)];simp
   rw[List.getElem?_zip_eq_some] at this;have h1:=this.1;rw[eW] at h1;obtain⟨hl,h1⟩:=h1;rw[List.getElem_range] at h1;rw[bx];exact h1.symm
  obtain⟨U1,U2,S2,a,b,c⟩:=hx _ _ _ tO U S p;exact⟨U1,U2,S2,by rw[hi];exact a,.inl b,by rw[fV];exact c⟩)
 exact⟨U',S',e,by rw[hs] at p;exact p⟩
theorem P9{body:GS}{rv:Rv}{S':aU}(I:List α->Gm->aU->Prop){x:α}{r:List α}:∀(d dn:List α) (U:Gm) (S:aU),I dn U S->(∀d' y r',dn++d=d'++y::r'->∀U S,I d' U S->∃U1 U' S',gg (f y) U=some U1/\(body U1 S=some (.nx U' S')\/body U1 S=some (.ct U' S'))/\I (d'++[y]) U' S')->(∀U S,I (dn++d) U S->∃U1,gg (f x) U=some U1/\body U1 S=some (.rt rv S'))->aO gg body ((d++x::r).map f) U S=some (.rt rv S')
 |[],dn,U,S,i,_,hs=>by
  obtain⟨U1,e1,e2⟩:=hs U S (by rw[kN];exact i)
  rw[ED,cU];unfold aO;rw[e1,wM,e2];rfl
 |y::d,dn,U,S,i,hp,hs=>by
  obtain⟨U1,U',S',e1,e2,i'⟩:=hp dn y d rfl U S i;have e3:=P9 I (x:=x) (r:=r) d (dn++[y]) U' S' i' (λd' z r' e=>hp d' z r' (by rw[<-e,lG];rfl)) (λU S h=>hs U S (by rw[lG] at h;exact h))
  grind [aO]
end
end L2
namespace L2
open PySem PySem.Spec PySem.W PyProof.Rows
variable{a:List Str}
noncomputable def iN (l:List Str):List Str:=Classical.epsilon λs=>s.Perm l/\sortedS s=true
theorem DL:∀{p:Str} {l:List Str},risingS p l=true->(p::l).Pairwise λa b=>a.cps.toList<=b.cps.toList
 |p,[],_=>by simp
 |p,x::l,h=>by
  have h:(!ltCps x.cps.toList p.cps.toList&&risingS x l)=true:=h;rw[iW,ltCps_eq,MC,decide_eq_false_iff_not,List.not_lt] at h;have ih:=DL h.2;refine List.pairwise_cons.mpr ⟨λb m=>?_,ih⟩
  rcases y0a.mp m with rfl|m
  .exact h.1
  .exact List.le_trans h.1 ((List.pairwise_cons.mp ih).1 b m)
def QZ(h:sortedS a=true):a.Pairwise λa b=>a.cps.toList<=b.cps.toList:=by
 cases a with
 |nil=>exact .nil
 |cons p l=>exact DL h
def Wt{b:List Str}(p:a.Perm b)(ha:sortedS a=true):iN b=a:=by
 have h:=Classical.epsilon_spec (p:=λs:List Str=>s.Perm b/\sortedS s=true) ⟨a,p,ha⟩
 exact(h.1.trans p.symm).eq_of_pairwise (λx y _ _ h1 h2=>Str.ext' (Array.toList_inj.mp (List.le_antisymm h1 h2))) (QZ h.2) (QZ ha)
section
variable{X:Cx}{K:aL}{H:Hp}{k:Kn}
theorem iO:∀{ss:List Str} {vs:List ai},Vals (ss.map V.str) vs↔StrsAre vs ss
 |[],vs=>⟨λh=>by cases h;exact .nil,λh=>by cases h;exact .nil⟩
 |s::ss,vs=>⟨λh=>by
   cases h with
   |cons r t=>obtain⟨t',rfl⟩:=r;exact .cons _ _ (iO.mp t),λh=>by
   cases h with
   |cons _ t h=>exact .cons ⟨t,rfl⟩ (iO.mpr h)⟩
def Wu(ns:List Str):ag K k (ns.map V.str) (ns.map D.str):=by
 induction ns with
 |nil=>exact .nil
 |cons a l ih=>exact .flat rfl ih
end
section
variable{prog:dc}{w:cD}{A:cN}{E:ai->ax->Prop}{s:ax}
def U9{vs:List ai}{ss:List Str}{h0:bZ}{Q:ai->ax->Prop}(hS:StrsAre vs ss)(h1:vs.length<64)(h:∀h' c (out:Array ai),StrsAre out.toList (iN ss)->(iN ss).length=ss.length->(∀b o,h0.get? b=some o->h'.get? b=some o)->h'.get? h0.objs.size=some (seqObj "list" out c)->Q (.ref h0.objs.size) { s with heap:=h'}):
  wpAny (model prog w) A (call (.builtin "list.sort") [.ref h0.objs.size]) (λ_ s'=>Q (.ref h0.objs.size) s') E { s with heap:=h0.push (seqObj "list" vs.toArray 0)}:=by
 have ho:(h0.push (seqObj "list" vs.toArray 0)).get? h0.objs.size=some (seqObj "list" vs.toArray 0):=iR _ rfl;refine wpAny_call_entry slot_list_sort ⟨_,ho,rfl⟩ entry_list_sort (list_sort_treeK (s:={ s with heap:=h0.push (seqObj "list" vs.toArray 0)}) PyProof.Rows.strKind_oneLt ho hS.keysOf (λv1 v2 r e=>by subst e;exact keyKind_strs hS) h1 λir p1 p2=>⟨_,rfl,?_⟩) (args_list_sort _)
 obtain⟨ss',a1,a2,a3⟩:=sorted_out_str hS p1 p2;obtain⟨e,he⟩:=sortedHeap_at (out:=Array.map (λx=>x.snd) (arrOf ir)) ho
 rw[<-Wt a2 a3] at a1 a2;refine h _ _ _ a1 a2.length_eq (λb o g=>?_) he
 have lt:b<h0.objs.size:=cT g;rw[sortedHeap_old (gP lt) (Nat.lt_trans lt (cT ho))];exact cZ _ g
end
section
variable{X:Cx}{K:aL}{H:Hp}{k:Kn}
def Q0(K:aL):List V->Hp->VK->Prop:=λvs H Q=>∃(a:aj) (ss:List Str) (es:List (TK×V×V)) (ep:Nat),vs=[.ref a]/\H a=some (.dG es ep)/\fJ es/\es.map (·.1)=ss.map TK.inr/\ss.length<64/\∀l,H l=none->Q (.ref l) (upd H l (.lst ((iN ss).map V.str)))
def T3(hc:X.calm=true):bT X (.builtin "sorted") (Q0 K):=by
 intro aa s Z H xs us Q I r h;obtain⟨a,ss,es,ep,rfl,hd,ht,he,CI,q⟩:=h;obtain⟨u,rfl,ru⟩:=Vals.one r;cases ru;refine Calls.call_function_entry kind_sorted plain_sorted entry_sorted (args_sorted1 _) ?_;unfold Builtin.«sorted»;refine ay (m:=checkCount "sorted" 1 1 _) (aX ?_);obtain⟨kvs,D1,D2,D3,D4,lo⟩:=tF I hd ht;have l1:kvs.length=ss.length:=by have:=congrArg List.length (D3.trans he);simpa using this
 refine ay (kdu_collect (kdl_dict (knd:=PySem.strKind X.prog X.w) (kvs:=kvs) (ep:=ep) lo) (I.ok.hd hc) D1 D4 λh' tk aV kp hi=>?_)
 have rv:Vals (ss.map V.str) aV.toList:=by
  refine Jb (by have:=hi.1;rw[bx,<-l1,<-this];simp) λj y u e1 e2=>?_
  rw[dR] at e1;obtain⟨z,e3,rfl⟩:=df.mp e1;obtain⟨k,v,k1,k2⟩:=hi.2 j u (by rw[<-vy];exact e2)
  have k3:(kvs.map (λp=>TK.inr p.1))[j]?=(ss.map TK.inr)[j]?:=by rw[D3,he]
  rw[dR,dR,k1,e3] at k3;cases(TK.inr.inj (Option.some.inj k3):k=z);exact Value.isStrOf_shape k2
 have hS:=iO.mp rv;have hlen:=rv.length;rw[bx] at hlen;have hz:aV.toList.length<=sizeLine:=by rw[sizeLine_eq];lia
 refine ay (wpAny_newList ?_ (by simpa using hz))
 have I0:Inv X aa Z H { s with heap:=h',toks:=tk}:=I.kept kp;refine ay (ju (wpAny_mono (U9 (s:={ s with heap:=h',toks:=tk}) (h0:=h') (vs:=aV.toList) (Q:=λv s'=>EP X aa Z Q v s') hS (by lia) λh2 c out a1 a3 Di hg=>?_) (λ_ s' x=>?_) λ_ _ e=>e))
 .have a2:=iO.mpr a1;have I1:=I0.laid (h':=h2) (t':=tk) (o:=.lst ((iN ss).map V.str)) Di (bY _) (show bf X.prog X.w _ h2 _ (.lst _) from⟨by rw[bx,a3,sizeLine_eq];lia,out.toList,c,a2,hg⟩)
  exact⟨.ref h'.objs.size,_,I1,rfl,q _ (I0.bw.fresh (bY _))⟩
 .exact aX ⟨_,rfl,x⟩
theorem OH:∀{kvs:List (TK×D)} {ss:List Str},kvs.map (·.1.d)=ss.map D.str->kvs.map (·.1)=ss.map TK.inr
 |[],[],_=>rfl
 |[],_::_,h=>nomatch h
 |_::_,[],h=>nomatch h
 |(k,d)::l,z::ss,h=>by
  simp only[cU,List.cons.injEq] at h ⊢;exact⟨by cases k <;> simp only[TK.d] at h <;> grind,OH h.2⟩
def Wv{kvs:List (TK×D)}{ss:List Str}(h:kvs.map (·.1)=ss.map TK.inr):eQ kvs=true:=by
 unfold eQ;refine jJ.mpr λp m=>?_
 have h1:p.1∈kvs.map (·.1):=nG m
 rw[h] at h1;obtain⟨z,_,e⟩:=iS.mp h1;rw[<-e];rfl
noncomputable def pD:D->ak Rv
 |.av kvs=>(eD (kvs.map (·.1.d))).bind λss=>if ss.length<64 then some (.o (.lst ((iN ss).map D.str))) else none
 |_=>none
def Ww:b_ K (Q0 K) (o1 pD):=tV λk H x a y Q le t e res=>by
 unfold pD at e;split at e
 .rename_i kvs
  obtain⟨ss,h,e⟩:=cA.mp e;split at e
  .cases e;have hk:=OH (Fq h);have ht:=Wv hk;obtain⟨p,es,ep,rfl,h3,h4,h5,h6,h7⟩:=t.txt le ht;exact⟨p,ss,es,ep,rfl,h3,h4,h5.trans hk,by assumption,λl hl=>res.lst le (Wu _) hl⟩
  .cases e
 .cases e
def yJ:tf K (.builtin "sorted") (o1 pD):=λX h c u=>⟨_,T3 c,Ww⟩
end
def AK(p n:Nat)(m:(Nat->GM)->Nat->GS):Nat->Nat->GM
 |0=>λ_ _ _=>none
 |j+1=>aT p n (m (AK p n m j))
def lD{p n j q:Nat}{m:(Nat->GM)->Nat->GS}:gY (AK p n m j q) p:=by
 cases j with
 |zero=>exact λ_ _ _ e=>nomatch e
 |succ j=>exact lE
section
variable{X:Cx}{aa:List (aj×Obj)}{Z:St}{H:Hp}{s:ax}{A:cN}{a b:aj}{es fL:List (TK×V×V)}{ep jl:Nat}{E:ai->ax->Prop}
def MM(X:Cx)(s:ax)(A:cN)(es fL:List (TK×V×V)):Prop:=∀(j:Nat) (e e':TK×V×V) (u v:ai),es[j]?=some e->fL[j]?=some e'->RelV e.2.2 u->RelV e'.2.2 v->∀(E:ai->ax->Prop) (R:Bool->ax->Prop),R true s->wpAny (model X.prog X.w) A (eqBool u v) R E s
def EN(X:Cx)(s:ax)(A:cN)(E:ai->ax->Prop)(a b:aj):Prop:=∀(nm:String) (Q:Bool->ax->Prop),Q true s->wpAny (model X.prog X.w) A (Builtin.Dict.samePairs nm a b) Q E s
def T4(I:Inv X aa Z H s)(ha:H a=some (.dG es ep))(hb:H b=some (.dG fL jl))(hk:es.map (·.1)=fL.map (·.1))(ra:aZ X.K H (es.map (·.2.1)) (es.map (·.1.d)))(rb:aZ X.K H (fL.map (·.2.1)) (fL.map (·.1.d)))(hu:A.units+8<cLine)(hv:MM X s A es fL):EN X s A E a b:=by
 intro nm Q q;obtain⟨_,za,oa,xa,g1,g5,g2,g3,g4⟩:=(show bf X.prog X.w H s.heap a (.dG es ep) from I.bw a _ ha);obtain⟨_,zb,ob,xb,p1,p5,p2,p3,p4⟩:=(show bf X.prog X.w H s.heap b (.dG fL jl) from I.bw b _ hb);have l1:=Paired.length g3;have l2:=Paired.length p3;have l3:=congrArg List.length hk;simp only[bx] at l3;simp only[Ey] at l1 l2;unfold Builtin.Dict.samePairs Builtin.Dict.showsAll;rw[bc (by rw[za];decide),bc (by rw[zb];decide)]
 refine ay (aX (ay (aX (ay (wpAny_dictEntries g1 g2 (ay (wpAny_dictEntries p1 p2 ?_)))))));dsimp only;rw[bc (by simp;lia)]
 refine ay (wpAny_dictEpoch g1 g2 ?_);rw[Std.Legacy.Range.forIn_eq_forIn_range'];refine ay (wpAny_forIn_list _ (λrest r s'=>s'=s/\r=(none,())/\∀i∈rest,i<xa.size) _ ?_ ?_ _ _ ⟨rfl,rfl,λi m=>?_⟩)
 .rintro i rest r s' ⟨rfl,rfl,hm⟩;have hi:i<xa.size:=hm i (.head _);obtain⟨e,e1,e2⟩:=Bv i g3 (b:=xa[i]) (by simp[hi])
  obtain⟨w,w1,ry⟩:=ra.get (i:=i) (d:=e.1.d) (by rw[dR,e1];rfl)
  rw[dR,e1] at w1;cases w1;refine ay (wpAny_dictEntries g1 g2 ?_);rw[sW hi];dsimp only;have hh:xa[i].hash=e.1.hash X.w:=e2.1;rw[hh];have AD:∀(j:Nat) (e':TK×V×V),fL[j]?=some e'->es[j]?.map (·.1)=some e'.1:=λj e' h=>by rw[<-dR,hk,dR,h];rfl
  refine ay (ju (ay (JI (k:=e.1) I p1 p2 p3 p4 rb ry e2.2.2.2 e2.2.1 hu (λq0=>?_) (λj e' he ek=>?_))))
  .exfalso;have hj:i<fL.length:=by lia
   refine q0 i fL[i] (fG hj) ?_;have:=AD i _ (fG hj);rw[e1] at this;exact(Option.some.inj this).symm
  .have ej:j=i:=by
    have h1:(es.map (·.1))[j]?=some e.1:=by rw[dR,AD j e' he,ek]
    have h2:(es.map (·.1))[i]?=some e.1:=by rw[dR,e1];rfl
    exact Fx g4 h1 h2
   subst ej;obtain⟨f,f1,f2⟩:=Bw j p3 he;refine ay (wpAny_dictEntries p1 p2 ?_);rw[<-vy,f1];dsimp only;refine ju (hv j e e' _ _ e1 he e2.2.2.1 f2.2.2.1 _ _ ?_);rw[bc (by decide)]
   refine ay (wpAny_dictEpoch g1 g2 ?_);rw[bc (by simp)]
   exact aX ⟨rfl,rfl,λk m=>hm k (.tail _ m)⟩
 .rintro r s' ⟨rfl,rfl,_⟩;exact aX q
 simp_all
def JD{Q:PySem.Fin->ax->Prop}(t:s.TypeIs (.ref b) "dict")(h:EN X s A E a b)(q:Q (.done (.ret (.bool true))) s):wpAny (model X.prog X.w) A (Builtin.«dict.__eq__» { pos:=[.ref a,.ref b]}) Q E s:=by
 refine ay (m:=Builtin.Dict.dictSlotArgs "__eq__" { pos:=[.ref a,.ref b]}) (show wpAny _ _ (pure (Value.ref a,Value.ref b)) _ _ _ from aX (ay (wpAny_isInstance t (by rfl) ?_)))
 rw[bc (by decide)]
 exact ay (aX (ay (aX (ay (h _ _ (aX q))))))
def JE{Q:PySem.Fin->ax->Prop}(t:s.TypeIs (.ref b) "dict")(h:EN X s A E a b)(q:Q (.done (.ret (.bool false))) s):wpAny (model X.prog X.w) A (Builtin.«dict.__ne__» { pos:=[.ref a,.ref b]}) Q E s:=by
 refine ay (m:=Builtin.Dict.dictSlotArgs "__ne__" { pos:=[.ref a,.ref b]}) (show wpAny _ _ (pure (Value.ref a,Value.ref b)) _ _ _ from aX (ay (wpAny_isInstance t (by rfl) ?_)))
 rw[bc (by decide)]
 exact ay (aX (ay (aX (ay (h _ _ (aX q))))))
def OI(ne:Bool)(I:Inv X aa Z H s)(ha:H a=some (.dG es ep))(hb:H b=some (.dG fL jl))(hk:es.map (·.1)=fL.map (·.1))(ra:aZ X.K H (es.map (·.2.1)) (es.map (·.1.d)))(rb:aZ X.K H (fL.map (·.2.1)) (fL.map (·.1.d)))(hu:A.units+9<cLine)(hv:MM X s A.in1 es fL){Q:ai->ax->Prop}(q:Q (.bool (!ne)) s):wpAny (model X.prog X.w) A (richCompare (if ne=true then .NotEq else .Eq) (.ref a) (.ref b)) Q E s:=by
 obtain⟨_,za,oa,xa,g1,g5,_⟩:=(show bf X.prog X.w H s.heap a (.dG es ep) from I.bw a _ ha);obtain⟨_,zb,ob,xb,p1,p5,_⟩:=(show bf X.prog X.w H s.heap b (.dG fL jl) from I.bw b _ hb);have t1:s.TypeIs (.ref a) "dict":=⟨oa,g1,g5.1⟩;have t2:s.TypeIs (.ref b) "dict":=⟨ob,p1,p5.1⟩;have sp:∀E,EN X s A.in1 E a b:=λE=>T4 I ha hb hk ra rb (by show A.units+1+8<cLine;lia) hv
 cases ne with
 |false=>exact wpAny_richCompare_same_room (op:=.Eq) t1 t2 PySem.F.slot_dict_eq (wpAny_call_entry PySem.F.slot_dict_eq t1 PySem.F.entry_dict_eq (JD t2 (sp _) ⟨_,rfl,by simp,q⟩) (PySem.F.args_dict_eq_2 _ _)) (by lia)
 |true=>exact wpAny_richCompare_same_room (op:=.NotEq) t1 t2 PySem.F.slot_dict_ne (wpAny_call_entry PySem.F.slot_dict_ne t1 PySem.F.entry_dict_ne (JE t2 (sp _) ⟨_,rfl,by simp,q⟩) (PySem.F.args_dict_ne_2 _ _)) (by lia)
end
def okN:Nat->D->Bool
 |0,d=>eC 30 d
 |n+1,d=>match d with
  |.av kvs=>kvs.all λp=>okN n p.2
  |d=>eC 30 d
section
variable{X:Cx}{aa:List (aj×Obj)}{Z:St}{H:Hp}{s:ax}
def Rt{n:Nat}{d:D}(h:okN n d=true):eC 30 d=true\/∃m kvs,n=m+1/\d=.av kvs/\(kvs.all λp=>okN m p.2)=true:=by
 cases n with
 |zero=>exact .inl h
 |succ m=>cases d with
  |av kvs=>exact .inr ⟨m,kvs,rfl,rfl,h⟩
  |_=>exact .inl h
def Cq{x y:V}{kvs:List (TK×D)}(r1:aZ X.K H [x] [.av kvs])(r2:aZ X.K H [y] [.av kvs]):∃a b es fL ep jl,x=.ref a/\y=.ref b/\H a=some (.dG es ep)/\H b=some (.dG fL jl)/\es.map (·.1)=fL.map (·.1)/\aZ X.K H (es.map (·.2.1)) (es.map (·.1.d))/\aZ X.K H (fL.map (·.2.1)) (fL.map (·.1.d))/\
  ∀(j:Nat) (e e':TK×V×V),es[j]?=some e->fL[j]?=some e'->∃d∈kvs.map (·.2),aZ X.K H [e.2.2] [d]/\aZ X.K H [e'.2.2] [d]:=by
 obtain⟨a,es,ep,rfl,h1,h2,h3,h4⟩:=r1.nj;obtain⟨b,fL,jl,rfl,p1,p2,p3,p4⟩:=r2.nj;refine⟨a,b,es,fL,ep,jl,rfl,rfl,h1,p1,h2.trans p2.symm,FY h2 h3 (az.refl _),FY p2 p3 (az.refl _),λj e e' he AA=>?_⟩
 have hj:j<(kvs.map (·.2)).length:=by
  have:=congrArg List.length h2;have:=(eW.mp he).1;simp at *;lia
 refine⟨_,zy hj,?_,?_⟩
 .obtain⟨v,v1,v2⟩:=h4.get (fG hj)
  simp_all
 .obtain⟨v,v1,v2⟩:=p4.get (fG hj)
  simp_all
def eqE(I:Inv X aa Z H s):∀(n:Nat) {A:cN} {x y:V} {u v:ai} {d:D},okN n d=true->aZ X.K H [x] [d]->aZ X.K H [y] [d]->RelV x u->RelV y v->A.units+n+30<cLine->∀(E:ai->ax->Prop) (Q:Bool->ax->Prop),Q true s->wpAny (model X.prog X.w) A (eqBool u v) Q E s:=by
 intro n
 induction n with
 |zero=>
  intro A x y u v d ok r1 r2 ru rv hu E Q q;exact(B5 I 30 30 r1 r2 ok ok ru rv (by lia)).1 X.prog X.w E Q (by rw[BE _ ok];exact q)
 |succ n ih=>
  intro A x y u v d ok r1 r2 ru rv hu E Q q;rcases Rt ok with ok|⟨m,kvs,e,rfl,ok⟩
  .exact(B5 I 30 30 r1 r2 ok ok ru rv (by lia)).1 X.prog X.w E Q (by rw[BE _ ok];exact q)
  .cases e;obtain⟨a,b,es,fL,ep,jl,rfl,rfl,h1,h2,hk,k1,k2,hv⟩:=Cq r1 r2;cases ru;cases rv;by_cases CL:a=b
   .subst CL;exact SeqAt.EqAt.same _ X.prog X.w E Q q
   .unfold eqBool;refine ju ?_;rw[bc (by simpa using CL)]
    refine ay (OI false I h1 h2 hk k1 k2 (by lia) (λj e e' u v he AA ru rv E R r=>?_) (wpAny_truthy_bool q))
    obtain⟨d,hd,r1,r2⟩:=hv j e e' he AA;obtain⟨p,hp,rfl⟩:=iS.mp hd;exact ih (jJ.mp ok p hp) r1 r2 ru rv (by show A.units+1+n+30<cLine;lia) E R r
def DG(K:aL):R2:=λx y H Q=>∃kvs,aZ K H [x] [.av kvs]/\aZ K H [y] [.av kvs]/\(kvs.all λp=>okN 2 p.2)=true/\Q (.bl false) H
def e4n(K:aL)(hu:X.A.units+40<cLine)(hK:X.K=K:=by rfl):dF X (compareOp .NotEq) (DG K):=by
 subst hK;intro aa s Z H x y u v Q I ru rv h;obtain⟨kvs,r1,r2,ok,q⟩:=h;obtain⟨a,b,es,fL,ep,jl,rfl,rfl,h1,h2,hk,k1,k2,hv⟩:=Cq r1 r2;cases ru;cases rv;refine OI true I h1 h2 hk k1 k2 (by lia) (λj e e' u v he AA ru rv E R r=>?_) ⟨.bl false,H,I,rfl,q⟩
 obtain⟨d,hd,r1,r2⟩:=hv j e e' he AA;obtain⟨p,hp,rfl⟩:=iS.mp hd;exact eqE I 2 (jJ.mp ok p hp) r1 r2 ru rv (by show X.A.units+1+2+30<cLine;lia) E R r
variable{K:aL}
def DK{k:Kn}:∀(n:Nat) {vs:List V} {ds:List D},ag K k vs ds->ds.all (okN n)=true->ag K ⟨k.F,[],[]⟩ vs ds:=by
 intro n
 induction n with
 |zero=>exact λh ok=>h.tU (n:=30) ok
 |succ n ih=>
  intro vs ds h ok
  induction ds generalizing vs with
  |nil=>rw[h.eR];exact .nil
  |cons d ds ihd=>
   obtain⟨w,us,rfl,h1,h2⟩:=h.ck;rw[pI,iW] at ok;refine .cons ?_ (ihd h2 ok.2);rcases Rt ok.1 with bJ|⟨m,kvs,e,rfl,bJ⟩
   .exact h1.tU (n:=30) (by rw[pI,bJ];rfl)
   .cases e;obtain⟨a,es,ep,rfl,e1,e2,e3,e4⟩:=h1.nj;have ek:kvs.map (·.1.d)=TK.dl (kvs.map (·.1)):=by rw[B6,eU];rfl
    refine .av e1 e2 (by rw[ek] at e3 ⊢;exact o_ _ e3) (ih e4 (by rw[t7];exact bJ)) .nil
open Classical in
noncomputable def Ha:D->D->ak Rv
 |.av a,.av b=>if(a.all λp=>okN 2 p.2)=true/\a=b then some (rd (.bl false)) else none
 |_,_=>none
def e4o:b_ K (lA (DG K)) (o2 Ha):=uT λk H x z a b y Q le t1 t2 e res=>by
 cases a with
 |av a=>cases b with
  |av b=>
   unfold Ha at e;dsimp only at e;split at e
   .rename_i h
    obtain⟨h,rfl⟩:=h;cases e;have ok:[D.av a].all (okN 3)=true:=by rw[pI,show okN 3 (.av a)=true from h];rfl
    exact⟨a,DK 3 (t1.rep le) ok,DK 3 (t2.rep le) ok,h,res.flat le rfl⟩
   .cases e
  |_=>cases e
 |_=>cases e
end
def JY{K:aL}:jv K .NotEq (o2 Ha):=λX h u=>⟨_,e4n K (by lia) h,e4o⟩
variable{K:aL}
noncomputable def Hb:D->D->ak Rv
 |.int i,b=>(iD b).map λj=>rd (.bl (!(i == j)))
 |.str i,.str j=>some (rd (.bl (!(i == j))))
 |_,_=>none
def DH:R2:=λx y H Q=>(∃i j,x=.int i/\y=.int j/\Q (.bl (!(i == j))) H)\/∃i j,x=.str i/\y=.str j/\Q (.bl (!(i == j))) H
def e4p{X:Cx}:dF X (compareOp .NotEq) DH:=by
 intro aa s Z H x y u v Q I rx ry h;rcases h with⟨i,j,rfl,rfl,q⟩|⟨i,j,rfl,rfl,q⟩ <;> obtain⟨t,rfl⟩:=rx <;> obtain⟨t',rfl⟩:=ry
 .exact SeqAt.RcNeAt.int_int i t j t' X.prog X.w _ _ ⟨.bl _,H,I,rfl,q⟩
 .exact SeqAt.RcNeAt.str_str i t j t' X.prog X.w _ _ ⟨.bl _,H,I,rfl,q⟩
def e4q:b_ K (lA DH) (o2 Hb):=uT λk H x z a b y Q le t1 t2 e res=>by
 cases a with
 |int i=>
  obtain⟨j,h,rfl⟩:=df.mp (show(iD b).map _=_ from e);cases J6 h;cases t1.flat rfl;cases t2.flat rfl;exact .inl ⟨_,_,rfl,rfl,res.flat le rfl⟩
 |str i=>cases b with
  |str j=>
   cases e;cases t1.flat rfl;cases t2.flat rfl;exact .inr ⟨_,_,rfl,rfl,res.flat le rfl⟩
  |_=>cases e
 |_=>cases e
def JZ:jv K .NotEq (o2 Hb):=λX h u=>⟨_,e4p,e4q⟩
end L2
namespace L2
open PySem Lean Meta
def Zq:List Name:=[``yk,``uA,``Ct,``yl,``wL,``wS,``wE,``wP,``wA,``wAI,``wAD,``wX,``wY,``wF,``rN,``xv,``xi,``xs,``xb,``xn,``xty,``xk,``xki,``xo,``Mm,``xc,``xix,``xsl,``xd,``xj,``jn,``jc,``xB,``xT,``xM,``xU,``xU0,``xf,``xC,``xN,``xH,``xH0,``xLV,``xL,``yj,``yh,``rM,``ux,``Cr,``Cs,``yi,``yg,``y0,``zc,``yf,``PW.pt,``Cv,``yo,``ym,``yc,``ych,``yt,``ya1,``yo1,``yn,``y1,``uz,``uy,``sG,``uZ,``pgn,``pgt,``sE,``uY,``vd,``zr,``sO,``vf,``sA,``LG,``sEn,``sV,``sI,``sR1,``sRT,``Me,``Mj,``Mh,``Er,``Mg,``Mi,``Wh,``JY,``JZ,``Wm,``Wl,``Wi,``Wj,``J0,``Wk,``JX,``K7,``K6,``K5,``K8,``Dg,``Dd,``Dc,``yO,``Dj,``vk,``vm,``zv,``vn,``En,``oV,``PyProof.Rows.Boot.min,``PyProof.Rows.Boot.sum,``wk,``wm,``yG,``Dz,``cz.le,``lE,``lD,``uW,``uX,``yJ]
def Zp(tg N de:Lean.Expr):MetaM Lean.Expr:=do
 let nm (e:Lean.Expr):=e.getArg! 0
 let ts:=if tg.isAppOf ``Expr.Name then[nm tg] else((tg.getArg! 0).listLit?.map (·.2.map nm)).getD []
 let ns:=(((<-whnf N).listLit?).map (·.2)).getD []
 let cs:=((de.listLit?.map (·.2)).getD []).map λi=>ns.getD ((i.nat?).getD 0) (mkNatLit 0)
 mkListLit (mkConst ``Str) (ts++cs)
def lZ{α:Type}(f:α->MetaM Bool):List α->MetaM Bool
 |[]=>return false
 |x::l=>do if <-f x then return true else lZ f l
def Cu:Nat->MVarId->MetaM Unit
 |0,_=>failure
 |n+1,g0=>do
  let (_,g) <-g0.intros
  g.withContext do
  let t:=(<-instantiateMVars (<-g.getType)).cleanupAnnotations.headBeta
  let run (s:MetaM Syntax):MetaM Bool:=do
   let st <-saveState
   try
    let (gs,_) <-Lean.Elab.runTactic g (<-s)
    unless gs.isEmpty do failure
    return true
   catch _=>st.restore;return false
  let use (fix:Lean.Expr->MetaM Unit) (f:Lean.Expr):MetaM Bool:=do
   let s <-saveState
   try
    let y <-whnfR (<-inferType f)
    unless y.getForallBody.getAppFn.constName? == t.getAppFn.constName? do failure
    let (ms,_,ty) <-forallMetaTelescope y
    unless <-isDefEq ty t do failure
    let each (h:Lean.Expr->MetaM Unit):=lZ (λm=>do
     unless <-m.mvarId!.isAssigned do h m
     return false) ms.toList
    discard <| each fix
    discard <| each λm=>do if <-isProp (<-inferType m) then Cu n m.mvarId!
    g.assign (mkAppN f ms)
    return true
   catch _=>s.restore;return false
  let sQ:=use λ_=>pure ()
  let c:=t.getAppFn.constName?.getD .anonymous
  if c == ``Eq then
   let l:=t.appFn!.appArg!
   if l.isAppOf ``AL || l.isAppOf ``gq then
    if <-run `(tactic| kernel_rfl) then return
   if <-(try g.refl;pure true catch _=>pure false) then return
  let env <-getEnv
  if c == ``dz then
   if <-lZ (λd=>if d.isImplementationDetail then return false else sQ d.toExpr) ((<-getLCtx).decls.toList.filterMap id) then return
   if <-lZ (lZ λ(k,i)=>do
    if k.getPrefix == `Carry&&(<-whnfR i.type).getForallBody.isAppOf ``dz then sQ (<-mkConstWithFreshMVarLevels k) else return false) [env.constants.map₂.toList,env.constants.map₁.toList] then return
   failure
  if <-lZ (λd=>do
   if d.isImplementationDetail then return false
   if <-sQ d.toExpr then return true
   let some s:=d.type.getAppFn.constName?|return false
   unless isStructure env s&&s.getPrefix == `Carry do return false
   lZ (λf=>do sQ (<-mkProjection d.toExpr f)) (getStructureFields env s).toList) ((<-getLCtx).decls.toList.filterMap id) then return
  if <-lZ (λr=>do
   let f <-mkConstWithFreshMVarLevels r
   if r == ``wX then
    lZ (λj=>use (λm=>do if(<-inferType m).isConstOf ``Nat then m.mvarId!.assign (mkNatLit j)) f) (List.range 12)
   else if r == ``xL || r == ``wL then
    use (λm=>do
     if(<-instantiateMVars (<-inferType m)).isAppOf ``List then
      let some lc:=t.find? (·.isAppOf ``Expr.ListComp)|failure
      let some gc:=t.find? (·.isAppOf ``cg)|failure
      let some co:=((lc.getArg! 1).listLit?.bind (·.2.head?))|failure
      m.mvarId!.assign (<-Zp (co.getArg! 0) (<-mkAppM ``Cx.N #[t.getArg! 0]) gc.appArg!)) f
   else sQ f) Zq then return
  unless <-run `(tactic| first|rfl|exact Or.inl rfl|exact Or.inr rfl|exact Or.inr (Or.inl rfl)|exact Or.inr (Or.inr rfl)|decide|(intro _ _;rfl)|with_unfolding_all rfl) do failure
def Rm:Nat->Lean.Expr->MetaM (List Lean.Expr)
 |0,_=>failure
 |n+1,e=>do
  let a:=(<-whnf e).getAppArgs
  if a.size<3 then return []
  return (<-whnfCore a[1]!)::(<-Rm n a[2]!)
simproc_decl dv (iT _ _ _):=λe=>do
 let a:=e.getAppArgs
 let b <-withDefault (whnf a[1]!)
 let N <-mkListLit (mkConst ``Str) (<-withDefault (Rm 99 (a[0]!.getArg! 6)))
 let m <-mkFreshExprMVar (mkApp3 e.getAppFn (mkAppN a[0]!.getAppFn (a[0]!.getAppArgs.set! 6 N)) b a[2]!)
 withDefault (Cu 200 m.mvarId!)
 return .done { expr:=mkConst ``True,proof?:=<-mkEqTrue (<-mkExpectedTypeHint (<-instantiateMVars m) e)}
end L2
namespace L2
open PySem PySem.Spec PyProof.Rows
variable{K:aL}{C:ak aj}{x qual:Str}{f:aj}{st:Stmt}{Tx:aL->(Str->ak ai)->Prop}{p n:Nat}
noncomputable def fA (K:aL) (C:ak aj) (x:Str):aj:=Classical.epsilon λf=>C.elim (PySem.W.nsIn K mainGlobals x) (λC=>PySem.W.findIn K (.ref C) x)=some (some (.ref f))
noncomputable def fF (K:aL) (f:aj):lj:=Classical.epsilon λd=>∃oc od pd,K.lookup f=some ⟨oc,od,.func d,pd⟩
abbrev tW(st:Stmt):List Str:=(Af st).args.map (·.arg)
abbrev Hc(st:Stmt):List Str:=((mV st).names.filter λp=>p.2.casesOn true true false false false).map (·.1)
abbrev Df(K:aL)(mg:Str->ak ai)(x:Str)(st:Stmt):Prop:=vA K mg x st (fA K none x) (fF K (fA K none x)) (tW st)
abbrev Mf(K:aL)(C:aj)(x y:Str)(st:Stmt):Prop:=MethAt K C x y st (fA K (some C) x) (fF K (fA K (some C) x)) (tW st)
def Cz{A:Type}{p:A->Prop}(a:A)(h:p a)(u:∀b,p b->a=b):@Classical.epsilon A ⟨a⟩ p=a:=(u _ (@Classical.epsilon_spec_aux A ⟨a⟩ p ⟨a,h⟩)).symm
def J7(a:C.elim (PySem.W.nsIn K mainGlobals x) (λC=>PySem.W.findIn K (.ref C) x)=some (some (.ref f))):fA K C x=f:=Cz f a λb e=>by cases a.symm.trans e;rfl
def Ru{y:Str}{fd:lj}(F:q_ K x y st f fd):fF K f=fd:=by
 obtain⟨oc,od,_,_,_,_,_,_,pd,_,l,_⟩:=F.ex;exact Cz fd ⟨oc,od,pd,l⟩ λb ⟨_,_,_,e⟩=>by cases l.symm.trans e;rfl
seal fA fF
abbrev EK(Tx:aL->(Str->ak ai)->Prop)(C:ak aj)(x:Str)(st:Stmt)(k p:Nat)(M:Nat->GM):Prop:=∀{P:dc} {w:cD} {K:aL} {mg:Str->ak ai} {base:bZ} (T:Tx K mg) (q:Nat),dz P w K mg base (lH P w) k (fA K C x) (fF K (fA K C x)) (tW st) (rA K q p (M q))
def cC{k:Nat}{m:Nat->GS}(F:∀{K:aL} {mg:Str->ak ai},Tx K mg->q_ K x qual st (fA K C x) (fF K (fA K C x)))(N:List Str:=Hc st)
  (hb:∀{P:dc} {w:cD} {K:aL} {mg:Str->ak ai} {base:bZ} (T:Tx K mg) (q:Nat) (fj:ai) (A:cN) (outer:List Env) (s:ax) (H:Hp) (E:XK),cz k (A.deeper (envOfC qual (mV st) s.heap.objs.size (fA K C x) fj))->(A.deeper (envOfC qual (mV st) s.heap.objs.size (fA K C x) fj)).units+41<cLine->iT (kU (lH P w) P w K mg base N qual (mV st) (fA K C x) fj A outer s H E) (vH st) (tS K (WF E) q (m q)):=by intros;simp only[dv])
  (S:gm N (tW st) (mV st):=by exact CB) (hp:(tW st).length=p:=by rfl) (hn:N.length=n:=by rfl):EK Tx C x st (k+1) p (aT p n m):=λT q=>QA (F T) S hp hn λfj A outer s H E hr=>hb T q fj A outer s H E hr (P7 hr)
def okR{c:Nat}{m:(Nat->GM)->Nat->GS}(F:∀{K:aL} {mg:Str->ak ai},Tx K mg->q_ K x qual st (fA K C x) (fF K (fA K C x)))(j:Nat)(N:List Str:=Hc st)
  (hb:∀{P:dc} {w:cD} {K:aL} {mg:Str->ak ai} {base:bZ} (T:Tx K mg) (j:Nat) (r:Nat->GM) (G:∀q,dz P w K mg base (lH P w) (c+j) (fA K C x) (fF K (fA K C x)) (tW st) (rA K q p (r q))) (tk:∀q,gY (r q) p) (q:Nat) (fj:ai) (A:cN) (outer:List Env) (s:ax) (H:Hp) (E:XK),cz (c+j) (A.deeper (envOfC qual (mV st) s.heap.objs.size (fA K C x) fj))->(A.deeper (envOfC qual (mV st) s.heap.objs.size (fA K C x) fj)).units+41<cLine->iT (kU (lH P w) P w K mg base N qual (mV st) (fA K C x) fj A outer s H E) (vH st) (tS K (WF E) q (m r q)):=by intros;simp only[dv])
  (S:gm N (tW st) (mV st):=by exact CB) (hp:(tW st).length=p:=by rfl) (hn:N.length=n:=by rfl):EK Tx C x st (c+j) p (AK p n m j):=by
 intro P w K mg base T
 induction j with
 |zero=>exact λq=>⟨λ_ _ _ _ h=>(by obtain⟨_,_,_,_,_,_,_,e,_⟩:=h;cases e),λ_ _ _ _ _ _ _ _ _ _ _ _ _ h=>(by obtain⟨_,_,_,_,_,_,_,e,_⟩:=h;cases e)⟩
 |succ j ih=>exact λq=>QA (F T) S hp hn λfj A outer s H E hr=>hb T j _ ih (λq=>lD) q fj A outer s H E hr (P7 hr)
end L2
namespace L2
open PySem PySem.Spec PySem.W PyProof.Rows
section
variable{K:fI}{mg:Str->ak ai}{h:bZ}{x y:Str}{st:Stmt}{f C:aj}{fd:lj}{ps:List Str}
abbrev Q1(x y:Str)(st:Stmt)(ps:List Str):Prop:=∀(kV doc pm:ai) (an:ak aj) (fj ct:ai) (us:List ai),us.length=ps.length->bindArgs (PySem.W.fnOf x y (Af st) (vH st) (mV st) .none kV doc pm an fj ct) ⟨us,[]⟩=pure (ps.zip us)
def dM(X:K.In h)(G:h.Ns mainGlobals mg)(a:nsIn K mainGlobals x=some (some (.ref f)))(F:q_ K x x st f fd)(b:Q1 x x st (tW st)):Df K mg x st:=by
 unfold Df;rw[J7 (C:=none) a,Ru F];exact⟨F,mg_of X G a,F.binds b⟩
def mM(a:findIn K (.ref C) x=some (some (.ref f)))(n:isFn K (.ref f)=true)(F:q_ K x y st f fd)(b:Q1 x y st (tW st)):Mf K C x y st:=by
 unfold Mf;rw[J7 (C:=some C) a,Ru F];exact⟨F,⟨a,n,F.kp⟩,F.binds b⟩
def mK(m:makesIn K C=true)(a:findIn K (.ref C) "__init__"=some (some (.ref f)))(n:isFn K (.ref f)=true)(k:keepIn K (.ref C)=true):Mk K C (fA K (some C) "__init__"):=by
 rw[J7 (C:=some C) a];exact⟨m,a,n,k⟩
def kM{v:Tok->ai}{t:Tok}(X:K.In h)(G:h.Ns mainGlobals mg)(a:nsIn K mainGlobals x=some (some (v t))):∃t,mg x=some (v t):=⟨t,mg_of X G a⟩
end
end L2
namespace L2
abbrev ao(x:D):ak Val:=some (.d x)
abbrev aY(x:PySem.Str):ak Val:=some (.d (.str x))
abbrev bI(x:Int):ak Val:=some (.d (.int x))
abbrev aN(n:Nat):ak Val:=some (.c n)
abbrev cV(x:PySem.Str):Val:=.d (.str x)
abbrev aR(x:Int):Val:=.d (.int x)
abbrev cy:ak Val:=some (.d (.ref 0))
abbrev eV:Val:=.d (.ref 0)
end L2
namespace Carry
open PySem L2
structure aq where
 name:Str
 long:Int
 ring:Bool
 outs:List Str
structure aF where
 af:List aq
 carts:List Str
noncomputable def l_(xs:List Str)(k:Nat)(y:Str):List Str:=xs.take k++y::xs.drop k
theorem FC(xs:List Str)(k:Nat)(y:Str):(l_ xs k y).length=xs.length+1:=by
 unfold l_;rw[dw,kG,wK,AY];lia
theorem kz{xs:List Str}{k:Nat}{y z:Str}:z∈l_ xs k y↔z=y\/z∈xs:=by
 unfold l_;rw[iQ,y0a];constructor
 .rintro(h|h|h)
  .exact .inr (List.mem_of_mem_take h)
  .exact .inl h
  .exact .inr (MD h)
 .rintro(h|h)
  .exact .inr (.inl h)
  .rw[<-List.take_append_drop k xs,iQ] at h;rcases h with h|h
   .exact .inl h
   .exact .inr (.inr h)
seal PE PA PT PS iT
noncomputable def top(i:Nat):Stmt:=PySem.Challenge.pw_carry_k65_wants.main.body.getD i (.Pass ⟨0,0,0,0⟩)
noncomputable abbrev i9:List (Str×aj):=[("NoName",44),("NoSize",56),("NoOut",68),("NoHand",80),("NoMoment",92),("NoFlight",104),("NoBelt",116),("NoRoom",128),("NoBag",140)]
abbrev cHall:aj:=454
noncomputable abbrev atrs:List (aj×Str):=[(cHall,"built"),(cHall,"told_rounds"),(cHall,"now"),(cHall,"book"),(cHall,"halts"),(cHall,"places"),(cHall,"readings"),(cHall,"rounded"),(cHall,"gone"),(cHall,"carted")]
structure Txt (K:aL) (mg:Str->ak ai):Prop where
 pP:Df K mg "is_name" (top 15)
 kQ:Df K mg "right_house" (top 17)
 kP:Df K mg "check_carts" (top 18)
 kO:Df K mg "check_belts" (top 19)
 mT:Df K mg "take_name" (top 20)
 lL:Df K mg "check_outs" (top 21)
 lK:Df K mg "check_hand" (top 22)
 lI:Df K mg "belt_names" (top 23)
 pV:Df K mg "reached" (top 24)
 pL:Df K mg "belt_of" (top 25)
 A9:Df K mg "far" (top 27)
 qI:Df K mg "begins" (top 28)
 A8:Df K mg "arm" (top 29)
 q9:Df K mg "wanted" (top 31)
 lJ:Df K mg "busy_belts" (top 32)
 n5:Df K mg "off_belt" (top 33)
 wW:Df K mg "turn" (top 34)
 jy:Df K mg "stand_stopped" (top 35)
 i4:Df K mg "stand_yielding" (top 36)
 jY:Df K mg "stand_behind" (top 37)
 qJ:Df K mg "copied" (top 40)
 jw:Df K mg "check_closing" (top 41)
 qR:Df K mg "_law_cell" (top 43)
 pR:Df K mg "_law_digit" (top 44)
 qW:Df K mg "_law_pick" (top 45)
 pT:Df K mg "_law_other" (top 46)
 pU:Df K mg "_law_third" (top 47)
 qU:Df K mg "_law_name" (top 48)
 qV:Df K mg "_law_outs" (top 49)
 pS:Df K mg "_law_house" (top 50)
 jx:Df K mg "_law_flight_name" (top 51)
 lQ:Df K mg "_law_bag_name" (top 52)
 mS:Df K mg "_law_closing" (top 53)
 pQ:Df K mg "_law_deeds" (top 54)
 qQ:Df K mg "_law_call" (top 55)
 qS:Df K mg "_law_done" (top 56)
 jX:Df K mg "_law_told_state" (top 57)
 qT:Df K mg "_law_fars" (top 58)
 mR:Df K mg "_law_cart_of" (top 59)
 qX:Df K mg "_law_rows" (top 60)
 qY:Df K mg "_law_same" (top 61)
 qP:Df K mg "_law_belt" (top 62)
 lR:Df K mg "_law_best_out" (top 63)
 qZ:Df K mg "_law_want" (top 64)
 q8:Df K mg "law" (top 65)
 qL:Mf K cHall "__init__" "Hall.__init__" (jz (top 39) 0)
 nY:Mf K cHall "flight" "Hall.flight" (jz (top 39) 1)
 nX:Mf K cHall "change" "Hall.change" (jz (top 39) 2)
 lM:Mf K cHall "call_off" "Hall.call_off" (jz (top 39) 3)
 ua:Mf K cHall "put" "Hall.put" (jz (top 39) 4)
 qN:Mf K cHall "read" "Hall.read" (jz (top 39) 5)
 qO:Mf K cHall "stop" "Hall.stop" (jz (top 39) 6)
 pO:Mf K cHall "start" "Hall.start" (jz (top 39) 7)
 iY:Mf K cHall "check_flight" "Hall.check_flight" (jz (top 39) 8)
 jW:Mf K cHall "check_belt" "Hall.check_belt" (jz (top 39) 9)
 iZ:Mf K cHall "check_inside" "Hall.check_inside" (jz (top 39) 10)
 pM:Mf K cHall "house" "Hall.house" (jz (top 39) 11)
 n4:Mf K cHall "rounds" "Hall.rounds" (jz (top 39) 12)
 nZ:Mf K cHall "moment" "Hall.moment" (jz (top 39) 13)
 mO:Mf K cHall "flights" "Hall.flights" (jz (top 39) 14)
 mQ:Mf K cHall "stopped" "Hall.stopped" (jz (top 39) 15)
 qK:Mf K cHall "bags" "Hall.bags" (jz (top 39) 16)
 t_:Mf K cHall "out" "Hall.out" (jz (top 39) 17)
 mJ:Mf K cHall "cart_of" "Hall.cart_of" (jz (top 39) 20)
 mL:Mf K cHall "catches" "Hall.catches" (jz (top 39) 21)
 lO:Mf K cHall "in_order" "Hall.in_order" (jz (top 39) 22)
 qM:Mf K cHall "move" "Hall.move" (jz (top 39) 23)
 mP:Mf K cHall "move_on" "Hall.move_on" (jz (top 39) 24)
 lP:Mf K cHall "move_out" "Hall.move_out" (jz (top 39) 25)
 C_Hall:Cls K cHall
 Mk_Hall:Mk K cHall (fA K (some cHall) "__init__")
 mg_Hall:mg "Hall"=some (.ref cHall)
 atr:jV K atrs
 er:pK K mg i9 31
 b_len:mg "len"=none
 b_isinstance:mg "isinstance"=none
 b_int:mg "int"=none
 b_bool:mg "bool"=none
 b_str:mg "str"=none
 b_list:mg "list"=none
 b_tuple:mg "tuple"=none
 b_range:mg "range"=none
 b_enumerate:mg "enumerate"=none
 b_reversed:mg "reversed"=none
 b_all:mg "all"=none
 b_sorted:mg "sorted"=none
 b_dict:mg "dict"=none
 b_min:mg "min"=none
 c_LETTERS:∃t,mg "LETTERS"=some (.str "abcdefghijklmnopqrstuvwxyz" t)
 c_MOST_LETTERS:∃t,mg "MOST_LETTERS"=some (.int 8 t)
abbrev OD(x:Str)(i:Nat):=EK Txt none x (top i)
abbrev OM(x:Str)(i:Nat):=EK Txt (some cHall) x (jz (top 39) i)
def E_(n1:Nat):GE:=(bK jS 0 (gC (.str "abcdefghijklmnopqrstuvwxyz")))
def Bz(q:Nat):GS:=(nh (cG (dY (cI (gO (o2 cM) (bO 0 (gC (.ty "str")))))) (aA (gC (.bl false)))) (cG (dY (gB (JO K1 K1 (gI 1) (gO (o1 eO) (br 0)) (gC (.int 8))))) (aA (gC (.bl false)))) (aA (gO (o1 (Gi Lw)) (br (cg q (bC false eM 0) 0 (λ_=>gw true) E_ 1 [])))))
def n_:=aT 1 1 Bz
theorem e0x:OD "is_name" 15 1 1 n_:=cC (λT=>T.pP.fn)
def MU(n1:Nat):GE:=(gX 0 (gI 0))
def M_(q:Nat):GS:=(cF (aA (cg q (bC false eM 0) 0 (λ_=>gw true) MU 1 [])))
def tu:=aT 1 1 M_
theorem d0i:OD "belt_names" 23 1 1 tu:=cC (λT=>T.lI.fn)
def zO(n1:Nat):GS:=(cF (cG (gQ fU (gX 2 (gI 0)) 1) (aA (aW true (kj (gX 2 (gI 0)) (gX 2 (gI 1)) (gX 2 (gI 2)) (gO (o1 kx) (br (gX 2 (gI 3)))))))))
def N6(q:Nat):GS:=(i_ (bH q (bC true eM (gX 0 (gI 0))) 2 zO) (aA (gC .aI)))
def xw:=aT 2 3 N6
theorem e0y:OD "belt_of" 25 1 2 xw:=cC (λT=>T.pL.fn)
def Iu(n2:Nat):GT:=(gQ jS 0 1)
def Iv(n2:Nat):GE:=(gX 1 0)
def zU(n1:Nat):GS:=(i_ (au 7 false (cg n1 (bC false eM 6) 0 Iu Iv 1 [2])) (cG (cI 7) (cv n1 (bK bB 4 (gO (o1 (m6 dP)) (br 7))) 2 3)))
def OJ(q:Nat):GS:=(nh (au 2 true (nc (xE [(1,(gI 0))]))) (bH q (bC true zg (gX 0 (gI 0))) (ba [3,4,5,6]) zU) (aA 2))
def BG:=aT 2 8 OJ
theorem e4s:OD "begins" 28 1 2 BG:=cC (λT=>T.qI.fn)
def zH(n1:Nat):GS:=(i_ (au 8 false (gX 1 4)) (fM (gQ jS (gX 6 (gI 0)) 2) (cF (cv n1 (aW true (bO (gC (.str "stopped")) (gX 6 (gI 0)))) 3 4)) (cF (cG (cQ (cI (gO (o2 cM) (bO 8 (gC (.ty "tuple"))))) (gQ jS (gX 8 (gI 0)) 2)) (cv n1 (aW true (bO (gC (.str "stopped")) (gX 8 (gI 0)))) 3 4)))))
def MR(q:Nat):GS:=(cF (bH q (bC true eM 0) (ba [4,5,6,7]) zH))
def EX:=aT 4 9 MR
theorem c2j:OD "stand_stopped" 35 1 4 EX:=cC (λT=>T.jy.fn)
def HW(n1:Nat):GT:=(cQ (gQ jG (gX 0 (gI 0)) 1) (cI (gO (o2 cM) (bO (gX 2 (gX 0 (gI 0))) (gC (.ty "tuple"))))))
noncomputable def HX(n1:Nat):GE:=0
def Be(n1:Nat):GS:=(i_ (au 9 false (gX 1 5)) (cG (iI (gQ jG 9 4) (gQ fU (gX 7 (gI 0)) (gX 9 (gI 0)))) (cv n1 5 4 9)))
def Bf(n1:Nat):GS:=(i_ (au 10 false (gX 4 (gX 1 5))) (cG (gQ (o2 Hb) 10 5) (cv n1 (aW true (bO (gC (.str "yields")) 10)) 2 5)))
def MN(q:Nat):GS:=(om (au 3 false (cg q (bC false eM 0) 0 HW HX 1 [2,1])) (au 4 true og) (bH q (bC true eM 3) (ba [5,6,7,8]) Be) (bH q (bC true eM 3) (ba [5,6,7,8]) Bf))
def ET:=aT 3 11 MN
theorem c1v:OD "stand_yielding" 36 1 3 ET:=cC (λT=>T.i4.fn)
def Bg(n1:Nat):GS:=(cF (cv n1 4 3 6))
def xm(n1:Nat):GS:=(i_ (au 9 false (B8 "dict" (o2 ng) 3 (br (gX 1 4)))) (fM (cQ (gQ jG 4 2) (gQ jS 9 2)) (i_ (cv n1 (aW true (bO (gC (.str "behind")) 9)) 2 4) (au 8 false (gC (.bl true)))) ko))
def EU(q:Nat):GS:=(i_ (au 8 false (gC (.bl false))) (bH q (bC true eM 1) 4 xm))
def MV(q:Nat):GS:=(om (au 3 true og) (bH q (bC true eM 0) (ba [4,5,6,7]) Bg) (au 8 false (gC (.bl true))) (cY (cI 8) (EU q) 1000))
def E0:=aT 3 10 MV
theorem c5y:OD "stand_behind" 37 1 3 E0:=cC (λT=>T.jY.fn)
def MS(q:Nat):GS:=(cF (cG (gQ pk 0 (gI 0)) (nK 92 (gC (.str "a flight closes at a moment from 0 on")))))
def Bh:=aT 1 1 MS
theorem c2k:OD "check_closing" 41 1 1 Bh:=cC (λT=>T.jw.fn)
def Je(q:Nat):GS:=(i_ (cG (gQ pk 1 (gO (o1 eO) (br 0))) (aA (gX 0 1))) (aA (gI 0)))
def oP:=aT 2 2 Je
theorem e4t:OD "_law_cell" 43 1 2 oP:=cC (λT=>T.qR.fn)
def zV(n2:Nat):GT:=(cQ (gQ jS 0 1) (gQ ql (gX 1 0) (gC .aI)))
def zW(n2:Nat):GE:=(gX 1 0)
def ue(n1:Nat):GS:=(om (au 4 false (gX (gX 0 (gI 0)) (bK lU (bK lU (gO (o1 eO) (br (gX 0 (gI 0)))) (gI 1)) 3))) (au 5 true (cg n1 (bC false eM (gX 4 (gI 3))) 0 zV zW 1 [2])) (cG (gQ jS 1 (gX 4 (gI 3))) (c_ (eG n1 "list" rH 5 (br (gI 0))))) (cv n1 (uC (gQ So (gO (o1 eO) (br 5)) (gI 0)) (bK bB (gX 4 (gI 1)) (gO (o1 (m6 dP)) (br 5))) (gC .aI)) 2 (gX 4 (gI 0))))
def OK(q:Nat):GS:=(nh (au 2 true og) (bH q (iG kB (br (gO (o1 eO) (br (gX 0 (gI 0)))))) 3 ue) (aA 2))
def z9:=aT 2 6 OK
theorem e4u:OD "_law_fars" 58 1 2 z9:=cC (λT=>T.qT.fn)
def Bq(n3:Nat):GS:=(cF (cG (gQ fU (gX (gX (gX 1 (gC (.str "inside"))) 5) (gI 1)) (aW true (bO (gX 3 (gI 0)) 4))) (c_ (eG n3 "list" rH 2 (br 5)))))
def Br(n2:Nat):GS:=(cF (bH n2 (bC true eM (gX 1 (gC (.str "inside")))) 5 Bq))
def Fg(n1:Nat):GS:=(cF (bH n1 (iG kB (br (gX 3 (gI 1)))) 4 Br))
def OL(q:Nat):GS:=(nh (au 2 true (aW false gN)) (bH q (bC true eM (gX 0 (gI 0))) 3 Fg) (aA 2))
def z_:=aT 2 6 OL
theorem e4v:OD "_law_rows" 60 1 2 z_:=cC (λT=>T.qX.fn)
def Iw(n1:Nat):GT:=(gQ fU (gX 0 (gI 0)) 1)
def Iy(n1:Nat):GE:=0
def ON(q:Nat):GS:=(cF (aA (gX (cg q (bC false eM (gX 0 (gI 0))) 0 Iw Iy 1 [1]) (gI 0))))
def BH:=aT 2 2 ON
theorem e4w:OD "_law_belt" 62 1 2 BH:=cC (λT=>T.qP.fn)
def NF(q:Nat):GS:=(cF (aA (bu atrs "told_rounds" 0)))
def Fh:=aT 1 1 NF
theorem d8d:OM "rounds" 12 1 1 Fh:=cC (λT=>T.n4.fn)
def NG(q:Nat):GS:=(cF (aA (bu atrs "now" 0)))
def Fi:=aT 1 1 NG
theorem d8e:OM "moment" 13 1 1 Fi:=cC (λT=>T.nZ.fn)
noncomputable def eF (n1:Nat):GE:=(gX (bu atrs "book" 1) 0)
noncomputable def jq (q:Nat):GS:=(cF (aA (cg q (bC false eM (gO (o1 pD) (br (bu atrs "book" 0)))) 0 (λ_=>gw true) eF 1 [0])))
noncomputable def dU:=aT 1 1 jq
theorem d3q:OM "flights" 14 1 1 dU:=cC (λT=>T.mO.fn)
def P_(q:Nat):GS:=(cF (aA (gO (o1 kx) (br (bu atrs "gone" 0)))))
def F4:=aT 1 1 P_
theorem e8i:OM "out" 17 1 1 F4:=cC (λT=>T.t_.fn)
def M'(q:Nat):GS:=(oo (c_ (eG q "dict" jo (bu atrs "places" 0) (br 1))) (c_ (eG q "dict" jo (bu atrs "readings" 0) (br 1))) (c_ (eG q "dict" jo (bu atrs "rounded" 0) (br 1))) (cv q 2 (bu atrs "carted" 0) 1) (c_ (eG q "list" rH (bu atrs "gone" 0) (br (aW true (dI 1 2 (bu atrs "now" 0)))))))
def Bk:=aT 3 3 M'
theorem d0j:OM "move_out" 25 1 3 Bk:=cC (λT=>T.lP.fn)
def Nm(q:Nat):GS:=(i_ (cG (iI (dY (cI (aw (n_ q) (br 0)))) (gQ jS 0 1)) (nK 44 (gC (.str "a belt or a cart has no name, or one that is taken")))) (cv q (gC (.bl true)) 1 0))
def zP:=aT 2 2 Nm
theorem d3r:OD "take_name" 20 2 2 zP:=cC (λT=>T.mT.fn)
def Bi(n2:Nat):GS:=(i_ (cG (gQ jG 7 6) (nK 68 (xF (mF (gC (.str "belt ")) (mF (gO (o1 lY) (br 4)) (mF (gC (.str " has an out that is no cart, no belt behind it, or there twice")) kl)))))) (c_ (eG n2 "list" F2 6 (br 7))))
def E1(n1:Nat):GS:=(oo (au 4 false (gX 3 (gI 0))) (au 5 false (uC (cI (gO (o2 cM) (bO (gX 3 (gI 3)) (gC (.ty "list"))))) (gX 3 (gI 3)) (aW false gN))) (au 6 true (bK bB (aw (tu n1) (br (xW 0 (Ap (bK bB 2 (gI 1))) Ao))) 1)) (bH n1 (bC true eM 5) 7 Bi) (cG (dY (cI 5)) (nK 68 (xF (mF (gC (.str "belt ")) (mF (gO (o1 lY) (br 4)) (mF (gC (.str " has no outs")) kl)))))))
def Na(q:Nat):GS:=(cF (bH q (bC true Kd 0) (ba [2,3]) E1))
def E5:=aT 2 8 Na
theorem d0k:OD "check_outs" 21 2 2 E5:=cC (λT=>T.lL.fn)
def Bo(n2:Nat):GS:=(cF (cv n2 (gC (.bl true)) 2 7))
def zQ(n1:Nat):GS:=(cF (cG (iI (gQ fU 3 1) (gQ jS 3 2)) (bH n1 (bC true eM 6) 7 Bo)))
def Ik(n1:Nat):GT:=(gQ jS 0 1)
noncomputable def Il(n1:Nat):GE:=0
def N7(q:Nat):GS:=(nh (au 2 true og) (bH q (bC true eM (gX 0 (gI 0))) (ba [3,4,5,6]) zQ) (aA (cg q (bC false eM (bK bB (aw (tu q) (br (gX 0 (gI 0)))) (gX 0 (gI 1)))) 0 Ik Il 1 [2])))
def Ft:=aT 2 8 N7
theorem e0z:OD "reached" 24 2 2 Ft:=cC (λT=>T.pV.fn) (N:=["house","belt","found","name","long","ring","outs","out"])
def Rw(q:Nat):GS:=(nh (au 3 false (aw (BG q) (bO 0 2))) (cG (gQ jG (gX 1 (gI 0)) 3) (aA (gC .aI))) (aA (bK lU (gX 3 (gX 1 (gI 0))) (gX 1 (gI 1)))))
def Gw:=aT 3 4 Rw
theorem e9s:OD "far" 27 2 3 Gw:=cC (λT=>T.A9.fn)
def BW(n1:Nat):GS:=(cF (cG (cQ (gQ jS 5 3) (iI (gQ y6 4 (gC .aI)) (gQ pk (gX 3 5) (gX 3 4)))) (au 4 false 5)))
def Rx(q:Nat):GS:=(om (au 3 false (aw (BG q) (bO 0 2))) (au 4 false (gC .aI)) (bH q (bC true eM (gX (aw (xw q) (bO 0 1)) (gI 3))) 5 BW) (aA 4))
def Gy:=aT 3 6 Rx
theorem e9t:OD "arm" 29 2 3 Gy:=cC (λT=>T.A8.fn)
def Iz(n1:Nat):GE:=(aw (xw n1) (bO 1 0))
def OO(q:Nat):GS:=(i_ (au 1 false (cg q (bC false eM (aw (tu q) (br (gX 0 (gI 0))))) 0 (λ_=>gw true) Iz 1 [0])) (aA (aW true (bO 1 (gO (o1 kx) (br (gX 0 (gI 1))))))))
def BI:=aT 1 2 OO
theorem e4z:OD "copied" 40 2 1 BI:=cC (λT=>T.qJ.fn)
def IQ(q:Nat):GS:=(om (au 4 false (aw (oP q) (bO 0 1))) (cG (gQ fU (bK ia (aw (oP q) (bO 0 (gI 0))) (gI 2)) (gI 1)) (aA (bK ia (bK ia (bK rK 4 (gX (aW false (mY (gI 2) (kj (gI 128) (gI 8192) (gI 524288) (gI 33554432)))) 2)) (gI 64)) 3))) (au 5 false (bK ia (bK jA (bK bB (bK bB (bK bB (bK ia 4 (gI 1000003)) (bK jA 1 1)) (bK jA (gI 1009) 2)) (gI 7)) (gI 48271)) (gI 999983))) (aA (bK ia (bK ia (bK jA (bK bB (bK bB 5 (bK jA (gI 5) 1)) 2) (bK bB (gI 69621) (bK jA (gI 2) 2))) (gI 1000033)) 3)))
def ip:=aT 4 6 IQ
theorem e1a:OD "_law_digit" 44 2 4 ip:=cC (λT=>T.pR.fn)
def Im(q:Nat):GS:=(nh (au 3 false (gX (gX 1 (gC (.str "inside"))) 2)) (fM (gQ ql (gX 3 (gI 0)) (gC .aI)) (nh (au 4 false (gX (gX 1 (gC (.str "flights"))) (gX 3 (gI 0)))) (au 5 false (gX (aw (z9 q) (bO 0 (gX 4 (gI 0)))) (gX (gX 3 (gI 1)) (gI 0)))) (cG (cQ (gQ ql 5 (gC .aI)) (gQ Sq (bK lU (bK bB (gX 1 (gC (.str "now"))) 5) (gX (gX 3 (gI 1)) (gI 1))) (gX 4 (gI 1)))) (aA (gX 4 (gI 0))))) ko) (aA (gX (gX 0 (gI 1)) (gI 0))))
def xt:=aT 3 6 Im
theorem d3s:OD "_law_cart_of" 59 2 3 xt:=cC (λT=>T.mR.fn)
def zL(n1:Nat):GS:=(i_ (au 6 false (uC (gQ fU 5 2) (gI 0) (B8 "dict" (o2 ng) 3 (br 5)))) (cG (cQ (gQ ql 6 (gC .aI)) (iI (gQ y6 4 (gC .aI)) (gQ pk 6 (gX 4 (gI 0))))) (au 4 false (aW true (bO 6 5)))))
def Nb(q:Nat):GS:=(om (au 3 false (aw (z9 q) (bO 0 2))) (au 4 false (gC .aI)) (bH q (bC true eM (gX 1 (gI 3))) 5 zL) (aA (gX 4 (gI 1))))
def Bl:=aT 3 7 Nb
theorem d0n:OD "_law_best_out" 63 2 3 Bl:=cC (λT=>T.lR.fn)
def NH(q:Nat):GS:=(om (cG (iI (dY (cI (aw (n_ q) (br 1)))) (gQ jS 1 (bu atrs "book" 0))) (nK 44 (gC (.str "a flight has no name, or one that another flight has")))) (cG (gQ jG 2 (xW (gX (bu atrs "built" 0) (gI 1)) (Ap (gI 1)) Ao)) (nK 68 (gC (.str "a flight's cart is none of the house, or the hand")))) (c_ (aw (Bh q) (br 3))) (cv q (aW true (dI 1 2 3)) (bu atrs "book" 0) 1))
def Fj:=aT 4 4 NH
theorem d8f:OM "flight" 1 2 4 Fj:=cC (λT=>T.nY.fn)
def MO(q:Nat):GS:=(cF (cG (iI (dY (cI (aw (n_ q) (br 1)))) (gQ jG 1 (bu atrs "book" 0))) (nK 104 (gC (.str "no flight is called so")))))
def xp:=aT 2 2 MO
theorem c1w:OM "check_flight" 8 2 2 xp:=cC (λT=>T.iY.fn)
def MW(q:Nat):GS:=(cF (cG (gQ jG 1 (aw (tu q) (br (gX (bu atrs "built" 0) (gI 0))))) (nK 116 (gC (.str "no belt is called so")))))
def zM:=aT 2 2 MW
theorem c6a:OM "check_belt" 9 2 2 zM:=cC (λT=>T.jW.fn)
def HY(q:Nat):GS:=(cF (cG (iI (dY (cI (aw (n_ q) (br 1)))) (gQ jG 1 (bu atrs "places" 0))) (nK 140 (gC (.str "no bag in the house is called so")))))
def xq:=aT 2 2 HY
theorem c1x:OM "check_inside" 10 2 2 xq:=cC (λT=>T.iZ.fn)
def Ic(n1:Nat):GT:=(gQ jS 0 (bu atrs "halts" 1))
noncomputable def Ie(n1:Nat):GE:=0
def Nn(q:Nat):GS:=(cF (aA (cg q (bC false eM (aw (tu q) (br (gX (bu atrs "built" 0) (gI 0))))) 0 Ic Ie 1 [0])))
def zR:=aT 1 1 Nn
theorem d3t:OM "stopped" 15 2 1 zR:=cC (λT=>T.mQ.fn)
def H0(n1:Nat):GE:=(aW true (dI (B8 "list" (o2 ja) 2 (br (gX 1 (gI 0)))) (gX 1 (gI 1)) 0))
def H9(n1:Nat):GE:=(gX 0 (gI 2))
def Ig(q:Nat):GS:=(nh (au 1 false (aw (tu q) (br (gX (bu atrs "built" 0) (gI 0))))) (au 2 false (cg q (bC false uJ (bu atrs "places" 0)) (ba [0,1]) (λ_=>gw true) H0 2 [1])) (aA (cg q (bC false eM (gO (o1 pC) (br 2))) 0 (λ_=>gw true) H9 1 [])))
def Bm:=aT 1 3 Ig
theorem d0o:OM "in_order" 22 2 1 Bm:=cC (λT=>T.lO.fn)
def Io(q:Nat):GS:=(om (au 3 false (gX (bu atrs "places" 0) 1)) (au 4 false (aw (xw q) (bO (bu atrs "built" 0) (gX 3 (gI 0))))) (cG (cQ (cI (gX 4 (gI 2))) (cQ (gQ fU 3 (aW true (bO (gX 4 (gI 0)) (bK lU (gX 4 (gI 1)) (gI 1))))) (gQ fU 2 (aW true (bO (gX 4 (gI 0)) (gI 0)))))) (JN q C4 (bu atrs "rounded" 0) 1 (gI 1))) (cv q 2 (bu atrs "places" 0) 1))
def vE:=aT 3 5 Io
theorem d3u:OM "move_on" 24 2 3 vE:=cC (λT=>T.mP.fn)
def EY(n1:Nat):GS:=(cF (c_ (aw (zP n1) (bO 2 1))))
def M3(q:Nat):GS:=(i_ (bH q (bC true eM 0) 2 EY) (cG (dY (cI 0)) (nK 80 (gC (.str "a house has a cart at least, the hand")))))
def E2:=aT 2 3 M3
theorem c7w:OD "check_carts" 18 3 2 E2:=cC (λT=>T.kP.fn)
def EZ(n1:Nat):GS:=(nh (c_ (aw (zP n1) (bO 2 1))) (au 6 false (uC (cI 4) (gI 2) (gI 1))) (cG (gQ pk 3 6) (nK 56 (xF (mF (gC (.str "belt ")) (mF (gO (o1 lY) (br 2)) (mF (gC (.str " has fewer than ")) (mF (gO (o1 lY) (br 6)) (mF (gC (.str " cells")) kl)))))))))
def M4(q:Nat):GS:=(cF (bH q (bC true eM 0) (ba [2,3,4,5]) EZ))
def E3:=aT 2 7 M4
theorem c7x:OD "check_belts" 19 3 2 E3:=cC (λT=>T.kO.fn)
def H_(n1:Nat):GS:=(cF (cG (gQ jG 1 (aw (Ft n1) (bO 0 2))) (nK 80 (xF (mF (gC (.str "the hand can not be come to from belt ")) (mF (gO (o1 lY) (br 2)) kl))))))
def Nc(q:Nat):GS:=(i_ (au 1 false (gX (gX 0 (gI 1)) (gI 0))) (bH q (bC true eM (aw (tu q) (br (gX 0 (gI 0))))) 2 H_))
def E6:=aT 1 3 Nc
theorem d0p:OD "check_hand" 22 3 1 E6:=cC (λT=>T.lK.fn)
def Bs(q:Nat):GS:=(om (au 4 false (aw (Gy q) (dI 0 (gX 1 (gI 0)) 2))) (cG (gQ jS 4 (gX 0 (gI 1))) (aA 4)) (cG (cQ (cI (gX 1 (gI 2))) (gQ jS 4 3)) (aA (aW true (bO (gX 1 (gI 0)) (gI 0))))) (aA (aW true (bO 4 (gI 0)))))
def qv:=aT 4 5 Bs
theorem d8g:OD "off_belt" 33 3 4 qv:=cC (λT=>T.n5.fn)
def OP(q:Nat):GS:=(cF (aA (aw (ip q) (kj 0 1 (gI 0) 2))))
def kT:=aT 3 3 OP
theorem e5a:OD "_law_pick" 45 3 3 kT:=cC (λT=>T.qW.fn)
def N8(q:Nat):GS:=(cF (aA (aw (ip q) (kj 0 1 (gI 1) 2))))
def jM:=aT 3 3 N8
theorem e1b:OD "_law_other" 46 3 3 jM:=cC (λT=>T.pT.fn)
def N9(q:Nat):GS:=(cF (aA (aw (ip q) (kj 0 1 (gI 2) 2))))
def mU:=aT 3 3 N9
theorem e1c:OD "_law_third" 47 3 3 mU:=cC (λT=>T.pU.fn)
def IA(n1:Nat):GE:=(gX 0 (gI 1))
def FD(q:Nat):GS:=(om (cG (gQ jS 6 (gX 0 (gI 1))) (aA 6)) (au 7 false (cg q (bC false Hs (gX 1 (gC (.str "inside")))) 0 (λ_=>gw true) IA 1 [])) (cG (cQ (cI (gX 5 (gI 2))) (iI (gQ jS 6 (gX 1 (gC (.str "still")))) (gQ jS (aW true (bO 6 (gI 0))) 7))) (aA (aW true (bO (gX 5 (gI 0)) (gI 0))))) (aA (aW true (bO 6 (gI 0)))))
def Aa(rest:GS)(q:Nat):GS:=(dH (au 4 false (gX (gX 1 (gC (.str "inside"))) 3)) (dH (au 5 false (aw (BH q) (bO 0 (gX (gX 4 (gI 1)) (gI 0))))) (dH (cG (gQ pk (bK bB (gX (gX 4 (gI 1)) (gI 1)) (gI 1)) (gX 5 (gI 1))) (aA (aW true (bO (gX 5 (gI 0)) (bK bB (gX (gX 4 (gI 1)) (gI 1)) (gI 1)))))) (dH (au 6 false (aw (Bl q) (dI 0 5 (aw (xt q) (dI 0 1 3))))) (dH (cG (cQ (cI (gX 5 (gI 2))) (cQ (gQ y6 (gX 4 (gI 0)) (gC .aI)) (gQ pk (gX 4 (gI 2)) 2))) (aA (aW true (bO (gX 5 (gI 0)) (gI 0))))) rest)))))
def BJ(q:Nat):GS:=(Aa (FD q) q)
def tD:=aT 4 8 BJ
theorem e5b:OD "_law_want" 64 3 4 tD:=cC (λT=>T.qZ.fn)
def NI(q:Nat):GS:=(nh (c_ (bj cHall "check_flight" (xp q) 0 (br 1))) (c_ (aw (Bh q) (br 2))) (cv q (aW true (dI 1 (gX (gX (bu atrs "book" 0) 1) (gI 1)) 2)) (bu atrs "book" 0) 1))
def Fl:=aT 3 3 NI
theorem d8h:OM "change" 2 3 3 Fl:=cC (λT=>T.nX.fn)
def Bj(n1:Nat):GS:=(cF (cG (gQ fU (gX (bu atrs "readings" 0) 2) 1) (cv n1 (gC .aI) (bu atrs "readings" 0) 2)))
def Nd(q:Nat):GS:=(nh (c_ (bj cHall "check_flight" (xp q) 0 (br 1))) (c_ (eG q "dict" jo (bu atrs "book" 0) (br 1))) (bH q (bC true eM (gO (o1 kx) (br (bu atrs "readings" 0)))) 2 Bj))
def E7:=aT 2 3 Nd
theorem d0q:OM "call_off" 3 3 2 E7:=cC (λT=>T.lM.fn)
def Aj(q:Nat):GS:=(dH (c_ (bj cHall "check_belt" (zM q) 0 (br 3))) (oo (au 4 false (aW true (bO 3 (gI 0)))) (cG (gQ jS 4 (gO (o1 pG) (br (bu atrs "places" 0)))) (nK 128 (xF (mF (gC (.str "cell 0 of belt ")) (mF (gO (o1 lY) (br 3)) (mF (gC (.str " has a bag")) kl)))))) (cv q 4 (bu atrs "places" 0) 1) (cv q 2 (bu atrs "readings" 0) 1) (cv q (gI 0) (bu atrs "rounded" 0) 1)))
def uj(rest:GS)(q:Nat):GS:=(dH (cG (iI (dY (cI (aw (n_ q) (br 1)))) (iI (gQ jS 1 (bu atrs "places" 0)) (gQ jS 1 (bu atrs "carted" 0)))) (nK 44 (gC (.str "a bag has no name, or one that a bag of this hall has or had")))) (dH (cG (gQ ql 2 (gC .aI)) (c_ (bj cHall "check_flight" (xp q) 0 (br 2)))) rest))
def BX(q:Nat):GS:=(uj (Aj q) q)
def vI:=aT 4 5 BX
theorem e8j:OM "put" 4 3 4 vI:=cC (λT=>T.ua.fn)
def OQ(q:Nat):GS:=(nh (c_ (bj cHall "check_inside" (xq q) 0 (br 1))) (c_ (bj cHall "check_flight" (xp q) 0 (br 2))) (cv q 2 (bu atrs "readings" 0) 1))
def FE:=aT 3 3 OQ
theorem e5c:OM "read" 5 3 3 FE:=cC (λT=>T.qN.fn)
def Jf(q:Nat):GS:=(i_ (c_ (bj cHall "check_belt" (zM q) 0 (br 1))) (cv q (gC (.bl true)) (bu atrs "halts" 0) 1))
def BK:=aT 2 2 Jf
theorem e5d:OM "stop" 6 3 2 BK:=cC (λT=>T.qO.fn)
def IS(q:Nat):GS:=(i_ (c_ (bj cHall "check_belt" (zM q) 0 (br 1))) (cG (gQ jS 1 (bu atrs "halts" 0)) (c_ (eG q "dict" jo (bu atrs "halts" 0) (br 1)))))
def zY:=aT 2 2 IS
theorem e1d:OM "start" 7 3 2 zY:=cC (λT=>T.pO.fn)
def N_(q:Nat):GS:=(cF (aA (aw (BI q) (br (bu atrs "built" 0)))))
def Fu:=aT 1 1 N_
theorem e1e:OM "house" 11 3 1 Fu:=cC (λT=>T.pM.fn)
def IB(n1:Nat):GE:=(aW true (kj 0 (gX (bu atrs "readings" 1) 0) (gX (bu atrs "places" 1) 0) (gX (bu atrs "rounded" 1) 0)))
def OR(q:Nat):GS:=(cF (aA (cg q (bC false eM (bj cHall "in_order" (Bm q) 0 gN)) 0 (λ_=>gw true) IB 1 [0])))
def vG:=aT 1 1 OR
theorem e5e:OM "bags" 16 3 1 vG:=cC (λT=>T.qK.fn)
def Np(q:Nat):GS:=(om (cG (gQ y6 (gX (bu atrs "readings" 0) 1) (gC .aI)) (aA (gC (.bl false)))) (au 2 false (gX (bu atrs "book" 0) (gX (bu atrs "readings" 0) 1))) (au 3 false (aw (Gw q) (dI (bu atrs "built" 0) (gX (bu atrs "places" 0) 1) (gX 2 (gI 1))))) (aA (rR (bK ql 3 (gC .aI)) (bK Sq (bK bB (bu atrs "now" 0) 3) (gX 2 (gI 2))))))
def E':=aT 2 4 Np
theorem d3v:OM "catches" 21 3 2 E':=cC (λT=>T.mL.fn)
def xu(n1:Nat):GS:=(cF (fM (cI (gO (o2 cM) (bO 3 (gC (.ty "tuple"))))) (cF (c_ (bj cHall "move_on" (vE n1) 0 (bO 2 3)))) (cF (c_ (bj cHall "move_out" (Bk n1) 0 (bO 2 3))))))
def OS(q:Nat):GS:=(i_ (JM q C4 atrs "now" 0 (gI 1)) (bH q (bC true eM 1) (ba [2,3]) xu))
def FF:=aT 2 4 OS
theorem e5f:OM "move" 23 3 2 FF:=cC (λT=>T.qM.fn)
def M5(q:Nat):GS:=(dH (au 1 false (gX 0 (gI 0))) (dH (au 2 false (gX 0 (gI 1))) (dH (au 3 true og) (oo (c_ (aw (E2 q) (bO 2 3))) (c_ (aw (E3 q) (bO 1 3))) (c_ (aw (E5 q) (bO 1 2))) (c_ (aw (E6 q) (br 0))) (aA (gC (.bl true)))))))
def E4:=aT 1 4 M5
theorem c7y:OD "right_house" 17 4 1 E4:=cC (λT=>T.kQ.fn)
def Ia(n1:Nat):GT:=(gQ fU (gX (gX 0 (gI 2)) (gI 1)) (gI 0))
def Ib(n1:Nat):GE:=(gX (gX 0 (gI 2)) (gI 0))
def Nf(q:Nat):GS:=(cF (aA (bK bB (bj cHall "stopped" (zR q) 0 gN) (cg q (bC false eM (bj cHall "bags" (vG q) 0 gN)) 0 Ia Ib 1 []))))
def E8:=aT 1 1 Nf
theorem d0r:OD "busy_belts" 32 4 1 E8:=cC (λT=>T.lJ.fn)
def Jg(q:Nat):GS:=(dH (au 3 false (gC (.str "abcdefghijklmnopqrstuvwxyz"))) (dH (au 4 false (aw (kT q) (dI 0 1 (gI 26)))) (oo (cG (gQ fU (aw (jM q) (dI 0 1 (gI 3))) (gI 0)) (aA (bK jA (gX 3 (bK ia (bK bB 4 (bK rK 2 (gI 8))) (gI 26))) (bK bB (gI 1) (bK ia 2 (gI 8)))))) (au 5 false (bK bB (gI 1) (aw (mU q) (dI 0 1 (gI 8))))) (au 6 false (aw (jM q) (dI 0 1 5))) (au 7 false (gX 3 (aw (ip q) (kj 0 1 (gI 3) (gI 26))))) (aA (bK bB (bK bB (bK jA 7 6) (gX 3 (bK ia (bK bB (bK jA (gI 7) 2) 4) (gI 26)))) (bK jA 7 (bK lU (bK lU 5 (gI 1)) 6)))))))
def qw:=aT 3 8 Jg
theorem e5g:OD "_law_name" 48 4 3 qw:=cC (λT=>T.qU.fn)
def uf(n1:Nat):GS:=(i_ (au 9 false (gX 5 (aw (ip n1) (kj 0 (bK bB (gI 6) 1) (bK bB (gI 1) 8) (gO (o1 eO) (br 5)))))) (cG (gQ jG 9 6) (c_ (eG n1 "list" BV 6 (bO (bK ia (bK ia (bK rK 7 (gX (aW false (dI (gI 1) (gI 4) (gI 16))) 8)) (gI 4)) (bK bB (gO (o1 eO) (br 6)) (gI 1))) 9)))))
def IC(n1:Nat):GT:=(gQ jS 0 1)
noncomputable def ID(n1:Nat):GE:=0
def FG(q:Nat):GS:=(dH (au 4 false (xW 2 (Ap (bK bB 1 (gI 1))) Ao)) (dH (au 5 false (bK bB 4 3)) (oo (au 6 true (aW false gN)) (au 7 false (aw (mU q) (dI 0 (bK bB (gI 1) 1) (gI 64)))) (bH q (iG kB (br (bK bB (gI 1) (aw (kT q) (dI 0 (bK bB (gI 6) 1) (gI 3)))))) 8 uf) (cG (cQ (gQ jG (gX 3 (gI 0)) 6) (gQ fU (gO (o1 eO) (br (cg q (bC false eM 6) 0 IC ID 1 [4]))) (gI 0))) (c_ (eG q "list" BV 6 (bO (aw (ip q) (kj 0 (bK bB (gI 1) 1) (gI 3) (bK bB (gO (o1 eO) (br 6)) (gI 1)))) (gX 3 (gI 0)))))) (aA 6))))
def p6:=aT 4 10 FG
theorem e5h:OD "_law_outs" 49 4 4 p6:=cC (λT=>T.qV.fn) (N:=["_law_script","_law_k","_law_names","_law_carts","_law_later","_law_some","_law_outs_here","_law_spots","_law_j","_law_out"])
def Fb(q:Nat):GS:=(om (au 2 false (aw (kT q) (dI 0 (bK bB 1 (gI 1)) (gI 10)))) (cG (gQ fU 2 (gI 0)) (aA (bK lU (gO (o1 uS) (br (gI 1))) (bK ia (aw (oP q) (bO 0 1)) (bK Cg (gI 10) (gI 8)))))) (cG (gQ fU 2 (gI 1)) (aA (bK ia (aw (oP q) (bO 0 1)) (bK Cg (gI 10) (gI 9))))) (aA (aw (ip q) (kj 0 (bK bB 1 (gI 1)) (gI 3) (gI 30)))))
def vF:=aT 2 3 Fb
theorem d3w:OD "_law_closing" 53 4 2 vF:=cC (λT=>T.mS.fn)
def uh(q:Nat):GS:=(cF (fM (gQ fU (gX 1 (gI 0)) (gC (.str "flight"))) (cF (c_ (bj cHall "flight" (Fj q) 0 (dI (gX 1 (gI 1)) (gX 1 (gI 2)) (gX 1 (gI 3)))))) (cF (fM (gQ fU (gX 1 (gI 0)) (gC (.str "change"))) (cF (c_ (bj cHall "change" (Fl q) 0 (bO (gX 1 (gI 1)) (gX 1 (gI 2)))))) (cF (fM (gQ fU (gX 1 (gI 0)) (gC (.str "off"))) (cF (c_ (bj cHall "call_off" (E7 q) 0 (br (gX 1 (gI 1)))))) (cF (fM (gQ fU (gX 1 (gI 0)) (gC (.str "put"))) (cF (cG (gQ pk (gO (o1 eO) (br (bj cHall "bags" (vG q) 0 gN))) (gI 8)) (c_ (bj cHall "put" (vI q) 0 (dI (gX 1 (gI 1)) (gX 1 (gI 2)) (gX 1 (gI 3))))))) (cF (fM (gQ fU (gX 1 (gI 0)) (gC (.str "read"))) (cF (c_ (bj cHall "read" (FE q) 0 (bO (gX 1 (gI 1)) (gX 1 (gI 2)))))) (cF (fM (gQ fU (gX 1 (gI 0)) (gC (.str "stop"))) (cF (c_ (bj cHall "stop" (BK q) 0 (br (gX 1 (gI 1)))))) (cF (cG (gQ fU (gX 1 (gI 0)) (gC (.str "start"))) (c_ (bj cHall "start" (zY q) 0 (br (gX 1 (gI 1)))))))))))))))))))
def rF:=aT 2 2 uh
theorem e5i:OD "_law_call" 55 4 2 rF:=cC (λT=>T.qQ.fn)
noncomputable def bV (n1:Nat):GS:=(cF (cv n1 (aW true (bO 3 4)) 1 2))
noncomputable def bW (n1:Nat):GS:=(cF (cv n1 (aW false (dI 7 8 9)) 5 6))
noncomputable def f9 (q:Nat):GS:=(oo (au 1 true og) (bH q (bC true eM (bj cHall "flights" (dU q) 0 gN)) (ba [2,3,4]) bV) (au 5 true og) (bH q (bC true eM (bj cHall "bags" (vG q) 0 gN)) (ba [6,7,8,9]) bW) (aA (nc (xE [((gC (.str "now")),(bj cHall "moment" (Fi q) 0 gN)),((gC (.str "flights")),1),((gC (.str "still")),(bj cHall "stopped" (zR q) 0 gN)),((gC (.str "inside")),5),((gC (.str "gone")),(bj cHall "out" (F4 q) 0 gN))]))))
noncomputable def bU:=aT 1 10 f9
theorem c6b:OD "_law_told_state" 57 4 1 bU:=cC (λT=>T.jX.fn)
def Nq(q:Nat):GS:=(nh (c_ (bj cHall "check_inside" (xq q) 0 (br 1))) (cG (cI (bj cHall "catches" (E' q) 0 (br 1))) (aA (gX (gX (bu atrs "book" 0) (gX (bu atrs "readings" 0) 1)) (gI 1)))) (aA (gX (gX (bu atrs "built" 0) (gI 1)) (gI 0))))
def Fc:=aT 2 2 Nq
theorem d3x:OM "cart_of" 20 4 2 Fc:=cC (λT=>T.mJ.fn)
def ug(n1:Nat):GS:=(nh (au 8 false (aw (xw n1) (bO 1 (gX 6 (gI 0))))) (fM (gQ pk (bK bB (gX 6 (gI 1)) (gI 1)) (gX 8 (gI 1))) (cF (au 9 false (aW true (bO (gX 6 (gI 0)) (bK bB (gX 6 (gI 1)) (gI 1)))))) (cF (fM (cQ (cI (gX 8 (gI 2))) (cQ (gQ y6 5 (gC .aI)) (gQ pk 7 (bj cHall "rounds" (Fh n1) 0 gN)))) (cF (au 9 false (aW true (bO (gX 6 (gI 0)) (gI 0))))) (cF (au 9 false (aw (qv n1) (kj 1 8 (bj cHall "cart_of" (Fc n1) 0 (br 4)) 2))))))) (c_ (eG n1 "list" rH 3 (br (aW true (bO 4 9))))))
def OT(q:Nat):GS:=(oo (au 1 false (bj cHall "house" (Fu q) 0 gN)) (au 2 false (aw (E8 q) (br 0))) (au 3 true (aW false gN)) (bH q (bC true eM (bj cHall "bags" (vG q) 0 gN)) (ba [4,5,6,7]) ug) (aA 3))
def xA:=aT 1 10 OT
theorem e5j:OD "wanted" 31 5 1 xA:=cC (λT=>T.q9.fn)
def Fd(n1:Nat):GE:=(aw (qw n1) (dI 1 (gI 11) 0))
def Fe(n1:Nat):GE:=(aw (qw n1) (dI 1 (gI 11) (bK bB (gI 10) 0)))
def oO(n1:Nat):GS:=(oo (au 5 false (bK fU (aw (kT n1) (dI 0 (bK bB (gI 1) 4) (gI 3))) (gI 0))) (au 6 false (bK bB (gI 1) (aw (jM n1) (dI 0 (bK bB (gI 1) 4) (gI 5))))) (cG (cQ (gQ fU 4 (gI 0)) (cQ (gQ pk (gO (o1 eO) (br 1)) (gI 3)) (gQ fU (aw (mU n1) (dI 0 (gI 0) (gI 3))) (gI 1)))) (au 6 false (bK bB (gI 10) (aw (ip n1) (kj 0 (gI 0) (gI 3) (gI 14)))))) (cG (cI 5) (au 6 false (bK bB 6 (gI 1)))) (c_ (eG n1 "list" rH 3 (br (aW true (kj (gX 1 4) 6 5 (aw (p6 n1) (kj 0 4 1 2))))))))
def Oa(q:Nat):GS:=(oo (au 1 false (cg q (iG kB (br (bK bB (gI 1) (aw (kT q) (dI 0 (gI 0) (gI 5)))))) 0 (λ_=>gw true) Fd 1 [0])) (au 2 false (cg q (iG kB (br (bK bB (gI 1) (aw (jM q) (dI 0 (gI 0) (gI 4)))))) 0 (λ_=>gw true) Fe 1 [0])) (au 3 true (aW false gN)) (bH q (iG kB (br (gO (o1 eO) (br 1)))) 4 oO) (aA (aW true (bO 3 2))))
def zZ:=aT 1 7 Oa
theorem e1f:OD "_law_house" 50 5 1 zZ:=cC (λT=>T.pS.fn) (N:=["_law_script","_law_names","_law_carts","_law_belts","_law_k","_law_ring","_law_long"])
def HZ(q:Nat):GS:=(i_ (cG (gQ fU 1 (gI 6)) (aA (gC (.str "A")))) (aA (aw (qw q) (dI 0 (gX (aW false (dI (gI 11) (gI 12) (gI 13))) (aw (ip q) (kj 0 (gI 12) (gI 4) (gI 3)))) 1))))
def zI:=aT 2 2 HZ
theorem c2l:OD "_law_flight_name" 51 5 2 zI:=cC (λT=>T.jx.fn)
def Ih(q:Nat):GS:=(i_ (cG (gQ fU 1 (gI 12)) (aA (gC (.str "b1")))) (aA (aw (qw q) (dI 0 (gX (aW false (dI (gI 11) (gI 12) (gI 13))) (aw (ip q) (kj 0 (gI 13) (gI 4) (gI 3)))) 1))))
def zN:=aT 2 2 Ih
theorem d0s:OD "_law_bag_name" 52 5 2 zN:=cC (λT=>T.lQ.fn)
def Jh(q:Nat):GS:=(nh (au 2 false (gC (.bl true))) (rV (cF (c_ (aw (rF q) (bO 0 1)))) [((wT i9),(cF (au 2 false (gC (.bl false)))))]) (aA 2))
def BL:=aT 2 3 Jh
theorem e5k:OD "_law_done" 56 5 2 BL:=cC (λT=>T.qS.fn)
def OU(q:Nat):GS:=(dH (c_ (aw (E4 q) (br 1))) (dH (fD q atrs "built" (aw (BI q) (br 1)) 0) (dH (fD q atrs "told_rounds" 2 0) (dH (fD q atrs "now" (gI 0) 0) (dH (fD q atrs "book" (jm og) 0) (dH (fD q atrs "halts" (jm og) 0) (oo (fD q atrs "places" (jm og) 0) (fD q atrs "readings" (jm og) 0) (fD q atrs "rounded" (jm og) 0) (fD q atrs "gone" (jm (aW false gN)) 0) (fD q atrs "carted" (jm og) 0))))))))
def BM:=aT 3 3 OU
theorem e5l:OM "__init__" 0 5 3 BM:=cC (λT=>T.qL.fn)
def BN(n1:Nat):GS:=(cF (fM (gQ jS 6 3) (cF (c_ (eG n1 "list" rH 4 (br (aW true (kj 6 8 8 (gX 3 6))))))) (i_ (c_ (eG n1 "list" rH 4 (br (aW true (kj 6 8 (gX 2 6) (gC .aI)))))) (c_ (eG n1 "list" rH 5 (br (aW true (bO 6 (gX 2 6)))))))))
def Q2(q:Nat):GS:=(dH (au 1 false (bj cHall "bags" (vG q) 0 gN)) (dH (au 2 false (gO (o1 oW) (br (aw (xA q) (br 0))))) (dH (au 3 true og) (dH (c_ (aw (EX q) (kj 1 2 (bj cHall "stopped" (zR q) 0 gN) 3))) (dH (c_ (aw (ET q) (dI 1 2 3))) (dH (c_ (aw (E0 q) (dI 1 2 3))) (oo (au 4 true (aW false gN)) (au 5 true (aW false gN)) (bH q (bC true eM 1) (ba [6,7,8,9]) BN) (c_ (bj cHall "move" (FF q) 0 (br 5))) (aA 4))))))))
def B9:=aT 1 10 Q2
theorem e9e:OD "turn" 34 6 1 B9:=cC (λT=>T.wW.fn)
def Ff(n1:Nat):GE:=(gX 0 (gI 0))
def rD(q:Nat):GS:=(dH (cG (gQ pk 3 (gI 3)) (aA (aW false (br 10)))) (dH (cG (gQ fU 3 (gI 3)) (aA (aW false (br (aW true (dI (gC (.str "change")) 5 (aw (vF q) (bO 0 1)))))))) (dH (cG (gQ fU 3 (gI 4)) (aA (aW false (br (aW true (bO (gC (.str "off")) 5)))))) (oo (cG (gQ fU 3 (gI 5)) (aA (aW false (bO (aW true (bO (gC (.str "off")) 5)) 10)))) (fM (gQ pk 3 (gI 11)) (i_ (cG (gQ fU (aw (jM q) (dI 0 (bK bB 1 (gI 1)) (gI 3))) (gI 0)) (aA (aW false (br (aW true (kj (gC (.str "put")) 6 (gC .aI) 8)))))) (aA (aW false (br (aW true (kj (gC (.str "put")) 6 5 8)))))) ko) (cG (gQ fU 3 (gI 11)) (aA (aW false (br (aW true (dI (gC (.str "read")) 6 5)))))) (cG (gQ pk 3 (gI 14)) (aA (aW false (br (aW true (bO (gX (aW false (bO (gC (.str "stop")) (gC (.str "start")))) (bK lU 3 (gI 12))) 8)))))) (aA (aW false (br (aW true (bO (gC (.str "turn")) (bK bB (gI 1) (aw (mU q) (dI 0 (bK bB 1 (gI 1)) (uC (gQ So (gX (gX (gX 2 (gI 0)) (gI 0)) (gI 1)) (gI 9)) (gI 12) (gI 4))))))))))))))
def IT(rest:GS)(q:Nat):GS:=(dH (au 3 false (aw (kT q) (dI 0 1 (gI 20)))) (dH (au 4 false (aw (mU q) (dI 0 1 (gI 10)))) (dH (au 5 false (aw (zI q) (bO 0 (uC (gQ fU 4 (gI 9)) (gI 6) (bK ia 4 (gI 3)))))) (dH (au 6 false (aw (zN q) (bO 0 (aw (jM q) (dI 0 1 (gI 13)))))) (dH (au 7 false (cg q (bC false eM (gX 2 (gI 0))) 0 (λ_=>gw true) Ff 1 [])) (dH (au 8 false (gX (bK bB (bK bB 7 7) (xW (gX 2 (gI 1)) Ao (Ap (gI 1)))) (aw (mU q) (dI 0 (bK bB 1 (gI 1)) (bK bB (bK jA (gI 2) (gO (o1 eO) (br 7))) (gI 1)))))) (dH (au 9 false (bK bB (gX 2 (gI 1)) (xW 7 Ao (Ap (gI 1))))) (dH (au 10 false (aW true (kj (gC (.str "flight")) 5 (gX 9 (aw (jM q) (dI 0 (bK bB 1 (gI 1)) (gO (o1 eO) (br 9))))) (aw (vF q) (bO 0 1))))) rest))))))))
def pZ(q:Nat):GS:=(IT (rD q) q)
def xx:=aT 3 11 pZ
theorem e1g:OD "_law_deeds" 54 6 3 xx:=cC (λT=>T.pQ.fn) (N:=["_law_script","_law_k","_law_house_here","_law_kind","_law_mark","_law_flight","_law_bag","_law_belts","_law_belt_here","_law_carts","_law_told"])
def Bt(r:Nat->GM)(n1:Nat):GS:=(cF (cG (dY (cI (aw (r n1) (bO (gX 0 3) (gX 1 3))))) (aA (gC (.bl false)))))
def oQ(r:Nat->GM)(q:Nat):GS:=(om (fM (cI (gO (o2 cM) (bO 1 (aW true (bO (gC (.ty "tuple")) (gC (.ty "list"))))))) (om (au 2 false (uC (cI (gO (o2 cM) (bO 1 (gC (.ty "tuple"))))) (gO (o2 cM) (bO 0 (gC (.ty "tuple")))) (gO (o2 cM) (bO 0 (gC (.ty "list")))))) (cG (iI (dY (cI 2)) (gQ (o2 Hb) (gO (o1 eO) (br 0)) (gO (o1 eO) (br 1)))) (aA (gC (.bl false)))) (bH q (iG kB (br (gO (o1 eO) (br 1)))) 3 (Bt r)) (aA (gC (.bl true)))) ko) (cG (gQ y6 1 (gC .aI)) (aA (bK y6 0 (gC .aI)))) (cG (cI (gO (o2 cM) (bO 1 (gC (.ty "str"))))) (aA (rR (gO (o2 cM) (bO 0 (gC (.ty "str")))) (bK fU 0 1)))) (aA (rR (gO (o2 cM) (bO 0 (gC (.ty "int")))) (rR (CD (gO (o2 cM) (bO 0 (gC (.ty "bool"))))) (bK fU 0 1)))))
def Ab:=AK 2 4 oQ 5
theorem e5m:OD "_law_same" 61 6 2 Ab:=okR (c:=1) (λT=>T.qY.fn) 5
noncomputable def iE (n3:Nat):GS:=(cF (c_ (aw (B9 n3) (br 3))))
noncomputable def eZ (n2:Nat):GS:=(cF (fM (gQ fU (gX 5 (gI 0)) (gC (.str "turn"))) (cF (bH n2 (iG kB (br (gX 5 (gI 1)))) 6 iE)) (cF (c_ (aw (BL n2) (bO 3 5))))))
noncomputable def jO (n2:Nat):GE:=(aW true (bO 0 (aw (tD n2) (kj 1 2 3 0))))
noncomputable def e_ (n1:Nat):GS:=(dH (bH n1 (bC true eM (aw (xx n1) (dI 0 4 1))) 5 eZ) (dH (au 7 false (aw (bU n1) (br 3))) (oo (au 8 false (cg n1 (bC false eM (aw (z_ n1) (bO 1 7))) 0 (λ_=>gw true) jO 1 [1,7,2])) (au 9 true (aw (xA n1) (br 3))) (cG (dY (cI (aw (Ab n1) (bO 9 8)))) (aA (gC (.bl false)))) (c_ (eG n1 "list" Gj 9 gN)) (cG (iI (dY (cI (aw (Ab n1) (bO (aw (xA n1) (br 3)) 8)))) (gQ (o2 Ha) (aw (bU n1) (br 3)) 7)) (aA (gC (.bl false)))))))
noncomputable def nt (q:Nat):GS:=(oo (au 1 false (aw (zZ q) (br 0))) (au 2 false (aw (kT q) (dI 0 (gI 14) (gI 3)))) (au 3 false (rS cHall (BM q) (bO 1 2))) (bH q (iG u0 (dI (gI 15) (bK bB (gI 23) (bK jA (gI 2) (aw (jM q) (dI 0 (gI 14) (gI 20))))) (gI 2))) 4 e_) (aA (gC (.bl true))))
noncomputable def oK:=aT 1 10 nt
theorem e5n:OD "law" 65 7 1 oK:=cC (λT=>T.q8.fn)
variable{i n:Nat}
abbrev Pr(M:Nat->GM)(vs:List Val)(r:Rv):Prop:=∀q S,M q vs S=some (.ok r S)
noncomputable abbrev bq(ns:List Int):D:=.lst (ns.map D.int)
theorem qq0{α:Type _}{a:α}{l:List α}:(a::l)[0]?=some a:=rfl
theorem qq1{α:Type _}{a:α}{l:List α}:(a::l)[i+1]?=l[i]?:=rfl
theorem qq2{α:Type _}{a:α}{l:List α}:(a::l).length=l.length+1:=rfl
theorem qq3{α:Type _}:([]:List α).length=0:=rfl
theorem qq4{α:Type _}{x a:α}{l:List α}:(x::l).set 0 a=a::l:=rfl
theorem qq5{α:Type _}{x a:α}{l:List α}:(x::l).set (n+1) a=x::l.set n a:=rfl
theorem qq6{α β:Type _}{f:α->β}{a:α}{l:List α}:(a::l).map f=f a::l.map f:=rfl
theorem qq7{α β:Type _}{f:α->β}:([]:List α).map f=[]:=rfl
theorem qq8{α:Type _}{a:α}:List.replicate 0 a=[]:=rfl
theorem qq9{α:Type _}{a:α}:List.replicate (n+1) a=a::List.replicate n a:=rfl
theorem qqa{α:Type _}{a:α}{l:List α}:(a::l).take (i+1)=a::l.take i:=rfl
theorem qqb{α:Type _}{a:α}{l r:List α}:(a::l)++r=a::(l++r):=rfl
theorem qqc{α:Type _}(l:List α):[]++l=l:=rfl
theorem qqd{α:Type _}{l:List α}:l.take 0=[]:=rfl
theorem aJ:(false=true)=False:=qG
theorem qqf(n:Nat):0+n=n:=Nat.zero_add n
theorem U_(ns:List Int)(k v:Int)(h1:(k<(ns.length:Int))=True)(h2:dq (ns.map D.int) k=some (.int v)):Pr oP [.d (bq ns),aR k] (rd (.int v)):=by
 intro q S;unfold oP Je;simp only[↓ev,bx,h1,decide_true,h2,dX]
theorem Va(ns:List Int)(k:Int)(h1:(k<(ns.length:Int))=False):Pr oP [.d (bq ns),aR k] (rd (.int 0)):=by
 intro q S;unfold oP Je;simp only[↓ev,bx,h1,decide_false,aJ,dX]
theorem JP(ns:List Int)(k:Nat):∃v,Pr oP [.d (bq ns),aR k] (rd (.int v)):=by
 by_cases h:k<ns.length
 .exact⟨_,U_ ns k _ (bD (by lia)) (rG (by rw[dR,fG h];rfl))⟩
 .exact⟨_,Va ns k (eq_false (by lia))⟩
noncomputable abbrev Sn:List D:=[.int 2,.int 128,.int 8192,.int 524288,.int 33554432]
theorem J9(ns:List Int)(k a cb c0 c d:Int)(h0:Pr oP [.d (bq ns),aR 0] (rd (.int c0)))(hk:Pr oP [.d (bq ns),aR k] (rd (.int c)))(e:(c0%2 == 1)=true)
  (ha:dq Sn a=some (.int d)) (d0:(0<d)=True) (d1:(d<1073741824)=True) (m0:(0<cb)=True):Pr ip [.d (bq ns),aR k,aR a,aR cb] (rd (.int (c / d%64%cb))):=by
 intro q S;unfold ip IQ;simp only[↓ev,hk,aQ,h0,decide_true,aJ,f7,e,ha,d0,d1,and_self,m0,dX]
theorem J_(ns:List Int)(k a cb c0 c:Int)(h0:Pr oP [.d (bq ns),aR 0] (rd (.int c0)))(hk:Pr oP [.d (bq ns),aR k] (rd (.int c)))(e:(c0%2 == 1)=false)
  (k0:0<=k) (k1:k<1000) (a0:0<=a) (a1:a<1000) (m0:(0<cb)=True):∃v,Pr ip [.d (bq ns),aR k,aR a,aR cb] (rd (.int (v%cb))):=by
 have mk:((-(2^64)<k/\k<2^64 \/ -(2^64)<k/\k<2^64)=True):=bD (.inl ⟨by lia,by lia⟩)
 have m1:∀x:Int,(((-(2^64):Int)<1009/\(1009:Int)<2^64 \/ -(2^64)<x/\x<2^64)=True):=λx=>bD (.inl ⟨by decide,by decide⟩)
 have m2:∀x:Int,((-(2^64)<x/\x<2^64\/(-(2^64):Int)<48271/\(48271:Int)<2^64)=True):=λx=>bD (.inr ⟨by decide,by decide⟩)
 have m3:∀x:Int,(((-(2^64):Int)<5/\(5:Int)<2^64 \/ -(2^64)<x/\x<2^64)=True):=λx=>bD (.inl ⟨by decide,by decide⟩)
 have m4:∀x:Int,(((-(2^64):Int)<2/\(2:Int)<2^64 \/ -(2^64)<x/\x<2^64)=True):=λx=>bD (.inl ⟨by decide,by decide⟩)
 have m5:∀x:Int,((-(2^64)<x/\x<2^64\/(-(2^64):Int)<69621+2*a/\69621+2*a<2^64)=True):=λx=>bD (.inr ⟨by lia,by lia⟩)
 refine⟨((c%1000003+k*k+1009*a+7)*48271%999983+5*k+a)*(69621+2*a)%1000033,?_⟩;intro q S;unfold ip IQ;simp only[↓ev,hk,aQ,h0,decide_true,aJ,f7,e,mk,m1,m2,m3,m4,m5,m0,dX]
def bF(ns:List Int)(k a:Nat)(cb:Int):Int:=match ip 0 [.d (bq ns),aR k,aR a,aR cb] ⟨[],[]⟩ with
 |some (.ok (.v (.d (.int v))) _)=>v
 |_=>0
theorem e9f:∀a:Nat,a<5->∃d:Int,dq Sn (a:Int)=some (.int d)/\0<d/\d<1073741824
 |0,_=>⟨2,rfl,by decide,by decide⟩
 |1,_=>⟨128,rfl,by decide,by decide⟩
 |2,_=>⟨8192,rfl,by decide,by decide⟩
 |3,_=>⟨524288,rfl,by decide,by decide⟩
 |4,_=>⟨33554432,rfl,by decide,by decide⟩
 |n+5,h=>cO h (by lia)
theorem hZ(ns:List Int)(k a:Nat)(cb:Int)(hk:k<1000)(ha:a<5)(m0:0<cb):Pr ip [.d (bq ns),aR k,aR a,aR cb] (rd (.int (bF ns k a cb)))/\0<=bF ns k a cb/\bF ns k a cb<cb:=by
 obtain⟨c0,h0⟩:=JP ns 0;obtain⟨c,h1⟩:=JP ns k;obtain⟨v,e⟩:∃v,Pr ip [.d (bq ns),aR k,aR a,aR cb] (rd (.int (v%cb))):=by
  cases e:(c0%2 == 1) with
  |true=>
   obtain⟨d,d1,d2,d3⟩:=e9f a ha;exact⟨_,J9 ns k a cb c0 c d h0 h1 e d1 (bD d2) (bD d3) (bD m0)⟩
  |false=>exact J_ ns k a cb c0 c h0 h1 e (by lia) (by lia) (by lia) (by lia) (bD m0)
 have z:bF ns k a cb=v%cb:=by unfold bF;rw[e]
 rw[z];exact⟨e,Int.emod_nonneg _ (by lia),Int.emod_lt_of_pos _ m0⟩
theorem xX(ns:List Int)(k:Nat)(cb:Int)(hk:k<1000)(m0:0<cb):Pr kT [.d (bq ns),aR k,aR cb] (rd (.int (bF ns k 0 cb))):=by
 have h:=(hZ ns k 0 cb hk (by decide) m0).1
 have h:Pr ip [.d (bq ns),aR k,aR 0,aR cb] _:=h;intro q S;unfold kT OP;simp only[↓ev,h,dX]
theorem vJ(ns:List Int)(k:Nat)(cb:Int)(hk:k<1000)(m0:0<cb):Pr jM [.d (bq ns),aR k,aR cb] (rd (.int (bF ns k 1 cb))):=by
 have h:=(hZ ns k 1 cb hk (by decide) m0).1
 have h:Pr ip [.d (bq ns),aR k,aR 1,aR cb] _:=h;intro q S;unfold jM N8;simp only[↓ev,h,dX]
theorem xG(ns:List Int)(k:Nat)(cb:Int)(hk:k<1000)(m0:0<cb):Pr mU [.d (bq ns),aR k,aR cb] (rd (.int (bF ns k 2 cb))):=by
 have h:=(hZ ns k 2 cb hk (by decide) m0).1
 have h:Pr ip [.d (bq ns),aR k,aR 2,aR cb] _:=h;intro q S;unfold mU N9;simp only[↓ev,h,dX]
variable{i:Nat}
noncomputable abbrev Fw:Str:="abcdefghijklmnopqrstuvwxyz"
abbrev iu:List Nat:=Fw.cps.toList
theorem yK:iu.length=26:=by decide +kernel
theorem P':(Fw.length<=1000000)=True:=bD (by decide +kernel)
theorem e5o:iu.Nodup:=by decide +kernel
theorem xP(k:Int)(h0:0<=k)(h1:k<26):dq iu k=some (iu.getD k.toNat 0):=VM 0 h0 (by rw[yK];exact h1)
theorem Dm:∀i:Nat,i<26->∀n:Nat,n<9->MulOk ⟨#[iu.getD i 0]⟩ (n:Int):=by decide +kernel
theorem Dp:∀i:Nat,i<26->∀n:Nat,n<9->Txt.mul ⟨#[iu.getD i 0]⟩ (n:Int)=⟨(List.replicate n (iu.getD i 0)).toArray⟩:=by decide +kernel
theorem yP(i:Nat)(hi:i<26)(n:Nat)(hn:n<9):MulOk ⟨#[iu.getD i 0]⟩ (n:Int)/\Txt.mul ⟨#[iu.getD i 0]⟩ (n:Int)=⟨(List.replicate n (iu.getD i 0)).toArray⟩:=⟨Dm i hi n hn,Dp i hi n hn⟩
theorem Qa(a b:List Nat):(⟨a.toArray⟩:Str)++(⟨b.toArray⟩:Str)=⟨(a++b).toArray⟩:=by
 show(⟨a.toArray++b.toArray⟩:Str)=_
 simp_all
theorem Dq(ns:List Int)(q n b m:Int)(c:Nat)(z:Str)(hp:Pr kT [.d (bq ns),aR q,aR 26] (rd (.int b)))(ho:Pr jM [.d (bq ns),aR q,aR 3] (rd (.int 0)))
  (tM:dq iu ((b+n / 8)%26)=some c) (em:1+n%8=m) (hm:MulOk ⟨#[c]⟩ m=True) (hz:Txt.mul ⟨#[c]⟩ m=z):Pr qw [.d (bq ns),aR q,aR n] (rd (.str z)):=by
 intro q' S;unfold qw Jg;simp only[↓ev,aQ,hp,ho,aJ,f7,fW,and_self,decide_true,P',tM,em,hm,hz,dX]
theorem Dr(ns:List Int)(q n b v t sp r:Int)(cr cc:Nat)(z1 z2 z3 z4:Str)(hp:Pr kT [.d (bq ns),aR q,aR 26] (rd (.int b)))(ho:Pr jM [.d (bq ns),aR q,aR 3] (rd (.int v)))(hv:(v == 0)=false)
  (ht:Pr mU [.d (bq ns),aR q,aR 8] (rd (.int t))) (hs:Pr jM [.d (bq ns),aR q,aR (1+t)] (rd (.int sp))) (hr:Pr ip [.d (bq ns),aR q,aR 3,aR 26] (rd (.int r)))
  (Kx:dq iu r=some cr) (hac:dq iu ((7*n+b)%26)=some cc) (h7:((-(2^64):Int)<7/\(7:Int)<2^64 \/ -(2^64)<n/\n<2^64)=True) (m1:MulOk ⟨#[cr]⟩ sp=True) (e1:Txt.mul ⟨#[cr]⟩ sp=z1) (m2:MulOk ⟨#[cr]⟩ (1+t - 1 - sp)=True) (e2:Txt.mul ⟨#[cr]⟩ (1+t - 1 - sp)=z2)
  (l1:(z1.length+(⟨#[cc]⟩:Str).length<=1000000)=True) (e3:z1++(⟨#[cc]⟩:Str)=z3) (l2:(z3.length+z2.length<=1000000)=True) (e4:z3++z2=z4):Pr qw [.d (bq ns),aR q,aR n] (rd (.str z4)):=by
 intro q' S;unfold qw Jg;simp only[↓ev,aQ,hp,ho,aJ,f7,hv,ht,hs,hr,P',Kx,m1,e1,h7,decide_true,hac,l1,e3,m2,e2,l2,e4,dX]
def tQ(ns:List Int)(q n:Nat):List Nat:=if bF ns q 1 3=0 then List.replicate (1+n%8) (iu.getD (((bF ns q 0 26).toNat+n / 8)%26) 0)
 else List.replicate (bF ns q 1 (1+bF ns q 2 8)).toNat (iu.getD (bF ns q 3 26).toNat 0)++iu.getD ((7*n+(bF ns q 0 26).toNat)%26) 0::List.replicate ((bF ns q 2 8).toNat - (bF ns q 1 (1+bF ns q 2 8)).toNat) (iu.getD (bF ns q 3 26).toNat 0)
def jr(ns:List Int)(q n:Nat):Str:=⟨(tQ ns q n).toArray⟩
theorem uk(l:List Nat):(⟨l.toArray⟩:Str).length=l.length:=by show l.toArray.size=_;simp
theorem Gp(ns:List Int)(q:Nat)(hq:q<1000)(n:Nat)(hn:n<20):Pr qw [.d (bq ns),aR q,aR n] (rd (.str (jr ns q n))):=by
 obtain⟨p1,p2,p3⟩:=hZ ns q 0 26 hq (by decide) (by decide)
 obtain⟨o1,o2,o3⟩:=hZ ns q 1 3 hq (by decide) (by decide)
 obtain⟨t1,t2,t3⟩:=hZ ns q 2 8 hq (by decide) (by decide)
 obtain⟨r1,r2,r3⟩:=hZ ns q 3 26 hq (by decide) (by decide)
 obtain⟨s1,s2,s3⟩:=hZ ns q 1 (1+bF ns q 2 8) hq (by decide) (by lia)
 have hp:=xX ns q 26 hq (by decide)
 have ho:=vJ ns q 3 hq (by decide)
 have ht:=xG ns q 8 hq (by decide)
 have hs:=vJ ns q (1+bF ns q 2 8) hq (by lia)
 unfold jr tQ;split
 .rename_i h
  rw[h] at ho;have ei:(((bF ns q 0 26).toNat+n / 8)%26:Nat)=((bF ns q 0 26+(n:Int) / 8)%26).toNat:=by lia
  rw[ei];obtain⟨q1,q2⟩:=yP ((bF ns q 0 26+(n:Int) / 8)%26).toNat (by lia) (1+n%8) (by lia)
  exact Dq ns q n _ ((1+n%8:Nat):Int) _ _ hp ho (xP _ (by lia) (by lia)) (by lia) (bD q1) q2
 .rename_i h
  have ei:((7*n+(bF ns q 0 26).toNat)%26:Nat)=((7*(n:Int)+bF ns q 0 26)%26).toNat:=by lia
  rw[ei];obtain⟨q1,q2⟩:=yP (bF ns q 3 26).toNat (by lia) (bF ns q 1 (1+bF ns q 2 8)).toNat (by lia)
  obtain⟨q3,q4⟩:=yP (bF ns q 3 26).toNat (by lia) ((bF ns q 2 8).toNat - (bF ns q 1 (1+bF ns q 2 8)).toNat) (by lia)
  rw[show(((bF ns q 1 (1+bF ns q 2 8)).toNat:Nat):Int)=bF ns q 1 (1+bF ns q 2 8) by lia] at q1 q2
  rw[show(((bF ns q 2 8).toNat - (bF ns q 1 (1+bF ns q 2 8)).toNat:Nat):Int)=1+bF ns q 2 8 - 1 - bF ns q 1 (1+bF ns q 2 8) by lia] at q3 q4
  refine Dr ns q n _ _ _ _ _ _ _ _ _ (⟨(List.replicate (bF ns q 1 (1+bF ns q 2 8)).toNat (iu.getD (bF ns q 3 26).toNat 0)++[iu.getD ((7*(n:Int)+bF ns q 0 26)%26).toNat 0]).toArray⟩:Str) _ hp ho (by simpa using h) ht hs r1 (xP _ r2 r3) (xP _ (by lia) (by lia)) (bD (.inl ⟨by decide,by decide⟩)) (bD q1) q2 (bD q3) q4 (bD ?_) ?_ (bD ?_) ?_
  .rw[uk,pH];show _+1<=_;lia
  .exact Qa _ [_]
  .rw[uk,uk,dw,pH,pH];simp only[qq2,qq3];lia
  .rw[Qa,lG];rfl
theorem FH{l:List Nat}(h:i<l.length):l.getD i 0∈l:=by
 simp_all
theorem OV(ns:List Int)(q:Nat)(hq:q<1000)(n:Nat):∀c∈tQ ns q n,c∈iu:=by
 obtain⟨r1,r2,r3⟩:=hZ ns q 3 26 hq (by decide) (by decide)
 intro c hc;unfold tQ at hc;split at hc
 .rw[List.eq_of_mem_replicate hc];exact FH (by rw[yK];lia)
 .rw[iQ,y0a] at hc;rcases hc with hc|hc|hc
  .rw[List.eq_of_mem_replicate hc];exact FH (by rw[yK];lia)
  .rw[hc];exact FH (by rw[yK];lia)
  .rw[List.eq_of_mem_replicate hc];exact FH (by rw[yK];lia)
theorem Ar(ns:List Int)(q:Nat)(hq:q<1000)(n:Nat):1<=(tQ ns q n).length/\(tQ ns q n).length<=8:=by
 obtain⟨t1,t2,t3⟩:=hZ ns q 2 8 hq (by decide) (by decide)
 obtain⟨s1,s2,s3⟩:=hZ ns q 1 (1+bF ns q 2 8) hq (by decide) (by lia)
 unfold tQ;split
 .rw[pH];lia
 .rw[dw,kG,pH,pH];lia
theorem OW{j:Nat}(hi:i<26)(hj:j<26)(e:iu.getD i 0=iu.getD j 0):i=j:=by
 have h1:i<iu.length:=by rw[yK];exact hi
 have h2:j<iu.length:=by rw[yK];exact hj
 rw[zC,fG h1,zC,fG h2] at e;exact(Ew e5o).mp e
theorem Q3(ns:List Int)(q:Nat)(hq:q<1000)(n m:Nat)(hn:n<20)(hm:m<20)(e:jr ns q n=jr ns q m):n=m:=by
 obtain⟨p1,p2,p3⟩:=hZ ns q 0 26 hq (by decide) (by decide)
 have e:tQ ns q n=tQ ns q m:=by
  have:=congrArg Str.cps e;simpa[jr] using this
 unfold tQ at e;split at e
 .have l:=congrArg List.length e;rw[pH,pH] at l;have z:iu.getD (((bF ns q 0 26).toNat+n / 8)%26) 0=iu.getD (((bF ns q 0 26).toNat+m / 8)%26) 0:=by
   simp_all
  have:=OW (by lia) (by lia) z
  lia
 .have e:=List.append_cancel_left e;rw[List.cons.injEq] at e;have:=OW (by lia) (by lia) e.1
  lia
theorem YI:∀c∈iu,(Builtin.Str.occurrences Fw ⟨#[c]⟩ 0 Fw.length 1).isEmpty=false:=by decide +kernel
theorem e5p(c:Nat)(h:c∈iu):(Builtin.Str.occurrences (Str.ofString "abcdefghijklmnopqrstuvwxyz") (jB c) 0 (Str.ofString "abcdefghijklmnopqrstuvwxyz").length 1).isEmpty=false:=YI c h
theorem OX:∀n:Nat,(List.replicate n true).all id=true
 |0=>rfl
 |n+1=>by rw[List.replicate_succ,pI,OX n];rfl
theorem IU:∀bs:List Bool,ib (bs.map D.bl)=some bs
 |[]=>rfl
 |b::bs=>by rw[cU];unfold ib;rw[IU bs];rfl
theorem Ob(l:List Nat)(h1:1<=l.length)(h2:l.length<=8)(hc:∀c∈l,c∈iu):Pr n_ [.d (.str ⟨l.toArray⟩)] (rd (.bl true)):=by
 have e:∀q S,a_ (ae 0) (gw true) (E_ q) (l.map λc=>.str (jB c)) [none] S []=some (.ok ((List.replicate l.length true).map D.bl) S):=λq S=>by
  rw[qz (λ_=>D.bl true) l (by lia) λc m=>⟨rd (.bl true),by
   have h:=e5p c (hc c m);unfold E_;simp only[↓ev,aJ,h,mC],rfl⟩,List.map_replicate,List.map_const']
 have c1:(1<=((⟨l.toArray⟩:Str).length:Int))=True:=bD (by rw[uk];lia)
 have c2:(((⟨l.toArray⟩:Str).length:Int)<=8)=True:=bD (by rw[uk];lia)
 have c3:((⟨l.toArray⟩:Str).length<=1000000)=True:=bD (by rw[uk];lia)
 intro q S;unfold n_ Bz;simp only[↓ev,C9,aJ,c3,c1,decide_true,c2,e,IU,OX,dX]
abbrev P0(M:Nat->GM)(vs:List Val)(r:Rv):Prop:=∀S,M 0 vs S=some (.ok r S)
noncomputable abbrev dS(xs:List Str):List D:=xs.map D.str
theorem gZ(x:Str):∀xs:List Str,((dS xs).any λz=>gu z (.str x))=xs.contains x
 |[]=>rfl
 |y::r=>by
  rw[dS,cU,List.any_cons,<-dS,gZ x r,List.contains_cons,fB]
  congr 1
  exact BEq.comm
theorem g7(n:Nat)(xs:List Str):(dS xs).all (eC n)=true:=by
 rw[jJ];intro d hd;obtain⟨y,_,rfl⟩:=iS.mp hd;cases n <;> rfl
theorem Qb(xs:List Str)(i:Nat)(y:Str):(dS xs).take i++.str y::(dS xs).drop i=dS (l_ xs i y):=by
 grind [l_,List.map_take,List.map_drop]
noncomputable abbrev bX(S:aU)(xs:List D):aU:=⟨S.s++[.o (.lst xs)],S.r⟩
section
variable{S:aU}{ns:List Int}{k j sp d ll:Int}{s2 s3 s4:ak Val}{gE:List D}{outs:List Str}{y:Str}{a9:ak Val}
theorem e9g(hl:(gE.length:Int)=ll)(hd:Pr ip [.d (bq ns),aR (6+k),aR (1+j),aR ll] (rd (.int d)))(ha:dq gE d=some (.str y))(hc:outs.contains y=true):
  uf 0 [ao (bq ns),bI k,s2,s3,s4,ao (.lst gE),aN S.s.length,bI sp,bI j,a9] (bX S (dS outs))=some (.nx [ao (bq ns),bI k,s2,s3,s4,ao (.lst gE),aN S.s.length,bI sp,bI j,aY y] (bX S (dS outs))):=by
 unfold uf;simp only[↓ev,hl,hd,ha,aQ,dy,g7,gZ,hc,kH,aJ]
abbrev W3:List D:=[.int 1,.int 4,.int 16]
theorem e5q{w ol p:Int}{o2:List Str}(hl:(gE.length:Int)=ll)(hd:Pr ip [.d (bq ns),aR (6+k),aR (1+j),aR ll] (rd (.int d)))(ha:dq gE d=some (.str y))(hc:outs.contains y=false)
  (hw:dq W3 j=some (.int w)) (w0:(0<w)=True) (w1:(w<1073741824)=True) (el:((dS outs).length:Int)=ol) (o0:(0<ol+1)=True) (hp:sp / w%4%(ol+1)=p) (p0:(0<=p)=True) (p1:(p<2^62)=True) (p2:((dS outs).length<1000000)=True) (h2:(dS outs).take p.toNat++.str y::(dS outs).drop p.toNat=dS o2) :
  uf 0 [ao (bq ns),bI k,s2,s3,s4,ao (.lst gE),aN S.s.length,bI sp,bI j,a9] (bX S (dS outs))=some (.nx [ao (bq ns),bI k,s2,s3,s4,ao (.lst gE),aN S.s.length,bI sp,bI j,aY y] (bX S (dS o2))):=by
 unfold uf;simp only[↓ev,hl,hd,ha,aQ,dy,g7,gZ,hc,mC,aJ,hw,w0,w1,and_self,decide_true,el,o0,hp,p0,p1,p2,h2,iU]
end
theorem OY(ds:List D)(n:Nat):cutD ds (some (n:Int)) none=ds.drop n:=by
 unfold cutD;have e:HT.cP ds.length 0 (some (n:Int))=min n ds.length:=by
  unfold HT.cP;simp;lia
 have e2:HT.cP ds.length ds.length none=ds.length:=rfl;rw[e,e2];by_cases h:n<=ds.length
 .rw[Nat.min_eq_left h];exact EB (by rw[AY];exact bY _)
 .rw[Nat.min_eq_right (by lia),List.drop_eq_nil_of_le (bY _),List.drop_eq_nil_of_le (by lia),List.take_nil]
theorem Vb(xs:List Str)(k:Nat)(y:Str):(l_ xs k y).Perm (y::xs):=by
 unfold l_;refine(List.perm_middle (l₁:=xs.take k) (l₂:=xs.drop k)).trans ?_;rw[List.take_append_drop]
theorem Qc{xs:List Str}{k:Nat}{y:Str}(h:xs.Nodup)(hy:y∉xs):(l_ xs k y).Nodup:=(Vb xs k y).nodup_iff.mpr (qp.mpr ⟨hy,h⟩)
structure n8 (later carts:List Str) (hd:Str) (outs:List Str):Prop where
 nd:outs.Nodup
 sub:∀o∈outs,o∈later++carts
 ne:outs≠[]
 hand:hd∈outs\/∃o∈outs,o∈later
 len:outs.length<=4
theorem F5{xs:List Str}{k:Int}(h0:0<=k)(h1:k<xs.length):dq (dS xs) k=some (.str (xs.getD k.toNat "")):=by
 have AD:k.toNat<xs.length:=by lia
 have e:(dS xs)[k.toNat]?=some (.str (xs.getD k.toNat "")):=by simp[AD]
 have z:=rG e
 rwa[show((k.toNat:Nat):Int)=k by lia] at z
theorem Vc{xs:List Str}{i:Nat}(h:i<xs.length):xs.getD i ""∈xs:=by
 simp_all
theorem e9h:∀j:Nat,j<3->∃d:Int,dq W3 (j:Int)=some (.int d)/\0<d/\d<1073741824
 |0,_=>⟨1,rfl,by decide,by decide⟩
 |1,_=>⟨4,rfl,by decide,by decide⟩
 |2,_=>⟨16,rfl,by decide,by decide⟩
 |n+3,h=>cO h (by lia)
abbrev nu(S:aU)(ns:List Int)(k sp:Int)(s2:ak Val)(carts later:List Str)(a8 a9:ak Val):Gm:=[ao (bq ns),bI k,s2,ao (.lst (dS carts)),ao (.lst (dS later)),ao (.lst (dS (later++carts))),aN S.s.length,bI sp,a8,a9]
theorem YJ(ns:List Int)(k j:Nat)(sp:Int)(s2:ak Val)(carts later outs:List Str)(a9:ak Val)(hk:k<5)(hj:j<3)(sl:0<(later++carts).length)(Hi:(later++carts).length<=100)(nd:outs.Nodup)(sb:∀o∈outs,o∈later++carts)(ol:outs.length<=j):
  ∃o2 y,o2.Nodup/\(∀o∈o2,o∈later++carts)/\o2.length<=j+1/\o2≠[]/\∀S,uf 0 (nu S ns k sp s2 carts later ((bI j)) a9) (bX S (dS outs))=some (.nx (nu S ns k sp s2 carts later ((bI j)) ((aY y))) (bX S (dS o2))):=by
 obtain⟨d1,d2,d3⟩:=hZ ns (6+k) (1+j) ((later++carts).length:Int) (by lia) (by lia) (by lia)
 rw[show((6+k:Nat):Int)=6+(k:Int) by lia,show((1+j:Nat):Int)=1+(j:Int) by lia] at d1
 have ha:=F5 (xs:=later++carts) d2 d3;have hm:(later++carts).getD (bF ns (6+k) (1+j) ((later++carts).length:Int)).toNat ""∈later++carts:=Vc (by lia)
 generalize(later++carts).getD (bF ns (6+k) (1+j) ((later++carts).length:Int)).toNat ""=y at ha hm;have hl:((dS (later++carts)).length:Int)=((later++carts).length:Int):=by rw[bx]
 cases hc:outs.contains y with
 |true=>
  refine⟨outs,y,nd,sb,by lia,λz=>?_,λS=>e9g hl d1 ha hc⟩
  simp_all
 |false=>
  obtain⟨w,w1,w2,w3⟩:=e9h j hj;have o0:(0:Int)<(outs.length:Int)+1:=by lia
  have el:((dS outs).length:Int)=(outs.length:Int):=by rw[bx]
  have p0:0<=sp / w%4%((outs.length:Int)+1):=Int.emod_nonneg _ (by lia)
  have p1:sp / w%4%((outs.length:Int)+1)<(outs.length:Int)+1:=Int.emod_lt_of_pos _ o0;have hy:y∉outs:=by simpa using hc
  refine⟨_,y,Qc (k:=(sp / w%4%((outs.length:Int)+1)).toNat) nd hy,λo ho=>?_,by rw[FC];lia,λz=>?_,λS=>e5q hl d1 ha hc w1 (bD w2) (bD w3) el (bD o0) rfl (bD p0) (bD (by lia)) (bD (by rw[bx];lia)) (Qb _ _ _)⟩
  .rcases kz.mp ho with z|z
   .rw[z];exact hm
   .exact sb o z
  grind [FC]
theorem NJ(q:Nat)(S:aU)(outs later:List Str)(h:outs.length<=1000):a_ (ae 0) (IC q) (ID q) (dS outs) [none,ao (.lst (dS later))] S []=some (.ok (dS (outs.filter λo=>later.contains o)) S):=by
 rw[dS,uw (λo=>if later.contains o=true then some (.str o) else none) outs (by lia) λo m=>by
  unfold IC ID;cases hc:later.contains o with
  |true=>exact .inr ⟨rd (.str o),.str o,rfl,by simp only[↓ev,g7,aJ,gZ,hc],by simp only[↓ev],rfl⟩
  |false=>exact .inl ⟨rfl,by simp only[↓ev,g7,aJ,gZ,hc]⟩]
 congr 2
 induction outs with
 |nil=>rfl
 |cons o r ih=>
  grind
section
variable{S:aU}{ns:List Int}{k sp r:Int}{later carts o1 outs:List Str}{names:List D}{hand:Str}{a8 a9:ak Val}
structure ub (S:aU) (ns:List Int) (k sp r:Int) (later carts o1:List Str) (names:List D) (hand:Str) (a8 a9:ak Val):Prop where
 c1:cutD names (some (k+1)) none=dS later
 c2:((dS later).length+(dS carts).length<=1000000)=True
 ht:Pr mU [.d (bq ns),aR (1+k),aR 64] (rd (.int sp))
 hp:Pr kT [.d (bq ns),aR (6+k),aR 3] (rd (.int r))
 hi:Nat.ble (1+r).natAbs 1000000000000=true
 ap:dS later++dS carts=dS (later++carts)
 hl:aO (ae 8) (uf 0) (fO 0 (1+r).toNat) (nu S ns k sp ((ao (.lst names))) carts later none none) (bX S [])=some (.nx (nu S ns k sp ((ao (.lst names))) carts later a8 a9) (bX S (dS o1)))
 tM:dq (dS carts) 0=some (.str hand)
theorem YK(h:ub S ns k sp r later carts o1 names hand a8 a9)(hc:o1.contains hand=true):p6 0 [.d (bq ns),aR k,.d (.lst names),.d (.lst (dS carts))] S=some (.ok (.o (.lst (dS o1))) S):=by
 obtain⟨c1,c2,ht,hp,hi,ap,hl,tM⟩:=h;unfold p6 FG;simp only[↓ev,c1,aQ,c2,ap,aJ,ht,hp,hi,fH,hl,nu,bX,tM,dy,g7,gZ,hc,kH,uP,qA]
theorem YL(h:ub S ns k sp r later carts o1 names hand a8 a9)(hc:o1.contains hand=false)(hlen:o1.length<=1000){n:Int}(hn:((dS (o1.filter λo=>later.contains o)).length:Int)=n)(hz:(n == 0)=false):p6 0 [.d (bq ns),aR k,.d (.lst names),.d (.lst (dS carts))] S=some (.ok (.o (.lst (dS o1))) S):=by
 obtain⟨c1,c2,ht,hp,hi,ap,hl,tM⟩:=h;have e:=λq S=>NJ q S o1 later hlen
 unfold p6 FG;simp only[↓ev,c1,aQ,c2,ap,aJ,ht,hp,hi,fH,hl,nu,bX,tM,dy,g7,gZ,hc,mC,e,hn,f7,hz,uP,qA]
theorem Wx(h:ub S ns k sp r later carts o1 names hand a8 a9)(hc:o1.contains hand=false)(hlen:o1.length<=1000)(hn:((dS (o1.filter λo=>later.contains o)).length:Int)=0){d ol:Int}(el:((dS o1).length:Int)=ol)(hd:Pr ip [.d (bq ns),aR (1+k),aR 3,aR (ol+1)] (rd (.int d)))
  (p0:(0<=d)=True) (p1:(d<2^62)=True) (p2:((dS o1).length<1000000)=True) (h2:(dS o1).take d.toNat++.str hand::(dS o1).drop d.toNat=dS outs):p6 0 [.d (bq ns),aR k,.d (.lst names),.d (.lst (dS carts))] S=some (.ok (.o (.lst (dS outs))) S):=by
 obtain⟨c1,c2,ht,hp,hi,ap,hl,tM⟩:=h;have e:=λq S=>NJ q S o1 later hlen
 unfold p6 FG;simp only[↓ev,c1,aQ,c2,ap,aJ,ht,hp,hi,fH,hl,nu,bX,tM,dy,g7,gZ,hc,mC,e,hn,f7,fW,el,hd,p0,p1,p2,and_self,h2,iU,uP,qA]
end
theorem FI{n i:Nat}{d r:List Nat}(e:List.range n=d++i::r):d.length=i/\i<n:=by
 have h2:d.length<n:=by have:=congrArg List.length e;simp at this;lia
 have h1:=congrArg (λl=>l[d.length]?) e
 simp only[qE (bY _),Mr,qq0] at h1;rw[zA h2] at h1;have:=Option.some.inj h1;exact⟨this,this ▸ h2⟩
theorem nz(n:Nat):fO 0 n=(List.range n).map λ(i:Nat)=>D.int (i:Int):=by
 unfold fO;simp only[Int.zero_add]
theorem e5r(ns:List Int)(k:Nat)(names carts:List Str)(hand:Str)(hk:k<5)(hl:names.length<=5)(hh:carts.head?=some hand)(hc:carts.length<=4):
  ∃outs,n8 (names.drop (k+1)) carts hand outs/\∀S,p6 0 [.d (bq ns),aR k,.d (.lst (dS names)),.d (.lst (dS carts))] S=some (.ok (.o (.lst (dS outs))) S):=by
 have hc0:0<carts.length:=by cases carts with|nil=>cases hh|cons a b=>simp
 obtain⟨r1,r2,r3⟩:=hZ ns (6+k) 0 3 (by lia) (by decide) (by decide)
 have hp:=xX ns (6+k) 3 (by lia) (by decide)
 have ht:=xG ns (1+k) 64 (by lia) (by decide)
 rw[show((6+k:Nat):Int)=6+(k:Int) by lia] at hp
 rw[show((1+k:Nat):Int)=1+(k:Int) by lia] at ht
 have sl:0<(names.drop (k+1)++carts).length:=by rw[dw];lia
 have Hi:(names.drop (k+1)++carts).length<=100:=by rw[dw,AY];lia
 obtain⟨⟨o1,a8,a9⟩,⟨nd,sb,ol,one⟩,e1⟩:=QY (gg:=ae 8) (body:=uf 0) (f:=λ(i:Nat)=>D.int (i:Int)) (λ(b:List Str×ak Val×ak Val) S=>(nu S ns k (bF ns (1+k) 2 64) ((ao (.lst (dS names)))) carts (names.drop (k+1)) b.2.1 b.2.2,bX S (dS b.1)))
  (λpre b=>b.1.Nodup/\(∀o∈b.1,o∈names.drop (k+1)++carts)/\b.1.length<=pre.length/\(pre≠[]->b.1≠[])) (List.range (1+bF ns (6+k) 0 3).toNat) ([],none,none)
  ⟨Hz,λo m=>(by cases m),bY _,λz=>cO rfl z⟩ (by
   rintro d i r eq ⟨outs,a8,a9⟩ ⟨nd,sb,ol,_⟩;obtain⟨hq,hi⟩:=FI eq;obtain⟨o2,y,n2,s2,l2,ne2,e2⟩:=YJ ns k i (bF ns (1+k) 2 64) ((ao (.lst (dS names)))) carts (names.drop (k+1)) outs a9 hk (by lia) sl Hi nd sb (jt ol (Ez hq))
   exact⟨(o2,bI i,(aY y)),⟨n2,s2,by rw[dw,t6,hq];exact l2,λ_=>ne2⟩,λS=>⟨_,rfl,.inl (e2 S)⟩⟩)
 dsimp only at nd sb ol one e1;rw[wN] at ol;have one:o1≠[]:=one (by intro z;have:=congrArg List.length z;simp at this;lia)
 have e1:=λS=>(congrArg (λl=>aO (ae 8) (uf 0) l _ _) (nz _)).trans (e1 S)
 have tM:dq (dS carts) 0=some (.str hand):=by
  cases carts with
  |nil=>cases hh
  |cons a b=>cases hh;exact rG (xs:=D.str hand::b.map D.str) (j:=0) rfl
 have hm:hand∈names.drop (k+1)++carts:=nU _ (List.mem_of_mem_head? hh);have H:∀S,ub S ns k (bF ns (1+k) 2 64) (bF ns (6+k) 0 3) (names.drop (k+1)) carts o1 (dS names) hand a8 a9:=λS=>⟨by rw[show(k:Int)+1=((k+1:Nat):Int) by lia,OY,dS,dS,HC],bD (by rw[bx,bx,AY];lia),ht,hp,MF (by lia),fV.symm,e1 S,tM⟩
 cases CN:o1.contains hand with
 |true=>exact⟨o1,⟨nd,sb,one,.inl (by simpa using CN),by lia⟩,λS=>YK (H S) CN⟩
 |false=>
  by_cases hf:(o1.filter λo=>(names.drop (k+1)).contains o).length=0
  .obtain⟨d1,d2,d3⟩:=hZ ns (1+k) 3 ((o1.length:Int)+1) (by lia) (by decide) (by lia)
   rw[show((1+k:Nat):Int)=1+(k:Int) by lia] at d1
   have hy:hand∉o1:=by simpa using CN
   refine⟨_,⟨Qc (k:=(bF ns (1+k) 3 ((o1.length:Int)+1)).toNat) nd hy,λo ho=>?_,λz=>?_,.inl (kz.mpr (.inl rfl)),by rw[FC];lia⟩,λS=>Wx (H S) CN (by lia) (by rw[bx,hf];rfl) (by rw[bx]) d1 (bD d2) (bD (by lia)) (bD (by rw[bx];lia)) (Qb _ _ _)⟩
   .rcases kz.mp ho with z|z
    .rw[z];exact hm
    .exact sb o z
   .have:=FC o1 (bF ns (1+k) 3 ((o1.length:Int)+1)).toNat hand;rw[z] at this;simp at this
  .refine⟨o1,⟨nd,sb,one,.inr ?_,by lia⟩,λS=>YL (H S) CN (by lia) rfl (by rw[bx];simp only[qH];lia)⟩
   simp_all
def ah(b:aq):D:=.tup [.str b.name,.int b.long,.bl b.ring,.lst (dS b.outs)]
def aE(h:aF):D:=.tup [.lst (h.af.map ah),.lst (dS h.carts)]
abbrev gK(S:aU)(ns:List Int)(names carts:List Str)(k:Int)(a5 a6:ak Val):Gm:=[ao (bq ns),ao (.lst (dS names)),ao (.lst (dS carts)),aN S.s.length,bI k,a5,a6]
section
variable{S:aU}{ns:List Int}{ki pv ov nl tv dv:Int}{names carts outs:List Str}{nm:Str}{bl:List D}{rg:Bool}{a5 a6:ak Val}
theorem hB0(hp:Pr kT [.d (bq ns),aR (1+ki),aR 3] (rd (.int pv)))(hr:(pv == 0)=rg)(ho:Pr jM [.d (bq ns),aR (1+ki),aR 5] (rd (.int ov)))(ha:dq (dS names) ki=some (.str nm))(hx:∀S,p6 0 [.d (bq ns),aR ki,.d (.lst (dS names)),.d (.lst (dS carts))] S=some (.ok (.o (.lst (dS outs))) S))(hb:(bl.length<1000000)=True)(e1:(ki == 0)=false):oO 0 (gK S ns names carts ki a5 a6) (bX S bl)=some (.nx (gK S ns names carts ki ((ao (.bl rg))) ((bI (if rg=true then(1+ov)+1 else(1+ov))))) (bX S (bl++[.tup [.str nm,.int (if rg=true then(1+ov)+1 else(1+ov)),.bl rg,.lst (dS outs)]]))):=by
 unfold oO gK bX;cases rg with
 |true=>simp only[↓ev,hp,aJ,f7,hr,aQ,ho,e1,dy,ha,hx,hb,iU]
 |false=>simp only[↓ev,hp,aJ,f7,hr,aQ,ho,e1,dy,ha,hx,hb,iU]
theorem hB1(hp:Pr kT [.d (bq ns),aR (1+ki),aR 3] (rd (.int pv)))(hr:(pv == 0)=rg)(ho:Pr jM [.d (bq ns),aR (1+ki),aR 5] (rd (.int ov)))(ha:dq (dS names) ki=some (.str nm))(hx:∀S,p6 0 [.d (bq ns),aR ki,.d (.lst (dS names)),.d (.lst (dS carts))] S=some (.ok (.o (.lst (dS outs))) S))(hb:(bl.length<1000000)=True)(e1:(ki == 0)=true)(el:((dS names).length:Int)=nl)(e2:(nl<3)=False):oO 0 (gK S ns names carts ki a5 a6) (bX S bl)=some (.nx (gK S ns names carts ki ((ao (.bl rg))) ((bI (if rg=true then(1+ov)+1 else(1+ov))))) (bX S (bl++[.tup [.str nm,.int (if rg=true then(1+ov)+1 else(1+ov)),.bl rg,.lst (dS outs)]]))):=by
 unfold oO gK bX;cases rg with
 |true=>simp only[↓ev,hp,aJ,f7,hr,aQ,ho,e1,el,e2,decide_false,dy,ha,hx,hb,iU]
 |false=>simp only[↓ev,hp,aJ,f7,hr,aQ,ho,e1,el,e2,decide_false,dy,ha,hx,hb,iU]
theorem hB2(hp:Pr kT [.d (bq ns),aR (1+ki),aR 3] (rd (.int pv)))(hr:(pv == 0)=rg)(ho:Pr jM [.d (bq ns),aR (1+ki),aR 5] (rd (.int ov)))(ha:dq (dS names) ki=some (.str nm))(hx:∀S,p6 0 [.d (bq ns),aR ki,.d (.lst (dS names)),.d (.lst (dS carts))] S=some (.ok (.o (.lst (dS outs))) S))(hb:(bl.length<1000000)=True)(e1:(ki == 0)=true)(el:((dS names).length:Int)=nl)(e2:(nl<3)=True)(ht:Pr mU [.d (bq ns),aR 0,aR 3] (rd (.int tv)))(e3:(tv == 1)=false):oO 0 (gK S ns names carts ki a5 a6) (bX S bl)=some (.nx (gK S ns names carts ki ((ao (.bl rg))) ((bI (if rg=true then(1+ov)+1 else(1+ov))))) (bX S (bl++[.tup [.str nm,.int (if rg=true then(1+ov)+1 else(1+ov)),.bl rg,.lst (dS outs)]]))):=by
 unfold oO gK bX;cases rg with
 |true=>simp only[↓ev,hp,aJ,f7,hr,aQ,ho,e1,el,e2,decide_true,ht,e3,dy,ha,hx,hb,iU]
 |false=>simp only[↓ev,hp,aJ,f7,hr,aQ,ho,e1,el,e2,decide_true,ht,e3,dy,ha,hx,hb,iU]
theorem hB3(hp:Pr kT [.d (bq ns),aR (1+ki),aR 3] (rd (.int pv)))(hr:(pv == 0)=rg)(ho:Pr jM [.d (bq ns),aR (1+ki),aR 5] (rd (.int ov)))(ha:dq (dS names) ki=some (.str nm))(hx:∀S,p6 0 [.d (bq ns),aR ki,.d (.lst (dS names)),.d (.lst (dS carts))] S=some (.ok (.o (.lst (dS outs))) S))(hb:(bl.length<1000000)=True)(e1:(ki == 0)=true)(el:((dS names).length:Int)=nl)(e2:(nl<3)=True)(ht:Pr mU [.d (bq ns),aR 0,aR 3] (rd (.int tv)))(e3:(tv == 1)=true)(hd:Pr ip [.d (bq ns),aR 0,aR 3,aR 14] (rd (.int dv))):oO 0 (gK S ns names carts ki a5 a6) (bX S bl)=some (.nx (gK S ns names carts ki ((ao (.bl rg))) ((bI (if rg=true then(10+dv)+1 else(10+dv))))) (bX S (bl++[.tup [.str nm,.int (if rg=true then(10+dv)+1 else(10+dv)),.bl rg,.lst (dS outs)]]))):=by
 unfold oO gK bX;cases rg with
 |true=>simp only[↓ev,hp,aJ,f7,hr,aQ,ho,e1,el,e2,decide_true,ht,e3,hd,dy,ha,hx,hb,iU]
 |false=>simp only[↓ev,hp,aJ,f7,hr,aQ,ho,e1,el,e2,decide_true,ht,e3,hd,dy,ha,hx,hb,iU]
end
theorem YM(ns:List Int)(k:Nat)(names carts:List Str)(hand:Str)(bs:List aq)(a5 a6:ak Val)(hk:k<names.length)(hl:names.length<=5)(hh:carts.head?=some hand)(hc:carts.length<=4)(hb:bs.length<=100):
  ∃b:aq,b.name=names.getD k ""/\(1<=b.long/\b.long<=26/\(b.long<=6\/k=0/\names.length<3))/\(b.ring=true->2<=b.long)/\n8 (names.drop (k+1)) carts hand b.outs/\∃a5' jN,∀S,oO 0 (gK S ns names carts k a5 a6) (bX S (bs.map ah))=some (.nx (gK S ns names carts k a5' jN) (bX S ((bs++[b]).map ah))):=by
 have hp:=xX ns (1+k) 3 (by lia) (by decide)
 have ho:=vJ ns (1+k) 5 (by lia) (by decide)
 obtain⟨o1,o2,o3⟩:=hZ ns (1+k) 1 5 (by lia) (by decide) (by decide)
 rw[show((1+k:Nat):Int)=1+(k:Int) by lia] at hp ho
 obtain⟨outs,ok,eo⟩:=e5r ns k names carts hand (by lia) hl hh hc
 have ha:=F5 (xs:=names) (k:=(k:Int)) (by lia) (by lia)
 rw[Hv] at ha;have ht:Pr mU [.d (bq ns),aR 0,aR 3] _:=xG ns 0 3 (by decide) (by decide)
 obtain⟨d1,d2,d3⟩:=hZ ns 0 3 14 (by decide) (by decide) (by decide)
 have d1:Pr ip [.d (bq ns),aR 0,aR 3,aR 14] _:=d1;have el:((dS names).length:Int)=(names.length:Int):=by rw[bx]
 have vW:((bs.map ah).length<1000000)=True:=bD (by rw[bx];lia)
 obtain⟨l',l1,e⟩:∃l':Int,(1<=l'/\l'<=25/\(l'<=5\/k=0/\names.length<3))/\∀S,oO 0 (gK S ns names carts k a5 a6) (bX S (bs.map ah))=some (.nx (gK S ns names carts k ((ao (.bl (bF ns (1+k) 0 3 == 0)))) ((bI (if(bF ns (1+k) 0 3 == 0)=true then l'+1 else l')))) (bX S (bs.map ah++[.tup [.str (names.getD k ""),.int (if(bF ns (1+k) 0 3 == 0)=true then l'+1 else l'),.bl (bF ns (1+k) 0 3 == 0),.lst (dS outs)]]))):=by
  cases e1:((k:Int) == 0) with
  |false=>exact⟨_,by lia,λS=>hB0 hp rfl ho ha eo vW e1⟩
  |true=>
   by_cases e2:(names.length:Int)<3
   .cases e3:(bF ns 0 2 3 == 1) with
    |false=>exact⟨_,by lia,λS=>hB2 hp rfl ho ha eo vW e1 el (bD e2) ht e3⟩
    |true=>exact⟨_,by have:=beq_iff_eq.mp e1;lia,λS=>hB3 hp rfl ho ha eo vW e1 el (bD e2) ht e3 d1⟩
   .exact⟨_,by lia,λS=>hB1 hp rfl ho ha eo vW e1 el (eq_false e2)⟩
 refine⟨aq.mk (names.getD k "") (if(bF ns (1+k) 0 3 == 0)=true then l'+1 else l') (bF ns (1+k) 0 3 == 0) outs,rfl,?_,λhr=>?_,ok,_,_,λS=>by rw[fV];exact e S⟩
 all_goals lia
theorem T5(q:Nat)(S:aU)(ns:List Int)(n:Nat)(hn:n<=14):a_ (ae 0) (gw true) (Fd q) (fO 0 n) [none,ao (bq ns)] S []=some (.ok (dS ((List.range n).map (jr ns 11))) S):=by
 rw[nz,qz (λk=>D.str (jr ns 11 k)) (List.range n) (by rw[wN];lia) λi m=>⟨rd (.str (jr ns 11 i)),by
  have h:Pr qw [.d (bq ns),aR 11,aR i] _:=Gp ns 11 (by decide) i (by have:=qm.mp m;lia)
  unfold Fd;generalize(i:Int)=ii at *;simp only[↓ev,h],rfl⟩,dS,eU]
 rfl
theorem T7(q:Nat)(S:aU)(ns:List Int)(n:Nat)(hn:n<=4):a_ (ae 0) (gw true) (Fe q) (fO 0 n) [none,ao (bq ns)] S []=some (.ok (dS ((List.range n).map λi=>jr ns 11 (10+i))) S):=by
 rw[nz,qz (λk=>D.str (jr ns 11 (10+k))) (List.range n) (by rw[wN];lia) λi m=>⟨rd (.str (jr ns 11 (10+i))),by
  have h:Pr qw [.d (bq ns),aR 11,aR ((10+i:Nat):Int)] _:=Gp ns 11 (by decide) (10+i) (by have:=qm.mp m;lia)
  rw[show((10+i:Nat):Int)=10+(i:Int) by lia] at h
  unfold Fe;generalize(i:Int)=ii at *;simp only[↓ev,h],rfl⟩,dS,eU]
 rfl
theorem Qd:∀{bs:List aq},(∀b∈bs,b.outs.length<=4)->(bs.map λx=>x.outs.length).sum<=4*bs.length
 |[],_=>bY _
 |b::bs,h=>by
  rw[cU,MG,kG];have:=Qd λb m=>h b (qo _ m)
  grind
theorem OZ(ns:List Int)(l:List Nat)(nd:l.Nodup)(hl:∀i∈l,i<14):(l.map (jr ns 11)).Nodup:=by
 rw[List.Nodup,EE];exact nd.imp_of_mem λha hb ne z=>ne (Q3 ns 11 (by decide) _ _ (by have:=hl _ ha;lia) (by have:=hl _ hb;lia) z)
theorem Vd(S:aU)(ns:List Int)(n c:Int)(names carts:List Str)(a4 a5 a6:ak Val)(bs:List D)(hp:Pr kT [.d (bq ns),aR 0,aR 5] (rd (.int n)))(ho:Pr jM [.d (bq ns),aR 0,aR 4] (rd (.int c)))
  (i1:Nat.ble (1+n).natAbs 1000000000000=true) (i2:Nat.ble (1+c).natAbs 1000000000000=true) (nl:Int) (el:((dS names).length:Int)=nl) (i3:Nat.ble nl.natAbs 1000000000000=true)
  (e1:∀q S,a_ (ae 0) (gw true) (Fd q) (fO 0 (1+n).toNat) [none,ao (bq ns)] S []=some (.ok (dS names) S)) (e2:∀q S,a_ (ae 0) (gw true) (Fe q) (fO 0 (1+c).toNat) [none,ao (bq ns)] S []=some (.ok (dS carts) S))
  (e3:aO (ae 4) (oO 0) (fO 0 nl.toNat) [ao (bq ns),ao (.lst (dS names)),ao (.lst (dS carts)),aN S.s.length,none,none,none] (bX S [])=some (.nx [ao (bq ns),ao (.lst (dS names)),ao (.lst (dS carts)),aN S.s.length,a4,a5,a6] (bX S bs))) :
  zZ 0 [.d (bq ns)] S=some (.ok (rd (.tup [.lst bs,.lst (dS carts)])) S):=by
 unfold zZ Oa;simp only[↓ev,hp,i1,fH,e1,aQ,ho,i2,e2,aJ,el,i3,e3,bX,dy,iU,qA]
variable{ks:List Str}
noncomputable def findB(bs:List aq)(n:Str):ak aq:=bs.find? λb=>b.name == n
structure rq (h:aF):Prop where
 bl:h.af.length<=100
 ct:h.carts.length<=100
 ou:(h.af.map λx=>x.outs.length).sum<=900
def jh(carts:List Str):List aq->Prop
 |[]=>True
 |b::bs=>(∀o∈b.outs,o∈bs.map aq.name\/o∈carts)/\b.name∉bs.map aq.name/\b.name∉carts/\jh carts bs
theorem FJ{carts:List Str}:∀{bs:List aq},jh carts bs->∀x∈bs,∀y∈bs,x.name=y.name->x=y
 |z::bs,f,x,hx,y,hy,e=>by
  rcases y0a.mp hx with tP|tP
  .rcases y0a.mp hy with yF|yF
   .rw[tP,yF]
   .exact cO (nG (f:=aq.name) yF) (by rw[<-e,tP];exact f.2.1)
  .rcases y0a.mp hy with yF|yF
   .exact cO (nG (f:=aq.name) tP) (by rw[e,yF];exact f.2.1)
   .exact FJ f.2.2.2 x tP y yF e
theorem z5{carts:List Str}:∀{bs:List aq},jh carts bs->∀c∈carts,c∉bs.map aq.name
 |[],_,c,_,h=>by cases h
 |b::bs,f,c,hc,h=>by
  rcases y0a.mp h with z|z
  .exact f.2.2.1 (by rw[<-z];exact hc)
  .exact z5 f.2.2.2 c hc z
theorem zX{carts:List Str}:∀{xs ys:List aq},jh carts (xs++ys)->jh carts ys
 |[],_,f=>f
 |_::xs,ys,f=>zX (xs:=xs) f.2.2.2
abbrev o9(x:Str):Prop:=Pr n_ [cV x] (rd (.bl true))
structure aH (h:aF):Prop where
 fwd:jh h.carts h.af
 sm:rq h
 nm:∀b∈h.af,o9 b.name
 cm:∀c∈h.carts,o9 c
 lg:∀b∈h.af,1<=b.long/\(b.ring=true->2<=b.long)
 hd:∀b∈h.af,h.carts.getD 0 ""∈b.outs\/∃o∈b.outs,o∈h.af.map aq.name
 cn:h.carts.Nodup
 c0:0<h.carts.length
 nd:∀b∈h.af,b.outs.Nodup
theorem xI(bs:List aq)(h:bs.length<=1000000):Pr tu [.d (.lst (bs.map ah))] (.o (.lst (dS (bs.map aq.name)))):=by
 have e:∀q S,a_ (ae 0) (gw true) (MU q) (bs.map ah) [none] S []=some (.ok (dS (bs.map aq.name)) S):=λq S=>by
  rw[qz (λb=>D.str (aq.name b)) bs h λb m=>⟨rd (.str b.name),by
   rfl,rfl⟩,dS,eU]
  rfl
 intro q S;unfold tu M_;simp only[↓ev,e,dX]
def nq(ks:List Str):List (TK×D):=ks.map λk=>(TK.inr k,.bl true)
noncomputable def h_(ks:List Str)(k:Str):List Str:=if ks.contains k then ks else ks++[k]
theorem vN(x:Str):∀ks:List Str,(aM (nq ks) (.inr x)).isSome=ks.contains x
 |[]=>rfl
 |k::ks=>by
  have ih:=vN x ks;unfold aM nq at *;rw[cU,A4,List.contains_cons];by_cases e:k=x
  .rw[oH (by rw[e]),e,fW]
   rfl
  .rw[sX (λz=>e (TK.inr.inj z)),show(x == k)=false by rw[qH];exact λz=>e z.symm]
   rw[Bool.false_or];exact ih
theorem Gq(k:Str):∀ks:List Str,bN (nq ks) (.inr k) (.bl true)=nq (h_ ks k)
 |[]=>rfl
 |j::ks=>by
  have ih:=Gq k ks
  grind [nq,bN,h_]
theorem JQ(ks:List Str):(nq ks).length=ks.length:=by unfold nq;rw[bx]
theorem O0(ks:List Str)(k:Str):(h_ ks k).length<=ks.length+1:=by
 unfold h_;split
 .lia
 .rw[dw,t6];exact bY _
theorem Wy{k n:Str}:n∈h_ ks k↔n=k\/n∈ks:=by
 grind [h_]
theorem e5s{x:Str}{S:aU}{n:Nat}(hs:S.s[n]?=some (.o (.av (nq ks))))(hn:o9 x)(hx:ks.contains x=false)(hl:(ks.length<1000000)=True):zP 0 [cV x,.c n] S=some (.ok (rd .aI) ⟨S.s.set n (.o (.av (nq (h_ ks x)))),S.r⟩):=by
 unfold zP Nm;simp only[↓ev,hn,aJ,hs,vN,hx,JQ,hl,Gq,Qt]
variable{S:aU}{n:Nat}{ks carts:List Str}
noncomputable abbrev tk(S:aU)(n:Nat)(ks:List Str):aU:=⟨S.s.set n (.o (.av (nq ks))),S.r⟩
theorem take1{x:Str}(hn:n<S.s.length)(hx:o9 x)(h:x∉ks)(hl:ks.length<1000):zP 0 [cV x,.c n] (tk S n ks)=some (.ok (rd .aI) (tk S n (ks++[x]))):=by
 have hc:ks.contains x=false:=by simpa using h
 rw[e5s (S:=tk S n ks) (n:=n) (t4 hn) hx hc (bD (by lia))]
 grind [h_,List.set_set]
theorem T8{d0 a:ak Val}(hn:n<S.s.length)(nm:∀c∈carts,o9 c)(nd:(ks++carts).Nodup)(hl:ks.length+carts.length<1000):
  ∃a',aO (ae 2) (EY 0) (dS carts) [d0,aN n,a] (tk S n ks)=some (.nx [d0,aN n,a'] (tk S n (ks++carts))):=by
 obtain⟨U',S',e,a',rfl,rfl⟩:=iC (gg:=ae 2) (body:=EY 0) (f:=D.str) (U:=[d0,aN n,a]) (S:=tk S n ks) (λpre U S'=>∃a',U=[d0,aN n,a']/\S'=tk S n (ks++pre)) carts ⟨a,rfl,by rw[kN]⟩ (by
  rintro d x r eq U S' ⟨a',rfl,rfl⟩;have h1:x∉ks++d:=by
   grind
  have h2:=congrArg List.length eq;rw[dw,kG] at h2;have h:=take1 hn (nm x (by rw[eq];simp)) h1 (by rw[dw];lia)
  refine⟨[d0,aN n,aY x],[d0,aN n,aY x],_,rfl,.inl ?_,_,rfl,rfl⟩;rw[<-lG];unfold EY;simp only[↓ev,h,vM])
 exact⟨a',e⟩
theorem YN(hn:n<S.s.length)(nm:∀c∈carts,o9 c)(nd:(ks++carts).Nodup)(hl:ks.length+carts.length<1000)(h0:carts≠[]):E2 0 [.d (.lst (dS carts)),.c n] (tk S n ks)=some (.ok (rd .aI) (tk S n (ks++carts))):=by
 obtain⟨a',e⟩:=T8 (d0:=(ao (.lst (dS carts)))) (a:=none) hn nm nd hl;have z:(dS carts).isEmpty=false:=by cases carts with|nil=>exact cO rfl h0|cons _ _=>rfl
 have lc:∀we,(tk S n we).cut (tk S n ks).s.length=tk S n we:=λwe=>by unfold aU.cut;simp only[t5];rw[EB (by rw[t5];exact bY _)]
 unfold E2 M3;simp only[↓ev,fH,e,z,mC,aJ,lc]
variable{S:aU}{n:Nat}{ks:List Str}
theorem e5t{c:Cell}{we:List Str}:(tk S n we).cut (S.s.set n c).length=tk S n we:=by
 grind [aU.cut,List.take_of_length_le]
theorem T9{bs:List aq}{d0 a2 a3 a4 a5 a6:ak Val}(hn:n<S.s.length)(nm:∀b∈bs,o9 b.name)(lg:∀b∈bs,1<=b.long/\(b.ring=true->2<=b.long))(nd:(ks++bs.map aq.name).Nodup)(hl:ks.length+bs.length<1000):
  ∃b2 b3 b4 b5 b6,aO (ba [(ae 2),(ae 3),(ae 4),(ae 5)]) (EZ 0) (bs.map ah) [d0,aN n,a2,a3,a4,a5,a6] (tk S n ks)=some (.nx [d0,aN n,b2,b3,b4,b5,b6] (tk S n (ks++bs.map aq.name))):=by
 obtain⟨U',S',e,b2,b3,b4,b5,b6,rfl,rfl⟩:=iC (gg:=ba [(ae 2),(ae 3),(ae 4),(ae 5)]) (body:=EZ 0) (f:=ah) (U:=[d0,aN n,a2,a3,a4,a5,a6]) (S:=tk S n ks) (λpre U S'=>∃b2 b3 b4 b5 b6,U=[d0,aN n,b2,b3,b4,b5,b6]/\S'=tk S n (ks++pre.map aq.name)) bs ⟨a2,a3,a4,a5,a6,rfl,by rw[EA,kN]⟩ (by
  rintro d x r eq U S' ⟨b2,b3,b4,b5,b6,rfl,rfl⟩;have h1:x.name∉ks++d.map aq.name:=by
   grind
  have h2:=congrArg List.length eq;rw[dw,kG] at h2;have mx:x∈bs:=by rw[eq];simp
  have h:=take1 hn (nm x mx) h1 (by rw[dw,bx];lia)
  obtain⟨l1,l2⟩:=lg x mx;have e1:∀b,ba [(ae 2),(ae 3),(ae 4),(ae 5)] (ah x) [d0,aN n,b2,b3,b4,b5,b]=some [d0,aN n,aY x.name,bI x.long,ao (.bl x.ring),ao (.lst (dS x.outs)),b]:=λ_=>rfl
  refine⟨_,[d0,aN n,aY x.name,bI x.long,ao (.bl x.ring),ao (.lst (dS x.outs)),bI (if x.ring=true then 2 else 1)],_,e1 _,.inl ?_,_,_,_,_,_,rfl,rfl⟩
  rw[fV,cU,EA,<-lG];unfold EZ;cases hr:x.ring with
  |true=>
   have z:(x.long<2)=False:=eq_false (by have:=l2 hr;lia)
   simp only[↓ev,h,vM,aQ,z,decide_false,aJ]
  |false=>
   have z:(x.long<1)=False:=eq_false (by lia)
   simp only[↓ev,h,vM,aJ,aQ,z,decide_false])
 exact⟨b2,b3,b4,b5,b6,e⟩
theorem YO{bs:List aq}(hn:n<S.s.length)(nm:∀b∈bs,o9 b.name)(lg:∀b∈bs,1<=b.long/\(b.ring=true->2<=b.long))(nd:(ks++bs.map aq.name).Nodup)(hl:ks.length+bs.length<1000):E3 0 [.d (.lst (bs.map ah)),.c n] (tk S n ks)=some (.ok (rd .aI) (tk S n (ks++bs.map aq.name))):=by
 obtain⟨b2,b3,b4,b5,b6,e⟩:=T9 (d0:=(ao (.lst (bs.map ah)))) (a2:=none) (a3:=none) (a4:=none) (a5:=none) (a6:=none) hn nm lg nd hl;unfold E3 M4;simp only[↓ev,fH,e,e5t]
variable{ks:List Str}
noncomputable abbrev ig(S:aU)(ks:List Str):aU:=⟨S.s++[.o (.av (nq ks))],S.r⟩
def bR(b:Str)(ks:List Str)(x:aq):List Str:=if(x.name == b || ks.contains x.name)=true then x.outs.foldl h_ ks else ks
theorem O2(outs:List Str):∀ks:List Str,(outs.foldl h_ ks).length<=ks.length+outs.length:=by
 induction outs with
 |nil=>intro ks;exact bY _
 |cons o outs ih=>
  grind [O0]
section
variable{S:aU}{g0 g1 g3 g4 g5 g6 a:ak Val}
theorem Lv{o:Str}(hl:(ks.length<1000000)=True):Bo 0 [g0,g1,aN S.s.length,g3,g4,g5,g6,aY o] (ig S ks)=some (.nx [g0,g1,aN S.s.length,g3,g4,g5,g6,aY o] (ig S (h_ ks o))):=by
 unfold Bo;simp only[↓ev,dy,JQ,hl,Gq,iU]
theorem Wz(outs ks:List Str)(h:ks.length+outs.length<1000000):∃a',aO (ae 7) (Bo 0) (dS outs) [g0,g1,aN S.s.length,g3,g4,g5,g6,a] (ig S ks)=some (.nx [g0,g1,aN S.s.length,g3,g4,g5,g6,a'] (ig S (outs.foldl h_ ks))):=by
 obtain⟨U',S',e,a',rfl,rfl⟩:=iC (gg:=ae 7) (body:=Bo 0) (f:=D.str) (U:=[g0,g1,aN S.s.length,g3,g4,g5,g6,a]) (S:=ig S ks) (λpre U S'=>∃a',U=[g0,g1,aN S.s.length,g3,g4,g5,g6,a']/\S'=ig S (pre.foldl h_ ks)) outs ⟨a,rfl,rfl⟩ (by
  rintro d x r eq U S' ⟨a',rfl,rfl⟩;have h2:=congrArg List.length eq;rw[dw,kG] at h2;have:=O2 d ks;refine⟨_,_,_,rfl,.inl (Lv (bD (by lia))),_,rfl,by rw[Mz];rfl⟩)
 exact⟨a',e⟩
theorem T_(b:Str)(bs:List aq)(ks:List Str)(a3 a4 a5 a6 a7:ak Val)(h:ks.length+(bs.map λx=>x.outs.length).sum<1000000):∃b3 b4 b5 b6 b7,aO (ba [(ae 3),(ae 4),(ae 5),(ae 6)]) (zQ 0) (bs.map ah) [g0,aY b,aN S.s.length,a3,a4,a5,a6,a7] (ig S ks)=some (.nx [g0,aY b,aN S.s.length,b3,b4,b5,b6,b7] (ig S (bs.foldl (bR b) ks))):=by
 obtain⟨U',S',e,b3,b4,b5,b6,b7,rfl,rfl,_⟩:=iC (gg:=ba [(ae 3),(ae 4),(ae 5),(ae 6)]) (body:=zQ 0) (f:=ah) (U:=[g0,aY b,aN S.s.length,a3,a4,a5,a6,a7]) (S:=ig S ks) (λpre U S'=>∃b3 b4 b5 b6 b7,U=[g0,aY b,aN S.s.length,b3,b4,b5,b6,b7]/\S'=ig S (pre.foldl (bR b) ks)/\(pre.foldl (bR b) ks).length<=ks.length+(pre.map λx=>x.outs.length).sum) bs ⟨a3,a4,a5,a6,a7,rfl,rfl,Hw _ _⟩ (by
  rintro d x r eq U S' ⟨b3,b4,b5,b6,b7,rfl,rfl,hl⟩;rw[eq,fV,cU,List.sum_append,MG] at h;have hf:=O2 x.outs (d.foldl (bR b) ks);have e1:ba [(ae 3),(ae 4),(ae 5),(ae 6)] (ah x) [g0,aY b,aN S.s.length,b3,b4,b5,b6,b7]=some [g0,aY b,aN S.s.length,aY x.name,bI x.long,ao (.bl x.ring),ao (.lst (dS x.outs)),b7]:=rfl;rw[Mz,fV,List.sum_append];show ∃U1 U' S',_/\_/\∃b3 b4 b5 b6 b7,U'=_/\S'=ig S (bR b (d.foldl (bR b) ks) x)/\(bR b (d.foldl (bR b) ks) x).length<=_+(_+(x.outs.length+0));obtain⟨a',e2⟩:=Wz (S:=S) (g0:=g0) (g1:=(aY b)) (g3:=(aY x.name)) (g4:=(bI x.long)) (g5:=(ao (.bl x.ring))) (g6:=(ao (.lst (dS x.outs)))) (a:=b7) x.outs (d.foldl (bR b) ks) (by lia)
  generalize d.foldl (bR b) ks=ks1 at *;unfold bR;cases c1:x.name == b with
  |true=>
   refine⟨_,_,_,e1,.inl (by unfold zQ;simp only[↓ev,aJ,fB,c1,fH,e2] <;> rfl),_,_,_,_,_,rfl,?_,?_⟩
   all_goals lia
  |false=>
   cases c2:ks1.contains x.name with
   |true=>
    refine⟨_,_,_,e1,.inl (by unfold zQ;simp only[↓ev,aJ,fB,c1,dy,vN,c2,fH,e2] <;> rfl),_,_,_,_,_,rfl,?_,?_⟩
    .rw[MH,bM rfl]
    .rw[MH,bM rfl];lia
   |false=>
    refine⟨_,_,_,e1,.inl (by unfold zQ;simp only[↓ev,aJ,fB,c1,dy,vN,c2] <;> rfl),_,_,_,_,_,rfl,?_,?_⟩
    all_goals lia)
 exact⟨b3,b4,b5,b6,b7,e⟩
theorem Th(q:Nat)(xs:List Str)(h:xs.length<=1000000):a_ (ae 0) (Ik q) (Il q) (dS xs) [none,aN S.s.length] (ig S ks) []=some (.ok (dS (xs.filter λo=>ks.contains o)) (ig S ks)):=by
 rw[dS,uw (λo=>if ks.contains o=true then some (.str o) else none) xs (by lia) λo m=>by
  unfold Ik Il;cases hc:ks.contains o with
  |true=>exact .inr ⟨rd (.str o),.str o,rfl,by simp only[↓ev,dy,aJ,vN,hc],by simp only[↓ev],rfl⟩
  |false=>exact .inl ⟨rfl,by simp only[↓ev,dy,aJ,vN,hc]⟩]
 congr 2
 induction xs with
 |nil=>rfl
 |cons o r ih=>
  grind
theorem Ve{h:aF}(sm:rq h)(b:Str):P0 Ft [.d (aE h),cV b] (.o (.lst (dS ((h.af.map aq.name++h.carts).filter λx=>(h.af.foldl (bR b) []).contains x)))):=by
 intro S;have h1:=sm.bl;have h2:=sm.ct;have h3:=sm.ou;obtain⟨b3,b4,b5,b6,b7,e⟩:=T_ (S:=S) (g0:=(ao (aE h))) b h.af [] none none none none none (by rw[A0];lia)
 have hn:=xI h.af (by lia)
 have hc:=λq=>Th (S:=S) (ks:=h.af.foldl (bR b) []) q (h.af.map aq.name++h.carts) (by rw[dw,bx];lia)
 have ap:dS (h.af.map aq.name)++dS h.carts=dS (h.af.map aq.name++h.carts):=fV.symm;have le:((dS (h.af.map aq.name)).length+(dS h.carts).length<=1000000)=True:=bD (by rw[bx,bx,bx];lia)
 have hD:aE h=.tup [.lst (h.af.map ah),.lst (dS h.carts)]:=rfl;rw[show ig S []=⟨S.s++[.o (.av [])],S.r⟩ from rfl] at e;rw[hD] at e ⊢;unfold Ft N7;simp only[↓ev,aQ,bQ,fH,e,ig,hn,cB,le,ap,hc,qA]
end
variable{outs:List Str}{b n:Str}{h:aF}
def Q4(bs:List aq)(b:Str):List Str:=bs.foldl (bR b) []
inductive RR (bs:List aq) (outs:List Str):Str->Prop
 |base {n:Str}:n∈outs->RR bs outs n
 |step {m n:Str} {b:aq}:RR bs outs m->b∈bs->b.name=m->n∈b.outs->RR bs outs n
theorem iL:∀{ks:List Str} {n:Str},n∈outs.foldl h_ ks↔n∈outs\/n∈ks:=by
 induction outs with
 |nil=>intro ks n;simp
 |cons o outs ih=>
  grind [Wy]
theorem Vf{ks:List Str}{x:aq}(h:n∈ks):n∈bR b ks x:=by
 unfold bR;split
 .exact iL.mpr (.inr h)
 .exact h
theorem Vg{bs:List aq}:∀{ks:List Str} {n:Str},n∈ks->n∈bs.foldl (bR b) ks:=by
 induction bs with
 |nil=>intro ks n h;exact h
 |cons x bs ih=>intro ks n h;exact ih (Vf h)
theorem Oc{carts:List Str}{b:Str}:∀{bs:List aq} {ks:List Str} {n:Str},jh carts bs->n∈bs.foldl (bR b) ks->n∈ks\/n∈bs.tail.map aq.name\/n∈carts
 |[],ks,n,_,h=>.inl h
 |x::bs,ks,n,f,h=>by
  rcases Oc f.2.2.2 h with z|z|z
  .unfold bR at z;split at z
   .rcases iL.mp z with z|z
    .rcases f.1 n z with z|z
     .exact .inr (.inl z)
     .exact .inr (.inr z)
    .exact .inl z
   .exact .inl z
  .refine .inr (.inl ?_);cases bs with
   |nil=>exact z
   |cons y bs=>exact qo _ z
  .exact .inr (.inr z)
theorem Ii{carts:List Str}{b:Str}:∀{bs:List aq} {ks:List Str},jh carts bs->∀x∈bs,(x.name=b\/x.name∈bs.foldl (bR b) ks)->∀o∈x.outs,o∈bs.foldl (bR b) ks
 |y::bs,ks,f,x,hx,hn,o,ho=>by
  rcases y0a.mp hx with rfl|hx
  .have h1:(x.name == b || ks.contains x.name)=true:=by
    rcases hn with hn|hn
    .lia
    .rcases Oc (b:=b) f hn with z|z|z
     .simp_all
     .exact cO z f.2.1
     .exact cO z f.2.2.1
   show o∈bs.foldl (bR b) (bR b ks x);refine Vg ?_;unfold bR;rw[bM h1];exact iL.mpr (.inl ho)
  .exact Ii (ks:=bR b ks y) f.2.2.2 x hx hn o ho
theorem O3{Cm:List aq}{b:aq}(hb:b∈Cm)(hu:∀x∈Cm,x.name=b.name->x=b):∀{bs:List aq} {ks:List Str},(∀x∈bs,x∈Cm)->(∀n∈ks,RR Cm b.outs n)->∀n∈bs.foldl (bR b.name) ks,RR Cm b.outs n
 |[],ks,_,h,n,hn=>h n hn
 |x::bs,ks,hs,h,n,hn=>O3 hb hu (λy hy=>hs y (qo _ hy)) (λm hm=>by
   unfold bR at hm;split at hm
   .rename_i hc
    rcases iL.mp hm with z|z
    .rw[Mq,beq_iff_eq,lh] at hc;rcases hc with hc|hc
     .rw[hu x (hs x AW) hc] at z;exact .base z
     .exact .step (h _ hc) (hs x AW) rfl z
    .exact h m z
   .exact h m hm) n hn
theorem Vh(f:jh h.carts h.af){b:aq}(hb:b∈h.af)(n:Str):n∈Q4 h.af b.name↔RR h.af b.outs n:=by
 unfold Q4;constructor
 .exact O3 hb (λx hx e=>FJ f x hx b hb e) (λ_ m=>m) (λ_ m=>by cases m) n
 .intro r
  induction r with
  |base m=>exact Ii f b hb (.inl rfl) _ m
  |step r hx hn hm ih=>exact Ii f _ hx (.inr (by rw[hn];exact ih)) _ hm
theorem WA{bs:List aq}{w:aq}(hw:w∈bs)(r:RR bs outs w.name)(r2:RR bs w.outs n):RR bs outs n:=by
 induction r2 with
 |base m=>exact .step r hw rfl m
 |step _ hb hn hm ih=>exact .step ih hb hn hm
theorem Jy{h:aF}(g:aH h):∀{bs pre:List aq},h.af=pre++bs->∀b∈bs,RR h.af b.outs (h.carts.getD 0 "")
 |x::bs,pre,eq,b,hb=>by
  have Av:h.af=(pre++[x])++bs:=by rw[eq];simp
  rcases y0a.mp hb with rfl|hb
  .have GQ:b∈h.af:=by rw[eq];simp
   have fx:jh h.carts (b::bs):=zX (by rw[<-eq];exact g.fwd)
   rcases g.hd b GQ with z|⟨o,z1,z2⟩
   .exact .base z
   .rcases fx.1 o z1 with y|y
    .obtain⟨w,hw,ew⟩:=iS.mp y;exact WA (w:=w) (by rw[Av];simp[hw]) (by rw[ew];exact .base z1) (Jy g Av w hw)
    .exact cO z2 (z5 g.fwd o y)
  .exact Jy g Av b hb
theorem Ak(g:aH h):h.carts.getD 0 ""∈h.carts/\dq (dS h.carts) 0=some (.str (h.carts.getD 0 "")):=by
 have:=g.c0;cases GV:h.carts with
 |nil=>rw[GV] at this;simp at this
 |cons c cs=>exact⟨by simp,rG (j:=0) rfl⟩
theorem e5u(g:aH h):P0 E6 [.d (aE h)] (rd .aI):=by
 intro S;have bl:=g.sm.bl;obtain⟨hc,i0⟩:=Ak g;have e1:=xI h.af (by lia)
 obtain⟨U',S',e,a,rfl,rfl⟩:=iC (gg:=ae 2) (body:=H_ 0) (f:=D.str) (U:=[ao (aE h),aY (h.carts.getD 0 ""),none]) (S:=S) (λ_ U S'=>∃a,U=[ao (aE h),aY (h.carts.getD 0 ""),a]/\S'=S) (h.af.map aq.name) ⟨_,rfl,rfl⟩ (by
  rintro d x r eq U S' ⟨a,rfl,rfl⟩;obtain⟨b,hb,rfl⟩:∃b∈h.af,b.name=x:=iS.mp (by rw[eq];simp)
  have e1:=Ve g.sm b.name;have hm:((h.af.map aq.name++h.carts).filter λx=>(h.af.foldl (bR b.name) []).contains x).contains (h.carts.getD 0 "")=true:=by
   rw[lh,tZ];exact⟨nU _ hc,lh.mpr ((Vh g.fwd hb _).mpr (Jy g (pre:=[]) rfl b hb))⟩
  refine⟨[ao (aE h),aY (h.carts.getD 0 ""),aY b.name],_,_,rfl,.inl ?_,aY b.name,rfl,rfl⟩;unfold H_;generalize((h.af.map aq.name++h.carts).filter λx=>(h.af.foldl (bR b.name) []).contains x)=l at *
  generalize h.carts.getD 0 ""=hand at *;simp only[↓ev,e1,g7,gZ,hm,kH,aJ])
 have hD:aE h=.tup [.lst (h.af.map ah),.lst (dS h.carts)]:=rfl;generalize h.carts.getD 0 ""=hand at *;rw[hD] at e ⊢;unfold E6 Nc;simp only[↓ev,cB,i0,aQ,bQ,e1,fH,e,dX]
theorem Ng{x z:Str}:∀{ys:List Str} {j:Nat},ys[j]?=some z->x∈ys->x≠z->x∈ys.eraseIdx j
 |y::ys,0,e,hx,fS=>by
  simp_all
 |y::ys,j+1,e,hx,fS=>by
  rw[List.getElem?_cons_succ] at e;show x∈y::ys.eraseIdx j;rcases y0a.mp hx with rfl|hx
  .exact .head _
  .exact .tail _ (Ng e hx fS)
 |[],_,_,hx,_=>by cases hx
theorem BA{z:Str}{ys:List Str}(h:z∈ys):∃j,findS ys z=some j:=by
 cases q:findS ys z with
 |some j=>exact⟨j,rfl⟩
 |none=>
  unfold findS at q;rw[List.findIdx?_eq_none_iff] at q;have:=q z h;simp at this
theorem WB(L:List Str)(j:Nat):(dS L).eraseIdx j=dS (L.eraseIdx j):=by
 grind [List.eraseIdx_eq_take_drop_succ,List.map_take,List.map_drop]
section
variable{S:aU}{s0 s1 s2 s3 s4 s5 a7:ak Val}
theorem LA{L:List Str}{x:Str}{j:Nat}(hc:L.contains x=true)(hj:findS L x=some j):Bi 0 [s0,s1,s2,s3,s4,s5,aN S.s.length,aY x] (bX S (dS L))=some (.nx [s0,s1,s2,s3,s4,s5,aN S.s.length,aY x] (bX S (dS (L.eraseIdx j)))):=by
 have h:=N3 L;unfold Bi;simp only[↓ev,bX,dy,g7,gZ,hc,kH,aJ,h,hj,WB,iU]
theorem YQ(outs L:List Str)(nd:outs.Nodup)(hs:∀o∈outs,o∈L):∃L' b7,aO (ae 7) (Bi 0) (dS outs) [s0,s1,s2,s3,s4,s5,aN S.s.length,a7] (bX S (dS L))=some (.nx [s0,s1,s2,s3,s4,s5,aN S.s.length,b7] (bX S (dS L'))):=by
 obtain⟨U',S',e,L',b7,rfl,rfl,_⟩:=iC (gg:=ae 7) (body:=Bi 0) (f:=D.str) (U:=[s0,s1,s2,s3,s4,s5,aN S.s.length,a7]) (S:=bX S (dS L)) (λpre U S'=>∃L' b7,U=[s0,s1,s2,s3,s4,s5,aN S.s.length,b7]/\S'=bX S (dS L')/\∀o∈outs,o∉pre->o∈L') outs ⟨L,a7,rfl,rfl,λo ho _=>hs o ho⟩ (by
  rintro q x post eq U S' ⟨L',b7,rfl,rfl,hL⟩;have hxq:x∉q:=λz=>by
   rw[eq] at nd;exact(mH.mp nd).2.2 x z x (.head _) rfl
  have hx:x∈L':=hL x (by rw[eq];simp) hxq
  obtain⟨j,hj⟩:=BA hx;refine⟨_,_,_,rfl,.inl (LA (lh.mpr hx) hj),L'.eraseIdx j,aY x,rfl,rfl,λo ho hq=>?_⟩
  simp only[iQ,mG,not_or] at hq;exact Ng (zT hj).1 (hL o ho hq.1) hq.2)
 exact⟨L',b7,e⟩
end
theorem WC(q:List aq)(x:aq)(post:List aq)(i:Int)(hi:i=(q.length:Nat)):cutD ((q++x::post).map ah) (some (i+1)) none=post.map ah:=by
 unfold cutD;have e4:HT.cP ((q++x::post).map ah).length 0 (some (i+1))=q.length+1:=by
  grind [HT.cP]
 have e5:HT.cP ((q++x::post).map ah).length ((q++x::post).map ah).length none=((q++x::post).map ah).length:=rfl;have e6:((q++x::post).map ah).drop (q.length+1)=post.map ah:=by
  rw[<-HC,show q++x::post=(q++[x])++post by simp,List.drop_left' (by simp)]
 grind
section
variable{S:aU}{h:aF}
theorem WD{d0:List D}{cs:List Str}{i:Int}{x:aq}{post:List aq}{a4 a5 a6 a7:ak Val}(hs:cutD d0 (some (i+1)) none=post.map ah)(hp:post.length<=1000)(hc:cs.length<=1000)(nd:x.outs.Nodup)(sb:∀o∈x.outs,o∈post.map aq.name++cs)(ne:x.outs≠[]):
  ∃L' b7,E1 0 [ao (.lst d0),ao (.lst (dS cs)),bI i,ao (ah x),a4,a5,a6,a7] S=some (.nx [ao (.lst d0),ao (.lst (dS cs)),bI i,ao (ah x),aY x.name,ao (.lst (dS x.outs)),aN S.s.length,b7] (bX S (dS L'))):=by
 obtain⟨L',b7,e⟩:=YQ (S:=S) (s0:=(ao (.lst d0))) (s1:=(ao (.lst (dS cs)))) (s2:=(bI i)) (s3:=(ao (ah x))) (s4:=(aY x.name)) (s5:=(ao (.lst (dS x.outs)))) (a7:=a7) x.outs (post.map aq.name++cs) nd sb;have e1:=xI post (by lia)
 have ap:dS (post.map aq.name)++dS cs=dS (post.map aq.name++cs):=fV.symm;have le:((dS (post.map aq.name)).length+(dS cs).length<=1000000)=True:=bD (by rw[bx,bx,bx];lia)
 have z:(dS x.outs).isEmpty=false:=by cases hz:x.outs with|nil=>exact cO hz ne|cons _ _=>rfl
 have hD:ah x=.tup [.str x.name,.int x.long,.bl x.ring,.lst (dS x.outs)]:=rfl;refine⟨L',b7,?_⟩;rw[hD] at e ⊢;unfold E1;simp only[↓ev,bQ,aQ,rJ,R9,hs,e1,le,ap,fH,e,z,mC,aJ]
theorem Vi(g:aH h)(ho:∀b∈h.af,b.outs≠[]):P0 E5 [.d (.lst (h.af.map ah)),.d (.lst (dS h.carts))] (rd .aI):=by
 intro S;have bl:=g.sm.bl;have ct:=g.sm.ct;have fw:=g.fwd;obtain⟨U',S',e,a2,a3,a4,a5,a6,a7,L,rfl,rfl⟩:=e9d (gg:=ba [(ae 2),(ae 3)]) (body:=E1 0) (U:=[ao (.lst (h.af.map ah)),ao (.lst (dS h.carts)),none,none,none,none,none,none]) (S:=S) ah (λpre U S'=>∃a2 a3 a4 a5 a6 a7 L,U=[ao (.lst (h.af.map ah)),ao (.lst (dS h.carts)),a2,a3,a4,a5,a6,a7]/\S'=⟨S.s++L,S.r⟩) h.af ⟨_,_,_,_,_,_,[],rfl,by rw[kN]⟩ (by
  rintro q x post eq U S' ⟨a2,a3,a4,a5,a6,a7,L,rfl,rfl⟩;have hb:x∈h.af:=by rw[eq];simp
  have hl:=congrArg List.length eq;rw[dw,kG] at hl;have fx:jh h.carts (x::post):=zX (by rw[<-eq];exact fw)
  have hs:=WC q x post (q.length:Nat) rfl;rw[<-eq] at hs;obtain⟨L',b7,e⟩:=WD (S:=⟨S.s++L,S.r⟩) (a4:=a4) (a5:=a5) (a6:=a6) (a7:=a7) (cs:=h.carts) hs (by lia) (by lia) (g.nd x hb) (λo m=>by
   rcases fx.1 o m with z|z
   .exact Eu _ z
   .exact nU _ z) (ho x hb)
  exact⟨_,_,_,rfl,e,_,_,_,_,_,_,L++[.o (.lst (dS L'))],rfl,by unfold bX;rw[lG]⟩)
 unfold E5 Na;simp only[↓ev,fH,e,qA]
theorem NK(g:aH h):(h.carts++h.af.map aq.name).Nodup:=by
 refine mH.mpr ⟨g.cn,?_,λa ha b hb e=>z5 g.fwd a ha (e ▸ hb)⟩
 have:∀{bs:List aq},jh h.carts bs->(bs.map aq.name).Nodup:=by
  intro bs
  induction bs with
  |nil=>intro _;exact .nil
  |cons b bs ih=>intro f;exact qp.mpr ⟨f.2.1,ih f.2.2.2⟩
 exact this g.fwd
theorem YR(g:aH h):P0 E4 [.d (aE h)] (rd (.bl true)):=by
 intro S;have ho:∀b∈h.af,b.outs≠[]:=λb hb z=>by
  rcases g.hd b hb with y|⟨o,y,_⟩
  all_goals simp_all
 have bl:=g.sm.bl;have ct:=g.sm.ct;have nd:=NK g;have c0:h.carts≠[]:=λz=>by have:=g.c0;rw[z] at this;cases this
 have ln:∀c,S.s.length<(S.s++[c]:List Cell).length:=λc=>by rw[dw];exact vw _
 have e1:=YN (S:=⟨S.s++[.o (.av [])],S.r⟩) (n:=S.s.length) (ks:=[]) (carts:=h.carts) (ln _) g.cm (by rw[ED];exact g.cn) (by rw[A0];lia) c0
 have e2:=YO (S:=⟨S.s++[.o (.av [])],S.r⟩) (n:=S.s.length) (ks:=h.carts) (bs:=h.af) (ln _) g.nm g.lg nd (by lia)
 have se:∀c:Cell,(S.s++[Cell.o (.av [])]).set S.s.length c=S.s++[c]:=λc=>iU
 simp only[tk,se,qqc] at e1 e2;have k0:nq []=[]:=rfl;rw[k0] at e1;have e3:=Vi g ho;have e4:=e5u g;have hD:aE h=.tup [.lst (h.af.map ah),.lst (dS h.carts)]:=rfl;rw[hD] at e4 ⊢;unfold E4 M5;simp only[↓ev,bQ,aQ,cB,e1,e2,e3,e4,qA]
end
theorem Od(names carts:List Str)(nd:names.Nodup)(dj:∀x∈names,x∉carts):∀(bs:List aq) (j:Nat),j+bs.length=names.length->(∀i b,bs[i]?=some b->b.name=names.getD (j+i) ""/\∀o∈b.outs,o∈names.drop (j+i+1)++carts)->jh carts bs/\bs.map aq.name=names.drop j
 |[],j,hl,_=>⟨sZ,by rw[List.drop_eq_nil_of_le (by simp at hl;lia)];rfl⟩
 |b::bs,j,hl,h=>by
  rw[kG] at hl;obtain⟨f,e⟩:=Od names carts nd dj bs (j+1) (by lia) λi b hb=>by
   have:=h (i+1) b (by simpa using hb)
   rw[show j+(i+1)=j+1+i by lia] at this
   exact this
  obtain⟨h1,h2⟩:=h 0 b rfl;rw[Nat.add_zero] at h1 h2;have hj:j<names.length:=by lia
  have ed:names.drop j=names[j]::names.drop (j+1):=Mt hj;have en:b.name=names[j]:=by rw[h1,zC,fG hj];rfl
  have nd':(names.drop j).Nodup:=nd.sublist (List.drop_sublist _ _);rw[ed] at nd';refine⟨⟨λo ho=>?_,?_,?_,f⟩,by rw[cU,e,en,ed]⟩
  all_goals grind
noncomputable def jH(bs:List aq):Int:=(bs.map aq.long).sum
theorem D8:∀{bs:List aq},(∀b∈bs,b.long<=6)->jH bs<=6*bs.length
 |[],_=>by unfold jH;simp
 |b::bs,h=>by
  have h1:=h b (.head _);have h2:=D8 (bs:=bs) λx m=>h x (.tail _ m)
  unfold jH at *;rw[cU,MG,kG];lia
theorem D7{bs:List aq}(hl:bs.length<=5)(h:∀(i:Nat) (b:aq),bs[i]?=some b->b.long<=26/\(b.long<=6\/i=0/\bs.length<3)):jH bs<=39:=by
 by_cases z:bs.length<3
 .clear hl;unfold jH;cases bs with
  |nil=>simp
  |cons a l=>
   have:=h 0 a rfl;cases l with
   |nil=>simp;lia
   |cons b l=>
    have:=h 1 b rfl;cases l with
    |nil=>simp;lia
    |cons c l=>simp at z;lia
 .have:=D8 (bs:=bs) λb m=>by
   obtain⟨i,hi⟩:=zz.mp m;have:=h i b hi;lia
  lia
theorem YS(ns:List Int):∃h:aF,aH h/\jH h.af<=39/\0<h.af.length/\h.af.length<=5/\h.carts.length<=4/\P0 zZ [.d (bq ns)] (rd (aE h)):=by
 obtain⟨p1,p2,p3⟩:=hZ ns 0 0 5 (by decide) (by decide) (by decide)
 obtain⟨q1,q2,q3⟩:=hZ ns 0 1 4 (by decide) (by decide) (by decide)
 have hp:=xX ns 0 5 (by decide) (by decide)
 have ho:=vJ ns 0 4 (by decide) (by decide)
 have e1:=λq S=>T5 q S ns (1+bF ns 0 0 5).toNat (by lia)
 have e2:=λq S=>T7 q S ns (1+bF ns 0 1 4).toNat (by lia)
 have nl:((List.range (1+bF ns 0 0 5).toNat).map (jr ns 11)).length=(1+bF ns 0 0 5).toNat:=by simp
 have cl:((List.range (1+bF ns 0 1 4).toNat).map λi=>jr ns 11 (10+i)).length=(1+bF ns 0 1 4).toNat:=by simp
 have nnd:((List.range (1+bF ns 0 0 5).toNat).map (jr ns 11)).Nodup:=OZ ns _ Mu λi m=>by have:=qm.mp m;lia
 have Wn:((List.range (1+bF ns 0 1 4).toNat).map λi=>jr ns 11 (10+i)).Nodup:=by
  rw[show(λi=>jr ns 11 (10+i))=jr ns 11∘(10+·) from rfl,<-eU]
  refine OZ ns _ ?_ λi m=>?_
  .rw[List.Nodup,EE];exact Mu.imp λne z=>ne (by lia)
  grind
 have dj:∀x∈(List.range (1+bF ns 0 0 5).toNat).map (jr ns 11),x∉(List.range (1+bF ns 0 1 4).toNat).map λi=>jr ns 11 (10+i):=λx hx hc=>by
  obtain⟨i,hi,rfl⟩:=iS.mp hx;obtain⟨j,hj,e⟩:=iS.mp hc;have h1:=qm.mp hi;have h2:=qm.mp hj;have:=Q3 ns 11 (by decide) _ _ (by lia) (by lia) e
  lia
 have Hc:∀x∈(List.range (1+bF ns 0 0 5).toNat).map (jr ns 11),o9 x:=λx hx=>by
  obtain⟨i,hi,rfl⟩:=iS.mp hx;exact Ob _ (Ar ns 11 (by decide) i).1 (Ar ns 11 (by decide) i).2 (OV ns 11 (by decide) i)
 have nmC:∀x∈(List.range (1+bF ns 0 1 4).toNat).map (λi=>jr ns 11 (10+i)),o9 x:=λx hx=>by
  obtain⟨i,hi,rfl⟩:=iS.mp hx;exact Ob _ (Ar ns 11 (by decide) (10+i)).1 (Ar ns 11 (by decide) (10+i)).2 (OV ns 11 (by decide) (10+i))
 generalize(List.range (1+bF ns 0 0 5).toNat).map (jr ns 11)=names at *;generalize((List.range (1+bF ns 0 1 4).toNat).map λi=>jr ns 11 (10+i))=carts at *
 obtain⟨hand,hh⟩:∃x,carts.head?=some x:=by
  cases carts with
  |nil=>simp at cl;lia
  |cons a b=>exact⟨a,rfl⟩
 obtain⟨⟨bs,a4,a5,a6⟩,⟨bl,bp⟩,e3⟩:=QY (gg:=ae 4) (body:=oO 0) (f:=λ(i:Nat)=>D.int (i:Int)) (λ(b:List aq×ak Val×ak Val×ak Val) S=>([ao (bq ns),ao (.lst (dS names)),ao (.lst (dS carts)),aN S.s.length,b.2.1,b.2.2.1,b.2.2.2],bX S (b.1.map ah)))
  (λpre b=>b.1.length=pre.length/\(∀i x,b.1[i]?=some x->x.name=names.getD i ""/\(1<=x.long/\x.long<=26/\(x.long<=6\/i=0/\names.length<3))/\(x.ring=true->2<=x.long)/\n8 (names.drop (i+1)) carts hand x.outs)) (List.range (names.length:Int).toNat) ([],none,none,none) ⟨rfl,λi b e=>(by simp at e)⟩ (by
   rintro q i post eq ⟨bs,a4,a5,a6⟩ ⟨bl,bp⟩;obtain⟨hq,hi⟩:=FI eq;dsimp only at bl bp;have hi:i<names.length:=by lia
   obtain⟨b,b1,b2,b3,b4,a5',jN,e⟩:=YM ns i names carts hand bs a5 a6 hi (by lia) hh (by lia) (by lia)
   refine⟨(bs++[b],bI i,a5',jN),⟨by show(bs++[b]).length=_;rw[dw,dw,bl];rfl,λj b' l0=>?_⟩,λS=>⟨_,rfl,.inl (e S)⟩⟩
   have l0:(bs++[b])[j]?=some b':=l0;by_cases hj:j<bs.length
   .rw[sT hj] at l0;exact bp j b' l0
   .rw[qE (by lia)] at l0
    have:j - bs.length=0:=by
     have:=(eW.mp l0).1;simp at this;lia
    rw[this] at l0;cases l0;have ej:j=i:=by lia
    rw[ej];exact⟨b1,b2,b3,b4⟩)
 dsimp only at bl bp e3;rw[wN] at bl;have e3:=λS=>(congrArg (λl=>aO (ae 4) (oO 0) l _ _) (nz _)).trans (e3 S)
 obtain⟨fw,en⟩:=Od names carts nnd dj bs 0 (by lia) λi b hb=>by
  rw[Nat.zero_add];exact⟨(bp i b hb).1,(bp i b hb).2.2.2.sub⟩
 rw[List.drop_zero] at en;have gi:∀b∈bs,∃i,bs[i]?=some b:=λb hb=>zz.mp hb
 have hg:carts.getD 0 ""=hand:=by
  cases carts with
  |nil=>cases hh
  |cons a b=>cases hh;rfl
 refine⟨⟨bs,carts⟩,⟨fw,⟨by show bs.length<=100;lia,by show carts.length<=100;lia,?_⟩,λb hb=>?_,nmC,λb hb=>?_,λb hb=>?_,Wn,by show 0<carts.length;lia,λb hb=>?_⟩,D7 (bs:=bs) (by lia) λi b hi=>(by have:=bp i b hi;lia),by show 0<bs.length;lia,by show bs.length<=5;lia,by show carts.length<=4;lia,λS=>Vd S ns _ _ names carts a4 a5 a6 _ hp ho (MF (by lia)) (MF (by lia)) (names.length:Int) (by rw[bx]) (MF (by lia)) e1 e2 (e3 S)⟩
 .have:=Qd (bs:=bs) λb hb=>by
   obtain⟨i,hi⟩:=gi b hb;exact(bp i b hi).2.2.2.len
  lia
 .exact Hc _ (by rw[<-en];exact nG hb)
 .obtain⟨i,hi⟩:=gi b hb;exact⟨(bp i b hi).2.1.1,(bp i b hi).2.2.1⟩
 .obtain⟨i,hi⟩:=gi b hb;show carts.getD 0 ""∈b.outs\/∃o∈b.outs,o∈bs.map aq.name;rw[hg,en];rcases(bp i b hi).2.2.2.hand with z|⟨o,z1,z2⟩
  .exact .inl z
  .exact .inr ⟨o,z1,MD z2⟩
 .obtain⟨i,hi⟩:=gi b hb;exact(bp i b hi).2.2.2.nd
section
variable{h:aF}
theorem e9i{q:Nat}{S:aU}{n:Str}{b:aq}{d0:ak Val}(hb:(b.name == n)=false):zO q [d0,aY n,ao (ah b)] S=some (.nx [d0,aY n,ao (ah b)] S):=by
 unfold zO ah;simp only[↓ev,bQ,aJ,fB,hb]
theorem e5v{q:Nat}{S:aU}{n:Str}{b:aq}{d0:ak Val}(hb:(b.name == n)=true):zO q [d0,aY n,ao (ah b)] S=some (.rt (rd (ah b)) S):=by
 unfold zO ah;simp only[↓ev,bQ,aJ,fB,hb,cB,gp,rJ,aQ]
theorem Ac(g:aH h){b:aq}(hb:b∈h.af):Pr xw [.d (aE h),cV b.name] (rd (ah b)):=by
 intro q S;obtain⟨d,r,eq⟩:=List.append_of_mem hb;have e:aO (ae 2) (zO q) (h.af.map ah) [ao (aE h),aY b.name,none] S=some (.rt (rd (ah b)) S):=by
  rw[eq];refine P9 (f:=ah) (λ_ U S'=>∃a,U=[ao (aE h),aY b.name,a]/\S'=S) d [] _ _ ⟨_,rfl,rfl⟩ ?_ ?_
  .rintro d' y r' e' U S' ⟨a,rfl,rfl⟩;refine⟨_,_,_,rfl,.inl (e9i ?_),_,rfl,rfl⟩;rw[qH];intro z;have hy:y∈d:=by rw[ED] at e';rw[e'];simp
   have e2:=FJ g.fwd y (by rw[eq];simp[hy]) b hb z
   have nd:=(mH.mp (NK g)).2.1
   grind
  .rintro U S' ⟨a,rfl,rfl⟩;exact⟨_,rfl,e5v (fW _)⟩
 have hD:aE h=.tup [.lst (h.af.map ah),.lst (dS h.carts)]:=rfl;rw[hD] at e ⊢;unfold xw N6;simp only[↓ev,bQ,Nat.max_zero,e,dX]
theorem O4(g:aH h):Pr BI [.d (aE h)] (rd (aE h)):=by
 intro q S;have bl:=g.sm.bl;have hn:=xI h.af (by lia)
 have e:∀q S,a_ (ae 0) (gw true) (Iz q) (dS (h.af.map aq.name)) [none,ao (aE h)] S []=some (.ok (h.af.map ah) S):=λq S=>by
  rw[dS,eU,qz ah h.af (by lia) λb m=>⟨rd (ah b),by
   have hb:=Ac g m;unfold Iz;simp only[↓ev,Function.comp,hb],rfl⟩]
 have hD:aE h=.tup [.lst (h.af.map ah),.lst (dS h.carts)]:=rfl;rw[hD] at e ⊢;unfold BI OO;simp only[↓ev,bQ,hn,e,aQ,cB,dX]
end
theorem mE:atrs.contains (cHall,("built":Str))=true:=by decide +kernel
theorem MY:atrs.contains (cHall,("told_rounds":Str))=true:=by decide +kernel
theorem B_:atrs.contains (cHall,("now":Str))=true:=by decide +kernel
theorem oR:atrs.contains (cHall,("book":Str))=true:=by decide +kernel
theorem Ad:atrs.contains (cHall,("halts":Str))=true:=by decide +kernel
theorem kS:atrs.contains (cHall,("places":Str))=true:=by decide +kernel
theorem pY:atrs.contains (cHall,("readings":Str))=true:=by decide +kernel
theorem Bu:atrs.contains (cHall,("rounded":Str))=true:=by decide +kernel
theorem Jz:atrs.contains (cHall,("gone":Str))=true:=by decide +kernel
theorem z6:atrs.contains (cHall,("carted":Str))=true:=by decide +kernel
section
variable{d0 d1 d2 d3 d4 d5 d6 d7 d8 d9 v:D}
theorem Lk:gd "told_rounds" v [(("built":Str),d0)]=[(("built":Str),d0),(("told_rounds":Str),v)]:=by kernel_rfl
theorem Ll:gd "now" v [(("built":Str),d0),(("told_rounds":Str),d1)]=[(("built":Str),d0),(("told_rounds":Str),d1),(("now":Str),v)]:=by kernel_rfl
theorem Lm:gd "book" v [(("built":Str),d0),(("told_rounds":Str),d1),(("now":Str),d2)]=[(("built":Str),d0),(("told_rounds":Str),d1),(("now":Str),d2),(("book":Str),v)]:=by kernel_rfl
theorem Ln:gd "halts" v [(("built":Str),d0),(("told_rounds":Str),d1),(("now":Str),d2),(("book":Str),d3)]=[(("built":Str),d0),(("told_rounds":Str),d1),(("now":Str),d2),(("book":Str),d3),(("halts":Str),v)]:=by kernel_rfl
theorem Lo:gd "places" v [(("built":Str),d0),(("told_rounds":Str),d1),(("now":Str),d2),(("book":Str),d3),(("halts":Str),d4)]=[(("built":Str),d0),(("told_rounds":Str),d1),(("now":Str),d2),(("book":Str),d3),(("halts":Str),d4),(("places":Str),v)]:=by kernel_rfl
theorem Lp:gd "readings" v [(("built":Str),d0),(("told_rounds":Str),d1),(("now":Str),d2),(("book":Str),d3),(("halts":Str),d4),(("places":Str),d5)]=[(("built":Str),d0),(("told_rounds":Str),d1),(("now":Str),d2),(("book":Str),d3),(("halts":Str),d4),(("places":Str),d5),(("readings":Str),v)]:=by kernel_rfl
theorem Lq:gd "rounded" v [(("built":Str),d0),(("told_rounds":Str),d1),(("now":Str),d2),(("book":Str),d3),(("halts":Str),d4),(("places":Str),d5),(("readings":Str),d6)]=[(("built":Str),d0),(("told_rounds":Str),d1),(("now":Str),d2),(("book":Str),d3),(("halts":Str),d4),(("places":Str),d5),(("readings":Str),d6),(("rounded":Str),v)]:=by kernel_rfl
theorem Lr:gd "gone" v [(("built":Str),d0),(("told_rounds":Str),d1),(("now":Str),d2),(("book":Str),d3),(("halts":Str),d4),(("places":Str),d5),(("readings":Str),d6),(("rounded":Str),d7)]=[(("built":Str),d0),(("told_rounds":Str),d1),(("now":Str),d2),(("book":Str),d3),(("halts":Str),d4),(("places":Str),d5),(("readings":Str),d6),(("rounded":Str),d7),(("gone":Str),v)]:=by kernel_rfl
theorem Ls:gd "carted" v [(("built":Str),d0),(("told_rounds":Str),d1),(("now":Str),d2),(("book":Str),d3),(("halts":Str),d4),(("places":Str),d5),(("readings":Str),d6),(("rounded":Str),d7),(("gone":Str),d8)]=[(("built":Str),d0),(("told_rounds":Str),d1),(("now":Str),d2),(("book":Str),d3),(("halts":Str),d4),(("places":Str),d5),(("readings":Str),d6),(("rounded":Str),d7),(("gone":Str),d8),(("carted":Str),v)]:=by kernel_rfl
end
def hF(hd:D)(r now:Int)(n:Nat):List (Str×D):=[("built",hd),("told_rounds",.int r),("now",.int now),("book",.ref (n+1)),("halts",.ref (n+2)),("places",.ref (n+3)),("readings",.ref (n+4)),("rounded",.ref (n+5)),("gone",.ref (n+6)),("carted",.ref (n+7))]
section
variable{S:aU}{h:aF}{r:Int}
theorem e5w(g:aH h):BM 0 [.d (.ref S.r.length),.d (aE h),aR r] ⟨S.s,S.r++[.ins cHall []]⟩=some (.ok (rd .aI) ⟨S.s,S.r++[.ins cHall (hF (aE h) r 0 S.r.length),.o (.av []),.o (.av []),.o (.av []),.o (.av []),.o (.av []),.o (.lst []),.o (.av [])]⟩):=by
 have e1:=YR g;have e2:=O4 g;generalize aE h=hd at *;unfold BM OU hF;simp only[↓ev,e1,e2,dy,mE,iU,MY,Lk,B_,Ll,yL,vM,oR,Lm,Ad,Ln,kS,Lo,pY,Lp,Bu,Lq,aQ,aJ,Jz,Lr,z6,Ls,dX]
end
theorem YT(a b:Str):decide ((TK.inr a:TK)=TK.inr b)=(a == b):=by
 lia
theorem BB{α:Type}(e:TK×α)(es:List (TK×α))(k:TK)(v:α):bN (e::es) k v=if e.1=k then(e.1,v)::es else e::bN es k v:=rfl
section
variable{α:Type}{k:α->Str}{v:α->D}{xs:List α}{b:Str}{y:D}
def td(k:α->Str)(v:α->D)(xs:List α):List (TK×D):=xs.map λx=>(.inr (k x),v x)
theorem lT:(td k v xs).length=xs.length:=bx ..
theorem B'(b:Str):∀xs:List α,aM (td k v xs) (.inr b)=(xs.find? λx=>k x == b).map v
 |[]=>rfl
 |x::xs=>by
  have ih:=B' b xs;unfold aM td at *;rw[cU,A4,A4];dsimp only;rw[YT];cases(k x == b) with
  |true=>rfl
  |false=>exact ih
theorem jk{x:α}(nd:(xs.map k).Nodup)(hx:x∈xs):aM (td k v xs) (.inr (k x))=some (v x):=by
 rw[B'];have:xs.find? (λz=>k z == k x)=some x:=by
  induction xs with
  |nil=>cases hx
  |cons z zs ih=>
   grind
 simp_all
theorem e5x(b:Str)(xs:List α):(b∉xs.map k/\aM (td k v xs) (.inr b)=none)\/∃x∈xs,k x=b/\aM (td k v xs) (.inr b)=some (v x):=by
 rw[B'];cases e:xs.find? (λx=>k x == b) with
 |none=>
  simp_all
 |some x=>exact .inr ⟨x,HE e,by have:=HF e;exact beq_iff_eq.mp this,rfl⟩
theorem Ca(h:b∉xs.map k):bN (td k v xs) (.inr b) y=td k v xs++[(.inr b,y)]:=by
 induction xs with
 |nil=>rfl
 |cons x xs ih=>
  grind [td,BB]
theorem Cb(nd:(xs.map k).Nodup)(h:b∈xs.map k):bN (td k v xs) (.inr b) y=td k (λx=>if k x=b then y else v x) xs:=by
 induction xs with
 |nil=>cases h
 |cons x xs ih=>
  rw[cU,qp] at nd;unfold td at *;rw[cU,cU,BB];dsimp only;by_cases e:k x=b
  .rw[bM (by rw[e]),bM e]
   congr 1
   refine nH λz m=>?_
   rw[bc λe2=>nd.1 (by rw[e,<-e2];exact nG m)]
  .rw[bc (λe2=>e (TK.inr.inj e2)),bc e,ih nd.2]
   rcases y0a.mp h with z|z
   .exact cO z.symm e
   .exact z
theorem BY:dB (td k v xs) b=td k v (xs.filter λx=>decide (k x≠b)):=by
 unfold dB td;rw[List.filter_map]
 congr 1
 refine List.filter_congr λx _=>?_
 unfold iM;dsimp only[Function.comp];exact decide_eq_decide.mpr (not_congr ⟨λz=>TK.inr.inj z,λz=>congrArg TK.inr z⟩)
theorem F6:(td k v xs).map (·.1.d)=dS (xs.map k):=by
 unfold td dS;rw[eU,eU];refine nH λx _=>?_
 simp[TK.d]
theorem vO:eQ (td k v xs)=true:=by
 unfold td eQ;rw[t7];exact jJ.mpr λx _=>rfl
end
section
variable{hd:D}{r nw v:Int}{n:Nat}
theorem mW:List.lookup ("built":Str) (hF hd r nw n)=some (hd):=by kernel_rfl
theorem SY:List.lookup ("told_rounds":Str) (hF hd r nw n)=some (.int r):=by kernel_rfl
theorem Gr:List.lookup ("now":Str) (hF hd r nw n)=some (.int nw):=by kernel_rfl
theorem p7:List.lookup ("book":Str) (hF hd r nw n)=some (.ref (n+1)):=by kernel_rfl
theorem BO:List.lookup ("halts":Str) (hF hd r nw n)=some (.ref (n+2)):=by kernel_rfl
theorem lr:List.lookup ("places":Str) (hF hd r nw n)=some (.ref (n+3)):=by kernel_rfl
theorem qu:List.lookup ("readings":Str) (hF hd r nw n)=some (.ref (n+4)):=by kernel_rfl
theorem Fm:List.lookup ("rounded":Str) (hF hd r nw n)=some (.ref (n+5)):=by kernel_rfl
theorem Qe:List.lookup ("gone":Str) (hF hd r nw n)=some (.ref (n+6)):=by kernel_rfl
theorem BC:List.lookup ("carted":Str) (hF hd r nw n)=some (.ref (n+7)):=by kernel_rfl
theorem e5y:gd "now" (.int v) (hF hd r nw n)=hF hd r v n:=by kernel_rfl
end
variable{hd:D}
section
variable{hd:D}{r nw:Int}{n:Nat}
theorem Oe:Cell.jD cHall ("flight":Str) (.ins cHall (hF hd r nw n))=true:=by kernel_rfl
theorem Of:Cell.jD cHall ("change":Str) (.ins cHall (hF hd r nw n))=true:=by kernel_rfl
theorem Nr:Cell.jD cHall ("call_off":Str) (.ins cHall (hF hd r nw n))=true:=by kernel_rfl
theorem Qf:Cell.jD cHall ("read":Str) (.ins cHall (hF hd r nw n))=true:=by kernel_rfl
theorem Qg:Cell.jD cHall ("stop":Str) (.ins cHall (hF hd r nw n))=true:=by kernel_rfl
theorem O5:Cell.jD cHall ("start":Str) (.ins cHall (hF hd r nw n))=true:=by kernel_rfl
theorem Q5:Cell.jD cHall ("put":Str) (.ins cHall (hF hd r nw n))=true:=by kernel_rfl
theorem ud:Cell.jD cHall ("check_flight":Str) (.ins cHall (hF hd r nw n))=true:=by kernel_rfl
theorem vD:Cell.jD cHall ("check_belt":Str) (.ins cHall (hF hd r nw n))=true:=by kernel_rfl
theorem zJ:Cell.jD cHall ("check_inside":Str) (.ins cHall (hF hd r nw n))=true:=by kernel_rfl
theorem WE:Cell.jD cHall ("house":Str) (.ins cHall (hF hd r nw n))=true:=by kernel_rfl
theorem Og:Cell.jD cHall ("rounds":Str) (.ins cHall (hF hd r nw n))=true:=by kernel_rfl
theorem Vj:Cell.jD cHall ("moment":Str) (.ins cHall (hF hd r nw n))=true:=by kernel_rfl
theorem Ua:Cell.jD cHall ("flights":Str) (.ins cHall (hF hd r nw n))=true:=by kernel_rfl
theorem IE:Cell.jD cHall ("stopped":Str) (.ins cHall (hF hd r nw n))=true:=by kernel_rfl
theorem xJ:Cell.jD cHall ("bags":Str) (.ins cHall (hF hd r nw n))=true:=by kernel_rfl
theorem e5z:Cell.jD cHall ("out":Str) (.ins cHall (hF hd r nw n))=true:=by kernel_rfl
theorem IF:Cell.jD cHall ("cart_of":Str) (.ins cHall (hF hd r nw n))=true:=by kernel_rfl
theorem IG:Cell.jD cHall ("catches":Str) (.ins cHall (hF hd r nw n))=true:=by kernel_rfl
theorem Tq:Cell.jD cHall ("in_order":Str) (.ins cHall (hF hd r nw n))=true:=by kernel_rfl
theorem YU:Cell.jD cHall ("move":Str) (.ins cHall (hF hd r nw n))=true:=by kernel_rfl
theorem Ub:Cell.jD cHall ("move_on":Str) (.ins cHall (hF hd r nw n))=true:=by kernel_rfl
theorem Tr:Cell.jD cHall ("move_out":Str) (.ins cHall (hF hd r nw n))=true:=by kernel_rfl
end
structure Row where
 bag:Str
 b:Str
 i:Int
 fl:ak Str
 gn:Int
instance:Inhabited Row:=⟨"","",0,none,0⟩
structure Hl where
 now:Int
 book:List (Str×Str×Int)
 halts:List Str
 rows:List Row
 gone:List (Str×Str×Int)
def aP:ak Str->D
 |none=>.aI
 |some x=>.str x
abbrev pl(b:Str)(i:Int):D:=.tup [.str b,.int i]
def t3(p:Str×Str×Int):D:=.tup [.str p.1,.str p.2.1,.int p.2.2]
def j'(l:List (Str×Str×Int)):List (TK×D):=td (·.1) t3 l
def g9(l:List Row):List (TK×D):=td Row.bag (λr=>pl r.b r.i) l
def il(l:List Row):List (TK×D):=td Row.bag (λr=>aP r.fl) l
def kL(l:List Row):List (TK×D):=td Row.bag (λr=>.int r.gn) l
def yd(l:List (Str×Str×Int)):List (TK×D):=td (·.1) (λp=>.str p.2.1) l
def qc(l:List (Str×Str×Int)):List D:=l.map t3
abbrev hR(hd:D)(r:Int)(x:Hl):List Cell:=[.ins cHall (hF hd r x.now 0),.o (.av (j' x.book)),.o (.av (nq x.halts)),.o (.av (g9 x.rows)),.o (.av (il x.rows)),.o (.av (kL x.rows)),.o (.lst (qc x.gone)),.o (.av (yd x.gone))]
noncomputable abbrev hS(hd:D)(r:Int)(x:Hl)(s:List Cell):aU:=⟨s,hR hd r x⟩
section
variable{s:List Cell}{h:aF}{r:Int}{x:Hl}{q:Nat}{b:Str}
theorem WG(g:aH h):Fu q [eV] (hS (aE h) r x s)=some (.ok (rd (aE h)) (hS (aE h) r x s)):=by
 have e2:=O4 g;unfold Fu N_;generalize aE h=hd at *;simp only[↓ev,hR,mE,mW,e2,cx]
theorem Oh:Fh q [eV] (hS hd r x s)=some (.ok (rd (.int r)) (hS hd r x s)):=by
 unfold Fh NF;simp only[↓ev,hR,MY,SY,cx]
theorem e6a:F4 q [eV] (hS hd r x s)=some (.ok (.o (.lst (qc x.gone))) (hS hd r x s)):=by
 unfold F4 P_;simp only[↓ev,hR,Jz,Qe,aQ,cx]
theorem z7(g:aH h){v:Bool}(hb:(h.af.map aq.name).contains b=v):zM q [eV,cV b] (hS (aE h) r x s)=some (if v=true then .ok (rd .aI) (hS (aE h) r x s) else .ex 116 none (hS (aE h) r x s)):=by
 have bl:=g.sm.bl;have hn:=xI h.af (by lia)
 unfold zM MW aE;cases v with
 |true=>simp only[↓ev,hR,mE,mW,bQ,hn,g7,gZ,hb,kH,aJ,cx]
 |false=>simp only[↓ev,hR,mE,mW,bQ,hn,g7,gZ,hb,mC,cx,aJ]
theorem As{α:Type}{k:α->Str}{v:α->D}{xs:List α}{b:Str}:(aM (td k v xs) (.inr b)).isSome=(xs.map k).contains b:=by
 grind [e5x]
theorem WH(q:Nat)(ns:List Str)(hl:ns.length<=1000):a_ (ae 0) (Ic q) (Ie q) (dS ns) [none,cy] (hS hd r x s) []=some (.ok (dS (ns.filter λn=>x.halts.contains n)) (hS hd r x s)):=by
 rw[dS,uw (λo=>if x.halts.contains o=true then some (.str o) else none) ns (by lia) λo m=>by
  have v:=vN o x.halts;unfold Ic Ie;cases hc:x.halts.contains o with
  |true=>
   rw[hc] at v;exact .inr ⟨rd (.str o),.str o,rfl,by simp only[↓ev,hR,Ad,BO,aQ,aJ,v],by simp only[↓ev],rfl⟩
  |false=>
   rw[hc] at v;exact .inl ⟨rfl,by simp only[↓ev,hR,Ad,BO,aQ,aJ,v]⟩]
 congr 2
 induction ns with
 |nil=>rfl
 |cons o ns ih=>
  grind
noncomputable def cw(h:aF)(x:Hl):List Str:=(h.af.map aq.name).filter λn=>x.halts.contains n
theorem IV(g:aH h):zR q [eV] (hS (aE h) r x s)=some (.ok (.o (.lst (dS (cw h x)))) (hS (aE h) r x s)):=by
 have bl:=g.sm.bl;have hn:=xI h.af (by lia)
 have e:=λq=>WH (s:=s) (r:=r) (x:=x) (hd:=aE h) q (h.af.map aq.name) (by rw[bx];lia)
 unfold zR Nn cw aE at *;simp only[↓ev,hR,mE,mW,bQ,hn,e,cx]
end
variable{h:aF}{b:Str}{S:aU}
noncomputable def rk(h:aF)(b:Str):Int:=((findS (h.af.map aq.name) b).getD 0:Nat)
theorem Ji:∀xs:List Str,eD (dS xs)=some xs
 |[]=>rfl
 |x::xs=>by
  have ih:=Ji xs;show(eD (D.str x::dS xs))=_;unfold eD;rw[ih];rfl
theorem e6b(hb:b∈h.af.map aq.name):ja (.lst (dS (h.af.map aq.name))) (.str b)=some (rd (.int (rk h b))):=by
 obtain⟨j,hj⟩:=BA hb;show(eD (dS _)).bind _=_;unfold rk;rw[Ji,wM,hj];rfl
theorem e6c{c:Str}(hb:b∈h.af.map aq.name)(hc:c∈h.af.map aq.name)(e:rk h b=rk h c):b=c:=by
 obtain⟨j,hj⟩:=BA hb;obtain⟨k,hk⟩:=BA hc;unfold rk at e;rw[hj,hk] at e;have e:((j:Nat):Int)=(k:Nat):=e;have e:j=k:=by lia
 have h1:=(zT hj).1;have h2:=(zT hk).1;rw[e,h2] at h1;exact(Option.some.inj h1).symm
def jZ(h:aF)(r:Row):Prop:=∃bt∈h.af,bt.name=r.b/\0<=r.i/\r.i<bt.long/\0<=r.gn
theorem jZ.nm{r:Row}(o:jZ h r):r.b∈h.af.map aq.name:=by
 obtain⟨bt,hb,e,_⟩:=o;rw[<-e];exact nG hb
def nB(h:aF)(r:Row):D:=.tup [.int (rk h r.b),.int r.i,.str r.bag]
def je(h:aF)(r:Row):Int×Int:=(rk h r.b,r.i)
def ord(h:aF)(rows:List Row):List Row:=if rows.length<2 then rows else(dm (rows.map (je h))).map λj=>rows.getD j default
theorem O6(h:aF):∀rows:List Row,ku (rows.map (nB h))=some (rows.map (je h))
 |[]=>rfl
 |r::rows=>by
  have ih:=O6 h rows;show ku (D.tup [.int (rk h r.b),.int r.i,.str r.bag]::rows.map (nB h))=_;show(ku (rows.map (nB h))).map _=_;rw[ih];rfl
theorem O7{rows:List Row}(nd:(rows.map (je h)).Nodup):(ord h rows).Perm rows:=by
 unfold ord;split
 .rfl
 .rename_i hl
  obtain⟨p,_⟩:=BF nd (by rw[bx];lia)
  rw[bx] at p;refine(p.map _).trans ?_;have:(List.range rows.length).map (λj=>rows.getD j default)=rows:=by
   refine Mx λi=>?_
   rw[dR];by_cases hi:i<rows.length
   .rw[zA hi,fG hi];simp[hi]
   .rw[wQ (by simp;lia),wQ (by lia)]
    rfl
  rw[this]
theorem e6d(rows:List Row):(List.range (g9 rows).length).map (λi=>D.tup ((((g9 rows)[i]?).map λp=>[p.1.d,p.2]).getD []))=rows.map λr=>.tup [.str r.bag,pl r.b r.i]:=by
 unfold g9;refine Mx λi=>?_
 rw[lT,dR,dR];by_cases hi:i<rows.length
 .rw[zA hi,fG hi];unfold td;rw[A3,A3,dR,fG hi];simp[TK.d]
 .rw[wQ (by simp;lia),wQ (by lia)]
  rfl
section
variable{s:List Cell}{h:aF}{r:Int}{x:Hl}{q:Nat}
theorem YV(q:Nat)(rows:List Row)(hl:rows.length<=1000)(ho:∀w∈rows,jZ h w):a_ (ba [(ae 0),(ae 1)]) (gw true) (H0 q) (rows.map λw=>.tup [.str w.bag,pl w.b w.i]) [none,none,ao (.lst (dS (h.af.map aq.name)))] S []=some (.ok (rows.map (nB h)) S):=by
 rw[Gn (λw=>some (nB h w)) (λU=>∃a b,U=[a,b,ao (.lst (dS (h.af.map aq.name)))]) rows _ [] ⟨_,_,rfl⟩ (by rw[A0];lia) λw m U ⟨a,b,hU⟩=>⟨[aY w.bag,ao (pl w.b w.i),ao (.lst (dS (h.af.map aq.name)))],by rw[hU];rfl,⟨_,_,rfl⟩,.inr ⟨rd (nB h w),nB h w,rfl,rfl,by
   have hi:=e6b (ho w m).nm;unfold H0 nB;simp only[↓ev,bQ,hi,cB,aQ],rfl⟩⟩,List.filterMap_eq_map',ED]
theorem YW(q:Nat)(l:List Row)(hl:l.length<=1000):a_ (ae 0) (gw true) (H9 q) (l.map (nB h)) [none] S []=some (.ok (dS (l.map Row.bag)) S):=by
 rw[qz (λw=>.str w.bag) l (by lia) λw m=>⟨rd (.str w.bag),by unfold H9 nB;simp only[↓ev,gp],rfl⟩]
 unfold dS;rw[eU];rfl
theorem YX(g:aH h)(nd:(x.rows.map (je h)).Nodup)(hl:x.rows.length<64)(ho:∀w∈x.rows,jZ h w):Bm q [eV] (hS (aE h) r x s)=some (.ok (.o (.lst (dS ((ord h x.rows).map Row.bag)))) (hS (aE h) r x s)):=by
 have bl:=g.sm.bl;have hn:=xI h.af (by lia)
 have e1:=λq=>YV (S:=hS (aE h) r x s) q x.rows (by lia) ho
 have e2:=e6d x.rows;have pl:=(O7 nd).length_eq;have e3:=λq=>YW (h:=h) (S:=hS (aE h) r x s) q (ord h x.rows) (by lia)
 have e0:eQ (g9 x.rows)=true:=vO;by_cases lt:x.rows.length<2
 .have h1:((x.rows.map (nB h)).length<2)=True:=bD (by rw[bx];exact lt)
  have h2:ord h x.rows=x.rows:=bM lt;rw[h2] at e3 ⊢;unfold Bm Ig aE at *;generalize(x.rows.map (nB h))=l1 at *;simp only[↓ev,hR,mE,mW,bQ,hn,aQ,kS,lr,e0,e2,e1,h1,e3,cx]
 .have h1:((x.rows.map (nB h)).length<2)=False:=eq_false (by rw[bx];exact lt)
  have h2:=O6 h x.rows;have h3:((x.rows.map (je h)).Nodup/\(x.rows.map (je h)).length<64)=True:=bD ⟨nd,by rw[bx];exact hl⟩
  have h4:lz (x.rows.map (nB h)) (dm (x.rows.map (je h)))=(ord h x.rows).map (nB h):=by
   unfold ord lz;rw[bc lt,eU];refine nH λj m=>?_
   have p:=(BF nd (by rw[bx];lia)).1
   have hj:j<x.rows.length:=by
    have:=qm.mp (p.mem_iff.mp m)
    rwa[bx] at this
   simp[hj]
  unfold Bm Ig aE at *;generalize(x.rows.map (nB h))=l1 at *;generalize((ord h x.rows).map (nB h))=l2 at *;generalize(x.rows.map (je h))=ks at *;simp only[↓ev,hR,mE,mW,bQ,hn,aQ,kS,lr,e0,e2,e1,h1,h2,h3,h4,e3,cx]
end
variable{hd:D}
structure Ok (h:aF) (n:Nat) (x:Hl):Prop where
 rw:∀w∈x.rows,jZ h w/\o9 w.bag/\∀f,w.fl=some f->f∈x.book.map (·.1)
 nd:(x.rows.map Row.bag++x.gone.map (·.1)).Nodup
 un:(x.rows.map λw=>(w.b,w.i)).Nodup
 bk:∀p∈x.book,p.2.1∈h.carts.drop 1
 bn:(x.book.map (·.1)).Nodup
 gi:∀p∈x.gone,o9 p.1
 rl:x.rows.length<=8
 sz:x.book.length+x.halts.length+x.rows.length+x.gone.length<=n
noncomputable def bP(w:Row):D:=.tup [.str w.bag,aP w.fl,pl w.b w.i,.int w.gn]
section
variable{s:List Cell}{h:aF}{r:Int}{x:Hl}{q n:Nat}{w:Row}
theorem Ok.nb(o:Ok h n x):(x.rows.map Row.bag).Nodup:=(mH.mp o.nd).1
theorem Ok.nk(o:Ok h n x):(x.rows.map (je h)).Nodup:=by
 have e:=o.un;rw[List.Nodup,EE] at e ⊢;refine e.imp_of_mem λ{a b} ma mb ne z=>ne ?_
 have h1:=congrArg Prod.fst z;have h2:=congrArg Prod.snd z;rw[show a.b=b.b from e6c (o.rw a ma).1.nm (o.rw b mb).1.nm h1,show a.i=b.i from h2]
theorem Ok.perm(o:Ok h n x):(ord h x.rows).Perm x.rows:=O7 o.nk
theorem Ok.mem(o:Ok h n x):w∈ord h x.rows↔w∈x.rows:=o.perm.mem_iff
theorem Vk(q:Nat)(nb:(x.rows.map Row.bag).Nodup)(l:List Row)(hl:l.length<=1000)(hm:∀w∈l,w∈x.rows):a_ (ae 0) (gw true) (IB q) (dS (l.map Row.bag)) [none,cy] (hS hd r x s) []=some (.ok (l.map bP) (hS hd r x s)):=by
 rw[show dS (l.map Row.bag)=l.map λw=>.str w.bag by unfold dS;rw[eU];rfl,qz bP l (by lia) λw m=>⟨rd (bP w),by
  have h1:aM (g9 x.rows) (.inr w.bag)=_:=jk nb (hm w m);have h2:aM (il x.rows) (.inr w.bag)=_:=jk nb (hm w m);have h3:aM (kL x.rows) (.inr w.bag)=_:=jk nb (hm w m);unfold IB bP;generalize aP w.fl=ff at *;simp only[↓ev,hR,pY,qu,aQ,h2,kS,lr,h1,Bu,Fm,h3],rfl⟩]
theorem Cd(g:aH h)(o:Ok h n x):vG q [eV] (hS (aE h) r x s)=some (.ok (.o (.lst ((ord h x.rows).map bP))) (hS (aE h) r x s)):=by
 have rl:=o.rl;have e1:=λq=>YX (s:=s) (r:=r) (q:=q) g o.nk (by lia) λw m=>(o.rw w m).1
 have e2:=λq=>Vk (s:=s) (r:=r) (hd:=aE h) q o.nb (ord h x.rows) (by rw[o.perm.length_eq];lia) λw m=>o.mem.mp m
 generalize aE h=hd at *;unfold vG OR;simp only[↓ev,hR,dN,Tq,e1,e2,cx]
theorem YY(q:Nat)(hn:o9 w.bag)(hw:w∈x.rows)(nb:(x.rows.map Row.bag).Nodup):xq q [eV,cV w.bag] (hS hd r x s)=some (.ok (rd .aI) (hS hd r x s)):=by
 have h1:aM (g9 x.rows) (.inr w.bag)=_:=jk nb hw;unfold xq HY;simp only[↓ev,hn,aJ,hR,kS,lr,aQ,h1,kH,cx]
end
noncomputable def nP(kn:List (Str×Int)):List (TK×D):=kn.map λp=>(.inr p.1,.int p.2)
noncomputable def atS(kn:List (Str×Int))(n:Str):ak Int:=(kn.find? λp=>p.1 == n).map (·.2)
theorem Qh(x:Str):atS [] x=none:=rfl
theorem xD(k:Str)(v:Int)(kn:List (Str×Int))(x:Str):atS ((k,v)::kn) x=if k=x then some v else atS kn x:=by
 grind [atS]
theorem FK(k:Str)(v:Int)(x:Str):∀kn:List (Str×Int),atS (kn++[(k,v)]) x=(atS kn x).or (if k=x then some v else none)
 |[]=>by rw[ED,xD,Qh,Option.none_or]
 |(k',v')::kn=>by
  rw[List.cons_append,xD,xD,FK k v x kn];split
  .rfl
  .rfl
theorem BZ(x:Str):∀kn:List (Str×Int),aM (nP kn) (.inr x)=(atS kn x).map .int
 |[]=>rfl
 |(k,v)::kn=>by
  have ih:=BZ x kn
  grind [xD,aM,nP]
theorem pg0{a:TK}{y:D}:bN [] a y=[(a,y)]:=rfl
theorem Qi:∀(kn:List (Str×Int)) (k:Str) (v:Int),atS kn k=none->bN (nP kn) (.inr k) (.int v)=nP (kn++[(k,v)])
 |[],_,_,_=>rfl
 |(k',v')::kn,k,v,h=>by
  rw[xD] at h;have e:¬k'=k:=λz=>by rw[bM z] at h;cases h
  rw[bc e] at h;show bN ((TK.inr k',D.int v')::nP kn) (.inr k) (.int v)=(TK.inr k',D.int v')::nP (kn++[(k,v)]);rw[<-Qi kn k v h,BB,bc (λz=>e (TK.inr.inj z))]
def cX(kn:List (Str×Int))(outs:List Str):List Int:=outs.filterMap (atS kn)
def aS(ar:Str):List aq->List (Str×Int)
 |[]=>[(ar,0)]
 |b::bs=>if cX (aS ar bs) b.outs=[] then aS ar bs else aS ar bs++[(b.name,b.long+dP (cX (aS ar bs) b.outs))]
theorem O8(ar:Str):∀bs:List aq,(aS ar bs).length<=bs.length+1
 |[]=>bY _
 |b::bs=>by
  have:=O8 ar bs;unfold aS;split
  .rw[kG];lia
  .rw[dw,t6,kG];lia
theorem FL{ar:Str}:∀{bs:List aq} {n:Str},n≠ar->n∉bs.map aq.name->atS (aS ar bs) n=none
 |[],n,h1,_=>by
  show atS [(ar,0)] n=none
  grind [xD,Qh]
 |b::bs,n,h1,h2=>by
  rw[cU] at h2;have h3:n≠b.name:=λz=>h2 (by rw[z];exact .head _)
  have ih:=FL (ar:=ar) (bs:=bs) h1 λz=>h2 (.tail _ z)
  unfold aS;split
  .exact ih
  .rw[FK,ih,bc (λz=>h3 z.symm)];rfl
theorem YZ(kn:List (Str×Int)):∀outs:List Str,(outs.filterMap λo=>(atS kn o).map D.int)=(cX kn outs).map D.int
 |[]=>rfl
 |o::outs=>by
  grind [cX]
abbrev mi(S:aU)(kn:List (Str×Int)):aU:=⟨S.s++[.o (.av (nP kn))],S.r⟩
section
variable{S:aU}{kn:List (Str×Int)}{outs:List Str}{g0 g1 a7:ak Val}{x:aq}
theorem O9(q:Nat)(h:outs.length<=1000):a_ (ae 0) (Iu q) (Iv q) (dS outs) [none,aN S.s.length] (mi S kn) []=some (.ok ((cX kn outs).map D.int) (mi S kn)):=by
 rw[dS,uw (λo=>(atS kn o).map D.int) outs (by lia) λo m=>by
  have v:=BZ o kn;unfold Iu Iv;cases hc:atS kn o with
  |some w=>
   rw[hc] at v;exact .inr ⟨rd (.int w),.int w,rfl,by simp only[↓ev,dy,aJ,v,t8],by simp only[↓ev,dy,v],rfl⟩
  |none=>
   rw[hc] at v;exact .inl ⟨rfl,by simp only[↓ev,dy,aJ,v,wO]⟩,YZ]
theorem e6e(ho:x.outs.length<=1000)(hb:cX kn x.outs=[]):zU 0 [g0,g1,aN S.s.length,aY x.name,bI x.long,ao (.bl x.ring),ao (.lst (dS x.outs)),a7] (mi S kn)=some (.nx [g0,g1,aN S.s.length,aY x.name,bI x.long,ao (.bl x.ring),ao (.lst (dS x.outs)),ao (.lst [])] (mi S kn)):=by
 have e:=λq=>O9 (S:=S) (kn:=kn) q ho
 rw[hb] at e;unfold zU;simp only[↓ev,e,aQ,aJ]
theorem Y0(ho:x.outs.length<=1000){i:Int}{is:List Int}(hb:cX kn x.outs=i::is)(hn:atS kn x.name=none)(hl:((nP kn).length<1000000)=True):zU 0 [g0,g1,aN S.s.length,aY x.name,bI x.long,ao (.bl x.ring),ao (.lst (dS x.outs)),a7] (mi S kn)=some (.nx [g0,g1,aN S.s.length,aY x.name,bI x.long,ao (.bl x.ring),ao (.lst (dS x.outs)),ao (.lst ((i::is).map D.int))] (mi S (kn++[(x.name,x.long+dP (i::is))]))):=by
 have e:=λq=>O9 (S:=S) (kn:=kn) q ho
 rw[hb] at e;have p:=Qi kn x.name (x.long+dP (i::is)) hn;have z:((i::is).map D.int).isEmpty=false:=rfl;have m:=Fp (i::is);have ne:((i::is)=[])=False:=eq_false (List.cons_ne_nil _ _);generalize(i::is).map D.int=l at *;unfold zU;simp only[↓ev,e,aQ,z,mC,m,ne,dy,hl,p,iU]
theorem O_{h:aF}(g:aH h){ar:Str}(hc:ar∈h.carts):P0 BG [.d (aE h),cV ar] (.o (.av (nP (aS ar h.af)))):=by
 intro S;have bl:=g.sm.bl;have ou:=g.sm.ou;have f:=g.fwd;obtain⟨U',S',e,a3,a4,a5,a6,a7,rfl,rfl⟩:=iC (gg:=ba [(ae 3),(ae 4),(ae 5),(ae 6)]) (body:=zU 0) (f:=ah) (U:=[ao (aE h),aY ar,aN S.s.length,none,none,none,none,none]) (S:=mi S (aS ar [])) (λpre U S'=>∃a3 a4 a5 a6 a7,U=[ao (aE h),aY ar,aN S.s.length,a3,a4,a5,a6,a7]/\S'=mi S (aS ar pre.reverse)) h.af.reverse ⟨_,_,_,_,_,rfl,rfl⟩ (by
  rintro q x post eq U S' ⟨a3,a4,a5,a6,a7,rfl,rfl⟩;have eb:h.af=post.reverse++x::q.reverse:=by
   simp_all
  have fx:jh h.carts (x::q.reverse):=zX (by rw[<-eb];exact f)
  have ho:x.outs.length<=1000:=by
   grind
  have hn:atS (aS ar q.reverse) x.name=none:=FL (λz=>fx.2.2.1 (z ▸ hc)) fx.2.1
  have hl:(aS ar q.reverse).length<=1000:=by
   grind [O8]
  rw[List.reverse_append,List.reverse_singleton,List.singleton_append];have ebg:aS ar (x::q.reverse)=if cX (aS ar q.reverse) x.outs=[] then aS ar q.reverse else aS ar q.reverse++[(x.name,x.long+dP (cX (aS ar q.reverse) x.outs))]:=by
   rfl
  rw[ebg];generalize aS ar q.reverse=kn at *;cases hb:cX kn x.outs with
  |nil=>exact⟨_,_,_,rfl,.inl (e6e ho hb),_,_,_,_,_,rfl,by rw[bM rfl]⟩
  |cons i is=>exact⟨_,_,_,rfl,.inl (Y0 ho hb hn (bD (by unfold nP;rw[bx];lia))),_,_,_,_,_,rfl,by rw[bc (List.cons_ne_nil _ _)]⟩)
 rw[List.reverse_reverse,List.map_reverse,show mi S (aS ar [])=⟨S.s++[.o (.av [(.inr ar,.int 0)])],S.r⟩ from rfl] at e;have hD:aE h=.tup [.lst (h.af.map ah),.lst (dS h.carts)]:=rfl;have tl:∀c:Cell,(S.s++[c]).take S.s.length=S.s:=λc=>List.take_left
 rw[hD] at e ⊢;unfold BG OJ;simp only[↓ev,yL,dy,aQ,MB,pg0,List.foldl_nil,tl,bQ,fH,e,uP,qA]
end
variable{ar:Str}{kn:List (Str×Int)}{outs:List Str}{best:ak Str}
theorem FN{carts:List Str}:∀{bs:List aq},jh carts bs->∀b∈bs,∀o∈b.outs,o∈bs.map aq.name\/o∈carts
 |x::bs,f,b,hb,o,ho=>by
  rcases y0a.mp hb with rfl|hb
  .rcases f.1 o ho with z|z
   .exact .inl (.tail _ z)
   .exact .inr z
  .rcases FN f.2.2.2 b hb o ho with z|z
   .exact .inl (.tail _ z)
   .exact .inr z
theorem zS{x:aq}{bs:List aq}{n:Str}(h:n≠x.name):atS (aS ar (x::bs)) n=atS (aS ar bs) n:=by
 grind [aS,FK]
theorem IH{kn':List (Str×Int)}(h:∀o∈outs,atS kn o=atS kn' o):cX kn outs=cX kn' outs:=by
 unfold cX
 induction outs with
 |nil=>rfl
 |cons o outs ih=>
  have:=ih λz hz=>h z (.tail _ hz)
  rw[qD,qD,h o (.head _),this]
theorem F7{carts:List Str}{ar:Str}(hc:ar∈carts):∀{bs:List aq},jh carts bs->∀b∈bs,atS (aS ar bs) b.name=if cX (aS ar bs) b.outs=[] then none else some (b.long+dP (cX (aS ar bs) b.outs))
 |x::bs,f,b,hb=>by
  rcases y0a.mp hb with rfl|hb
  .have ho:∀o∈b.outs,o≠b.name:=λo ho z=>by
    rcases f.1 o ho with y|y
    .exact f.2.1 (by rw[<-z];exact y)
    .exact f.2.2.1 (by rw[<-z];exact y)
   have e:=IH (kn:=aS ar (b::bs)) (kn':=aS ar bs) (outs:=b.outs) λo m=>zS (ho o m)
   rw[e]
   conv=>lhs;unfold aS
   have hn:atS (aS ar bs) b.name=none:=FL (λz=>f.2.2.1 (by rw[z];exact hc)) f.2.1
   split
   .exact hn
   .rw[FK,hn,bM rfl];rfl
  .have hn:b.name≠x.name:=λz=>f.2.1 (by rw[<-z];exact nG (f:=aq.name) hb)
   have ho:∀o∈b.outs,o≠x.name:=λo ho z=>by
    rcases FN f.2.2.2 b hb o ho with y|y
    .exact f.2.1 (by rw[<-z];exact y)
    .exact f.2.2.1 (by rw[<-z];exact y)
   have e:=IH (kn:=aS ar (x::bs)) (kn':=aS ar bs) (outs:=b.outs) λo m=>zS (ho o m)
   rw[e,zS hn];exact F7 hc f.2.2.2 b hb
theorem F8{carts:List Str}{ar:Str}(hc:ar∈carts):∀{bs:List aq},jh carts bs->atS (aS ar bs) ar=some 0
 |[],_=>by show atS [(ar,0)] ar=some 0;rw[xD,bM rfl]
 |x::bs,f=>by rw[zS (λz=>f.2.2.1 (by rw[<-z];exact hc))];exact F8 hc f.2.2.2
theorem Pa{carts:List Str}{c:Str}{bs:List aq}(f:jh carts bs)(hc:c∈carts)(h:c≠ar):atS (aS ar bs) c=none:=FL h (z5 f c hc)
def yq(h:aF)(ar n:Str)(c:Int):D:=match atS (aS ar h.af) n with
 |none=>.aI
 |some v=>.int (v - c)
def jj(kn:List (Str×Int))(best:ak Str)(o:Str):ak Str:=match atS kn o with
 |none=>best
 |some v=>match best with
  |none=>some o
  |some p=>if v<(atS kn p).getD 0 then some o else best
def f6(kn:List (Str×Int))(outs:List Str):ak Str:=outs.foldl (jj kn) none
def xY(kn:List (Str×Int))(best:ak Str):Prop:=∀p,best=some p->∃v,atS kn p=some v
theorem NL(h:xY kn best)(o:Str):xY kn (jj kn best o):=by
 intro p e;unfold jj at e;cases q:atS kn o with
 |none=>rw[q] at e;exact h p e
 |some v=>
  rw[q] at e;dsimp only at e;cases best with
  |none=>cases e;exact⟨v,q⟩
  |some p'=>
   dsimp only at e;split at e
   .simp_all
   .exact h p e
theorem Qj{kn:List (Str×Int)}:∀{outs:List Str} {best:ak Str},xY kn best->xY kn (outs.foldl (jj kn) best)
 |[],_,h=>h
 |o::outs,best,h=>Qj (outs:=outs) (NL h o)
theorem Jj{kn:List (Str×Int)}:∀{outs:List Str} {best:ak Str},xY kn best->
  (outs.foldl (jj kn) best=none↔best=none/\cX kn outs=[])/\
  ∀a,outs.foldl (jj kn) best=some a->(best=some a\/a∈outs)/\∃v,atS kn a=some v/\(∀o∈outs,∀w,atS kn o=some w->v<=w)/\∀p w,best=some p->atS kn p=some w->v<=w
 |[],best,h=>by
  refine⟨⟨λe=>⟨e,rfl⟩,λe=>e.1⟩,λa e=>?_⟩
  obtain⟨v,hv⟩:=h a e;refine⟨.inl e,v,hv,λo m=>(by cases m),λp w e1 e2=>?_⟩
  have e:best=some a:=e;rw[e] at e1;cases e1;rw[hv] at e2;cases e2;exact My _
 |o::outs,best,h=>by
  obtain⟨i1,i2⟩:=Jj (outs:=outs) (NL h o);rw[MB];constructor
  .rw[i1];unfold jj cX;cases q:atS kn o with
   |none=>rw[List.filterMap_cons_none q]
   |some v=>
    rw[List.filterMap_cons_some q];constructor
    .rintro⟨e,_⟩;exfalso;cases best with
     |none=>cases e
     |some p=>dsimp only at e;split at e <;> cases e
    .rintro⟨_,e⟩;cases e
  .intro a e;obtain⟨j1,v,j2,j3,j4⟩:=i2 a e;cases q:atS kn o with
   |none=>
    have es:jj kn best o=best:=by unfold jj;rw[q]
    rw[es] at j1 j4;refine⟨?_,v,j2,λo' m w e'=>?_,j4⟩
    .rcases j1 with z|z
     .exact .inl z
     .exact .inr (.tail _ z)
    .rcases y0a.mp m with rfl|m
     .rw[q] at e';cases e'
     .exact j3 o' m w e'
   |some u=>
    cases best with
    |none=>
     have es:jj kn none o=some o:=by unfold jj;rw[q]
     rw[es] at j1 j4;refine⟨.inr ?_,v,j2,λo' m w e'=>?_,λp w e'=>(by cases e')⟩
     .rcases j1 with z|z
      .cases z;exact .head _
      .exact .tail _ z
     .rcases y0a.mp m with rfl|m
      .rw[q] at e';cases e';exact j4 o' u rfl q
      .exact j3 o' m w e'
    |some p=>
     obtain⟨pv,hp⟩:=h p rfl;by_cases l7:u<pv
     .have es:jj kn (some p) o=some o:=by unfold jj;rw[q];dsimp only;rw[hp,HG,bM l7]
      rw[es] at j1 j4;refine⟨.inr ?_,v,j2,λo' m w e'=>?_,λp' w e1 e2=>?_⟩
      all_goals grind
     .have es:jj kn (some p) o=some p:=by unfold jj;rw[q];dsimp only;rw[hp,HG,bc l7]
      rw[es] at j1 j4;refine⟨?_,v,j2,λo' m w e'=>?_,j4⟩
      all_goals grind
theorem iK{v:Int}:v∈cX kn outs↔∃o∈outs,atS kn o=some v:=wJ
theorem lu:f6 kn outs=none↔cX kn outs=[]:=by
 have:=(Jj (kn:=kn) (outs:=outs) (best:=none) (λp e=>by cases e)).1
 grind [f6]
theorem Vl{a:Str}(e:f6 kn outs=some a):a∈outs/\atS kn a=some (dP (cX kn outs)):=by
 obtain⟨j1,v,j2,j3,_⟩:=(Jj (kn:=kn) (outs:=outs) (best:=none) (λp e=>by cases e)).2 a e
 have ha:a∈outs:=by
  lia
 have fS:cX kn outs≠[]:=λz=>by rw[lu.mpr z] at e;cases e
 obtain⟨m1,m2⟩:=Fo fS;obtain⟨o,ho,eo⟩:=iK.mp m1;have c1:=j3 o ho _ eo;have c2:=m2 v (iK.mpr ⟨a,ha,j2⟩)
 grind
section
variable{h:aF}{ar n:Str}{c:Int}
theorem e9j(g:aH h)(hc:ar∈h.carts):P0 Gw [.d (aE h),.d (.tup [.str n,.int c]),cV ar] (rd (yq h ar n c)):=by
 intro S;have e:=O_ g hc;have v:=BZ n (aS ar h.af);unfold Gw Rw yq;generalize aE h=hd at *;cases hk:atS (aS ar h.af) n with
 |none=>
  rw[hk] at v;simp only[↓ev,e,aQ,bQ,v,wO,mC,dX]
 |some w=>
  rw[hk] at v;simp only[↓ev,e,aQ,bQ,v,t8,kH,aJ,cB,dX]
theorem WI{S:aU}(ok:xY kn best)(o:Str){g0 g1 g2:ak Val}:BW 0 [g0,g1,g2,ao (.av (nP kn)),ao (aP best),aY o] S=some (.nx [g0,g1,g2,ao (.av (nP kn)),ao (aP (jj kn best o)),aY o] S):=by
 have v:=BZ o kn;unfold BW jj;cases hk:atS kn o with
 |none=>
  rw[hk] at v;simp only[↓ev,aJ,v,wO]
 |some w=>
  rw[hk] at v;cases best with
  |none=>
   unfold aP;simp only[↓ev,aJ,v,t8,aQ]
  |some p=>
   obtain⟨u,hu⟩:=ok p rfl;have v2:=BZ p kn;rw[hu] at v2;unfold aP;by_cases hl:w<u
   .have l6:=bD hl;simp only[↓ev,aJ,v,t8,v2,l6,decide_true,aQ,hu]
   .have l6:=eq_false hl;simp only[↓ev,aJ,v,t8,v2,l6,decide_false,hu]
theorem WJ{S:aU}{kn:List (Str×Int)}{outs:List Str}{g0 g1 g2 a:ak Val}:∃a',aO (ae 5) (BW 0) (dS outs) [g0,g1,g2,ao (.av (nP kn)),ao .aI,a] S=some (.nx [g0,g1,g2,ao (.av (nP kn)),ao (aP (f6 kn outs)),a'] S):=by
 obtain⟨U',S',e,a',rfl,rfl⟩:=iC (gg:=ae 5) (body:=BW 0) (f:=D.str) (U:=[g0,g1,g2,ao (.av (nP kn)),ao .aI,a]) (S:=S) (λpre U S'=>∃a',U=[g0,g1,g2,ao (.av (nP kn)),ao (aP (f6 kn pre)),a']/\S'=S) outs ⟨a,rfl,rfl⟩ (by
  rintro d x r eq U S' ⟨a',rfl,rfl⟩;have ok:xY kn (f6 kn d):=Qj λp z=>by cases z
  refine⟨_,_,_,rfl,.inl (WI ok x),aY x,?_,rfl⟩;unfold f6;rw[Mz];rfl)
 exact⟨a',e⟩
theorem Gz(g:aH h){b:aq}(hb:b∈h.af)(hc:ar∈h.carts):P0 Gy [.d (aE h),cV b.name,cV ar] (rd (aP (f6 (aS ar h.af) b.outs))):=by
 intro S;have e1:=O_ g hc;have e2:=Ac g hb;obtain⟨a',e⟩:=WJ (S:=S) (kn:=aS ar h.af) (outs:=b.outs) (g0:=(ao (aE h))) (g1:=(aY b.name)) (g2:=(aY ar)) (a:=none);have hD:ah b=.tup [.str b.name,.int b.long,.bl b.ring,.lst (dS b.outs)]:=rfl;rw[hD] at e2;unfold Gy Rx;generalize aE h=hd at *;simp only[↓ev,e1,aQ,e2,rJ,fH,e,dX]
end
noncomputable abbrev dZ(h:aF):Str:=h.carts.getD 0 ""
def p_(h:aF)(ct:Str)(nw cl:Int)(b:Str)(i:Int):Bool:=match atS (aS ct h.af) b with
 |none=>false
 |some v=>decide (nw+(v - i)<=cl)
noncomputable def m_(x:Hl)(w:Row):ak (Str×Int):=w.fl.bind λf=>(x.book.find? λp=>p.1 == f).map (·.2)
def x_(h:aF)(x:Hl)(w:Row):Bool:=match m_ x w with
 |none=>false
 |some (ct,cl)=>p_ h ct x.now cl w.b w.i
def dW(h:aF)(x:Hl)(w:Row):Str:=match m_ x w with
 |none=>dZ h
 |some (ct,cl)=>if p_ h ct x.now cl w.b w.i=true then ct else dZ h
section
variable{s:List Cell}{h:aF}{r:Int}{x:Hl}{n:Nat}{w:Row}
theorem IW(o:Ok h n x)(hw:w∈x.rows):(w.fl=none/\m_ x w=none)\/∃f ct cl,w.fl=some f/\m_ x w=some (ct,cl)/\ct∈h.carts/\aM (j' x.book) (.inr f)=some (.tup [.str f,.str ct,.int cl]):=by
 unfold m_;cases hf:w.fl with
 |none=>exact .inl ⟨rfl,rfl⟩
 |some f=>
  have v:aM (j' x.book) (.inr f)=_:=B' f x.book;cases e:x.book.find? (λp=>p.1 == f) with
  |none=>
   obtain⟨p,hp,ep⟩:=iS.mp ((o.rw w hw).2.2 f hf);have:=Mv.mp e p hp;rw[ep,fW] at this;exact cO rfl this
  |some p=>
   have e1:=HF e;have e1:p.1=f:=beq_iff_eq.mp e1;refine .inr ⟨f,p.2.1,p.2.2,rfl,by rw[wM,e];rfl,MD (o.bk p (HE e)),?_⟩
   rw[v,e,<-e1];rfl
theorem Y1(g:aH h)(o:Ok h n x)(hw:w∈x.rows):E' 0 [eV,cV w.bag] (hS (aE h) r x s)=some (.ok (rd (.bl (x_ h x w))) (hS (aE h) r x s)):=by
 have h1:aM (g9 x.rows) (.inr w.bag)=_:=jk o.nb hw;have h2:aM (il x.rows) (.inr w.bag)=_:=jk o.nb hw;unfold E' Np x_;rcases IW o hw with⟨e1,e2⟩|⟨f,ct,cl,e1,e2,hc,hk⟩
 .rw[e1] at h2;rw[e2];unfold aP at h2;generalize aE h=hd at *;simp only[↓ev,hR,pY,qu,aQ,h2,aJ,cx]
 .rw[e1] at h2;rw[e2];unfold aP at h2;have e:=e9j (n:=w.b) (c:=w.i) g hc;unfold yq at e;dsimp only;unfold p_;cases hv:atS (aS ct h.af) w.b with
  |none=>
   rw[hv] at e;generalize aE h=hd at *;simp only[↓ev,hR,pY,qu,aQ,h2,aJ,oR,p7,hk,mE,mW,kS,lr,h1,cB,e,cx]
  |some v=>
   rw[hv] at e;generalize aE h=hd at *;simp only[↓ev,hR,pY,qu,aQ,h2,aJ,oR,p7,hk,mE,mW,kS,lr,h1,cB,e,B_,Gr,gp,cx]
theorem e6f(g:aH h)(o:Ok h n x)(hw:w∈x.rows):Fc 0 [eV,cV w.bag] (hS (aE h) r x s)=some (.ok (rd (.str (dW h x w))) (hS (aE h) r x s)):=by
 have h2:aM (il x.rows) (.inr w.bag)=_:=jk o.nb hw;have e1:=λq=>YY (s:=s) (r:=r) q (hd:=aE h) (o.rw w hw).2.1 hw o.nb
 have e2:=Y1 (s:=s) (r:=r) g o hw;obtain⟨_,ha⟩:=Ak g;have hD:aE h=.tup [.lst (h.af.map ah),.lst (dS h.carts)]:=rfl;rw[hD] at e1 e2 ⊢;unfold Fc Nq dW;unfold x_ at e2;rcases IW o hw with⟨e3,e4⟩|⟨f,ct,cl,e3,e4,hc,hk⟩
 .rw[e4] at e2 ⊢;unfold dZ;generalize h.carts.getD 0 ""=vX at *;simp only[↓ev,hR,dN,zJ,e1,IG,e2,aJ,mE,mW,cB,ha,cx]
 .rw[e4] at e2 ⊢;rw[e3] at h2;unfold aP at h2;dsimp only at e2 ⊢;unfold dZ;generalize h.carts.getD 0 ""=vX at *;cases hb:p_ h ct x.now cl w.b w.i with
  |true=>
   rw[hb] at e2;simp only[↓ev,hR,dN,zJ,e1,IG,e2,oR,p7,aQ,pY,qu,h2,hk,cB,cx]
  |false=>
   rw[hb] at e2;simp only[↓ev,hR,dN,zJ,e1,IG,e2,aJ,mE,mW,cB,ha,cx]
theorem Jk(g:aH h):∀{bs pre:List aq},h.af=pre++bs->∀b∈bs,∃v,atS (aS (dZ h) h.af) b.name=some v
 |x::bs,pre,eq,b,hb=>by
  have Av:h.af=(pre++[x])++bs:=by rw[eq];simp
  rcases y0a.mp hb with rfl|hb
  .have GQ:b∈h.af:=by rw[eq];simp
   have fx:jh h.carts (b::bs):=zX (by rw[<-eq];exact g.fwd)
   have key:∀o∈b.outs,∀v,atS (aS (dZ h) h.af) o=some v->∃v,atS (aS (dZ h) h.af) b.name=some v:=λo m v e=>by
    have hm:=iK.mpr ⟨o,m,e⟩;rw[F7 (Ak g).1 g.fwd b GQ,bc λz=>by rw[z] at hm;cases hm]
    exact⟨_,rfl⟩
   rcases g.hd b GQ with z|⟨o,z1,z2⟩
   .exact key _ z _ (F8 (Ak g).1 g.fwd)
   .rcases fx.1 o z1 with y|y
    .obtain⟨w,hw,rfl⟩:=iS.mp y;obtain⟨v,e⟩:=Jk g Av w hw;exact key _ z1 v e
    .exact cO z2 (z5 g.fwd o y)
  .exact Jk g Av b hb
theorem JA(g:aH h)(o:Ok h n x)(hw:w∈x.rows):dW h x w∈h.carts/\∃v,atS (aS (dW h x w) h.af) w.b=some v:=by
 obtain⟨bt,hb,eb,_⟩:=(o.rw w hw).1;have hh:dZ h∈h.carts/\∃v,atS (aS (dZ h) h.af) w.b=some v:=⟨(Ak g).1,by rw[<-eb];exact Jk g (pre:=[]) (bs:=h.af) rfl bt hb⟩
 unfold dW;rcases IW o hw with⟨e3,e4⟩|⟨f,ct,cl,e3,e4,hc,hk⟩
 .rw[e4];exact hh
 .rw[e4];dsimp only;split
  .rename_i yw
   refine⟨hc,?_⟩;unfold p_ at yw;cases hv:atS (aS ct h.af) w.b with
   |none=>rw[hv] at yw;cases yw
   |some v=>exact⟨v,rfl⟩
  .exact hh
end
variable{bt:aq}{o:Str}{busy:List Str}
abbrev Goal:=Str×ak Int
def gD:Goal->D
 |(c,none)=>.str c
 |(b,some i)=>pl b i
section
variable{s:List Cell}{h:aF}{r:Int}{x:Hl}{n:Nat}{w:Row}{ct:Str}
theorem e6g(g:aH h)(hb:bt∈h.af)(hc:ct∈h.carts)(ho:f6 (aS ct h.af) bt.outs=some o)(hi:h.carts.contains o=true){busy:D}:P0 qv [.d (aE h),.d (ah bt),cV ct,.d busy] (rd (.str o)):=by
 intro S;have e:=Gz g hb hc;rw[ho] at e;have hD:aE h=.tup [.lst (h.af.map ah),.lst (dS h.carts)]:=rfl;have hB:ah bt=.tup [.str bt.name,.int bt.long,.bl bt.ring,.lst (dS bt.outs)]:=rfl;rw[hD] at e ⊢;rw[hB];unfold qv Bs;unfold aP at e;simp only[↓ev,bQ,e,aQ,cB,g7,aJ,gZ,hi,dX]
theorem e6h(g:aH h)(hb:bt∈h.af)(hc:ct∈h.carts)(ho:f6 (aS ct h.af) bt.outs=some o)(hi:h.carts.contains o=false)(hy:busy.contains o=false):P0 qv [.d (aE h),.d (ah bt),cV ct,.d (.lst (dS busy))] (rd (pl o 0)):=by
 intro S;have e:=Gz g hb hc;rw[ho] at e;have hD:aE h=.tup [.lst (h.af.map ah),.lst (dS h.carts)]:=rfl;have hB:ah bt=.tup [.str bt.name,.int bt.long,.bl bt.ring,.lst (dS bt.outs)]:=rfl;rw[hD] at e ⊢;rw[hB];unfold qv Bs;unfold aP at e;cases hr:bt.ring with
 |true=>simp only[↓ev,bQ,e,aQ,cB,g7,aJ,gZ,hi,gp,hy,dX]
 |false=>simp only[↓ev,bQ,e,aQ,cB,g7,aJ,gZ,hi,gp,dX]
theorem e6i(g:aH h)(hb:bt∈h.af)(hc:ct∈h.carts)(ho:f6 (aS ct h.af) bt.outs=some o)(hi:h.carts.contains o=false)(hr:bt.ring=true)(hy:busy.contains o=true):P0 qv [.d (aE h),.d (ah bt),cV ct,.d (.lst (dS busy))] (rd (pl bt.name 0)):=by
 intro S;have e:=Gz g hb hc;rw[ho] at e;have hD:aE h=.tup [.lst (h.af.map ah),.lst (dS h.carts)]:=rfl;have hB:ah bt=.tup [.str bt.name,.int bt.long,.bl bt.ring,.lst (dS bt.outs)]:=rfl;rw[hD] at e ⊢;rw[hB,hr];unfold qv Bs;unfold aP at e;simp only[↓ev,bQ,e,aQ,cB,g7,aJ,gZ,hi,gp,hy,dX]
theorem e6j(g:aH h)(hb:bt∈h.af)(hc:ct∈h.carts)(ho:f6 (aS ct h.af) bt.outs=some o)(hi:h.carts.contains o=false)(hr:bt.ring=false):P0 qv [.d (aE h),.d (ah bt),cV ct,.d (.lst (dS busy))] (rd (pl o 0)):=by
 intro S;have e:=Gz g hb hc;rw[ho] at e;have hD:aE h=.tup [.lst (h.af.map ah),.lst (dS h.carts)]:=rfl;have hB:ah bt=.tup [.str bt.name,.int bt.long,.bl bt.ring,.lst (dS bt.outs)]:=rfl;rw[hD] at e ⊢;rw[hB,hr];unfold qv Bs;unfold aP at e;simp only[↓ev,bQ,e,aQ,cB,g7,aJ,gZ,hi,gp,dX]
def eJ(h:aF)(x:Hl):List Str:=cw h x++(ord h x.rows).filterMap λw=>if(w.i == 0)=true then some w.b else none
theorem Vm(q:Nat)(l:List Row)(hl:l.length<=1000){S:aU}:a_ (ae 0) (Ia q) (Ib q) (l.map bP) [none] S []=some (.ok (dS (l.filterMap λw=>if(w.i == 0)=true then some w.b else none)) S):=by
 rw[uw (λw=>(if(w.i == 0)=true then some w.b else none).map D.str) l (by lia) λw m=>by
  unfold Ia Ib bP;generalize aP w.fl=ff at *;cases hc:(w.i == 0) with
  |true=>exact .inr ⟨rd (.str w.b),.str w.b,rfl,by simp only[↓ev,gp,cB,aJ,f7,hc],by simp only[↓ev,gp,bQ],rfl⟩
  |false=>exact .inl ⟨rfl,by simp only[↓ev,gp,cB,aJ,f7,hc]⟩]
 congr 2
 unfold dS;rw[List.map_filterMap]
theorem e6k(g:aH h)(o:Ok h n x):E8 0 [eV] (hS (aE h) r x s)=some (.ok (.o (.lst (dS (eJ h x)))) (hS (aE h) r x s)):=by
 have rl:=o.rl;have e1:=λq=>IV (s:=s) (r:=r) (q:=q) (x:=x) g
 have e2:=λq=>Cd (s:=s) (r:=r) (q:=q) g o
 have e3:=λq=>Vm (S:=hS (aE h) r x s) q (ord h x.rows) (by rw[o.perm.length_eq];lia)
 have hl:((dS (cw h x)).length+(dS ((ord h x.rows).filterMap λw=>if(w.i == 0)=true then some w.b else none)).length<=1000000)=True:=bD (by
  have h1:(cw h x).length<=(h.af.map aq.name).length:=vz _ _;have h2:=EF (λw:Row=>if(w.i == 0)=true then some w.b else none) (ord h x.rows)
  have h3:=o.perm.length_eq;have h4:=g.sm.bl
  grind)
 generalize aE h=hd at *;unfold E8 Nf eJ;rw[dS,fV,<-dS,<-dS];simp only[↓ev,hR,dN,IE,e1,xJ,e2,e3,hl,cx]
def ox(h:aF)(x:Hl)(bt:aq)(o:Str):Goal:=if h.carts.contains o=true then(o,none) else if(bt.ring&&(eJ h x).contains o)=true then(bt.name,some 0) else(o,some 0)
def km(h:aF)(r:Int)(x:Hl)(w:Row)(bt:aq):Goal:=if w.i+1<bt.long then(bt.name,some (w.i+1)) else if bt.ring=true/\w.fl=none/\w.gn<r then(bt.name,some 0) else ox h x bt ((f6 (aS (dW h x w) h.af) bt.outs).getD "")
def aB(h:aF)(r:Int)(x:Hl)(w:Row):Goal:=match findB h.af w.b with
 |none=>(w.b,none)
 |some bt=>km h r x w bt
theorem Fv(g:aH h)(hb:bt∈h.af):findB h.af bt.name=some bt:=by
 unfold findB;cases e:h.af.find? (λb=>b.name == bt.name) with
 |none=>
  grind
 |some c=>
  have h1:=HF e;rw[FJ g.fwd c (HE e) bt hb (beq_iff_eq.mp h1)]
theorem JR(g:aH h)(o:Ok h n x)(hw:w∈x.rows)(hb:bt∈h.af)(eb:bt.name=w.b):∃a,f6 (aS (dW h x w) h.af) bt.outs=some a/\a∈bt.outs:=by
 obtain⟨hc,v,hv⟩:=JA g o hw;have bg:=F7 hc g.fwd bt hb;rw[eb,hv] at bg;have fS:¬cX (aS (dW h x w) h.af) bt.outs=[]:=λz=>by rw[bM z] at bg;cases bg
 cases e:f6 (aS (dW h x w) h.af) bt.outs with
 |none=>exact cO (lu.mp e) fS
 |some a=>exact⟨a,rfl,(Vl e).1⟩
theorem WK(g:aH h)(hb:bt∈h.af)(hc:ct∈h.carts)(ho:f6 (aS ct h.af) bt.outs=some o):P0 qv [.d (aE h),.d (ah bt),cV ct,.d (.lst (dS (eJ h x)))] (rd (gD (ox h x bt o))):=by
 unfold ox;cases e1:h.carts.contains o with
 |true=>exact e6g g hb hc ho e1
 |false=>
  rw[bc (by decide)]
  cases e2:bt.ring with
  |false=>exact e6j g hb hc ho e1 e2
  |true=>
   cases e3:(eJ h x).contains o with
   |true=>exact e6i g hb hc ho e1 e2 e3
   |false=>exact e6h g hb hc ho e1 e3
end
section
variable{s:List Cell}{h:aF}{r:Int}{x:Hl}{n:Nat}{w:Row}{bt:aq}{aV:List D}{a8 a9:ak Val}{bz:D}
abbrev wS(hd:D)(r:Int)(x:Hl)(s:List Cell)(aV:List D):aU:=⟨s++[.o (.lst aV)],hR hd r x⟩
theorem L8(g:aH h)(hb:bt∈h.af)(eb:bt.name=w.b)(hl:(w.i+1<bt.long)=True)(ha:(aV.length<1000000)=True):ug 0 [cy,ao (aE h),ao bz,aN s.length,aY w.bag,ao (aP w.fl),ao (pl w.b w.i),bI w.gn,a8,a9] (wS (aE h) r x s aV)=some (.nx [cy,ao (aE h),ao bz,aN s.length,aY w.bag,ao (aP w.fl),ao (pl w.b w.i),bI w.gn,ao (ah bt),ao (pl bt.name (w.i+1))] (wS (aE h) r x s (aV++[.tup [.str w.bag,pl bt.name (w.i+1)]]))):=by
 have e4:=Ac g hb;have hB:ah bt=.tup [.str bt.name,.int bt.long,.bl bt.ring,.lst (dS bt.outs)]:=rfl;rw[hB] at e4 ⊢;rw[eb] at e4 ⊢;generalize aE h=hd at *;generalize aP w.fl=ff at *;unfold ug;simp only[↓ev,bQ,e4,aQ,cB,hl,decide_true,dy,ha,iU]
theorem L9(g:aH h)(hb:bt∈h.af)(eb:bt.name=w.b)(hl:(w.i+1<bt.long)=False)(hr:bt.ring=true)(hf:w.fl=none)(hg:(w.gn<r)=True)(ha:(aV.length<1000000)=True):ug 0 [cy,ao (aE h),ao bz,aN s.length,aY w.bag,ao (aP w.fl),ao (pl w.b w.i),bI w.gn,a8,a9] (wS (aE h) r x s aV)=some (.nx [cy,ao (aE h),ao bz,aN s.length,aY w.bag,ao (aP w.fl),ao (pl w.b w.i),bI w.gn,ao (ah bt),ao (pl bt.name 0)] (wS (aE h) r x s (aV++[.tup [.str w.bag,pl bt.name 0]]))):=by
 have e4:=Ac g hb;have e5:=λq s=>Oh (s:=s) (hd:=aE h) (r:=r) (q:=q) (x:=x)
 have hB:ah bt=.tup [.str bt.name,.int bt.long,.bl bt.ring,.lst (dS bt.outs)]:=rfl;rw[hB,hr] at e4 ⊢;rw[eb] at e4 ⊢;rw[hf];generalize aE h=hd at *;unfold ug aP;simp only[↓ev,bQ,e4,aQ,cB,hl,decide_false,aJ,gp,hR,dN,Og,e5,hg,decide_true,dy,ha,iU]
theorem L_(g:aH h)(o:Ok h n x)(hw:w∈x.rows)(hb:bt∈h.af)(eb:bt.name=w.b)(hl:(w.i+1<bt.long)=False){goal:D}(ho:P0 qv [.d (aE h),.d (ah bt),cV (dW h x w),.d bz] (rd goal))(hc:bt.ring=false\/(∃f,w.fl=some f)\/w.fl=none/\¬w.gn<r)(ha:(aV.length<1000000)=True):ug 0 [cy,ao (aE h),ao bz,aN s.length,aY w.bag,ao (aP w.fl),ao (pl w.b w.i),bI w.gn,a8,a9] (wS (aE h) r x s aV)=some (.nx [cy,ao (aE h),ao bz,aN s.length,aY w.bag,ao (aP w.fl),ao (pl w.b w.i),bI w.gn,ao (ah bt),ao goal] (wS (aE h) r x s (aV++[.tup [.str w.bag,goal]]))):=by
 have e4:=Ac g hb;have e5:=λq s=>Oh (s:=s) (hd:=aE h) (r:=r) (q:=q) (x:=x)
 have e6:=λs=>e6f (s:=s) (r:=r) g o hw
 have hB:ah bt=.tup [.str bt.name,.int bt.long,.bl bt.ring,.lst (dS bt.outs)]:=rfl;rw[hB] at e4 ho ⊢;rw[eb] at e4 ho ⊢;generalize aE h=hd at *;generalize dW h x w=ct at *;unfold ug;cases er:bt.ring with
 |false=>
  rw[er] at e4 ho;generalize aP w.fl=ff at *;simp only[↓ev,bQ,e4,aQ,cB,hl,decide_false,aJ,gp,hR,dN,IF,e6,ho,dy,ha,iU]
 |true=>
  rw[er] at e4 ho;rcases hc with z|⟨f,hf⟩|⟨hf,hg⟩
  .rw[er] at z;cases z
  .rw[hf];unfold aP;simp only[↓ev,bQ,e4,aQ,cB,hl,decide_false,aJ,gp,hR,dN,IF,e6,ho,dy,ha,iU]
  .rw[hf];unfold aP;have hg:=eq_false hg;simp only[↓ev,bQ,e4,aQ,cB,hl,decide_false,aJ,gp,hR,dN,Og,e5,hg,IF,e6,ho,dy,ha,iU]
theorem e6l(g:aH h)(o:Ok h n x)(hw:w∈x.rows)(ha:aV.length<1000)(s:List Cell):∃b8 b9,ug 0 [cy,ao (aE h),ao (.lst (dS (eJ h x))),aN s.length,aY w.bag,ao (aP w.fl),ao (pl w.b w.i),bI w.gn,a8,a9] (wS (aE h) r x s aV)=some (.nx [cy,ao (aE h),ao (.lst (dS (eJ h x))),aN s.length,aY w.bag,ao (aP w.fl),ao (pl w.b w.i),bI w.gn,b8,b9] (wS (aE h) r x s (aV++[.tup [.str w.bag,gD (aB h r x w)]]))):=by
 obtain⟨bt,hb,eb,_,_⟩:=(o.rw w hw).1;have Kw:(aV.length<1000000)=True:=bD (by lia)
 have eg:aB h r x w=km h r x w bt:=by unfold aB;rw[<-eb,Fv g hb]
 rw[eg];unfold km;by_cases hl:w.i+1<bt.long
 .rw[bM hl];exact⟨_,_,L8 g hb eb (bD hl) Kw⟩
 .rw[bc hl];by_cases hc:bt.ring=true/\w.fl=none/\w.gn<r
  .rw[bM hc];exact⟨_,_,L9 g hb eb (eq_false hl) hc.1 hc.2.1 (bD hc.2.2) Kw⟩
  .rw[bc hc];obtain⟨a,ea,_⟩:=JR g o hw hb eb;rw[ea,HG];refine⟨_,_,L_ g o hw hb eb (eq_false hl) (WK g hb (JA g o hw).1 ea) ?_ Kw⟩;cases er:bt.ring with
   |false=>exact .inl rfl
   |true=>
    cases ef:w.fl with
    |some f=>exact .inr (.inl ⟨f,rfl⟩)
    |none=>exact .inr (.inr ⟨rfl,λz=>hc ⟨er,ef,z⟩⟩)
def gh(h:aF)(r:Int)(x:Hl)(w:Row):D:=.tup [.str w.bag,gD (aB h r x w)]
theorem Pb(g:aH h)(o:Ok h n x):xA 0 [eV] (hS (aE h) r x s)=some (.ok (.o (.lst ((ord h x.rows).map (gh h r x)))) (hS (aE h) r x s)):=by
 have rl:=o.rl;have e1:=λq s=>WG (s:=s) (r:=r) (q:=q) (x:=x) g
 have e2:=λs=>e6k (s:=s) (r:=r) g o
 have e3:=λq s=>Cd (s:=s) (r:=r) (q:=q) g o
 have pl:=o.perm.length_eq;obtain⟨U',S',e,⟨a4,a5,a6,a7,a8,a9,rfl⟩,rfl⟩:=iC (gg:=ba [(ae 4),(ae 5),(ae 6),(ae 7)]) (body:=ug 0) (f:=bP) (U:=[cy,ao (aE h),ao (.lst (dS (eJ h x))),aN s.length,none,none,none,none,none,none]) (S:=wS (aE h) r x s []) (λpre U S'=>(∃a4 a5 a6 a7 a8 a9,U=[cy,ao (aE h),ao (.lst (dS (eJ h x))),aN s.length,a4,a5,a6,a7,a8,a9])/\S'=wS (aE h) r x s (pre.map (gh h r x))) (ord h x.rows) ⟨⟨_,_,_,_,_,_,rfl⟩,rfl⟩ (by
  rintro d w post eq U S' ⟨⟨a4,a5,a6,a7,a8,a9,rfl⟩,rfl⟩;have hw:w∈x.rows:=o.mem.mp (by rw[eq];simp)
  have hd:d.length<1000:=by
   grind
  obtain⟨b8,b9,e⟩:=e6l (r:=r) (a8:=a8) (a9:=a9) g o hw (aV:=d.map (gh h r x)) (by rw[bx];exact hd) s
  refine⟨_,_,_,rfl,.inl e,⟨_,_,_,_,_,_,rfl⟩,?_⟩;rw[fV];rfl)
 generalize aE h=hd at *;generalize dS (eJ h x)=bz at *;unfold xA OT;simp only[↓ev,hR,dN,WE,e1,aQ,e2,aJ,xJ,e3,fH,e,uP,dy,qA]
end
variable{W W':List (Str×D)}{b:Str}{S:aU}{n:Nat}
noncomputable def cH(W:List (Str×D)):List (TK×D):=td (·.1) (·.2) W
noncomputable def cL(G:Row->Goal)(L:List Row):List (TK×D):=td Row.bag (λw=>gD (G w)) L
abbrev tw(S:aU)(n:Nat)(W:List (Str×D)):aU:=⟨S.s.set n (.o (.av (cH W))),S.r⟩
theorem JS{y:D}(h:b∉W.map (·.1)):bN (cH W) (.inr b) y=cH (W++[(b,y)]):=by
 unfold cH;rw[Ca h];unfold td;rw[fV];rfl
theorem Au:(aM (cH W) (.inr b)).isSome=(W.map (·.1)).contains b:=As
theorem J8(hn:n<S.s.length):(S.s.set n (.o (.av (cH W))))[n]?=some (.o (.av (cH W))):=t4 hn
theorem JT:(S.s.set n (.o (.av (cH W)))).set n (.o (.av (cH W')))=S.s.set n (.o (.av (cH W'))):=HD ..
theorem e6m:(tw S n W').cut (S.s.set n (.o (.av (cH W)))).length=tw S n W':=by
 grind [aU.cut,List.take_of_length_le]
noncomputable def lC(st:List Str)(G:Row->Goal)(w:Row):ak D:=if st.contains w.b=true then some (.tup [.str "stopped",.str w.b]) else match G w with
 |(b,some _)=>if st.contains b=true then some (.tup [.str "stopped",.str b]) else none
 |(_,none)=>none
def cW(st:List Str)(G:Row->Goal)(L:List Row):List (Str×D):=L.filterMap λw=>(lC st G w).map λy=>(w.bag,y)
section
variable{S:aU}{n:Nat}{st:List Str}{G:Row->Goal}{L:List Row}{w:Row}{W:List (Str×D)}{a8 bg:ak Val}
theorem WL(hn:n<S.s.length)(hv:aM (cL G L) (.inr w.bag)=some (gD (G w)))(hW:w.bag∉W.map (·.1))(hl:W.length<1000):∃b8,zH 0 [bg,ao (.av (cL G L)),ao (.lst (dS st)),aN n,aY w.bag,ao (aP w.fl),ao (pl w.b w.i),bI w.gn,a8] (tw S n W)=some (.nx [bg,ao (.av (cL G L)),ao (.lst (dS st)),aN n,aY w.bag,ao (aP w.fl),ao (pl w.b w.i),bI w.gn,b8] (tw S n (W++((lC st G w).map λy=>(w.bag,y)).toList))):=by
 have ta:=J8 (W:=W) hn;have ts:=λW'=>JT (S:=S) (n:=n) (W:=W) (W':=W')
 have hp:=λy=>JS (y:=y) hW
 have l6:((cH W).length<1000000)=True:=bD (by unfold cH;rw[lT];lia)
 unfold lC;cases h1:st.contains w.b with
 |true=>
  refine⟨(ao (gD (G w))),?_⟩;generalize gD (G w)=gg at *;generalize aP w.fl=ff at *;show _=some (Fr.nx _ (tw S n (W++[(w.bag,_)])));unfold zH;simp only[↓ev,hv,aQ,bQ,g7,aJ,gZ,h1,ta,l6,hp,ts]
 |false=>
  rw[bc (by decide)]
  generalize aP w.fl=ff at *;obtain⟨c,gi⟩:∃c,G w=c:=⟨_,rfl⟩;rw[gi] at hv ⊢;obtain⟨c,i⟩:=c;cases i with
  |none=>
   refine⟨(aY c),?_⟩;show _=some (Fr.nx _ (tw S n (W++[])));rw[kN];unfold zH;unfold gD at hv;simp only[↓ev,hv,aQ,bQ,g7,aJ,gZ,h1,K3]
  |some i=>
   refine⟨(ao (pl c i)),?_⟩;unfold zH;unfold gD at hv;dsimp only at hv ⊢;cases h2:st.contains c with
   |true=>
    show _=some (Fr.nx _ (tw S n (W++[(w.bag,_)])));simp only[↓ev,hv,aQ,bQ,g7,aJ,gZ,h1,C_,h2,ta,l6,hp,ts]
   |false=>
    show _=some (Fr.nx _ (tw S n (W++[])));rw[kN];simp only[↓ev,hv,aQ,bQ,g7,aJ,gZ,h1,C_,h2]
theorem Uc(st:List Str)(G:Row->Goal)(L:List Row):∀b∈(cW st G L).map (·.1),b∈L.map Row.bag:=λb m=>by
 obtain⟨p,hp,rfl⟩:=iS.mp m;obtain⟨w,hw,e⟩:=wJ.mp hp;obtain⟨y,_,rfl⟩:=df.mp e;exact nG hw
theorem FO{d post:List Row}(eq:L=d++w::post)(nd:(L.map Row.bag).Nodup):w.bag∉d.map Row.bag:=by
 grind
theorem Y2(hn:n<S.s.length)(nd:(L.map Row.bag).Nodup)(hl:L.length<100):EX 0 [.d (.lst (L.map bP)),.d (.av (cL G L)),.d (.lst (dS st)),.c n] (tw S n [])=some (.ok (rd .aI) (tw S n (cW st G L))):=by
 obtain⟨U',S',e,⟨a4,a5,a6,a7,a8,rfl⟩,rfl⟩:=iC (gg:=ba [(ae 4),(ae 5),(ae 6),(ae 7)]) (body:=zH 0) (f:=bP) (U:=[ao (.lst (L.map bP)),ao (.av (cL G L)),ao (.lst (dS st)),aN n,none,none,none,none,none]) (S:=tw S n []) (λpre U S'=>(∃a4 a5 a6 a7 a8,U=[ao (.lst (L.map bP)),ao (.av (cL G L)),ao (.lst (dS st)),aN n,a4,a5,a6,a7,a8])/\S'=tw S n (cW st G pre)) L ⟨⟨_,_,_,_,_,rfl⟩,rfl⟩ (by
  rintro d w post eq U S' ⟨⟨a4,a5,a6,a7,a8,rfl⟩,rfl⟩;have hw:w∈L:=by rw[eq];simp
  have hv:aM (cL G L) (.inr w.bag)=some (gD (G w)):=jk nd hw;have hd:d.length<100:=by
   grind
  obtain⟨b8,e⟩:=WL (st:=st) (a8:=a8) (bg:=(ao (.lst (L.map bP)))) hn hv (W:=cW st G d) (λm=>FO eq nd (Uc st G d _ m)) (Ms (EF _ _) (by lia))
  refine⟨_,_,_,rfl,.inl e,⟨_,_,_,_,_,rfl⟩,?_⟩;unfold cW;rw[MI];rw[show List.filterMap (λw=>(lC st G w).map λy=>(w.bag,y)) [w]=((lC st G w).map λy=>(w.bag,y)).toList by rw[qD,A5];cases(lC st G w) <;> rfl])
 have cu:=e6m (S:=S) (n:=n) (W:=[]) (W':=cW st G L);generalize cW st G L=W2 at *;unfold EX MR;simp only[↓ev,fH,e,cu]
end
abbrev bG:=Str×Int
noncomputable def kC(p:bG):TK:=.tp [.inr p.1,.inl p.2]
theorem Q6{p q:bG}(e:kC p=kC q):p=q:=by
 grind [kC]
def g8(C:List (bG×Str)):List (TK×D):=C.map λe=>(kC e.1,.str e.2)
noncomputable def look(C:List (bG×Str))(k:bG):ak Str:=(C.find? λe=>e.1 == k).map (·.2)
noncomputable def ke:List (bG×Str)->bG->Str->List (bG×Str)
 |[],k,v=>[(k,v)]
 |e::es,k,v=>if e.1=k then(e.1,v)::es else e::ke es k v
theorem xy{e:bG×Str}{es:List (bG×Str)}{k:bG}:look (e::es) k=if e.1=k then some e.2 else look es k:=by
 grind [look]
theorem Pc(k:bG)(v:Str)(k':bG):∀C:List (bG×Str),look (ke C k v) k'=if k=k' then some v else look C k'
 |[]=>by show look [(k,v)] k'=_;rw[xy]
 |e::es=>by
  unfold ke;by_cases h:e.1=k
  .rw[bM h,xy,xy,h];split <;> rfl
  .rw[bc h,xy,Pc k v k' es,xy]
   lia
theorem Ce(k:bG):∀C:List (bG×Str),aM (g8 C) (kC k)=(look C k).map D.str
 |[]=>rfl
 |e::es=>by
  have ih:=Ce k es
  grind [xy,aM,g8,Q6]
theorem JU(k:bG)(v:Str):∀C:List (bG×Str),bN (g8 C) (kC k) (.str v)=g8 (ke C k v)
 |[]=>rfl
 |e::es=>by
  have ih:=JU k v es
  grind [g8,BB,ke,Q6]
theorem Pd(k:bG)(v:Str):∀C:List (bG×Str),(ke C k v).length<=C.length+1
 |[]=>by unfold ke;exact bY _
 |e::es=>by
  have ih:=Pd k v es;unfold ke;split
  .rw[kG,kG];lia
  .rw[kG,kG];lia
noncomputable def gk(G:Row->Goal)(w:Row):bG:=((G w).1,(G w).2.getD 0)
def ask(G:Row->Goal)(W:List (Str×D))(L:List Row):List Row:=L.filter λw => !(W.map (·.1)).contains w.bag&&(G w).2.isSome
theorem Ry{G:Row->Goal}{w:Row}(h:(G w).2.isSome=true):gD (G w)=pl (gk G w).1 (gk G w).2:=by
 unfold gk gD;generalize G w=p at *;obtain⟨c,i⟩:=p;cases i with
 |none=>cases h
 |some i=>rfl
theorem kp{o:Str}{j:Int}:nF [.str o,.int j]=some [.inr o,.inl j]:=by simp[nF,qC]
def Cp(G:Row->Goal)(C:List (bG×Str))(w:Row):List (bG×Str):=if look C (gk G w)=none\/w.b=(gk G w).1 then ke C (gk G w) w.bag else C
section
variable{S:aU}{n m:Nat}{G:Row->Goal}{L:List Row}{w:Row}{W:List (Str×D)}{C:List (bG×Str)}{a8 a9 ES g0 g3:ak Val}{t rr:List Cell}
theorem e6o(hv:aM (cL G L) (.inr w.bag)=some (gD (G w)))(hs:(G w).2.isSome=true)(ht:t[m]?=some (.o (.av (g8 C))))(hl:C.length<1000):Be 0 [g0,ao (.av (cL G L)),aN n,g3,aN m,aY w.bag,ao (aP w.fl),ao (pl w.b w.i),bI w.gn,a9,ES] ⟨t,rr⟩=some (.nx [g0,ao (.av (cL G L)),aN n,g3,aN m,aY w.bag,ao (aP w.fl),ao (pl w.b w.i),bI w.gn,ao (gD (G w)),ES] ⟨t.set m (.o (.av (g8 (Cp G C w)))),rr⟩):=by
 rw[Ry hs] at hv ⊢;have v:=Ce (gk G w) C;have pu:=JU (gk G w) w.bag C;have l6:((g8 C).length<1000000)=True:=bD (by unfold g8;rw[bx];lia)
 have lt:(m<t.length)=True:=bD (eW.mp ht).1;have se:t.set m (.o (.av (g8 C)))=t:=by
  obtain⟨h1,h2⟩:=eW.mp ht;rw[<-h2,MJ]
 unfold Cp;unfold kC at v pu;generalize aP w.fl=ff at *;unfold Be;cases hk:look C (gk G w) with
 |none=>
  rw[bM (.inl rfl)];rw[hk] at v;simp only[↓ev,hv,aQ,ht,v,wO,mC,l6,pu]
 |some b=>
  rw[hk] at v;cases he:(w.b == (gk G w).1) with
  |true=>
   rw[bM (.inr (beq_iff_eq.mp he))];simp only[↓ev,hv,aQ,ht,v,t8,kH,aJ,bQ,fB,he,l6,pu]
  |false=>
   rw[bc (by rw[not_or];exact⟨λz=>(by cases z),λz=>(by rw[z,fW] at he;cases he)⟩),se]
   simp only[↓ev,hv,aQ,ht,v,t8,kH,aJ,bQ,fB,he]
theorem WM(q:Nat)(nd:(L.map Row.bag).Nodup)(hl:L.length<=1000)(hn:t[n]?=some (.o (.av (cH W)))):a_ (ae 0) (HW q) (HX q) (L.map bP) [none,aN n,ao (.av (cL G L))] ⟨t,rr⟩ []=some (.ok ((ask G W L).map bP) ⟨t,rr⟩):=by
 rw[uw (λw=>if(!(W.map (·.1)).contains w.bag&&(G w).2.isSome)=true then some (bP w) else none) L (by lia) λw m=>by
  have v:aM (cL G L) (.inr w.bag)=_:=jk nd m;have i:=Au (W:=W) (b:=w.bag);unfold HW HX;cases h1:(W.map (·.1)).contains w.bag with
  |true=>
   refine .inl ⟨rfl,?_⟩;rw[h1] at i;unfold bP;generalize aP w.fl=ff at *;generalize gD (G w)=gg at *;simp only[↓ev,bQ,hn,i,kH,aJ]
  |false=>
   rw[h1] at i;cases h2:(G w).2 with
   |none=>
    have e:gD (G w)=.str (G w).1:=by unfold gD;generalize G w=p at *;obtain⟨c,j⟩:=p;cases h2;rfl
    rw[e] at v;refine .inl ⟨rfl,?_⟩;unfold bP;generalize aP w.fl=ff at *;simp only[↓ev,bQ,hn,i,mC,v,K3]
   |some j=>
    have e:gD (G w)=pl (G w).1 j:=by unfold gD;generalize G w=p at *;obtain⟨c,j⟩:=p;cases h2;rfl
    rw[e] at v;refine .inr ⟨rd (bP w),bP w,rfl,?_,?_,rfl⟩
    .unfold bP;generalize aP w.fl=ff at *;simp only[↓ev,bQ,hn,i,mC,v,C_]
    rfl]
 congr 2
 unfold ask;clear nd hl
 induction L with
 |nil=>rfl
 |cons w L ih=>
  rw[qD,AZ,ih];cases(!(W.map (·.1)).contains w.bag&&(G w).2.isSome) <;> rfl
end
variable{G:Row->Goal}
def mI(G:Row->Goal)(d:List Row)(C:List (bG×Str)):Prop:=(∀k b,look C k=some b->∃c∈d,c.bag=b/\gk G c=k/\((∃z∈d,gk G z=k/\z.b=k.1)->c.b=k.1))/\(∀w∈d,look C (gk G w)≠none)/\C.length<=d.length
theorem e6p:mI G [] []:=⟨λk b e=>(by cases e),λw m=>(by cases m),bY _⟩
theorem Y3{d:List Row}{C:List (bG×Str)}(o:mI G d C)(w:Row):mI G (d++[w]) (Cp G C w):=by
 obtain⟨o1,o2,o3⟩:=o;have me:∀{z},z∈d++[w]↔z∈d\/z=w:=λ{z}=>by rw[iQ,mG]
 unfold Cp;by_cases hc:look C (gk G w)=none\/w.b=(gk G w).1
 .rw[bM hc];refine⟨λk b e=>?_,λz m=>?_,?_⟩
  all_goals grind [Pc,Pd]
 .rw[bc hc];rw[not_or] at hc;refine⟨λk b e=>?_,λz m=>?_,by rw[dw];lia⟩
  .obtain⟨c,mc,e1,e2,e3⟩:=o1 k b e;refine⟨c,me.mpr (.inl mc),e1,e2,λ⟨z,mz,e4,e5⟩=>e3 ?_⟩
   rcases me.mp mz with mz|rfl
   .exact⟨z,mz,e4,e5⟩
   .exact cO (by rw[e4];exact e5) hc.2
  .rcases me.mp m with m|rfl
   .exact o2 z m
   .exact hc.1
def fR(G:Row->Goal)(C:List (bG×Str))(w:Row):ak (Str×D):=match look C (gk G w) with
 |none=>none
 |some c=>if c=w.bag then none else some (w.bag,.tup [.str "yields",.str c])
section
variable{S:aU}{n m:Nat}{G:Row->Goal}{L A:List Row}{w:Row}{W:List (Str×D)}{C:List (bG×Str)}{a8 a9 ES g0 g3:ak Val}{t rr:List Cell}
theorem e6q(hv:aM (cL G L) (.inr w.bag)=some (gD (G w)))(hs:(G w).2.isSome=true)(hm:t[m]?=some (.o (.av (g8 C))))(hn:t[n]?=some (.o (.av (cH W))))(hW:w.bag∉W.map (·.1))(hl:W.length<1000){c:Str}(hk:look C (gk G w)=some c):Bf 0 [g0,ao (.av (cL G L)),aN n,g3,aN m,aY w.bag,ao (aP w.fl),ao (pl w.b w.i),bI w.gn,a9,ES] ⟨t,rr⟩=some (.nx [g0,ao (.av (cL G L)),aN n,g3,aN m,aY w.bag,ao (aP w.fl),ao (pl w.b w.i),bI w.gn,a9,aY c] ⟨t.set n (.o (.av (cH (W++(fR G C w).toList)))),rr⟩):=by
 rw[Ry hs] at hv;have v:=Ce (gk G w) C;rw[hk] at v;have hp:=λy=>JS (y:=y) hW
 have l6:((cH W).length<1000000)=True:=bD (by unfold cH;rw[lT];lia)
 have lt:(n<t.length)=True:=bD (eW.mp hn).1;have se:t.set n (.o (.av (cH W)))=t:=by
  obtain⟨h1,h2⟩:=eW.mp hn;rw[<-h2,MJ]
 unfold fR;rw[hk];dsimp only;unfold kC at v;generalize aP w.fl=ff at *;unfold Bf;cases he:(c == w.bag) with
 |true=>
  rw[bM (beq_iff_eq.mp he)];show _=some (Fr.nx _ ⟨t.set n (.o (.av (cH (W++[])))),rr⟩);rw[kN,se];simp only[↓ev,hv,hm,v,aQ,he,kH,aJ]
 |false=>
  rw[bc (by rw[qH] at he;exact he)]
  show _=some (Fr.nx _ ⟨t.set n (.o (.av (cH (W++[(w.bag,.tup [.str "yields",.str c])])))),rr⟩);simp only[↓ev,hv,hm,v,aQ,he,mC,hn,l6,hp]
theorem oS:w∈ask G W L↔w∈L/\w.bag∉W.map (·.1)/\(G w).2.isSome=true:=by
 unfold ask;rw[tZ,iW,MC,HH,ne_eq,lh]
theorem WN(C:List (bG×Str))(A:List Row):∀b∈(A.filterMap (fR G C)).map (·.1),b∈A.map Row.bag:=λb m=>by
 grind [fR]
theorem Y4(nd:(L.map Row.bag).Nodup)(hl:L.length<100)(hA:∀w∈A,w∈L/\(G w).2.isSome=true)(GK:A.length<100)(t:List Cell):∃C,mI G A C/\∃a5 a6 a7 a8 a9,aO (ba [(ae 5),(ae 6),(ae 7),(ae 8)]) (Be 0) (A.map bP) [g0,ao (.av (cL G L)),aN n,g3,aN t.length,none,none,none,none,none,none] ⟨t++[.o (.av [])],rr⟩=some (.nx [g0,ao (.av (cL G L)),aN n,g3,aN t.length,a5,a6,a7,a8,a9,none] ⟨t++[.o (.av (g8 C))],rr⟩):=by
 obtain⟨U',S',e,⟨a5,a6,a7,a8,a9,rfl⟩,C,oC,rfl⟩:=iC (gg:=ba [(ae 5),(ae 6),(ae 7),(ae 8)]) (body:=Be 0) (f:=bP) (U:=[g0,ao (.av (cL G L)),aN n,g3,aN t.length,none,none,none,none,none,none]) (S:=⟨t++[.o (.av [])],rr⟩) (λpre U S'=>(∃a5 a6 a7 a8 a9,U=[g0,ao (.av (cL G L)),aN n,g3,aN t.length,a5,a6,a7,a8,a9,none])/\∃C,mI G pre C/\S'=⟨t++[.o (.av (g8 C))],rr⟩) A ⟨⟨_,_,_,_,_,rfl⟩,[],e6p,rfl⟩ (by
  rintro d w post eq U S' ⟨⟨a5,a6,a7,a8,a9,rfl⟩,C,oC,rfl⟩;obtain⟨hw,hs⟩:=hA w (by rw[eq];simp)
  have hd:d.length<100:=by
   grind
  have:=oC.2.2;refine⟨_,_,_,rfl,.inl (e6o (jk nd hw) hs dy (by lia)),⟨_,_,_,_,_,rfl⟩,Cp G C w,Y3 oC w,?_⟩
  rw[iU];rfl)
 exact⟨C,oC,a5,a6,a7,a8,a9,e⟩
theorem Y5(nd:(L.map Row.bag).Nodup)(Le:(A.map Row.bag).Nodup)(hA:∀w∈A,w∈L/\w.bag∉W.map (·.1)/\(G w).2.isSome=true)(GK:A.length<100)(Kv:W.length<100)(oC:mI G A C){t:List Cell}(hn:t[n]?=some (.o (.av (cH W))))(hm:t[m]?=some (.o (.av (g8 C))))(nm:n≠m){a5 a6 a7 a8 a9:ak Val}:∃b5 b6 b7 b8 xR,aO (ba [(ae 5),(ae 6),(ae 7),(ae 8)]) (Bf 0) (A.map bP) [g0,ao (.av (cL G L)),aN n,g3,aN m,a5,a6,a7,a8,a9,none] ⟨t,rr⟩=some (.nx [g0,ao (.av (cL G L)),aN n,g3,aN m,b5,b6,b7,b8,a9,xR] ⟨t.set n (.o (.av (cH (W++A.filterMap (fR G C))))),rr⟩):=by
 have lt:=(eW.mp hn).1;have se:t.set n (.o (.av (cH (W++[]))))=t:=by
  obtain⟨h1,h2⟩:=eW.mp hn;rw[kN,<-h2,MJ]
 obtain⟨U',S',e,⟨b5,b6,b7,b8,xR,rfl⟩,rfl⟩:=iC (gg:=ba [(ae 5),(ae 6),(ae 7),(ae 8)]) (body:=Bf 0) (f:=bP) (U:=[g0,ao (.av (cL G L)),aN n,g3,aN m,a5,a6,a7,a8,a9,none]) (S:=⟨t,rr⟩) (λpre U S'=>(∃b5 b6 b7 b8 xR,U=[g0,ao (.av (cL G L)),aN n,g3,aN m,b5,b6,b7,b8,a9,xR])/\S'=⟨t.set n (.o (.av (cH (W++pre.filterMap (fR G C))))),rr⟩) A ⟨⟨_,_,_,_,_,rfl⟩,by rw[A5,se]⟩ (by
  rintro d w post eq U S' ⟨⟨b5,b6,b7,b8,xR,rfl⟩,rfl⟩;have R6:w∈A:=by rw[eq];simp
  obtain⟨hw,hwW,hs⟩:=hA w R6;have hd:d.length<100:=by
   have:=congrArg List.length eq;rw[dw] at this;lia
  obtain⟨c,hc⟩:=Option.ne_none_iff_exists'.mp (oC.2.1 w R6);have hlen:=EF (fR G C) d;refine⟨_,_,_,rfl,.inl (e6q (jk nd hw) hs (by rw[AX nm];exact hm) (by rw[t4 lt]) (W:=W++d.filterMap (fR G C)) (λz=>?_) (by rw[dw];lia) hc),⟨_,_,_,_,_,rfl⟩,?_⟩
  .rw[fV,iQ] at z;rcases z with z|z
   .exact hwW z
   .exact FO eq Le (WN C d _ z)
  .rw[HD,MI,lG,show List.filterMap (fR G C) [w]=(fR G C w).toList by rw[qD,A5];cases fR G C w <;> rfl])
 exact⟨b5,b6,b7,b8,xR,e⟩
theorem Y6(hn:n<S.s.length)(nd:(L.map Row.bag).Nodup)(hl:L.length<100)(Kv:W.length<100):∃C,mI G (ask G W L) C/\ET 0 [.d (.lst (L.map bP)),.d (.av (cL G L)),.c n] (tw S n W)=some (.ok (rd .aI) (tw S n (W++(ask G W L).filterMap (fR G C)))):=by
 have ta:=J8 (W:=W) hn;have hA:∀w∈ask G W L,w∈L/\w.bag∉W.map (·.1)/\(G w).2.isSome=true:=λw m=>oS.mp m
 have GK:(ask G W L).length<100:=Ms (vz _ _) hl;have Le:((ask G W L).map Row.bag).Nodup:=nd.sublist (List.Sublist.map _ Hy);have e1:=λq=>WM (G:=G) (rr:=S.r) q nd (by lia) ta
 obtain⟨C,oC,a5,a6,a7,a8,a9,e2⟩:=Y4 (n:=n) (rr:=S.r) (g0:=(ao (.lst (L.map bP)))) (g3:=(ao (.lst ((ask G W L).map bP)))) nd hl (λw m=>⟨(hA w m).1,(hA w m).2.2⟩) GK (S.s.set n (.o (.av (cH W))))
 have l7:n<(S.s.set n (.o (.av (cH W)))).length:=by rw[t5];exact hn
 obtain⟨b5,b6,b7,b8,xR,e3⟩:=Y5 (n:=n) (m:=(S.s.set n (.o (.av (cH W)))).length) (rr:=S.r) (g0:=(ao (.lst (L.map bP)))) (g3:=(ao (.lst ((ask G W L).map bP)))) (a5:=a5) (a6:=a6) (a7:=a7) (a8:=a8) (a9:=a9) nd Le hA GK Kv oC (t:=S.s.set n (.o (.av (cH W)))++[.o (.av (g8 C))]) (by rw[sT l7];exact ta) dy (by lia)
 refine⟨C,oC,?_⟩;generalize(ask G W L).filterMap (fR G C)=Y at *;rw[List.set_append_left _ _ l7,JT] at e3;have cu:aU.cut ⟨S.s.set n (.o (.av (cH (W++Y))))++[.o (.av (g8 C))],S.r⟩ (S.s.set n (.o (.av (cH W)))).length=tw S n (W++Y):=by
  grind [aU.cut]
 generalize(ask G W L).map bP=al at *;unfold ET MN;simp only[↓ev,fH,e1,aQ,e2,e3,cu]
end
variable{C:List (bG×Str)}
noncomputable def iq(L:List Row):List (bG×Str):=L.map λw=>((w.b,w.i),w.bag)
theorem Pe{k:bG}{v:Str}:∀{C:List (bG×Str)},k∉C.map (·.1)->ke C k v=C++[(k,v)]
 |[],_=>rfl
 |e::es,h=>by
  rw[cU,y0a,not_or] at h;unfold ke;rw[bc λz=>h.1 z.symm,Pe h.2]
  rfl
theorem WO{k:bG}{b:Str}(nd:(C.map (·.1)).Nodup)(h:(k,b)∈C):look C k=some b:=by
 induction C with
 |nil=>cases h
 |cons e es ih=>
  grind [xy]
def hold(G:Row->Goal)(L:List Row)(w:Row):ak Str:=match(G w).2 with
 |none=>none
 |some i=>look (iq L) ((G w).1,i)
noncomputable def Ck(o:Str):D:=.tup [.str "behind",.str o]
def ka(G:Row->Goal)(L:List Row)(X:List (Str×D))(w:Row)(o:Str):Prop:=w.bag∉X.map (·.1)/\hold G L w=some o/\o∈X.map (·.1)
inductive mD (G:Row->Goal) (L:List Row) (W:List (Str×D)):List (Str×D)->Prop
 |base:mD G L W W
 |step {X:List (Str×D)} {w:Row} {o:Str}:mD G L W X->w∈L->ka G L X w o->mD G L W (X++[(w.bag,Ck o)])
theorem mD.trans{G:Row->Goal}{L:List Row}{W X Y:List (Str×D)}(a:mD G L W X)(b:mD G L X Y):mD G L W Y:=by
 induction b with
 |base=>exact a
 |step _ hw hc ih=>exact .step ih hw hc
section
variable{S:aU}{n m:Nat}{G:Row->Goal}{L:List Row}{w:Row}{W X:List (Str×D)}{a5 a6 a7 a9 g0:ak Val}{t rr:List Cell}{gr:Bool}
theorem e6r{d:List Row}(ht:t[m]?=some (.o (.av (g8 (iq d)))))(hl:d.length<1000)(hk:(w.b,w.i)∉d.map λw=>(w.b,w.i)){g1 g2 a8:ak Val}:Bg 0 [g0,g1,g2,aN m,aY w.bag,ao (aP w.fl),ao (pl w.b w.i),bI w.gn,a8,a9] ⟨t,rr⟩=some (.nx [g0,g1,g2,aN m,aY w.bag,ao (aP w.fl),ao (pl w.b w.i),bI w.gn,a8,a9] ⟨t.set m (.o (.av (g8 (iq (d++[w]))))),rr⟩):=by
 have pu:=JU (w.b,w.i) w.bag (iq d);rw[Pe (by unfold iq;rw[eU];exact hk),show iq d++[((w.b,w.i),w.bag)]=iq (d++[w]) by unfold iq;rw[fV];rfl] at pu
 have l6:((g8 (iq d)).length<1000000)=True:=bD (by unfold g8 iq;rw[bx,bx];lia)
 have lt:(m<t.length)=True:=bD (eW.mp ht).1;unfold kC at pu;dsimp only at pu;generalize aP w.fl=ff at *;unfold Bg;simp only[↓ev,ht,l6,pu]
theorem WQ{t:List Cell}{n:Nat}{c:Cell}(h:t[n]?=some c):t.set n c=t:=by
 obtain⟨h1,h2⟩:=eW.mp h;rw[<-h2,MJ]
theorem e6s{c:Str}:aM (g8 C) (.inr c)=none:=by
 grind [aM,g8,kC]
theorem e6t{α:Type}{k:α->Str}{v:α->D}{xs:List α}:aM (td k v xs) TK.aI=none:=by
 grind [aM,td]
theorem e9k(hv:aM (cL G L) (.inr w.bag)=some (gD (G w)))(hm:t[m]?=some (.o (.av (g8 (iq L)))))(hn:t[n]?=some (.o (.av (cH X))))(hc:∀o,¬ka G L X w o):∃b9,xm 0 [g0,ao (.av (cL G L)),aN n,aN m,aY w.bag,a5,a6,a7,ao (.bl gr),a9] ⟨t,rr⟩=some (.nx [g0,ao (.av (cL G L)),aN n,aN m,aY w.bag,a5,a6,a7,ao (.bl gr),b9] ⟨t,rr⟩):=by
 have i:=Au (W:=X) (b:=w.bag);have nn:aM (cH X) TK.aI=none:=e6t;unfold ka hold at hc;unfold xm;generalize G w=p at *;obtain⟨c,j⟩:=p;cases j with
 |none=>
  unfold gD at hv;have v:=e6s (C:=iq L) (c:=c);refine⟨(ao .aI),?_⟩;cases h1:(X.map (·.1)).contains w.bag with
  |true=>
   rw[h1] at i;simp only[↓ev,hm,hv,v,aQ,hn,i,kH,aJ]
  |false=>
   rw[h1] at i;simp only[↓ev,hm,hv,v,aQ,hn,i,mC,aJ,nn,wO]
 |some j=>
  unfold gD at hv;dsimp only at hc hv;have v:=Ce (c,j) (iq L);unfold kC at v;dsimp only at v;cases hk:look (iq L) (c,j) with
  |none=>
   rw[hk] at v;refine⟨(ao .aI),?_⟩;cases h1:(X.map (·.1)).contains w.bag with
   |true=>
    rw[h1] at i;simp only[↓ev,hm,hv,v,aQ,hn,i,kH,aJ]
   |false=>
    rw[h1] at i;simp only[↓ev,hm,hv,v,aQ,hn,i,mC,aJ,nn,wO]
  |some o=>
   rw[hk] at v;refine⟨(aY o),?_⟩;cases h1:(X.map (·.1)).contains w.bag with
   |true=>
    rw[h1] at i;simp only[↓ev,hm,hv,v,aQ,hn,i,kH,aJ]
   |false=>
    rw[h1] at i;have i2:=Au (W:=X) (b:=o);have h2:(X.map (·.1)).contains o=false:=by
     rw[HH];intro z;exact hc o ⟨λy=>(by rw[lh.mpr y] at h1;cases h1),hk,lh.mp z⟩
    rw[h2] at i2;simp only[↓ev,hm,hv,v,aQ,hn,i,mC,aJ,i2]
theorem e6u(hv:aM (cL G L) (.inr w.bag)=some (gD (G w)))(hm:t[m]?=some (.o (.av (g8 (iq L)))))(hn:t[n]?=some (.o (.av (cH X)))){o:Str}(hc:ka G L X w o)(hl:X.length<1000):xm 0 [g0,ao (.av (cL G L)),aN n,aN m,aY w.bag,a5,a6,a7,ao (.bl gr),a9] ⟨t,rr⟩=some (.nx [g0,ao (.av (cL G L)),aN n,aN m,aY w.bag,a5,a6,a7,ao (.bl true),aY o] ⟨t.set n (.o (.av (cH (X++[(w.bag,Ck o)])))),rr⟩):=by
 have i:=Au (W:=X) (b:=w.bag);have i2:=Au (W:=X) (b:=o);obtain⟨c1,c2,c3⟩:=hc;rw[show(X.map (·.1)).contains w.bag=false by rw[HH];exact λz=>c1 (lh.mp z)] at i
 rw[lh.mpr c3] at i2;have hp:=JS (y:=Ck o) c1;have l6:((cH X).length<1000000)=True:=bD (by unfold cH;rw[lT];lia)
 have lt:(n<t.length)=True:=bD (eW.mp hn).1;unfold hold at c2;unfold xm;generalize G w=p at *;obtain⟨c,j⟩:=p;cases j with
 |none=>cases c2
 |some j=>
  unfold gD at hv;dsimp only at c2 hv;have v:=Ce (c,j) (iq L);unfold kC at v;dsimp only at v;rw[c2] at v;unfold Ck at hp ⊢;simp only[↓ev,hm,hv,v,aQ,hn,i,mC,aJ,i2,l6,hp]
end
variable{X:List (Str×D)}{w:Row}{L:List Row}
noncomputable def nk(X:List (Str×D))(w:Row):Bool := !(X.map (·.1)).contains w.bag
theorem mf:nk X w=true↔w.bag∉X.map (·.1):=by
 unfold nk;rw[MC,HH,ne_eq,lh]
def mu(L:List Row)(X:List (Str×D)):Nat:=(L.filter (nk X)).length
theorem Y7{y:D}(hw:w∈L)(h:w.bag∉X.map (·.1)):mu L (X++[(w.bag,y)])<mu L X:=by
 unfold mu;have e:L.filter (nk (X++[(w.bag,y)]))=(L.filter (nk X)).filter λz=>decide (z.bag≠w.bag):=by
  rw[List.filter_filter];refine List.filter_congr λz _=>?_
  rw[zx,mf,iW,mf,y9a,fV,iQ,List.map_singleton,mG];exact⟨λz=>⟨λy=>z (.inr y),λy=>z (.inl y)⟩,λz y=>y.elim z.2 z.1⟩
 rw[e,List.length_filter_lt_length_iff_exists];exact⟨w,tZ.mpr ⟨hw,mf.mpr h⟩,by simp⟩
theorem mD.zt{G:Row->Goal}{W:List (Str×D)}(a:mD G L W X):X.length+mu L X<=W.length+mu L W:=by
 induction a with
 |base=>exact bY _
 |@step X w o _ hw hc ih=>
  have:=Y7 (y:=Ck o) hw hc.1;rw[dw];simp;lia
theorem Rz:mu L X<=L.length:=vz _ _
section
variable{S:aU}{n m:Nat}{G:Row->Goal}{L:List Row}{w:Row}{W X:List (Str×D)}{a4 a5 a6 a7 a9 g0:ak Val}{t rr:List Cell}
theorem WR(nd:(L.map Row.bag).Nodup)(hl:L.length<100)(hX:X.length<200)(nm:n≠m)(hm:t[m]?=some (.o (.av (g8 (iq L)))))(hn:t[n]?=some (.o (.av (cH X)))):∃X' gr b4 b9,mD G L X X'/\(gr=true->X.length<X'.length)/\(gr=false->X'=X/\∀w∈L,∀o,¬ka G L X w o)/\aO (ae 4) (xm 0) (dS (L.map Row.bag)) [g0,ao (.av (cL G L)),aN n,aN m,a4,a5,a6,a7,ao (.bl false),a9] ⟨t,rr⟩=some (.nx [g0,ao (.av (cL G L)),aN n,aN m,b4,a5,a6,a7,ao (.bl gr),b9] ⟨t.set n (.o (.av (cH X'))),rr⟩):=by
 have lt:=(eW.mp hn).1;rw[show dS (L.map Row.bag)=L.map λw=>.str w.bag by unfold dS;rw[eU];rfl]
 obtain⟨U',S',e,X',gr,b4,b9,rfl,rfl,i1,i2,i3⟩:=iC (gg:=ae 4) (body:=xm 0) (f:=λw:Row=>.str w.bag) (U:=[g0,ao (.av (cL G L)),aN n,aN m,a4,a5,a6,a7,ao (.bl false),a9]) (S:=⟨t,rr⟩) (λpre U S'=>∃X' gr b4 b9,U=[g0,ao (.av (cL G L)),aN n,aN m,b4,a5,a6,a7,ao (.bl gr),b9]/\S'=⟨t.set n (.o (.av (cH X'))),rr⟩/\mD G L X X'/\(gr=true->X.length<X'.length)/\(gr=false->X'=X/\∀w∈pre,∀o,¬ka G L X w o)) L ⟨X,false,_,_,rfl,by rw[WQ hn],.base,λz=>(by cases z),λ_=>⟨rfl,λw m=>(by cases m)⟩⟩ (by
  rintro d w post eq U S' ⟨X',gr,b4,b9,rfl,rfl,i1,i2,i3⟩;have hw:w∈L:=by rw[eq];simp
  have hv:aM (cL G L) (.inr w.bag)=some (gD (G w)):=jk nd hw;have R1:(t.set n (.o (.av (cH X'))))[m]?=some (.o (.av (g8 (iq L)))):=by rw[AX nm];exact hm
  have G1:(t.set n (.o (.av (cH X'))))[n]?=some (.o (.av (cH X'))):=t4 lt;have tt:=i1.zt;have ml:=Rz (L:=L) (X:=X);by_cases hc:∃o,ka G L X' w o
  .obtain⟨o,hc⟩:=hc;refine⟨_,_,_,rfl,.inl (e6u hv R1 G1 hc (by lia)),_,true,_,_,rfl,by rw[HD],.step i1 hw hc,λ_=>?_,λz=>(by cases z)⟩
   have:=(mD.step i1 hw hc).zt;rw[dw];have h2:X.length<=X'.length:=by
    grind
   simp;lia
  .obtain⟨c9,e⟩:=e9k (gr:=gr) (a5:=a5) (a6:=a6) (a7:=a7) (a9:=b9) (g0:=g0) (rr:=rr) hv R1 G1 λo z=>hc ⟨o,z⟩
   refine⟨_,_,_,rfl,.inl e,X',gr,_,_,rfl,rfl,i1,i2,λz=>⟨(i3 z).1,λw' mw o co=>?_⟩⟩
   rcases iQ.mp mw with mw|mw
   .exact(i3 z).2 w' mw o co
   .rw[mG.mp mw] at co;exact hc ⟨o,by rw[(i3 z).1];exact co⟩)
 exact⟨X',gr,b4,b9,i1,i2,i3,e⟩
theorem WS(nd:(L.map Row.bag).Nodup)(hl:L.length<100)(hX:X.length<200)(nm:n≠m)(hm:t[m]?=some (.o (.av (g8 (iq L)))))(hn:t[n]?=some (.o (.av (cH X)))){a8:ak Val}:∃X' gr b4 b9,mD G L X X'/\(gr=true->X.length<X'.length)/\(gr=false->X'=X/\∀w∈L,∀o,¬ka G L X w o)/\EU 0 [g0,ao (.av (cL G L)),aN n,aN m,a4,a5,a6,a7,a8,a9] ⟨t,rr⟩=some (.nx [g0,ao (.av (cL G L)),aN n,aN m,b4,a5,a6,a7,ao (.bl gr),b9] ⟨t.set n (.o (.av (cH X'))),rr⟩):=by
 obtain⟨X',gr,b4,b9,i1,i2,i3,e⟩:=WR (G:=G) (a4:=a4) (a5:=a5) (a6:=a6) (a7:=a7) (a9:=a9) (g0:=g0) (rr:=rr) nd hl hX nm hm hn;refine⟨X',gr,b4,b9,i1,i2,i3,?_⟩;have k:(cL G L).map (·.1.d)=dS (L.map Row.bag):=F6
 unfold EU;simp only[↓ev,aQ,k,fH,e]
theorem Oi(nd:(L.map Row.bag).Nodup)(hl:L.length<100)(nm:n≠m):∀(f:Nat) {X:List (Str×D)} {t:List Cell} {a4 a9:ak Val},X.length+mu L X<200->mu L X+2<=f->t[m]?=some (.o (.av (g8 (iq L))))->t[n]?=some (.o (.av (cH X)))->∃X' b4 b9,mD G L X X'/\(∀w∈L,∀o,¬ka G L X' w o)/\cY (cI (rT 8)) (EU 0) f [g0,ao (.av (cL G L)),aN n,aN m,a4,a5,a6,a7,ao (.bl true),a9] ⟨t,rr⟩=some (.nx [g0,ao (.av (cL G L)),aN n,aN m,b4,a5,a6,a7,ao (.bl false),b9] ⟨t.set n (.o (.av (cH X'))),rr⟩)
 |0,X,t,a4,a9,h1,h2,hm,hn=>by lia
 |f+1,X,t,a4,a9,h1,h2,hm,hn=>by
  have lt:=(eW.mp hn).1;obtain⟨X',gr,b4,b9,i1,i2,i3,e⟩:=WS (G:=G) (a4:=a4) (a5:=a5) (a6:=a6) (a7:=a7) (a8:=(ao (.bl true))) (a9:=a9) (g0:=g0) (rr:=rr) nd hl (by lia) nm hm hn
  have tt:=i1.zt;cases gr with
  |true=>
   have l1:=i2 rfl;obtain⟨Y,c4,c9,j1,j2,e2⟩:=Oi nd hl nm f (X:=X') (t:=t.set n (.o (.av (cH X')))) (a4:=b4) (a9:=b9) (by lia) (by lia) (by rw[AX nm];exact hm) (t4 lt)
   rw[HD] at e2;refine⟨Y,c4,c9,i1.trans j1,j2,?_⟩;unfold cY;simp only[↓ev,e,e2]
  |false=>
   obtain⟨j1,j2⟩:=i3 rfl;subst j1;obtain⟨f',rfl⟩:∃f',f=f'+1:=⟨f - 1,by lia⟩
   refine⟨X',b4,b9,i1,j2,?_⟩;unfold cY;simp only[↓ev,e];rfl
end
section
variable{S:aU}{n:Nat}{G:Row->Goal}{L:List Row}{W:List (Str×D)}{g0 g1 g2:ak Val}{t rr:List Cell}
theorem Y8(un:(L.map λw=>(w.b,w.i)).Nodup)(hl:L.length<100)(t:List Cell):∃b4 b5 b6 b7,aO (ba [(ae 4),(ae 5),(ae 6),(ae 7)]) (Bg 0) (L.map bP) [g0,g1,g2,aN t.length,none,none,none,none,none,none] ⟨t++[.o (.av [])],rr⟩=some (.nx [g0,g1,g2,aN t.length,b4,b5,b6,b7,none,none] ⟨t++[.o (.av (g8 (iq L)))],rr⟩):=by
 obtain⟨U',S',e,⟨b4,b5,b6,b7,rfl⟩,rfl⟩:=iC (gg:=ba [(ae 4),(ae 5),(ae 6),(ae 7)]) (body:=Bg 0) (f:=bP) (U:=[g0,g1,g2,aN t.length,none,none,none,none,none,none]) (S:=⟨t++[.o (.av [])],rr⟩) (λpre U S'=>(∃b4 b5 b6 b7,U=[g0,g1,g2,aN t.length,b4,b5,b6,b7,none,none])/\S'=⟨t++[.o (.av (g8 (iq pre)))],rr⟩) L ⟨⟨_,_,_,_,rfl⟩,rfl⟩ (by
  rintro d w post eq U S' ⟨⟨b4,b5,b6,b7,rfl⟩,rfl⟩;have hd:d.length<100:=by
   grind
  have hk:(w.b,w.i)∉d.map λw=>(w.b,w.i):=by
   grind
  refine⟨_,_,_,rfl,.inl (e6r dy (by lia) hk),⟨_,_,_,_,rfl⟩,?_⟩
  rw[iU];rfl)
 exact⟨b4,b5,b6,b7,e⟩
theorem WT(hn:n<S.s.length)(nd:(L.map Row.bag).Nodup)(un:(L.map λw=>(w.b,w.i)).Nodup)(hl:L.length<100)(Kv:W.length<100):∃X,mD G L W X/\(∀w∈L,∀o,¬ka G L X w o)/\E0 0 [.d (.lst (L.map bP)),.d (.av (cL G L)),.c n] (tw S n W)=some (.ok (rd .aI) (tw S n X)):=by
 have ta:=J8 (W:=W) hn;have l7:n<(S.s.set n (.o (.av (cH W)))).length:=by rw[t5];exact hn
 obtain⟨b4,b5,b6,b7,e1⟩:=Y8 (g0:=(ao (.lst (L.map bP)))) (g1:=(ao (.av (cL G L)))) (g2:=(aN n)) (rr:=S.r) un hl (S.s.set n (.o (.av (cH W))));have ml:=Rz (L:=L) (X:=W);obtain⟨X,c4,c9,i1,i2,e2⟩:=Oi (G:=G) (n:=n) (m:=(S.s.set n (.o (.av (cH W)))).length) (g0:=(ao (.lst (L.map bP)))) (a5:=b5) (a6:=b6) (a7:=b7) (rr:=S.r) nd hl (by lia) 1000 (X:=W) (t:=S.s.set n (.o (.av (cH W)))++[.o (.av (g8 (iq L)))]) (a4:=b4) (a9:=none) (by lia) (by lia) dy (by rw[sT l7];exact ta)
 refine⟨X,i1,i2,?_⟩;rw[List.set_append_left _ _ l7,JT] at e2;have cu:aU.cut ⟨S.s.set n (.o (.av (cH X)))++[.o (.av (g8 (iq L)))],S.r⟩ (S.s.set n (.o (.av (cH W)))).length=tw S n X:=by
  grind [aU.cut]
 unfold E0 MV;simp only[↓ev,aQ,fH,e1,e2,cu]
end
variable{a bag o:Str}{x j gn:Int}{z:Row}
theorem yp{b:Str}{y:Int}:gu (pl a x) (pl b y)=(a == b&&(x == y)):=by
 show ic [.str a,.int x] [.str b,.int y]=_;show(gu (.str a) (.str b)&&(gu (.int x) (.int y)&&true))=_;rw[fB,f7,Bool.and_true]
theorem Dx:eC 40 (pl a x)=true:=rfl
noncomputable def fQ(bag o:Str)(j gn:Int)(z:Row):Row:=if z.bag=bag then{ z with b:=o,i:=j,gn:=gn} else z
theorem FQ:(fQ bag o j gn z).bag=z.bag:=by unfold fQ;split <;> rfl
theorem Y9:(fQ bag o j gn z).fl=z.fl:=by unfold fQ;split <;> rfl
theorem tG{α β:Type}{f:α->β}{l:List α}(nd:(l.map f).Nodup){a b:α}(ha:a∈l)(hb:b∈l)(e:f a=f b):a=b:=by
 induction l with
 |nil=>cases ha
 |cons z l ih=>
  grind
section
variable{rows:List Row}{bag o:Str}{j gn:Int}{w:Row}
theorem Q7(nb:(rows.map Row.bag).Nodup)(hb:bag∈rows.map Row.bag):bN (g9 rows) (.inr bag) (pl o j)=g9 (rows.map (fQ bag o j gn)):=by
 unfold g9;rw[Cb nb hb];unfold td;rw[eU];refine nH λz _=>?_
 dsimp only[Function.comp];rw[FQ];unfold fQ;split <;> rfl
theorem e6w(nb:(rows.map Row.bag).Nodup)(hb:bag∈rows.map Row.bag):bN (kL rows) (.inr bag) (.int gn)=kL (rows.map (fQ bag o j gn)):=by
 unfold kL;rw[Cb nb hb];unfold td;rw[eU];refine nH λz _=>?_
 dsimp only[Function.comp];rw[FQ];unfold fQ;split <;> rfl
theorem Y_(nb:(rows.map Row.bag).Nodup)(hw:w∈rows):kL (rows.map (fQ w.bag o j w.gn))=kL rows:=by
 unfold kL td;rw[eU];refine nH λz mz=>?_
 dsimp only[Function.comp];rw[FQ];unfold fQ;split
 .rename_i e
  rw[tG nb mz hw e]
 .rfl
theorem Q8:il (rows.map (fQ bag o j gn))=il rows:=by
 unfold il td;rw[eU];refine nH λz _=>?_
 dsimp only[Function.comp];rw[FQ,Y9]
end
section
variable{s:List Cell}{h:aF}{r:Int}{x:Hl}{w:Row}{bt:aq}{o c:Str}{j:Int}
noncomputable def kA(bt:aq)(i:Int)(o:Str)(j:Int):Bool:=bt.ring&&((i == bt.long - 1)&&(o == bt.name&&(j == 0)))
theorem e6x(g:aH h)(nb:(x.rows.map Row.bag).Nodup)(hw:w∈x.rows)(hb:bt∈h.af)(eb:bt.name=w.b)(hl:x.rows.length<1000):vE 0 [eV,cV w.bag,.d (pl o j)] (hS (aE h) r x s)=some (.ok (rd .aI) (hS (aE h) r { x with rows:=x.rows.map (fQ w.bag o j (if kA bt w.i o j=true then w.gn+1 else w.gn))} s)):=by
 have e:=Ac g hb;have hB:ah bt=.tup [.str bt.name,.int bt.long,.bl bt.ring,.lst (dS bt.outs)]:=rfl;rw[hB] at e;have hm:=nG (f:=Row.bag) hw;have h1:aM (g9 x.rows) (.inr w.bag)=_:=jk nb hw;have h2:aM (kL x.rows) (.inr w.bag)=_:=jk nb hw;have l1:((g9 x.rows).length<1000000)=True:=bD (by unfold g9;rw[lT];lia)
 have l2:((kL x.rows).length<1000000)=True:=bD (by unfold kL;rw[lT];lia)
 rw[<-eb] at h1;generalize aE h=hd at *;have yes:kA bt w.i o j=true->vE 0 [eV,cV w.bag,.d (pl o j)] (hS hd r x s)=some (.ok (rd .aI) (hS hd r { x with rows:=x.rows.map (fQ w.bag o j (if kA bt w.i o j=true then w.gn+1 else w.gn))} s)):=λhc=>by
  rw[bM hc];have p1:=Q7 (o:=o) (j:=j) (gn:=w.gn+1) nb hm;have p2:=e6w (o:=o) (j:=j) (gn:=w.gn+1) nb hm;have p3:=Q8 (rows:=x.rows) (bag:=w.bag) (o:=o) (j:=j) (gn:=w.gn+1);unfold kA at hc;rw[iW,iW] at hc;obtain⟨c1,c2,c3⟩:=hc;unfold vE Io;rw[c1] at e;simp only[↓ev,hS,hR,kS,lr,aQ,h1,mE,mW,bQ,e,gp,cB,Dx,aJ,yp,fW,c2,c3,Bu,Fm,h2,l2,p2,l1,p1,cx,p3]
 have no:kA bt w.i o j=false->vE 0 [eV,cV w.bag,.d (pl o j)] (hS hd r x s)=some (.ok (rd .aI) (hS hd r { x with rows:=x.rows.map (fQ w.bag o j (if kA bt w.i o j=true then w.gn+1 else w.gn))} s)):=λhc=>by
  rw[bc (by rw[hc];decide)]
  have p1:=Q7 (o:=o) (j:=j) (gn:=w.gn) nb hm;have p2:=Y_ (o:=o) (j:=j) nb hw;have p3:=Q8 (rows:=x.rows) (bag:=w.bag) (o:=o) (j:=j) (gn:=w.gn);unfold kA at hc;unfold vE Io;cases er:bt.ring with
  |false=>
   rw[er] at e;simp only[↓ev,hS,hR,kS,lr,aQ,h1,mE,mW,bQ,e,gp,aJ,l1,p1,cx,p3,p2]
  |true=>
   rw[er] at e hc;rw[Et] at hc;cases c2:(w.i == bt.long - 1) with
   |false=>simp only[↓ev,hS,hR,kS,lr,aQ,h1,mE,mW,bQ,e,gp,cB,Dx,aJ,yp,fW,c2,l1,p1,cx,p3,p2]
   |true=>
    rw[c2,Et] at hc;simp only[↓ev,hS,hR,kS,lr,aQ,h1,mE,mW,bQ,e,gp,cB,Dx,aJ,yp,fW,c2,hc,l1,p1,cx,p3,p2]
 cases hc:kA bt w.i o j with
 |true=>have:=yes hc;rw[hc] at this;exact this
 |false=>have:=no hc;rw[hc] at this;exact this
end
section
variable{s:List Cell}{h:aF}{r:Int}{x:Hl}{w:Row}{c:Str}
theorem e6y{l:List (Str×Str×Int)}{b:Str}{nw:Int}(hb:b∉l.map (·.1)):bN (yd l) (.inr b) (.str c)=yd (l++[(b,c,nw)]):=by
 unfold yd;rw[Ca hb];unfold td;rw[fV];rfl
theorem Y'{hd:D}(nb:(x.rows.map Row.bag).Nodup)(hw:w∈x.rows)(hg:w.bag∉x.gone.map (·.1))(hl:x.gone.length<2000):Bk 0 [eV,cV w.bag,cV c] (hS hd r x s)=some (.ok (rd .aI) (hS hd r { x with rows:=x.rows.filter λz=>decide (z.bag≠w.bag),gone:=x.gone++[(w.bag,c,x.now)]} s)):=by
 have h1:aM (g9 x.rows) (.inr w.bag)=_:=jk nb hw;have h2:aM (kL x.rows) (.inr w.bag)=_:=jk nb hw;have h3:aM (il x.rows) (.inr w.bag)=_:=jk nb hw;have d1:dB (g9 x.rows) w.bag=g9 (x.rows.filter λz=>decide (z.bag≠w.bag)):=BY
 have d2:dB (kL x.rows) w.bag=kL (x.rows.filter λz=>decide (z.bag≠w.bag)):=BY
 have d3:dB (il x.rows) w.bag=il (x.rows.filter λz=>decide (z.bag≠w.bag)):=BY
 have p1:=e6y (c:=c) (nw:=x.now) hg;have l1:((yd x.gone).length<1000000)=True:=bD (by unfold yd;rw[lT];lia)
 have l2:((qc x.gone).length<1000000)=True:=bD (by unfold qc;rw[bx];lia)
 have p2:qc x.gone++[.tup [.str w.bag,.str c,.int x.now]]=qc (x.gone++[(w.bag,c,x.now)]):=by unfold qc;rw[fV];rfl
 have t1:eQ (g9 x.rows)=true:=vO;have t2:eQ (kL x.rows)=true:=vO;have t3:eQ (il x.rows)=true:=vO;generalize aP w.fl=ff at *;unfold Bk M';simp only[↓ev,hS,hR,kS,lr,aQ,t1,h1,d1,pY,qu,t3,h3,d3,Bu,Fm,t2,h2,d2,z6,BC,l1,p1,Jz,Qe,B_,Gr,l2,p2,cx]
end
variable{z:Row}
def pb(h:aF)(G:Row->Goal)(z:Row):ak Row:=match(G z).2 with
 |none=>none
 |some j=>some { z with b:=(G z).1,i:=j,gn:=match findB h.af z.b with
  |none=>z.gn
  |some bt=>if kA bt z.i (G z).1 j=true then z.gn+1 else z.gn}
def i8(h:aF)(G:Row->Goal)(p:Row->Bool)(rows:List Row):List Row:=rows.filterMap λz=>if p z=true then pb h G z else some z
noncomputable def gb(G:Row->Goal)(nw:Int)(w:Row):ak (Str×Str×Int):=match(G w).2 with
 |none=>some (w.bag,(G w).1,nw)
 |some _=>none
def gG(h:aF)(G:Row->Goal)(p:Row->Bool)(M:List Row)(x:Hl):Hl:={ x with now:=x.now+1,rows:=i8 h G p x.rows,gone:=x.gone++M.filterMap (gb G (x.now+1))}
section
variable{s:List Cell}{h:aF}{r:Int}{x:Hl}{w:Row}{G:Row->Goal}{p p':Row->Bool}{rows:List Row}
theorem Pf{α β:Type}{f g:α->ak β}{l:List α}(h:∀x∈l,f x=g x):l.filterMap f=l.filterMap g:=by
 induction l with
 |nil=>rfl
 |cons x l ih=>rw[qD,qD,h x (.head _),ih λy m=>h y (.tail _ m)]
theorem F9{z':Row}(e:pb h G z=some z'):z'.bag=z.bag/\z'.fl=z.fl:=by
 unfold pb at e;split at e
 .cases e
 .cases e;exact⟨rfl,rfl⟩
theorem Jl(p:Row->Bool)(rows:List Row):((i8 h G p rows).map Row.bag).Sublist (rows.map Row.bag):=by
 unfold i8
 induction rows with
 |nil=>exact .slnil
 |cons z rows ih=>
  grind [F9]
theorem Za(hz:z∈rows)(hp:p z=false):z∈i8 h G p rows:=wJ.mpr ⟨z,hz,by rw[hp];rfl⟩
theorem Zb(nb:(rows.map Row.bag).Nodup)(hw:w∈rows)(hp:p w=false)(KU:∀z,p' z=(p z || z.bag == w.bag))(hG:(G w).2=none):(i8 h G p rows).filter (λz=>decide (z.bag≠w.bag))=i8 h G p' rows:=by
 unfold i8;rw[List.filter_filterMap];refine Pf λz mz=>?_
 rw[KU z];by_cases e:z.bag=w.bag
 .have ez:=tG nb mz hw e;subst ez;rw[hp,fW,MH,bc (by decide),bM rfl,show pb h G z=none by unfold pb;rw[hG]]
  show Option.filter _ (some z)=none;unfold Option.filter;simp
 .rw[show(z.bag == w.bag)=false by rw[qH];exact e,Bool.or_false]
  split
  .cases em:pb h G z with
   |none=>rfl
   |some z'=>
    unfold Option.filter;dsimp only;exact bM (oH (by rw[(F9 em).1];exact e))
  .unfold Option.filter;dsimp only;exact bM (oH e)
theorem e6z(nb:(rows.map Row.bag).Nodup)(hw:w∈rows)(hp:p w=false)(KU:∀z,p' z=(p z || z.bag == w.bag)){j:Int}(hG:(G w).2=some j){bt:aq}(hb:findB h.af w.b=some bt):(i8 h G p rows).map (fQ w.bag (G w).1 j (if kA bt w.i (G w).1 j=true then w.gn+1 else w.gn))=i8 h G p' rows:=by
 obtain⟨gv,RW⟩:∃gv,(if kA bt w.i (G w).1 j=true then w.gn+1 else w.gn)=gv:=⟨_,rfl⟩
 rw[RW];unfold i8;rw[List.map_filterMap];refine Pf λz mz=>?_
 rw[KU z];by_cases e:z.bag=w.bag
 .have ez:=tG nb mz hw e;subst ez;rw[hp,fW,MH,bc (by decide),bM rfl]
  unfold pb fQ;rw[hG,hb,A3,bM rfl];dsimp only;rw[RW]
 .rw[show(z.bag == w.bag)=false by rw[qH];exact e,Bool.or_false]
  split
  .cases em:pb h G z with
   |none=>rfl
   |some z'=>
    rw[A3];unfold fQ;rw[bc (by rw[(F9 em).1];exact e)]
  .rw[A3];unfold fQ;rw[bc e]
end
variable{S2:aU}{hd:D}
noncomputable def kK(d:List Row)(z:Row):Bool:=(d.map Row.bag).contains z.bag
noncomputable def nR(G:Row->Goal)(w:Row):D:=.tup [.str w.bag,gD (G w)]
section
variable{s:List Cell}{h:aF}{r:Int}{x:Hl}{w:Row}{G:Row->Goal}{n:Nat}{M:List Row}{g1 a2 a3:ak Val}
theorem e9l{j:Int}(hG:(G w).2=some j)(e:vE 0 [eV,cV w.bag,.d (pl (G w).1 j)] (hS hd r x s)=some (.ok (rd .aI) S2)):xu 0 [cy,g1,aY w.bag,ao (gD (G w))] (hS hd r x s)=some (.nx [cy,g1,aY w.bag,ao (gD (G w))] S2):=by
 have e1:gD (G w)=pl (G w).1 j:=by unfold gD;generalize G w=p at *;obtain⟨c,i⟩:=p;cases hG;rfl
 rw[e1];unfold xu;simp only[↓ev,C_,hR,dN,Ub,e]
theorem e7a(hG:(G w).2=none)(e:Bk 0 [eV,cV w.bag,.d (.str (G w).1)] (hS hd r x s)=some (.ok (rd .aI) S2)):xu 0 [cy,g1,aY w.bag,ao (gD (G w))] (hS hd r x s)=some (.nx [cy,g1,aY w.bag,ao (gD (G w))] S2):=by
 have e1:gD (G w)=.str (G w).1:=by unfold gD;generalize G w=p at *;obtain⟨c,i⟩:=p;cases hG;rfl
 rw[e1];unfold xu;simp only[↓ev,K3,aJ,hR,dN,Tr,e]
theorem Pg(d:List Row)(w z:Row):kK (d++[w]) z=(kK d z || z.bag == w.bag):=by
 grind [kK]
theorem Zc(g:aH h)(o:Ok h n x)(hM:∀w∈M,w∈x.rows)(nM:(M.map Row.bag).Nodup)(RP:M.length<=x.rows.length)(hn:n<1000):∃b2 b3,aO (ba [(ae 2),(ae 3)]) (xu 0) (M.map (nR G)) [cy,g1,none,none] (hS (aE h) r { x with now:=x.now+1} s)=some (.nx [cy,g1,b2,b3] (hS (aE h) r (gG h G (kK M) M x) s)):=by
 obtain⟨U',S',e,⟨b2,b3,rfl⟩,rfl⟩:=iC (gg:=ba [(ae 2),(ae 3)]) (body:=xu 0) (f:=nR G) (U:=[cy,g1,none,none]) (S:=hS (aE h) r { x with now:=x.now+1} s) (λpre U S'=>(∃b2 b3,U=[cy,g1,b2,b3])/\S'=hS (aE h) r (gG h G (kK pre) pre x) s) M ⟨⟨_,_,rfl⟩,by
   have e1:gG h G (kK []) [] x={ x with now:=x.now+1}:=by
    unfold gG i8;rw[A5,kN,show(λz:Row=>if kK [] z=true then pb h G z else some z)=some from funext λz=>by rw[bc (by unfold kK;simp)],List.filterMap_some]
   rw[e1]⟩ (by
  rintro d w post eq U S' ⟨⟨b2,b3,rfl⟩,rfl⟩;have hw:w∈x.rows:=hM w (by rw[eq];simp)
  have hwd:w.bag∉d.map Row.bag:=FO eq nM;have hp:kK d w=false:=by unfold kK;rw[HH];exact λz=>hwd (lh.mp z)
  have nb:((gG h G (kK d) d x).rows.map Row.bag).Nodup:=o.nb.sublist (Jl _ _);have R7:w∈(gG h G (kK d) d x).rows:=Za hw hp;have ll:(gG h G (kK d) d x).rows.length<=x.rows.length:=by
   have:=(Jl (h:=h) (G:=G) (kK d) x.rows).length_le;rw[bx,bx] at this;exact this
  have rl:=o.rl;have sz:=o.sz;obtain⟨bt,hb,eb,_⟩:=(o.rw w hw).1;have fb:=Fv g hb;rw[eb] at fb;cases hG:(G w).2 with
  |some j=>
   refine⟨_,_,_,rfl,.inl (e9l hG (e6x g nb R7 hb eb (by lia))),⟨_,_,rfl⟩,?_⟩
   unfold gG;dsimp only;rw[e6z o.nb hw hp (Pg d w) hG fb,MI,show List.filterMap (gb G (x.now+1)) [w]=[] by rw[qD,A5];unfold gb;rw[hG],kN]
  |none=>
   have hgd:w.bag∉(gG h G (kK d) d x).gone.map (·.1):=by
    unfold gG;dsimp only;rw[fV,iQ];rintro(z|z)
    .exact(mH.mp o.nd).2.2 _ (nG hw) _ z rfl
    grind [gb]
   have CS:(gG h G (kK d) d x).gone.length<2000:=by
    grind [gG]
   refine⟨_,_,_,rfl,.inl (e7a hG (Y' nb R7 hgd CS)),⟨_,_,rfl⟩,?_⟩;unfold gG;dsimp only;rw[Zb o.nb hw hp (Pg d w) hG,MI,show List.filterMap (gb G (x.now+1)) [w]=[(w.bag,(G w).1,x.now+1)] by rw[qD,A5];unfold gb;rw[hG],lG])
 exact⟨b2,b3,e⟩
end
section
variable{s:List Cell}{h:aF}{r:Int}{x:Hl}{w:Row}{G:Row->Goal}{n m:Nat}{M L:List Row}{X:List (Str×D)}{hd:D}
theorem hlen{nw':Int}{m:Nat}:Nat.blt (hF hd r nw' m).length 1000=true:=rfl
theorem e7b(g:aH h)(o:Ok h n x)(hM:∀w∈M,w∈x.rows)(nM:(M.map Row.bag).Nodup)(RP:M.length<=x.rows.length)(hn:n<1000)(hs:s[m]?=some (.o (.lst (M.map (nR G))))):FF 0 [eV,.c m] (hS (aE h) r x s)=some (.ok (rd .aI) (hS (aE h) r (gG h G (kK M) M x) (s.set m (.z (.lst (M.map (nR G))))))):=by
 obtain⟨b2,b3,e⟩:=Zc (G:=G) (r:=r) (s:=s.set m (.z (.lst (M.map (nR G))))) (g1:=(aN m)) g o hM nM RP hn;generalize M.map (nR G)=ml at *;generalize aE h=hd at *;unfold FF OS;simp only[↓ev,hS,hR,B_,Gr,fW,hlen,e5y,hs,fH,e,Qt]
noncomputable def oq(X:List (Str×D))(G:Row->Goal)(w:Row):D:=match X.find? λp=>p.1 == w.bag with
 |some p=>.tup [.str w.bag,pl w.b w.i,pl w.b w.i,p.2]
 |none=>.tup [.str w.bag,pl w.b w.i,gD (G w),.aI]
abbrev tS(hd:D)(r:Int)(x:Hl)(s:List Cell)(X:List (Str×D))(lg mv:List D):aU:=⟨s++[.o (.av (cH X)),.o (.lst lg),.o (.lst mv)],hR hd r x⟩
theorem Zd(X:List (Str×D))(w:Row):(X.find? (λp=>p.1 == w.bag)=none/\nk X w=true/\aM (cH X) (.inr w.bag)=none)\/∃p,X.find? (λp=>p.1 == w.bag)=some p/\nk X w=false/\aM (cH X) (.inr w.bag)=some p.2:=by
 have v:aM (cH X) (.inr w.bag)=_:=B' w.bag X;have i:=Au (W:=X) (b:=w.bag);rw[v] at i ⊢;unfold nk;rw[<-i];cases X.find? (λp=>p.1 == w.bag) with
 |none=>exact .inl ⟨rfl,rfl,rfl⟩
 |some p=>exact .inr ⟨p,rfl,rfl,rfl⟩
theorem e7c{lg mv:List D}{g1:ak Val}(hv:aM (cL G L) (.inr w.bag)=some (gD (G w)))(l1:lg.length<1000)(l2:mv.length<1000):BN 0 [cy,g1,ao (.av (cL G L)),aN s.length,aN (s.length+1),aN (s.length+2),aY w.bag,ao (aP w.fl),ao (pl w.b w.i),bI w.gn] (tS hd r x s X lg mv)=some (.nx [cy,g1,ao (.av (cL G L)),aN s.length,aN (s.length+1),aN (s.length+2),aY w.bag,ao (aP w.fl),ao (pl w.b w.i),bI w.gn] (tS hd r x s X (lg++[oq X G w]) (if nk X w=true then mv++[nR G w] else mv))):=by
 have Se:(lg.length<1000000)=True:=bD (by lia)
 have l2':(mv.length<1000000)=True:=bD (by lia)
 unfold oq nR;generalize aP w.fl=ff at *;generalize gD (G w)=gg at *;unfold BN;rcases Zd X w with⟨e1,e2,e3⟩|⟨p,e1,e2,e3⟩
 .rw[e1,e2,bM rfl];simp only[↓ev,tS,dy,aJ,e3,wO,Am,hv,aQ,Se,DN,l2']
 .rw[e1,e2,bc (by decide)]
  dsimp only;generalize p.2=py at *;simp only[↓ev,tS,dy,aJ,e3,t8,Am,aQ,Se,DN]
theorem Ze{g1:ak Val}(nd:(L.map Row.bag).Nodup)(hl:L.length<100):∃a6 a7 a8 a9,aO (ba [(ae 6),(ae 7),(ae 8),(ae 9)]) (BN 0) (L.map bP) [cy,g1,ao (.av (cL G L)),aN s.length,aN (s.length+1),aN (s.length+2),none,none,none,none] (tS hd r x s X [] [])=some (.nx [cy,g1,ao (.av (cL G L)),aN s.length,aN (s.length+1),aN (s.length+2),a6,a7,a8,a9] (tS hd r x s X (L.map (oq X G)) ((L.filter (nk X)).map (nR G)))):=by
 obtain⟨U',S',e,⟨a6,a7,a8,a9,rfl⟩,rfl⟩:=iC (gg:=ba [(ae 6),(ae 7),(ae 8),(ae 9)]) (body:=BN 0) (f:=bP) (U:=[cy,g1,ao (.av (cL G L)),aN s.length,aN (s.length+1),aN (s.length+2),none,none,none,none]) (S:=tS hd r x s X [] []) (λpre U S'=>(∃a6 a7 a8 a9,U=[cy,g1,ao (.av (cL G L)),aN s.length,aN (s.length+1),aN (s.length+2),a6,a7,a8,a9])/\S'=tS hd r x s X (pre.map (oq X G)) ((pre.filter (nk X)).map (nR G))) L ⟨⟨_,_,_,_,rfl⟩,rfl⟩ (by
  rintro d w post eq U S' ⟨⟨a6,a7,a8,a9,rfl⟩,rfl⟩;have hd:d.length<100:=by
   grind
  have hf:=vz (nk X) d;refine⟨_,_,_,rfl,.inl (e7c (jk nd (by rw[eq];simp)) (by rw[bx];lia) (by rw[bx];lia)),⟨_,_,_,_,rfl⟩,?_⟩
  grind)
 exact⟨a6,a7,a8,a9,e⟩
theorem Qk:∀L:List Row,ik (L.map (nR G))=some (cL G L)
 |[]=>rfl
 |w::L=>by
  have ih:=Qk L;rw[cU];show(jE (.str w.bag)).bind (λk=>(ik (L.map (nR G))).map ((k,gD (G w))::·))=_
  rw[ih];rfl
theorem Zf(nd:(L.map Row.bag).Nodup):(cL G L).foldl (λa p=>bN a p.1 p.2) []=cL G L:=by
 have key:∀(M N:List Row),((N++M).map Row.bag).Nodup->(cL G M).foldl (λa p=>bN a p.1 p.2) (cL G N)=cL G (N++M):=by
  intro M
  induction M with
  |nil=>intro N _;rw[kN];rfl
  |cons w M ih=>
   intro N nd;have hw:w.bag∉N.map Row.bag:=by
    grind
   have e:bN (cL G N) (.inr w.bag) (gD (G w))=cL G (N++[w]):=by
    unfold cL;rw[Ca hw];unfold td;rw[fV];rfl
   show(cL G M).foldl _ (bN (cL G N) (.inr w.bag) (gD (G w)))=_;rw[e,ih (N++[w]) (by rw[lG];exact nd),lG]
   rfl
 exact key L [] nd
end
def rB(h:aF)(r:Int)(x:Hl)(X:List (Str×D)):Prop:=∃C,mI (aB h r x) (ask (aB h r x) (cW (cw h x) (aB h r x) (ord h x.rows)) (ord h x.rows)) C/\mD (aB h r x) (ord h x.rows) (cW (cw h x) (aB h r x) (ord h x.rows)++(ask (aB h r x) (cW (cw h x) (aB h r x) (ord h x.rows)) (ord h x.rows)).filterMap (fR (aB h r x) C)) X/\∀w∈ord h x.rows,∀o,¬ka (aB h r x) (ord h x.rows) X w o
def cR(h:aF)(x:Hl)(X:List (Str×D)):List Row:=(ord h x.rows).filter (nk X)
def iP(h:aF)(r:Int)(x:Hl)(X:List (Str×D)):Hl:=gG h (aB h r x) (kK (cR h x X)) (cR h x X) x
section
variable{s:List Cell}{h:aF}{r:Int}{x:Hl}{n:Nat}
theorem Al{s:List Cell}{rr:List Cell}{W W':List (Str×D)}:tw ⟨s++[.o (.av (cH W))],rr⟩ s.length W'=⟨s++[.o (.av (cH W'))],rr⟩:=by
 simp_all
theorem e7d(g:aH h)(o:Ok h n x)(hn:n<1000):∃X,rB h r x X/\B9 0 [eV] (hS (aE h) r x s)=some (.ok (.o (.lst ((ord h x.rows).map (oq X (aB h r x))))) (hS (aE h) r (iP h r x X) s)):=by
 have rl:=o.rl;have pl:=o.perm.length_eq;have nd:((ord h x.rows).map Row.bag).Nodup:=(o.perm.map _).nodup_iff.mpr o.nb;have un:((ord h x.rows).map λw=>(w.b,w.i)).Nodup:=(o.perm.map _).nodup_iff.mpr o.un
 have e1:=λq s=>Cd (s:=s) (r:=r) (q:=q) g o
 have e2:=λs=>Pb (s:=s) (r:=r) g o
 have e3:=λq s=>IV (s:=s) (r:=r) (q:=q) (x:=x) g
 have ln:s.length<(s++[Cell.o (.av (cH []))]).length:=by rw[dw];exact vw _
 have e5:=Y2 (S:=⟨s++[.o (.av (cH []))],hR (aE h) r x⟩) (n:=s.length) (st:=cw h x) (G:=aB h r x) (L:=ord h x.rows) ln nd (by lia)
 rw[Al,Al] at e5;have lw:(cW (cw h x) (aB h r x) (ord h x.rows)).length<=(ord h x.rows).length:=EF _ _;obtain⟨C,oC,e6⟩:=Y6 (S:=⟨s++[.o (.av (cH []))],hR (aE h) r x⟩) (n:=s.length) (W:=cW (cw h x) (aB h r x) (ord h x.rows)) (G:=aB h r x) (L:=ord h x.rows) ln nd (by lia) (by lia)
 rw[Al,Al] at e6;have ly:((ask (aB h r x) (cW (cw h x) (aB h r x) (ord h x.rows)) (ord h x.rows)).filterMap (fR (aB h r x) C)).length<=(ord h x.rows).length:=jt (EF _ _) (vz _ _);obtain⟨X,i1,i2,e7⟩:=WT (S:=⟨s++[.o (.av (cH []))],hR (aE h) r x⟩) (n:=s.length) (W:=cW (cw h x) (aB h r x) (ord h x.rows)++(ask (aB h r x) (cW (cw h x) (aB h r x) (ord h x.rows)) (ord h x.rows)).filterMap (fR (aB h r x) C)) (G:=aB h r x) (L:=ord h x.rows) ln nd un (by lia) (by rw[dw];lia)
 rw[Al,Al] at e7;obtain⟨a6,a7,a8,a9,e8⟩:=Ze (s:=s) (hd:=aE h) (r:=r) (x:=x) (X:=X) (G:=aB h r x) (L:=ord h x.rows) (g1:=(ao (.lst ((ord h x.rows).map bP)))) nd (by lia)
 have e4:=e7b (r:=r) (G:=aB h r x) (M:=cR h x X) (m:=s.length+2) (s:=s++[.o (.av (cH X)),.o (.lst ((ord h x.rows).map (oq X (aB h r x)))),.o (.lst ((cR h x X).map (nR (aB h r x))))]) g o (λw m=>o.mem.mp (tZ.mp m).1) (nd.sublist (List.Sublist.map _ Hy)) (by rw[<-pl];exact vz _ _) hn Am
 rw[DN] at e4;refine⟨X,⟨C,oC,i1,i2⟩,?_⟩;have pw:=Qk (G:=aB h r x) (ord h x.rows);have fg:=Zf (G:=aB h r x) nd;have ll:((cL (aB h r x) (ord h x.rows)).length<1000)=True:=bD (by unfold cL;rw[lT];lia)
 have ew:(ord h x.rows).map (gh h r x)=(ord h x.rows).map (nR (aB h r x)):=rfl;have w0:cH []=[]:=rfl;rw[w0] at e5;unfold iP;rw[ew] at e2;clear i1 i2 oC;generalize cW (cw h x) (aB h r x) (ord h x.rows)=W1 at *;generalize W1++(ask (aB h r x) W1 (ord h x.rows)).filterMap (fR (aB h r x) C)=W2 at *;generalize gG h (aB h r x) (kK (cR h x X)) (cR h x X) x=x2 at *;unfold cR at e4;generalize(ord h x.rows).map (nR (aB h r x))=l1 at *;generalize((ord h x.rows).filter (nk X)).map (nR (aB h r x))=l2 at *;generalize(ord h x.rows).map (oq X (aB h r x))=l3 at *;generalize(ord h x.rows).map bP=l4 at *;generalize cL (aB h r x) (ord h x.rows)=gs at *;generalize aE h=hd at *;unfold B9 Q2;simp only[↓ev,hR,dN,xJ,e1,aQ,e2,pw,ll,fg,IE,e3,e5,e6,e7,aJ,yL,vM,fH,e8,YU,e4,lt2,Am,qA]
end
variable{G:Row->Goal}{j:Int}
theorem Ql{α:Type}[DecidableEq α]:∀{l1 l2:List α},l1.Nodup->(∀a∈l1,a∈l2)->l1.length<=l2.length
 |[],_,_,_=>k9 _
 |a::l1,l2,nd,h=>by
  rw[qp] at nd;have ha:=h a (.head _);have ih:=Ql (l1:=l1) (l2:=l2.erase a) nd.2 λb m=>by
   grind
  grind
section
variable{h:aF}{r:Int}{x:Hl}{n:Nat}{X:List (Str×D)}{w z:Row}
theorem Zg(g:aH h)(o:Ok h n x)(hw:w∈x.rows):((aB h r x w).2=none->(aB h r x w).1∈h.carts)/\∀j,(aB h r x w).2=some j->∃bt∈h.af,bt.name=(aB h r x w).1/\0<=j/\j<bt.long:=by
 obtain⟨bt,hb,eb,i0,i1,_⟩:=(o.rw w hw).1;have lo:=(g.lg bt hb).1;have eg:aB h r x w=km h r x w bt:=by unfold aB;rw[<-eb,Fv g hb]
 rw[eg];unfold km;split
 .exact⟨λz=>(by cases z),λj e=>⟨bt,hb,rfl,by cases e;lia,by cases e;assumption⟩⟩
 .split
  .exact⟨λz=>(by cases z),λj e=>⟨bt,hb,rfl,by cases e;lia,by cases e;lia⟩⟩
  .obtain⟨a,ea,ha⟩:=JR g o hw hb eb;rw[ea,HG];unfold ox;split
   .simp_all
   .rename_i hc
    split
    .exact⟨λz=>(by cases z),λj e=>⟨bt,hb,rfl,by cases e;lia,by cases e;lia⟩⟩
    .have hm:a∈h.af.map aq.name:=(FN g.fwd bt hb a ha).resolve_right λz=>hc (lh.mpr z)
     obtain⟨b2,uF,e2⟩:=iS.mp hm;have l2:=(g.lg b2 uF).1;exact⟨λz=>(by cases z),λj e=>⟨b2,uF,e2,by cases e;lia,by cases e;lia⟩⟩
theorem mD.sub{L:List Row}{W X:List (Str×D)}(a:mD G L W X):∀b∈W.map (·.1),b∈X.map (·.1):=by
 induction a with
 |base=>exact λ_ m=>m
 |step _ _ _ ih=>exact λb m=>by rw[fV];exact iQ.mpr (.inl (ih b m))
theorem xK(o:Ok h n x):w∈cR h x X↔w∈x.rows/\w.bag∉X.map (·.1):=by
 unfold cR;rw[tZ,o.mem,mf]
theorem WU(o:Ok h n x)(t:rB h r x X):∃C:List (bG×Str),∀w∈cR h x X,(aB h r x w).2.isSome=true->look C (gk (aB h r x) w)=some w.bag:=by
 obtain⟨C,oC,gr,fn⟩:=t;refine⟨C,λw hw hs=>?_⟩
 obtain⟨hr,hX⟩:=(xK o).mp hw;have h1:w.bag∉(cW (cw h x) (aB h r x) (ord h x.rows)).map (·.1):=λm=>hX (gr.sub _ (by rw[fV];exact iQ.mpr (.inl m)))
 have ha:w∈ask (aB h r x) (cW (cw h x) (aB h r x) (ord h x.rows)) (ord h x.rows):=oS.mpr ⟨o.mem.mpr hr,h1,hs⟩;obtain⟨c,hc⟩:=Option.ne_none_iff_exists'.mp (oC.2.1 w ha);rw[hc];by_cases e:c=w.bag
 .rw[e]
 .refine cO (gr.sub w.bag ?_) hX
  grind [fR]
theorem RC(e:(G w).2=some j):gk G w=((G w).1,j):=by unfold gk;rw[e];rfl
theorem Ud(o:Ok h n x)(t:rB h r x X)(hw:w∈cR h x X)(hz:z∈cR h x X){k:Int}(ew:(aB h r x w).2=some j)(ez:(aB h r x z).2=some k)(e:((aB h r x w).1,j)=((aB h r x z).1,k)):w=z:=by
 obtain⟨C,hC⟩:=WU o t;have h1:=hC w hw (by rw[ew];rfl)
 have h2:=hC z hz (by rw[ez];rfl)
 rw[RC ew,e,<-RC ez,h2] at h1;exact tG o.nb ((xK o).mp hw).1 ((xK o).mp hz).1 (Option.some.inj h1).symm
theorem Zh(un:(x.rows.map λw=>(w.b,w.i)).Nodup)(o:Ok h n x)(hz:z∈x.rows)(ew:(G w).2=some j)(e:((G w).1,j)=(z.b,z.i)):hold G (ord h x.rows) w=some z.bag:=by
 unfold hold;rw[ew];dsimp only;rw[e];refine WO ?_ (iS.mpr ⟨z,o.mem.mpr hz,rfl⟩);unfold iq;rw[eU];exact(o.perm.map _).nodup_iff.mpr un
theorem WV(o:Ok h n x)(t:rB h r x X)(hw:w∈cR h x X)(hz:z∈x.rows)(ew:(aB h r x w).2=some j)(e:((aB h r x w).1,j)=(z.b,z.i)):z∈cR h x X:=by
 obtain⟨C,oC,gr,fn⟩:=t;obtain⟨hr,hX⟩:=(xK o).mp hw;refine(xK o).mpr ⟨hz,λm=>fn w (o.mem.mpr hr) z.bag ⟨hX,Zh o.un o hz ew e,m⟩⟩
theorem JB(o:Ok h n x)(hz:z∈x.rows):kK (cR h x X) z=true↔z∈cR h x X:=by
 unfold kK;rw[lh,iS];constructor
 .rintro⟨u,hu,e⟩;rw[<-tG o.nb ((xK o).mp hu).1 hz e];exact hu
 .exact λm=>⟨z,m,rfl⟩
end
section
variable{h:aF}{r:Int}{x:Hl}{n:Nat}{X:List (Str×D)}{w z z':Row}
theorem Ph(o:Ok h n x)(hz:z'∈(iP h r x X).rows):∃z∈x.rows,z'.bag=z.bag/\z'.fl=z.fl/\((z∉cR h x X/\z'=z)\/(z∈cR h x X/\pb h (aB h r x) z=some z')):=by
 obtain⟨z,K0,e⟩:=wJ.mp hz;refine⟨z,K0,?_⟩;split at e
 .rename_i hm
  obtain⟨e1,e2⟩:=F9 e;exact⟨e1,e2,.inr ⟨(JB o K0).mp hm,e⟩⟩
 .rename_i hm
  cases e;exact⟨rfl,rfl,.inl ⟨λm=>hm ((JB o K0).mpr m),rfl⟩⟩
theorem e7f{G:Row->Goal}(e:pb h G z=some z')(h0:0<=z.gn):0<=z'.gn:=by
 grind [pb]
theorem JV{G:Row->Goal}(e:pb h G z=some z'):∃j,(G z).2=some j/\z'.b=(G z).1/\z'.i=j:=by
 grind [pb]
theorem Qm{nw:Int}{p:Str×Str×Int}(o:Ok h n x)(hp:p∈(cR h x X).filterMap (gb (aB h r x) nw)):∃u∈x.rows,u∈cR h x X/\(aB h r x u).2=none/\p=(u.bag,(aB h r x u).1,nw):=by
 grind [xK,gb]
theorem Qn{G:Row->Goal}{nw:Int}:∀M:List Row,((M.filterMap (gb G nw)).map (·.1)).Sublist (M.map Row.bag)
 |[]=>.slnil
 |u::M=>by
  have ih:=Qn (G:=G) (nw:=nw) M;rw[cU];cases e:(G u).2 with
  |none=>
   rw[List.filterMap_cons_some (b:=(u.bag,(G u).1,nw)) (by unfold gb;rw[e])]
   exact ih.cons₂ _
  |some j=>
   rw[List.filterMap_cons_none (by unfold gb;rw[e])]
   exact ih.cons _
theorem Ok.turn(g:aH h)(o:Ok h n x)(t:rB h r x X):Ok h n (iP h r x X):=by
 have nM:((cR h x X).map Row.bag).Nodup:=(((o.perm.map _).nodup_iff.mpr o.nb:((ord h x.rows).map Row.bag).Nodup)).sublist (List.Sublist.map _ Hy);have sb:((iP h r x X).rows.map Row.bag).Sublist (x.rows.map Row.bag):=Jl _ _;have sy:∀b∈((cR h x X).filterMap (gb (aB h r x) (x.now+1))).map (·.1),∃u∈x.rows,u∈cR h x X/\(aB h r x u).2=none/\b=u.bag:=λb m=>by
  obtain⟨p,hp,rfl⟩:=iS.mp m;obtain⟨u,h1,h2,h3,rfl⟩:=Qm o hp;exact⟨u,h1,h2,h3,rfl⟩
 have dj:∀b∈(iP h r x X).rows.map Row.bag,b∉((cR h x X).filterMap (gb (aB h r x) (x.now+1))).map (·.1):=λb mb mo=>by
  obtain⟨z',G5,rfl⟩:=iS.mp mb;obtain⟨u,hu,hum,hn,e⟩:=sy _ mo;obtain⟨z,hz,eb,_,st⟩:=Ph o G5;have ezu:z=u:=tG o.nb hz hu (by rw[<-eb,e])
  grind [JV]
 have ndo:(((cR h x X).filterMap (gb (aB h r x) (x.now+1))).map (·.1)).Nodup:=by
  exact nM.sublist (Qn _)
 have nd:((iP h r x X).rows.map Row.bag++(iP h r x X).gone.map (·.1)).Nodup:=by
  have o1:=mH.mp o.nd;have eg:(iP h r x X).gone.map (·.1)=x.gone.map (·.1)++((cR h x X).filterMap (gb (aB h r x) (x.now+1))).map (·.1):=by
   show(x.gone++_).map _=_
   simp_all
  rw[eg,mH];refine⟨o1.1.sublist sb,mH.mpr ⟨o1.2.1,ndo,λa ma b mb e=>?_⟩,λa ma b mb e=>?_⟩
  .obtain⟨u,hu,_,_,eu⟩:=sy b mb;exact o1.2.2 u.bag (nG hu) a ma (by rw[e,eu])
  .rcases iQ.mp mb with mb|mb
   .exact o1.2.2 a (sb.subset ma) b mb e
   .exact dj a ma (by rw[e];exact mb)
 refine⟨λz' G5=>?_,nd,?_,o.bk,o.bn,λp hp=>?_,?_,?_⟩
 .obtain⟨z,hz,eb,ef,st⟩:=Ph o G5;obtain⟨k1,k2,k3⟩:=o.rw z hz;refine⟨?_,by rw[eb];exact k2,by rw[ef];exact k3⟩
  rcases st with⟨_,rfl⟩|⟨_,s2⟩
  .exact k1
  .obtain⟨j,ej,e1,e2⟩:=JV s2;obtain⟨bt,hb,e3,e4,e5⟩:=(Zg g o hz).2 j ej;obtain⟨_,_,_,_,_,Ko⟩:=k1;exact⟨bt,hb,by rw[e1];exact e3,by rw[e2];exact e4,by rw[e2];exact e5,e7f s2 Ko⟩
 .show((i8 h (aB h r x) (kK (cR h x X)) x.rows).map _).Nodup;unfold i8;rw[List.Nodup,EE,List.pairwise_filterMap];have un:=o.un;have nb:=o.nb;rw[List.Nodup,EE] at un nb;refine(un.and nb).imp_of_mem λ{a b} ma mb ne a' ea b' eb' e=>?_
  grind [JV,JB,WV,Ud]
 .rcases iQ.mp (show p∈x.gone++(cR h x X).filterMap (gb (aB h r x) (x.now+1)) from hp) with m|m
  .exact o.gi p m
  .obtain⟨u,hu,_,_,rfl⟩:=Qm o m;exact(o.rw u hu).2.1
 .have:=sb.length_le;rw[bx,bx] at this;exact jt this o.rl
 .have:=Ql nd (l2:=x.rows.map Row.bag++x.gone.map (·.1)) λa m=>by
   rcases iQ.mp m with m|m
   .exact iQ.mpr (.inl (sb.subset m))
   .have m:a∈(x.gone++(cR h x X).filterMap (gb (aB h r x) (x.now+1))).map (·.1):=m
    rw[fV,iQ] at m;rcases m with m|m
    .exact iQ.mpr (.inr m)
    .obtain⟨u,hu,_,_,e⟩:=sy a m;exact iQ.mpr (.inl (by rw[e];exact nG hu))
  rw[dw,dw,bx,bx,bx,bx] at this;have sz:=o.sz;show x.book.length+x.halts.length+_+_<=n;lia
end
variable{l:List Str}
abbrev kZ(z:Str)(v:Bool):Prop:=Pr n_ [cV z] (rd (.bl v))
def Dn(h:aF)(r:Int)(n:Nat)(x:Hl)(s:List Cell)(res:ak (Rs Rv)):Prop:=(∃x',res=some (.ok (rd .aI) (hS (aE h) r x' s))/\Ok h (n+1) x')\/∃C,res=some (.ex C none (hS (aE h) r x s))/\wT i9 C=some true
section
variable{s:List Cell}{h:aF}{r:Int}{x:Hl}{n q:Nat}{f ct b:Str}{cl:Int}{v:Bool}
theorem B1{hd:D}(q:Nat)(hv:kZ f v):xp q [eV,cV f] (hS hd r x s)=some (if(v&&(x.book.map (·.1)).contains f)=true then .ok (rd .aI) (hS hd r x s) else .ex 104 none (hS hd r x s)):=by
 have i:(aM (j' x.book) (.inr f)).isSome=_:=As;unfold xp MO;cases v with
 |false=>simp only[↓ev,hv,cx,hR,aJ]
 |true=>
  cases hc:(x.book.map (·.1)).contains f with
  |true=>rw[hc] at i;simp only[↓ev,hv,aJ,hR,oR,p7,aQ,i,kH,cx]
  |false=>rw[hc] at i;simp only[↓ev,hv,aJ,hR,oR,p7,aQ,i,mC,cx]
theorem Oj(q:Nat){S:aU}:Bh q [aR cl] S=some (if cl<0 then .ex 92 none S else .ok (rd .aI) S):=by
 unfold Bh MS;by_cases hl:cl<0
 .rw[bM hl];have hl:=bD hl;simp only[↓ev,hl,decide_true,dX]
 .rw[bc hl];have hl:=eq_false hl;simp only[↓ev,hl,decide_false,aJ,dX]
theorem Ok.up(o:Ok h n x):Ok h (n+1) x:=⟨o.rw,o.nd,o.un,o.bk,o.bn,o.gi,o.rl,Nat.le_succ_of_le o.sz⟩
theorem zK(h:l.contains b=true):b∈l:=lh.mp h
theorem II(h:l.contains b=false):b∉l:=λm=>by rw[lh.mpr m] at h;cases h
theorem WW(g:aH h)(o:Ok h n x)(hn:n<1000)(hv:kZ f v):Dn h r n x s (Fj 0 [eV,cV f,cV ct,aR cl] (hS (aE h) r x s)):=by
 have i:(aM (j' x.book) (.inr f)).isSome=_:=As;have cu:cutD (dS h.carts) (some 1) none=dS (h.carts.drop 1):=by rw[show(1:Int)=((1:Nat):Int) from rfl,OY,dS,dS,HC]
 have e1:=λq S=>Oj (cl:=cl) (S:=S) q
 have hD:aE h=.tup [.lst (h.af.map ah),.lst (dS h.carts)]:=rfl;unfold Dn;rw[hD];unfold Fj NH;cases v with
 |false=>
  refine .inr ⟨44,?_,rfl⟩;simp only[↓ev,hv,cx,hR]
 |true=>
  cases h1:(x.book.map (·.1)).contains f with
  |true=>
   rw[h1] at i;refine .inr ⟨44,?_,rfl⟩;simp only[↓ev,hv,aJ,hR,oR,p7,aQ,i,cx]
  |false=>
   rw[h1] at i;cases h2:(h.carts.drop 1).contains ct with
   |false=>
    refine .inr ⟨68,?_,rfl⟩;simp only[↓ev,hv,aJ,hR,oR,p7,aQ,i,mE,mW,cB,cu,g7,gZ,h2,mC,cx]
   |true=>
    by_cases hl:cl<0
    .simp only[bM hl] at e1;refine .inr ⟨92,?_,rfl⟩;simp only[↓ev,hv,aJ,hR,oR,p7,aQ,i,mE,mW,cB,cu,g7,gZ,h2,kH,e1,cx]
    .simp only[bc hl] at e1;have hf:=II h1;have p:bN (j' x.book) (.inr f) (.tup [.str f,.str ct,.int cl])=j' (x.book++[(f,ct,cl)]):=by
      unfold j';rw[Ca hf];unfold td;rw[fV];rfl
     have sz:=o.sz;have l1:((j' x.book).length<1000000)=True:=bD (by unfold j';rw[lT];lia)
     refine .inl ⟨{ x with book:=x.book++[(f,ct,cl)]},?_,λw m=>⟨(o.rw w m).1,(o.rw w m).2.1,λf' e=>?_⟩,o.nd,o.un,λp m=>?_,?_,o.gi,o.rl,?_⟩
     .simp only[↓ev,hS,hR,hv,aJ,oR,p7,aQ,i,mE,mW,cB,cu,g7,gZ,h2,kH,e1,l1,p,cx]
     .rw[fV];exact iQ.mpr (.inl ((o.rw w m).2.2 f' e))
     .rcases iQ.mp m with m|m
      .exact o.bk p m
      .rw[mG.mp m];exact zK h2
     .rw[fV,mH];refine⟨o.bn,by simp,λa ma b mb e=>hf ?_⟩
      have:b=f:=by simpa using mb
      rw[<-this,<-e];exact ma
     .dsimp only;rw[dw,t6];lia
theorem WX(g:aH h)(o:Ok h n x)(hn:n<1000)(hv:kZ f v):Dn h r n x s (Fl 0 [eV,cV f,aR cl] (hS (aE h) r x s)):=by
 have e0:=λq=>B1 (s:=s) (hd:=aE h) (r:=r) (x:=x) q hv
 have e1:=λq S=>Oj (cl:=cl) (S:=S) q
 unfold Dn;generalize aE h=hd at *;unfold Fl NI;cases hc:(v&&(x.book.map (·.1)).contains f) with
 |false=>
  simp only[hc,aJ,jK] at e0;refine .inr ⟨104,?_,rfl⟩;simp only[↓ev,hR,dN,ud,e0,cx]
 |true=>
  simp only[hc,pJ] at e0;by_cases hl:cl<0
  .simp only[bM hl] at e1;refine .inr ⟨92,?_,rfl⟩;simp only[↓ev,hR,dN,ud,e0,e1,cx]
  .simp only[bc hl] at e1;rw[iW] at hc;have hm:=zK hc.2;obtain⟨p,hp,ep⟩:=iS.mp hm;have v0:aM (j' x.book) (.inr f)=some (.tup [.str p.1,.str p.2.1,.int p.2.2]):=by rw[<-ep];exact jk o.bn hp
   have pu:bN (j' x.book) (.inr f) (.tup [.str f,.str p.2.1,.int cl])=j' (x.book.map λz=>if z.1=f then(f,z.2.1,cl) else z):=by
    unfold j';rw[Cb o.bn hm];unfold td;rw[eU];refine nH λz mz=>?_
    dsimp only[Function.comp];by_cases e:z.1=f
    .rw[bM e,bM e,tG (f:=λp:Str×Str×Int=>p.1) o.bn mz hp (by rw[e,ep]),ep]
     rfl
    .rw[bc e,bc e]
   have sz:=o.sz;have l1:((j' x.book).length<1000000)=True:=bD (by unfold j';rw[lT];lia)
   have ek:(x.book.map λz=>if z.1=f then(f,z.2.1,cl) else z).map (·.1)=x.book.map (·.1):=by
    rw[eU];refine nH λz _=>?_
    dsimp only[Function.comp];split
    .rename_i e;exact e.symm
    .rfl
   refine .inl ⟨{ x with book:=x.book.map λz=>if z.1=f then(f,z.2.1,cl) else z},?_,λw m=>⟨(o.rw w m).1,(o.rw w m).2.1,λf' e=>?_⟩,o.nd,o.un,λp m=>?_,?_,o.gi,o.rl,?_⟩
   .simp only[↓ev,hS,hR,dN,ud,e0,e1,oR,p7,aQ,v0,cB,l1,pu,cx]
   .show f'∈(x.book.map _).map _;rw[ek];exact(o.rw w m).2.2 f' e
   .obtain⟨z,mz,rfl⟩:=iS.mp m;split
    .exact o.bk z mz
    .exact o.bk z mz
   .show((x.book.map _).map _).Nodup;rw[ek];exact o.bn
   grind
theorem e7g(g:aH h)(o:Ok h n x)(hn:n<1000):Dn h r n x s (BK 0 [eV,cV b] (hS (aE h) r x s)):=by
 cases hb:(h.af.map aq.name).contains b with
 |false=>
  have e0:=λq=>z7 (s:=s) (r:=r) (x:=x) (q:=q) g hb
  simp only[aJ,jK] at e0;refine .inr ⟨116,?_,rfl⟩;generalize aE h=hd at *;unfold BK Jf;simp only[↓ev,hR,dN,vD,e0,cx]
 |true=>
  have e0:=λq=>z7 (s:=s) (r:=r) (x:=x) (q:=q) g hb
  simp only[pJ] at e0;have sz:=o.sz;have l1:((nq x.halts).length<1000000)=True:=bD (by rw[JQ];lia)
  have p:=Gq b x.halts;refine .inl ⟨{ x with halts:=h_ x.halts b},?_,o.rw,o.nd,o.un,o.bk,o.bn,o.gi,o.rl,?_⟩
  .generalize aE h=hd at *;unfold BK Jf;simp only[↓ev,hS,hR,dN,vD,e0,Ad,BO,aQ,l1,p,cx]
  grind [O0]
theorem Zi(b:Str)(ks:List Str):dB (nq ks) b=nq (ks.filter λk=>decide (k≠b)):=BY (k:=λk=>k) (v:=λ_=>.bl true)
theorem Zj(g:aH h)(o:Ok h n x)(hb:(h.af.map aq.name).contains b=true):zY 0 [eV,cV b] (hS (aE h) r x s)=some (.ok (rd .aI) (hS (aE h) r { x with halts:=x.halts.filter λk=>decide (k≠b)} s)):=by
 have e0:=λq=>z7 (s:=s) (r:=r) (x:=x) (q:=q) g hb
 simp only[pJ] at e0;have i:=vN b x.halts;have d:=Zi b x.halts;have t1:eQ (nq x.halts)=true:=vO (k:=λk=>k) (v:=λ_=>.bl true)
 generalize aE h=hd at *;unfold zY IS;cases hc:x.halts.contains b with
 |true=>
  rw[hc] at i;obtain⟨y,hy⟩:=Option.isSome_iff_exists.mp i;simp only[↓ev,hS,hR,dN,vD,e0,Ad,BO,aQ,aJ,hy,t8,t1,d,cx]
 |false=>
  rw[hc] at i;have hf:x.halts.filter (λk=>decide (k≠b))=x.halts:=List.filter_eq_self.mpr λk m=>oH λe=>II hc (by rw[<-e];exact m)
  simp only[↓ev,hS,hR,dN,vD,e0,Ad,BO,aQ,aJ,i,cx,hf]
theorem Ok.start(o:Ok h n x):Ok h n { x with halts:=x.halts.filter λk=>decide (k≠b)}:=⟨o.rw,o.nd,o.un,o.bk,o.bn,o.gi,o.rl,by
 have:=vz (λk=>decide (k≠b)) x.halts
 have sz:=o.sz
 lia⟩
theorem WY(g:aH h)(o:Ok h n x):Dn h r n x s (zY 0 [eV,cV b] (hS (aE h) r x s)):=by
 cases hb:(h.af.map aq.name).contains b with
 |false=>
  have e0:=λq=>z7 (s:=s) (r:=r) (x:=x) (q:=q) g hb
  simp only[aJ,jK] at e0;refine .inr ⟨116,?_,rfl⟩;generalize aE h=hd at *;unfold zY IS;simp only[↓ev,hR,dN,vD,e0,cx]
 |true=>exact .inl ⟨_,Zj g o hb,o.start.up⟩
end
theorem Zk{b:Str}(hn:o9 b):b.length<=8:=by
 refine Classical.byContradiction λz=>?_
 have e:=hn 0 ⟨[],[]⟩;have h2:((b.length:Int)<=8)=False:=eq_false (by lia)
 have h3:(1<=(b.length:Int))=True:=bD (by lia)
 by_cases hl:b.length<=1000000
 .have h4:=bD hl;have e2:n_ 0 [cV b] ⟨[],[]⟩=some (.ok (rd (.bl false)) ⟨[],[]⟩):=by
   unfold n_ Bz;simp only[↓ev,C9,aJ,h4,h3,decide_true,h2,decide_false];rfl
  lia
 .have h4:=eq_false hl;have e2:n_ 0 [cV b] ⟨[],[]⟩=none:=by
   unfold n_ Bz;simp only[↓ev,C9,aJ,h4];rfl
  lia
noncomputable def tR(rows:List Row)(b:Str):Bool:=rows.any λw=>w.b == b&&w.i == 0
theorem WZ(b:Str)(rows:List Row):((g9 rows).map (·.2)).any (λz=>gu z (pl b 0))=tR rows b:=by
 unfold g9 td tR;rw[eU,List.any_map]
 congr 1
 funext w;exact yp
theorem Zl(rows:List Row):((g9 rows).map (·.2)).all (eC 40)=true:=by
 unfold g9 td;rw[eU,t7];exact jJ.mpr λw _=>rfl
theorem b2i{α:Type}{k:α->Str}{v:α->D}{xs:List α}{x:α}(h:k x∉xs.map k):bN (td k v xs) (.inr (k x)) (v x)=td k v (xs++[x]):=by
 rw[Ca h];unfold td;rw[fV];rfl
section
variable{s:List Cell}{h:aF}{r:Int}{x:Hl}{n q:Nat}{f b bag:Str}{v v2:Bool}{fl:ak Str}
theorem JC{S:aU}{res:Rs Rv}{ff:D}(pre:∀rest:GS,uj rest 0 [cy,aY bag,ao ff,aY b,none] S=rest [cy,aY bag,ao ff,aY b,none] S)(e:(Aj 0 [cy,aY bag,ao ff,aY b,none] S).bind (leave S.s.length)=some res):vI 0 [eV,cV bag,.d ff,cV b] S=some res:=by
 rw[<-pre (Aj 0)] at e;exact e
theorem e9m(g:aH h)(o:Ok h n x)(hn:n<1000)(hv:kZ bag v)(hf:∀f,fl=some f->kZ f v2)(h8:x.rows.length<8):Dn h r n x s (vI 0 [eV,cV bag,.d (aP fl),cV b] (hS (aE h) r x s)):=by
 have i1:(aM (g9 x.rows) (.inr bag)).isSome=_:=As;have i2:(aM (yd x.gone) (.inr bag)).isSome=_:=As;cases v with
 |false=>
  refine .inr ⟨44,?_,rfl⟩;generalize aE h=hd at *;generalize aP fl=ff at *;unfold vI BX uj;simp only[↓ev,hv,cx,hR]
 |true=>
 cases h1:(x.rows.map Row.bag).contains bag with
 |true=>
  rw[h1] at i1;refine .inr ⟨44,?_,rfl⟩;generalize aE h=hd at *;generalize aP fl=ff at *;unfold vI BX uj;simp only[↓ev,hv,aJ,hR,kS,lr,aQ,i1,cx]
 |false=>
 rw[h1] at i1;cases h2:(x.gone.map (·.1)).contains bag with
 |true=>
  rw[h2] at i2;refine .inr ⟨44,?_,rfl⟩;generalize aE h=hd at *;generalize aP fl=ff at *;unfold vI BX uj;simp only[↓ev,hv,aJ,hR,kS,lr,aQ,i1,z6,BC,i2,cx]
 |false=>
 rw[h2] at i2;have fz:(∃f,fl=some f/\(v2&&(x.book.map (·.1)).contains f)=false)\/(fl=none\/∃f,fl=some f/\(v2&&(x.book.map (·.1)).contains f)=true):=by
  cases fl with
  |none=>exact .inr (.inl rfl)
  |some f=>
   cases hc:(v2&&(x.book.map (·.1)).contains f) with
   |true=>exact .inr (.inr ⟨f,rfl,hc⟩)
   |false=>exact .inl ⟨f,rfl,hc⟩
 rcases fz with⟨f,rfl,hc⟩|fz
 .have e0:=λq=>B1 (s:=s) (hd:=aE h) (r:=r) (x:=x) q (hf f rfl)
  simp only[hc,aJ,jK] at e0;refine .inr ⟨104,?_,rfl⟩;generalize aE h=hd at *;unfold vI BX uj aP;simp only[↓ev,hv,aJ,hR,kS,lr,aQ,i1,z6,BC,i2,dN,ud,e0,cx]
 .have KD:∀f,fl=some f->f∈x.book.map (·.1):=λf e=>by
   simp_all
  have pre:∀rest:GS,uj rest 0 [cy,aY bag,ao (aP fl),aY b,none] (hS (aE h) r x s)=rest [cy,aY bag,ao (aP fl),aY b,none] (hS (aE h) r x s):=λrest=>by
   rcases fz with rfl|⟨f,rfl,hc⟩
   .generalize aE h=hd at *;unfold uj aP;simp only[↓ev,hv,aJ,hR,kS,lr,aQ,i1,z6,BC,i2]
   .have e0:=λq=>B1 (s:=s) (hd:=aE h) (r:=r) (x:=x) q (hf f rfl)
    simp only[hc,pJ] at e0;generalize aE h=hd at *;unfold uj aP;simp only[↓ev,hv,aJ,hR,kS,lr,aQ,i1,z6,BC,i2,dN,ud,e0]
  cases hb:(h.af.map aq.name).contains b with
  |false=>
   have e1:=λq=>z7 (s:=s) (r:=r) (x:=x) (q:=q) g hb
   simp only[aJ,jK] at e1;refine .inr ⟨116,JC pre ?_,rfl⟩;generalize aE h=hd at *;generalize aP fl=ff at *;unfold Aj;simp only[↓ev,hR,dN,vD,e1,cx]
  |true=>
   have e1:=λq=>z7 (s:=s) (r:=r) (x:=x) (q:=q) g hb
   simp only[pJ] at e1;have t1:eQ (g9 x.rows)=true:=vO;have va:=WZ b x.rows;have vo:=Zl x.rows;obtain⟨bt,GR,RJ⟩:=iS.mp (zK hb);have lb:=Zk (g.nm bt GR);rw[RJ] at lb;have l1:(b.length<=1000000)=True:=bD (by lia)
   have l2:((Str.empty++("cell 0 of belt ":Str)).length<=1000000)=True:=bD (by decide +kernel)
   have l3:((Str.empty++("cell 0 of belt ":Str)++b).length<=1000000)=True:=bD (by
    rw[Str.length_append];have:(Str.empty++("cell 0 of belt ":Str)).length<=100:=by decide +kernel
    lia)
   have l4:((Str.empty++("cell 0 of belt ":Str)++b++(" has a bag":Str)).length<=1000000)=True:=bD (by
    rw[Str.length_append,Str.length_append];have:(Str.empty++("cell 0 of belt ":Str)).length<=100:=by decide +kernel
    have:(" has a bag":Str).length<=100:=by decide +kernel
    lia)
   cases ho:tR x.rows b with
   |true=>
    rw[ho] at va;refine .inr ⟨128,JC pre ?_,rfl⟩;generalize aE h=hd at *;generalize aP fl=ff at *;unfold Aj;simp only[↓ev,hR,dN,vD,e1,aQ,kS,lr,t1,vo,aJ,va,l2,l1,l3,l4,cx]
   |false=>
    rw[ho] at va;have yv:=II h1;have p1:bN (g9 x.rows) (.inr bag) (pl b 0)=g9 (x.rows++[⟨bag,b,0,fl,0⟩]):=b2i (x:=(⟨bag,b,0,fl,0⟩:Row)) yv;have p2:bN (il x.rows) (.inr bag) (aP fl)=il (x.rows++[⟨bag,b,0,fl,0⟩]):=b2i (x:=(⟨bag,b,0,fl,0⟩:Row)) yv;have p3:bN (kL x.rows) (.inr bag) (.int 0)=kL (x.rows++[⟨bag,b,0,fl,0⟩]):=b2i (x:=(⟨bag,b,0,fl,0⟩:Row)) yv;have m1:((g9 x.rows).length<1000000)=True:=bD (by unfold g9;rw[lT];lia)
    have m2:((il x.rows).length<1000000)=True:=bD (by unfold il;rw[lT];lia)
    have m3:((kL x.rows).length<1000000)=True:=bD (by unfold kL;rw[lT];lia)
    have sz:=o.sz;have lo:=(g.lg bt GR).1;refine .inl ⟨{ x with rows:=x.rows++[⟨bag,b,0,fl,0⟩]},JC pre ?_,λw m=>?_,?_,?_,o.bk,o.bn,o.gi,?_,?_⟩
    .generalize aE h=hd at *;generalize aP fl=ff at *;unfold Aj;simp only[↓ev,hS,hR,dN,vD,e1,aQ,kS,lr,t1,vo,aJ,va,m1,p1,pY,qu,m2,p2,Bu,Fm,m3,p3,cx]
    .rcases iQ.mp m with m|m
     .exact o.rw w m
     .rw[mG.mp m];exact⟨⟨bt,GR,RJ,My _,by show(0:Int)<_;lia,My _⟩,hv,KD⟩
    .dsimp only;rw[fV,lG];have o1:=mH.mp o.nd
     grind
    .dsimp only;rw[fV];refine mH.mpr ⟨o.un,by simp,λa ma c mc e=>?_⟩
     grind [tR]
    .dsimp only;rw[dw,t6];lia
    .dsimp only;rw[dw,t6];lia
end
variable{hd:D}
noncomputable def gf(p:Row->Bool)(y:ak Str)(z:Row):Row:=if p z=true then{ z with fl:=y} else z
section
variable{s:List Cell}{h:aF}{r:Int}{x:Hl}{n q:Nat}{f bag:Str}{v v2:Bool}{p:Row->Bool}{y:ak Str}{rows:List Row}
theorem Qo:(rows.map (gf p y)).map Row.bag=rows.map Row.bag:=by
 rw[eU];refine nH λz _=>?_
 dsimp only[Function.comp];unfold gf;split <;> rfl
theorem Q9:g9 (rows.map (gf p y))=g9 rows:=by
 unfold g9 td;rw[eU];refine nH λz _=>?_
 dsimp only[Function.comp];unfold gf;split <;> rfl
theorem Q_:kL (rows.map (gf p y))=kL rows:=by
 unfold kL td;rw[eU];refine nH λz _=>?_
 dsimp only[Function.comp];unfold gf;split <;> rfl
theorem Ok.read(o:Ok h n x){bk:List (Str×Str×Int)}(hb:∀q∈bk,q∈x.book)(hbn:(bk.map (·.1)).Nodup)(hl:bk.length<=x.book.length)(hf:∀w∈x.rows,∀f,(gf p y w).fl=some f->f∈bk.map (·.1)):Ok h (n+1) { x with book:=bk,rows:=x.rows.map (gf p y)}:=by
 have sz:=o.sz;refine⟨λw m=>?_,?_,?_,λq m=>o.bk q (hb q m),hbn,o.gi,?_,?_⟩
 .obtain⟨z,mz,rfl⟩:=iS.mp m;obtain⟨k1,k2,k3⟩:=o.rw z mz;refine⟨?_,?_,hf z mz⟩
  .unfold gf;split
   .exact k1
   .exact k1
  .unfold gf;split
   .exact k2
   .exact k2
 .dsimp only;rw[Qo];exact o.nd
 .dsimp only;have:(x.rows.map (gf p y)).map (λw=>(w.b,w.i))=x.rows.map λw=>(w.b,w.i):=by
   rw[eU];refine nH λz _=>?_
   dsimp only[Function.comp];unfold gf;split <;> rfl
  rw[this];exact o.un
 .dsimp only;rw[bx];exact o.rl
 grind
theorem W4(q:Nat)(hv:kZ bag v):xq q [eV,cV bag] (hS hd r x s)=some (if(v&&(x.rows.map Row.bag).contains bag)=true then .ok (rd .aI) (hS hd r x s) else .ex 140 none (hS hd r x s)):=by
 have i:(aM (g9 x.rows) (.inr bag)).isSome=_:=As;unfold xq HY;cases v with
 |false=>simp only[↓ev,hv,cx,hR,aJ]
 |true=>
  cases hc:(x.rows.map Row.bag).contains bag with
  |true=>rw[hc] at i;simp only[↓ev,hv,aJ,hR,kS,lr,aQ,i,kH,cx]
  |false=>rw[hc] at i;simp only[↓ev,hv,aJ,hR,kS,lr,aQ,i,mC,cx]
theorem e7h(g:aH h)(o:Ok h n x)(hn:n<1000)(hv:kZ bag v)(o8:kZ f v2):Dn h r n x s (FE 0 [eV,cV bag,cV f] (hS (aE h) r x s)):=by
 have e0:=λq=>W4 (s:=s) (hd:=aE h) (r:=r) (x:=x) q hv
 have e1:=λq=>B1 (s:=s) (hd:=aE h) (r:=r) (x:=x) q o8
 unfold Dn;generalize aE h=hd at *;unfold FE OQ;cases hc:(v&&(x.rows.map Row.bag).contains bag) with
 |false=>
  simp only[hc,aJ,jK] at e0;refine .inr ⟨140,?_,rfl⟩;simp only[↓ev,hR,dN,zJ,e0,cx]
 |true=>
  simp only[hc,pJ] at e0;cases rX:(v2&&(x.book.map (·.1)).contains f) with
  |false=>
   simp only[rX,aJ,jK] at e1;refine .inr ⟨104,?_,rfl⟩;simp only[↓ev,hR,dN,zJ,e0,ud,e1,cx]
  |true=>
   simp only[rX,pJ] at e1;rw[iW] at hc rX;have hm:=zK hc.2;have p1:bN (il x.rows) (.inr bag) (.str f)=il (x.rows.map (gf (λz=>z.bag == bag) (some f))):=by
    unfold il;rw[Cb o.nb hm];unfold td;rw[eU];refine nH λz _=>?_
    dsimp only[Function.comp];unfold gf;by_cases e:z.bag=bag
    .rw[bM e,bM (beq_iff_eq.mpr e)];rfl
    .rw[bc e,bc (by rw[beq_iff_eq];exact e)]
   have p2:=Q9 (p:=λz=>z.bag == bag) (y:=some f) (rows:=x.rows)
   have p3:=Q_ (p:=λz=>z.bag == bag) (y:=some f) (rows:=x.rows)
   have rl:=o.rl;have m2:((il x.rows).length<1000000)=True:=bD (by unfold il;rw[lT];lia)
   refine .inl ⟨_,?_,o.read (p:=λz=>z.bag == bag) (y:=some f) (λ_ m=>m) o.bn (bY _) λw mw f' e=>?_⟩
   .simp only[↓ev,hS,hR,dN,zJ,e0,ud,e1,pY,qu,aQ,m2,p1,cx,p2,p3]
   .unfold gf at e;split at e
    .cases e;exact zK rX.2
    .exact(o.rw w mw).2.2 f' e
theorem e7i{rs:List Row}{w:Row}(nb:(rs.map Row.bag).Nodup)(hw:w∈rs)(hl:rs.length<1000){x:Hl}{a2:ak Val}:Bj 0 [cy,aY f,aY w.bag] (hS hd r { x with rows:=rs} s)=some (.nx [cy,aY f,aY w.bag] (hS hd r { x with rows:=rs.map (gf (λz=>z.bag == w.bag&&z.fl == some f) none)} s)):=by
 have v0:aM (il rs) (.inr w.bag)=some (aP w.fl):=jk nb hw;have p2:=Q9 (p:=λz=>z.bag == w.bag&&z.fl == some f) (y:=none) (rows:=rs)
 have p3:=Q_ (p:=λz=>z.bag == w.bag&&z.fl == some f) (y:=none) (rows:=rs)
 have m2:((il rs).length<1000000)=True:=bD (by unfold il;rw[lT];lia)
 have same:w.fl≠some f->rs.map (gf (λz=>z.bag == w.bag&&z.fl == some f) none)=rs:=λne=>by
  conv=>rhs;rw[<-List.map_id rs]
  refine nH λz mz=>?_
  unfold gf;rw[bc λe=>?_]
  .rfl
  .rw[iW,beq_iff_eq,beq_iff_eq] at e;rw[tG nb mz hw e.1] at e;exact ne e.2
 unfold Bj;cases hf:w.fl with
 |none=>
  rw[hf] at v0;rw[same (by rw[hf];intro z;cases z)]
  unfold aP at v0;have en:gu .aI (.str f)=false:=rfl;simp only[↓ev,hR,pY,qu,aQ,v0,aJ,en]
 |some f'=>
  rw[hf] at v0;unfold aP at v0;cases he:(f' == f) with
  |false=>
   rw[same (by rw[hf];intro z;cases z;rw[fW] at he;cases he)]
   simp only[↓ev,hR,pY,qu,aQ,v0,aJ,fB,he]
  |true=>
   have p1:bN (il rs) (.inr w.bag) .aI=il (rs.map (gf (λz=>z.bag == w.bag&&z.fl == some f) none)):=by
    unfold il;rw[Cb nb (nG hw)];unfold td;rw[eU];refine nH λz mz=>?_
    dsimp only[Function.comp];unfold gf;by_cases e:z.bag=w.bag
    .have ez:=tG nb mz hw e;rw[bM e,bM (by rw[ez];dsimp only;rw[hf,fW,beq_iff_eq.mp he];simp)]
     rfl
    .rw[bc e,bc (by rw[iW,beq_iff_eq];exact λz=>e z.1)]
   simp only[↓ev,hS,hR,pY,qu,aQ,v0,aJ,fB,he,m2,p1,p2,p3]
theorem W5{z:Row}:(gf p y z).bag=z.bag:=by unfold gf;split <;> rfl
theorem W6(d:List Row)(w z:Row):gf (λz=>z.bag == w.bag&&z.fl == some f) none (gf (λz=>(d.map Row.bag).contains z.bag&&z.fl == some f) none z)=gf (λz=>((d++[w]).map Row.bag).contains z.bag&&z.fl == some f) none z:=by
 unfold gf;dsimp only;rw[fV];by_cases h2:z.fl=some f
 .by_cases h1:z.bag∈d.map Row.bag
  .simp[h1,h2]
  .by_cases h3:z.bag=w.bag
   .rw[h3] at h1;simp[h1,h2,h3]
   .simp[h1,h2,h3]
 .simp[h2]
theorem Zm(nb:(x.rows.map Row.bag).Nodup)(hl:x.rows.length<1000):∃a2,aO (ae 2) (Bj 0) (dS (x.rows.map Row.bag)) [cy,aY f,none] (hS hd r x s)=some (.nx [cy,aY f,a2] (hS hd r { x with rows:=x.rows.map (gf (λz=>z.fl == some f) none)} s)):=by
 rw[show dS (x.rows.map Row.bag)=x.rows.map λw=>.str w.bag by unfold dS;rw[eU];rfl]
 obtain⟨U',S',e,⟨a2,rfl⟩,rfl⟩:=iC (gg:=ae 2) (body:=Bj 0) (f:=λw:Row=>.str w.bag) (U:=[cy,aY f,none]) (S:=hS hd r x s) (λpre U S'=>(∃a2,U=[cy,aY f,a2])/\S'=hS hd r { x with rows:=x.rows.map (gf (λz=>(pre.map Row.bag).contains z.bag&&z.fl == some f) none)} s) x.rows ⟨⟨_,rfl⟩,by
   have:x.rows.map (gf (λz=>(([]:List Row).map Row.bag).contains z.bag&&z.fl == some f) none)=x.rows:=by
    conv=>rhs;rw[<-List.map_id x.rows]
    rfl
   rw[this]⟩ (by
  rintro d w post eq U S' ⟨⟨a2,rfl⟩,rfl⟩;have hw:w∈x.rows:=by rw[eq];simp
  have e:=e7i (hd:=hd) (r:=r) (s:=s) (x:=x) (f:=f) (a2:=none) (rs:=x.rows.map (gf (λz=>(d.map Row.bag).contains z.bag&&z.fl == some f) none)) (w:=gf (λz=>(d.map Row.bag).contains z.bag&&z.fl == some f) none w) (by rw[Qo];exact nb) (nG hw) (by rw[bx];exact hl)
  rw[W5] at e;refine⟨_,_,_,rfl,.inl e,⟨_,rfl⟩,?_⟩;rw[eU]
  congr 3
  funext z;exact W6 d w z)
 have:x.rows.map (gf (λz=>(x.rows.map Row.bag).contains z.bag&&z.fl == some f) none)=x.rows.map (gf (λz=>z.fl == some f) none):=nH λz mz=>by
  have hc:(x.rows.map Row.bag).contains z.bag=true:=lh.mpr (nG mz);unfold gf;simp only[hc,Et]
 rw[this] at e;exact⟨a2,e⟩
theorem e9n(g:aH h)(o:Ok h n x)(hv:kZ f v):Dn h r n x s (E7 0 [eV,cV f] (hS (aE h) r x s)):=by
 have e0:=λq=>B1 (s:=s) (hd:=aE h) (r:=r) (x:=x) q hv
 unfold Dn;generalize aE h=hd at *;unfold E7 Nd;cases hc:(v&&(x.book.map (·.1)).contains f) with
 |false=>
  simp only[hc,aJ,jK] at e0;refine .inr ⟨104,?_,rfl⟩;simp only[↓ev,hR,dN,ud,e0,cx]
 |true=>
  simp only[hc,pJ] at e0;rw[iW] at hc;obtain⟨p,hp,ep⟩:=iS.mp (zK hc.2);have v0:aM (j' x.book) (.inr f)=some (t3 p):=by rw[<-ep];exact jk o.bn hp
  have d1:dB (j' x.book) f=j' (x.book.filter λz=>decide (z.1≠f)):=BY
  have t1:eQ (j' x.book)=true:=vO;have k1:(il x.rows).map (·.1.d)=dS (x.rows.map Row.bag):=F6
  have rl:=o.rl;have l1:((il x.rows).length<1000000)=True:=bD (by unfold il;rw[lT];lia)
  have l2:((il x.rows).length<=1000000)=True:=bD (by unfold il;rw[lT];lia)
  obtain⟨a2,e1⟩:=Zm (hd:=hd) (r:=r) (s:=s) (f:=f) (x:={ x with book:=x.book.filter λz=>decide (z.1≠f)}) o.nb (by dsimp only;lia)
  generalize t3 p=tp at *;refine .inl ⟨_,?_,o.read (p:=λz=>z.fl == some f) (y:=none) (bk:=x.book.filter λz=>decide (z.1≠f)) (λq m=>(tZ.mp m).1) (o.bn.sublist (List.Sublist.map _ Hy)) (vz _ _) λw mw f' e=>?_⟩
  .dsimp only at e1;simp only[↓ev,hS,hR,dN,ud,e0,oR,p7,aQ,t1,v0,d1,pY,qu,k1,fH,e1,cx]
  .unfold gf at e;split at e
   .cases e
   .rename_i ne
    obtain⟨q,hq,eq⟩:=iS.mp ((o.rw w mw).2.2 f' e)
    grind
end
inductive iw:D->Prop
 |lX {f ct:Str} {cl:Int} {v:Bool}:kZ f v->iw (.tup [.str "flight",.str f,.str ct,.int cl])
 |change {f:Str} {cl:Int} {v:Bool}:kZ f v->iw (.tup [.str "change",.str f,.int cl])
 |off {f:Str} {v:Bool}:kZ f v->iw (.tup [.str "off",.str f])
 |put {bag b:Str} {fl:ak Str} {v v2:Bool}:kZ bag v->(∀f,fl=some f->kZ f v2)->iw (.tup [.str "put",.str bag,aP fl,.str b])
 |read {bag f:Str} {v v2:Bool}:kZ bag v->kZ f v2->iw (.tup [.str "read",.str bag,.str f])
 |stop {b:Str}:iw (.tup [.str "stop",.str b])
 |start {b:Str}:iw (.tup [.str "start",.str b])
section
variable{s:List Cell}{h:aF}{r:Int}{x:Hl}{n q:Nat}{d:D}
theorem Su:(("change":Str) == "flight")=false:=by decide +kernel
theorem Sv:(("off":Str) == "flight")=false:=by decide +kernel
theorem Sw:(("off":Str) == "change")=false:=by decide +kernel
theorem LL:(("put":Str) == "flight")=false:=by decide +kernel
theorem LM:(("put":Str) == "change")=false:=by decide +kernel
theorem LN:(("put":Str) == "off")=false:=by decide +kernel
theorem Sx:(("read":Str) == "flight")=false:=by decide +kernel
theorem Sy:(("read":Str) == "change")=false:=by decide +kernel
theorem Sz:(("read":Str) == "off")=false:=by decide +kernel
theorem DR:(("read":Str) == "put")=false:=by decide +kernel
theorem DS:(("stop":Str) == "flight")=false:=by decide +kernel
theorem DT:(("stop":Str) == "change")=false:=by decide +kernel
theorem DU:(("stop":Str) == "off")=false:=by decide +kernel
theorem DV:(("stop":Str) == "put")=false:=by decide +kernel
theorem DW:(("stop":Str) == "read")=false:=by decide +kernel
theorem DX:(("start":Str) == "flight")=false:=by decide +kernel
theorem DY:(("start":Str) == "change")=false:=by decide +kernel
theorem DZ:(("start":Str) == "off")=false:=by decide +kernel
theorem D0:(("start":Str) == "put")=false:=by decide +kernel
theorem D5:(("start":Str) == "read")=false:=by decide +kernel
theorem D6:(("start":Str) == "stop")=false:=by decide +kernel
theorem e7j(g:aH h)(o:Ok h n x)(hn:n<1000)(o5:iw d):Dn h r n x s (rF 0 [eV,.d d] (hS (aE h) r x s)):=by
 cases o5 with
 |@lX f ct cl v hv=>
  have e:=WW (s:=s) (r:=r) (ct:=ct) (cl:=cl) g o hn hv;unfold Dn at *;generalize aE h=hd at *;unfold rF uh;rcases e with⟨x',e,ok⟩|⟨C,e,hC⟩
  .refine .inl ⟨x',?_,ok⟩;simp only[↓ev,bQ,aJ,fB,fW,hR,dN,Oe,cB,gp,rJ,e,cx]
  .refine .inr ⟨C,?_,hC⟩;simp only[↓ev,bQ,aJ,fB,fW,hR,dN,Oe,cB,gp,rJ,e,cx]
 |@change f cl v hv=>
  have e:=WX (s:=s) (r:=r) (cl:=cl) g o hn hv;unfold Dn at *;generalize aE h=hd at *;unfold rF uh;rcases e with⟨x',e,ok⟩|⟨C,e,hC⟩
  .refine .inl ⟨x',?_,ok⟩;simp only[↓ev,bQ,aJ,fB,Su,fW,hR,dN,Of,cB,gp,e,cx]
  .refine .inr ⟨C,?_,hC⟩;simp only[↓ev,bQ,aJ,fB,Su,fW,hR,dN,Of,cB,gp,e,cx]
 |@off f v hv=>
  have e:=e9n (s:=s) (r:=r) g o hv;unfold Dn at *;generalize aE h=hd at *;unfold rF uh;rcases e with⟨x',e,ok⟩|⟨C,e,hC⟩
  .refine .inl ⟨x',?_,ok⟩;simp only[↓ev,bQ,aJ,fB,Sv,Sw,fW,hR,dN,Nr,cB,e,cx]
  .refine .inr ⟨C,?_,hC⟩;simp only[↓ev,bQ,aJ,fB,Sv,Sw,fW,hR,dN,Nr,cB,e,cx]
 |@put bag b fl v v2 hv hf=>
  have eb:=λq=>Cd (s:=s) (r:=r) (q:=q) g o
  have ll:(((ord h x.rows).map bP).length:Int)=(x.rows.length:Int):=by rw[bx,o.perm.length_eq]
  by_cases h8:x.rows.length<8
  .have e:=e9m (s:=s) (r:=r) (b:=b) (fl:=fl) g o hn hv hf h8;have l8:((x.rows.length:Int)<8)=True:=bD (by lia)
   unfold Dn at *;generalize(ord h x.rows).map bP=rl at *;generalize aE h=hd at *;generalize aP fl=ff at *;unfold rF uh;rcases e with⟨x',e,ok⟩|⟨C,e,hC⟩
   .refine .inl ⟨x',?_,ok⟩;simp only[↓ev,bQ,aJ,fB,LL,LM,LN,fW,hR,dN,xJ,eb,ll,l8,decide_true,Q5,cB,gp,rJ,e,cx]
   .refine .inr ⟨C,?_,hC⟩;simp only[↓ev,bQ,aJ,fB,LL,LM,LN,fW,hR,dN,xJ,eb,ll,l8,decide_true,Q5,cB,gp,rJ,e,cx]
  .have l8:((x.rows.length:Int)<8)=False:=eq_false (by lia)
   refine .inl ⟨x,?_,o.up⟩;generalize(ord h x.rows).map bP=rl at *;generalize aE h=hd at *;generalize aP fl=ff at *;unfold rF uh;simp only[↓ev,bQ,aJ,fB,LL,LM,LN,fW,hR,dN,xJ,eb,ll,l8,decide_false,cx]
 |@read bag f v v2 hv o8=>
  have e:=e7h (s:=s) (r:=r) g o hn hv o8;unfold Dn at *;generalize aE h=hd at *;unfold rF uh;rcases e with⟨x',e,ok⟩|⟨C,e,hC⟩
  .refine .inl ⟨x',?_,ok⟩;simp only[↓ev,bQ,aJ,fB,Sx,Sy,Sz,DR,fW,hR,dN,Qf,cB,gp,e,cx]
  .refine .inr ⟨C,?_,hC⟩;simp only[↓ev,bQ,aJ,fB,Sx,Sy,Sz,DR,fW,hR,dN,Qf,cB,gp,e,cx]
 |@stop b=>
  have e:=e7g (s:=s) (r:=r) (b:=b) g o hn;unfold Dn at *;generalize aE h=hd at *;unfold rF uh;rcases e with⟨x',e,ok⟩|⟨C,e,hC⟩
  .refine .inl ⟨x',?_,ok⟩;simp only[↓ev,bQ,aJ,fB,DS,DT,DU,DV,DW,fW,hR,dN,Qg,cB,e,cx]
  .refine .inr ⟨C,?_,hC⟩;simp only[↓ev,bQ,aJ,fB,DS,DT,DU,DV,DW,fW,hR,dN,Qg,cB,e,cx]
 |@start b=>
  have e:=WY (s:=s) (r:=r) (b:=b) g o;unfold Dn at *;generalize aE h=hd at *;unfold rF uh;rcases e with⟨x',e,ok⟩|⟨C,e,hC⟩
  .refine .inl ⟨x',?_,ok⟩;simp only[↓ev,bQ,aJ,fB,DX,DY,DZ,D0,D5,D6,fW,hR,dN,O5,cB,e,cx]
  .refine .inr ⟨C,?_,hC⟩;simp only[↓ev,bQ,aJ,fB,DX,DY,DZ,D0,D5,D6,fW,hR,dN,O5,cB,e,cx]
theorem e7k(g:aH h)(o:Ok h n x)(hn:n<1000)(o5:iw d):∃(v:Bool) (x':Hl),Ok h (n+1) x'/\BL 0 [eV,.d d] (hS (aE h) r x s)=some (.ok (rd (.bl v)) (hS (aE h) r x' s)):=by
 have e:=e7j (s:=s) (r:=r) g o hn o5;unfold Dn at e;rcases e with⟨x',e,ok⟩|⟨C,e,hC⟩
 .refine⟨true,x',ok,?_⟩;generalize aE h=hd at *;unfold BL Jh;simp only[↓ev,aQ,e,cx]
 .have hC':(i9.any λp=>p.2 == C)=true:=by
   unfold wT at hC;split at hC
   .assumption
   .cases hC
  refine⟨false,x,o.up,?_⟩;generalize aE h=hd at *;unfold BL Jh;simp only[↓ev,aQ,e,hC',cx]
end
theorem F_(l:List Nat)(h1:1<=l.length)(h2:l.length<=8):∃v,kZ ⟨l.toArray⟩ v:=by
 have e:∀q S,a_ (ae 0) (gw true) (E_ q) (l.map λc=>.str (jB c)) [none] S []=some (.ok ((l.map λc => !(Builtin.Str.occurrences (Str.ofString "abcdefghijklmnopqrstuvwxyz") (jB c) 0 (Str.ofString "abcdefghijklmnopqrstuvwxyz").length 1).isEmpty).map D.bl) S):=λq S=>by
  rw[qz (λc=>D.bl (!(Builtin.Str.occurrences (Str.ofString "abcdefghijklmnopqrstuvwxyz") (jB c) 0 (Str.ofString "abcdefghijklmnopqrstuvwxyz").length 1).isEmpty)) l (by lia) λc m=>⟨rd (.bl _),by
   rfl,rfl⟩,eU]
  rfl
 have c1:(1<=((⟨l.toArray⟩:Str).length:Int))=True:=bD (by rw[uk];lia)
 have c2:(((⟨l.toArray⟩:Str).length:Int)<=8)=True:=bD (by rw[uk];lia)
 have c3:((⟨l.toArray⟩:Str).length<=1000000)=True:=bD (by rw[uk];lia)
 refine⟨(l.map λc => !(Builtin.Str.occurrences (Str.ofString "abcdefghijklmnopqrstuvwxyz") (jB c) 0 (Str.ofString "abcdefghijklmnopqrstuvwxyz").length 1).isEmpty).all id,λq S=>?_⟩
 generalize(l.map λc => !(Builtin.Str.occurrences (Str.ofString "abcdefghijklmnopqrstuvwxyz") (jB c) 0 (Str.ofString "abcdefghijklmnopqrstuvwxyz").length 1).isEmpty)=bs at *
 unfold n_ Bz;simp only[↓ev,C9,aJ,c3,c1,decide_true,c2,e,IU,dX]
noncomputable abbrev l3:List D:=[.int 11,.int 12,.int 13]
theorem RF:∀a:Nat,a<3->dq l3 (a:Int)=some (.int ((11+a:Nat):Int))
 |0,_=>rfl
 |1,_=>rfl
 |2,_=>rfl
section
variable{ns:List Int}
theorem Zn(n:Nat)(hn:n<20):∃f v,Pr zI [.d (bq ns),aR (n:Int)] (rd (.str f))/\kZ f v:=by
 obtain⟨d1,d2,d3⟩:=hZ ns 12 4 3 (by decide) (by decide) (by decide)
 have d1:Pr ip [.d (bq ns),aR 12,aR 4,aR 3] _:=d1;cases h6:((n:Int) == 6) with
 |true=>
  obtain⟨v,hv⟩:=F_ [65] (by decide) (by decide)
  refine⟨"A",v,λq S=>?_,by rw[show("A":Str)=⟨[65].toArray⟩ by decide +kernel];exact hv⟩
  generalize(n:Int)=ni at *;unfold zI HZ;simp only[↓ev,aJ,f7,h6,dX]
 |false=>
  have ha:=RF (bF ns 12 4 3).toNat (by lia)
  rw[Int.toNat_of_nonneg d2] at ha;have hx:=Gp ns (11+(bF ns 12 4 3).toNat) (by lia) n hn
  have hl:=Ar ns (11+(bF ns 12 4 3).toNat) (by lia) n
  obtain⟨v,hv⟩:=F_ _ hl.1 hl.2;refine⟨_,v,λq S=>?_,hv⟩
  generalize((11+(bF ns 12 4 3).toNat:Nat):Int)=qi at *;generalize bF ns 12 4 3=dg at *;generalize(n:Int)=ni at *;unfold zI HZ;unfold jr at hx;simp only[↓ev,aJ,f7,h6,aQ,d1,ha,hx,dX]
theorem Zs(n:Nat)(hn:n<20):∃f v,Pr zN [.d (bq ns),aR (n:Int)] (rd (.str f))/\kZ f v:=by
 obtain⟨d1,d2,d3⟩:=hZ ns 13 4 3 (by decide) (by decide) (by decide)
 have d1:Pr ip [.d (bq ns),aR 13,aR 4,aR 3] _:=d1;cases h6:((n:Int) == 12) with
 |true=>
  obtain⟨v,hv⟩:=F_ [98,49] (by decide) (by decide)
  refine⟨"b1",v,λq S=>?_,by rw[show("b1":Str)=⟨[98,49].toArray⟩ by decide +kernel];exact hv⟩
  generalize(n:Int)=ni at *;unfold zN Ih;simp only[↓ev,aJ,f7,h6,dX]
 |false=>
  have ha:=RF (bF ns 13 4 3).toNat (by lia)
  rw[Int.toNat_of_nonneg d2] at ha;have hx:=Gp ns (11+(bF ns 13 4 3).toNat) (by lia) n hn
  have hl:=Ar ns (11+(bF ns 13 4 3).toNat) (by lia) n
  obtain⟨v,hv⟩:=F_ _ hl.1 hl.2;refine⟨_,v,λq S=>?_,hv⟩
  generalize((11+(bF ns 13 4 3).toNat:Nat):Int)=qi at *;generalize bF ns 13 4 3=dg at *;generalize(n:Int)=ni at *;unfold zN Ih;unfold jr at hx;simp only[↓ev,aJ,f7,h6,aQ,d1,ha,hx,dX]
theorem Ue(k:Nat)(hk:k<900):∃cl,Pr vF [.d (bq ns),aR (k:Int)] (rd (.int cl)):=by
 have hp:=xX ns (k+1) 10 (by lia) (by decide)
 obtain⟨c,hc⟩:=JP ns k;obtain⟨d1,_,_⟩:=hZ ns (k+1) 3 30 (by lia) (by decide) (by decide)
 rw[show((k+1:Nat):Int)=(k:Int)+1 by lia] at hp d1
 have d1:Pr ip [.d (bq ns),aR ((k:Int)+1),aR 3,aR 30] _:=d1;generalize(k:Int)=ki at *;generalize bF ns (k+1) 0 10=pv at *;have p8:(0<(10:Int)^8)=True:=bD (by decide)
 have p9:(0<(10:Int)^9)=True:=bD (by decide)
 have Sm:(Int.natAbs 10<2^64)=True:=bD (by decide)
 cases h0:(pv == 0) with
 |true=>
  refine⟨-1 - c%10^8,λq S=>?_⟩
  unfold vF Fb;simp only[↓ev,hp,aQ,aJ,f7,h0,hc,Sm,and_self,decide_true,p8,dX]
 |false=>
  cases h1:(pv == 1) with
  |true=>
   refine⟨c%10^9,λq S=>?_⟩
   unfold vF Fb;simp only[↓ev,hp,aQ,aJ,f7,h0,h1,hc,Sm,and_self,decide_true,p9,dX]
  |false=>
   refine⟨bF ns (k+1) 3 30,λq S=>?_⟩
   unfold vF Fb;simp only[↓ev,hp,aQ,aJ,f7,h0,h1,d1,dX]
end
section
variable{ns:List Int}{k kd mk fi ob tb oc ln AJ cl:Int}{bl nl cs c1 n1:List D}{f bag b ct:Str}{S:aU}
structure HJ (ns:List Int) (k kd mk fi ob tb oc ln AJ cl:Int) (bl nl cs c1 n1:List D) (f bag b ct:Str):Prop where
 hp:Pr kT [.d (bq ns),aR k,aR 20] (rd (.int kd))
 ht:Pr mU [.d (bq ns),aR k,aR 10] (rd (.int mk))
 hi:(mk == 9)=true/\fi=6\/(mk == 9)=false/\fi=mk%3
 hf:Pr zI [.d (bq ns),aR fi] (rd (.str f))
 ho:Pr jM [.d (bq ns),aR k,aR 13] (rd (.int ob))
 hb:Pr zN [.d (bq ns),aR ob] (rd (.str bag))
 hc:∀q S,a_ (ae 0) (gw true) (Ff q) bl [none] S []=some (.ok nl S)
 k1:cutD cs none (some 1)=c1
 k2:cutD nl none (some 1)=n1
 a1:(nl.length+nl.length<=1000000)=True
 a2:(nl.length+nl.length+c1.length<=1000000)=True
 a3:(cs.length+n1.length<=1000000)=True
 ll:(nl.length:Int)=ln
 lc:((cs.length+n1.length:Nat):Int)=AJ
 hm:(-2^64<(2:Int)/\(2:Int)<2^64 \/ -2^64<ln/\ln<2^64)=True
 AE:Pr mU [.d (bq ns),aR (k+1),aR (2*ln+1)] (rd (.int tb))
 uF:dq (nl++(nl++c1)) tb=some (.str b)
 uH:Pr jM [.d (bq ns),aR (k+1),aR AJ] (rd (.int oc))
 Az:dq (cs++n1) oc=some (.str ct)
 o4:Pr vF [.d (bq ns),aR k] (rd (.int cl))
abbrev tK(ns:List Int)(k kd mk cl:Int)(bl nl cs n1:List D)(f bag b ct:Str):Gm:=[ao (bq ns),bI k,ao (.tup [.lst bl,.lst cs]),bI kd,bI mk,aY f,aY bag,ao (.lst nl),aY b,ao (.lst (cs++n1)),ao (.tup [.str "flight",.str f,.str ct,.int cl])]
theorem tH(x:HJ ns k kd mk fi ob tb oc ln AJ cl bl nl cs c1 n1 f bag b ct)(rest:GS):IT rest 0 [ao (bq ns),bI k,ao (.tup [.lst bl,.lst cs]),none,none,none,none,none,none,none,none] S=rest (tK ns k kd mk cl bl nl cs n1 f bag b ct) S:=by
 obtain⟨hp,ht,hi,hf,ho,hb,hc,k1,k2,a1,a2,a3,ll,lc,hm,AE,uF,uH,Az,o4⟩:=x;have m3:((0:Int)<3)=True:=bD (by decide)
 unfold IT;rcases hi with⟨h9,rfl⟩|⟨h9,rfl⟩
 .simp only[↓ev,hp,aQ,ht,aJ,f7,h9,hf,ho,hb,bQ,fH,hc,a1,cB,k1,yL,a2,vM,ll,hm,AE,uF,k2,a3,lc,uH,Az,o4]
 .simp only[↓ev,hp,aQ,ht,aJ,f7,h9,m3,decide_true,hf,ho,hb,bQ,fH,hc,a1,cB,k1,yL,a2,vM,ll,hm,AE,uF,k2,a3,lc,uH,Az,o4]
end
noncomputable def kF(m:Int):D:=.tup [.str "turn",.int m]
def wV(ds:List D):Prop:=ds.length<=2/\∀d∈ds,iw d\/∃m:Int,1<=m/\m<=12/\d=kF m
section
variable{ns:List Int}{k kd mk fi ob tb oc ln AJ cl:Int}{bl nl cs c1 n1:List D}{f bag b ct:Str}{S:aU}{v v2:Bool}
theorem tI{hd:D}{ds:List D}(e:pZ 0 [ao (bq ns),bI k,ao hd,none,none,none,none,none,none,none,none] S=some (.rt (.o (.lst ds)) S)):xx 0 [.d (bq ns),aR k,.d hd] S=some (.ok (.o (.lst ds)) S):=by
 unfold xx aT;generalize pZ 0=ml at *;simp only[↓ev,e,dX]
theorem Pj(x:HJ ns k kd mk fi ob tb oc ln AJ cl bl nl cs c1 n1 f bag b ct)(k0:0<=kd)(k20:kd<20)(hv:kZ bag v)(o8:kZ f v2){o3 t1 bg:Int}{bt:aq}(h3:Pr jM [.d (bq ns),aR (k+1),aR 3] (rd (.int o3)))(vW:dq bl 0=some (ah bt))(hbg:(9<bt.long)=True/\bg=12\/(9<bt.long)=False/\bg=4)(CG:Pr mU [.d (bq ns),aR (k+1),aR bg] (rd (.int t1)))(ht1:0<=t1/\t1<12):∃ds,wV ds/\xx 0 [.d (bq ns),aR k,.d (.tup [.lst bl,.lst cs])] S=some (.ok (.o (.lst ds)) S):=by
 have o4:=x.o4;have one:∀{d:D},iw d->wV [d]:=λ{d} hd=>⟨by simp,λz m=>by rw[mG.mp m];exact .inl hd⟩
 by_cases c3:kd<3
 .have q1:=bD c3;refine⟨_,one (.lX (ct:=ct) (cl:=cl) o8),tI ?_⟩;unfold pZ;rw[tH x];unfold rD;clear x;simp only[↓ev,tK,q1,decide_true,aQ,aJ]
 have q1:=eq_false c3;cases e3:(kd == 3) with
 |true=>
  refine⟨_,one (.change (cl:=cl) o8),tI ?_⟩;unfold pZ;rw[tH x];unfold rD;clear x;simp only[↓ev,tK,q1,decide_false,aJ,f7,e3,o4,aQ]
 |false=>
 cases e4:(kd == 4) with
 |true=>
  refine⟨_,one (.off o8),tI ?_⟩;unfold pZ;rw[tH x];unfold rD;clear x;simp only[↓ev,tK,q1,decide_false,aJ,f7,e3,e4,aQ]
 |false=>
 cases e5:(kd == 5) with
 |true=>
  refine⟨[.tup [.str "off",.str f],.tup [.str "flight",.str f,.str ct,.int cl]],⟨by simp,λz m=>?_⟩,tI ?_⟩
  .rcases y0a.mp m with rfl|m
   .exact .inl (.off o8)
   .rw[mG.mp m];exact .inl (.lX o8)
  .unfold pZ;rw[tH x];unfold rD;clear x;simp only[↓ev,tK,q1,decide_false,aJ,f7,e3,e4,e5,aQ]
 |false=>
 by_cases Po:kd<11
 .have q2:=bD Po;cases e0:(o3 == 0) with
  |true=>
   refine⟨[.tup [.str "put",.str bag,.aI,.str b]],one (.put (fl:=none) (v2:=true) hv λ_ z=>by cases z),tI ?_⟩
   unfold pZ;rw[tH x];unfold rD;clear x;simp only[↓ev,tK,q1,decide_false,aJ,f7,e3,e4,e5,q2,decide_true,h3,e0,aQ]
  |false=>
   refine⟨[.tup [.str "put",.str bag,.str f,.str b]],one (.put (fl:=some f) hv λ_ z=>by cases z;exact o8),tI ?_⟩
   unfold pZ;rw[tH x];unfold rD;clear x;simp only[↓ev,tK,q1,decide_false,aJ,f7,e3,e4,e5,q2,decide_true,h3,e0,aQ]
 have q2:=eq_false Po;cases Cw:(kd == 11) with
 |true=>
  refine⟨_,one (.read hv o8),tI ?_⟩;unfold pZ;rw[tH x];unfold rD;clear x;simp only[↓ev,tK,q1,decide_false,aJ,f7,e3,e4,e5,q2,Cw,aQ]
 |false=>
 have n11:kd≠11:=by rw[qH] at Cw;exact Cw
 by_cases Tu:kd<14
 .rcases(show kd=12\/kd=13 by lia) with rfl|rfl
  .refine⟨_,one (.stop (b:=b)),tI ?_⟩;unfold pZ;rw[tH x];unfold rD;rfl
  .refine⟨_,one (.start (b:=b)),tI ?_⟩;unfold pZ;rw[tH x];unfold rD;rfl
 have q3:=eq_false Tu;refine⟨[kF (1+t1)],⟨by simp,λz m=>by rw[mG.mp m];exact .inr ⟨1+t1,by lia,by lia,rfl⟩⟩,tI ?_⟩
 unfold pZ;rw[tH x];unfold rD;clear x;unfold kF;unfold ah at vW;rcases hbg with⟨h9,rfl⟩|⟨h9,rfl⟩
 .simp only[↓ev,tK,q1,decide_false,aJ,f7,e3,e4,e5,q2,Cw,q3,bQ,vW,cB,h9,decide_true,CG,aQ]
 .simp only[↓ev,tK,q1,decide_false,aJ,f7,e3,e4,e5,q2,Cw,q3,bQ,vW,cB,h9,CG,aQ]
end
theorem Qp(ds:List D):cutD ds none (some 1)=ds.take 1:=by
 grind [cutD,HT.cP]
section
variable{ns:List Int}{h:aF}
theorem Zt(g:aH h)(b0:0<h.af.length)(k:Nat)(hk:k<900)(S:aU):∃ds,wV ds/\xx 0 [.d (bq ns),aR (k:Int),.d (aE h)] S=some (.ok (.o (.lst ds)) S):=by
 have bl:=g.sm.bl;have ct:=g.sm.ct;have c0:=g.c0;obtain⟨_,p0,p1⟩:=hZ ns k 0 20 (by lia) (by decide) (by decide)
 have hp:=xX ns k 20 (by lia) (by decide)
 obtain⟨_,t0,t1⟩:=hZ ns k 2 10 (by lia) (by decide) (by decide)
 have ht:=xG ns k 10 (by lia) (by decide)
 obtain⟨_,o0,o1⟩:=hZ ns k 1 13 (by lia) (by decide) (by decide)
 have ho:=vJ ns k 13 (by lia) (by decide)
 obtain⟨fn,CQ,hfi⟩:∃fn:Nat,fn<20/\((bF ns k 2 10 == 9)=true/\(fn:Int)=6\/(bF ns k 2 10 == 9)=false/\(fn:Int)=bF ns k 2 10%3):=by
  cases e:(bF ns k 2 10 == 9) with
  |true=>exact⟨6,by decide,.inl ⟨rfl,rfl⟩⟩
  |false=>exact⟨(bF ns k 2 10%3).toNat,by lia,.inr ⟨rfl,by lia⟩⟩
 obtain⟨f,v2,hf,o8⟩:=Zn (ns:=ns) fn CQ;obtain⟨bag,v,hb,hv⟩:=Zs (ns:=ns) (bF ns k 1 13).toNat (by lia)
 rw[Int.toNat_of_nonneg o0] at hb;obtain⟨cl,o4⟩:=Ue (ns:=ns) k hk;have comp:∀q S,a_ (ae 0) (gw true) (Ff q) (h.af.map ah) [none] S []=some (.ok (dS (h.af.map aq.name)) S):=λq S=>by
  rw[qz (λb=>.str b.name) h.af (by lia) λb m=>⟨rd (.str b.name),by unfold Ff ah;simp only[↓ev,bQ],rfl⟩,dS,eU]
  rfl
 obtain⟨_,tb0,tb1⟩:=hZ ns (k+1) 2 (2*(h.af.length:Int)+1) (by lia) (by decide) (by lia)
 have AE:=xG ns (k+1) (2*(h.af.length:Int)+1) (by lia) (by lia)
 obtain⟨_,oc0,oc1⟩:=hZ ns (k+1) 1 (((h.carts.length+1:Nat)):Int) (by lia) (by decide) (by lia)
 have uH:=vJ ns (k+1) (((h.carts.length+1:Nat)):Int) (by lia) (by lia)
 have h3:=vJ ns (k+1) 3 (by lia) (by decide)
 have CG:=xG ns (k+1) 12 (by lia) (by decide)
 have h4:=xG ns (k+1) 4 (by lia) (by decide)
 obtain⟨_,a0,a1⟩:=hZ ns (k+1) 2 12 (by lia) (by decide) (by decide)
 obtain⟨_,SR,b1⟩:=hZ ns (k+1) 2 4 (by lia) (by decide) (by decide)
 rw[show((k+1:Nat):Int)=(k:Int)+1 by lia] at AE uH h3 CG h4
 have uP:(h.carts.take 1).length=1:=by rw[wK];lia
 have Sg:((h.af.map aq.name).take 1).length=1:=by rw[wK,bx];lia
 have uF:=F5 (xs:=h.af.map aq.name++(h.af.map aq.name++h.carts.take 1)) (k:=bF ns (k+1) 2 (2*(h.af.length:Int)+1)) tb0 (by rw[dw,dw,bx,uP];lia)
 have Az:=F5 (xs:=h.carts++(h.af.map aq.name).take 1) (k:=bF ns (k+1) 1 (((h.carts.length+1:Nat)):Int)) oc0 (by rw[dw,Sg];lia)
 generalize(h.af.map aq.name++(h.af.map aq.name++h.carts.take 1)).getD (bF ns (k+1) 2 (2*(h.af.length:Int)+1)).toNat ""=bb at *;generalize(h.carts++(h.af.map aq.name).take 1).getD (bF ns (k+1) 1 (((h.carts.length+1:Nat)):Int)).toNat ""=cc at *;rw[dS,fV,fV,<-dS,<-dS] at uF;rw[dS,fV,<-dS,<-dS] at Az;have D:HJ ns k (bF ns k 0 20) (bF ns k 2 10) fn (bF ns k 1 13) (bF ns (k+1) 2 (2*(h.af.length:Int)+1)) (bF ns (k+1) 1 (((h.carts.length+1:Nat)):Int)) h.af.length (((h.carts.length+1:Nat)):Int) cl (h.af.map ah) (dS (h.af.map aq.name)) (dS h.carts) (dS (h.carts.take 1)) (dS ((h.af.map aq.name).take 1)) f bag bb cc:=⟨hp,ht,hfi,hf,ho,hb,comp,by rw[Qp,dS,dS,ME],by rw[Qp,dS,dS,ME],bD (by simp;lia),bD (by simp;lia),bD (by simp;lia),by simp,by rw[bx,bx,Sg],bD (.inl (by decide)),AE,uF,uH,Az,o4⟩
 obtain⟨bt,GR,ab⟩:∃bt∈h.af,dq (h.af.map ah) 0=some (ah bt):=by
  cases e:h.af with
  |nil=>rw[e] at b0;simp at b0
  |cons z zs=>exact⟨z,.head _,bQ⟩
 by_cases h9:9<bt.long
 .exact Pj D p0 p1 hv o8 h3 ab (.inl ⟨bD h9,rfl⟩) CG ⟨a0,a1⟩
 .exact Pj D p0 p1 hv o8 h3 ab (.inr ⟨eq_false h9,rfl⟩) h4 ⟨SR,by lia⟩
end
variable{y:D}{a:TK}{v:Int}
theorem vp:aM [(a,y)] a=some y:=by unfold aM;simp
theorem vq{a':TK}(h:a≠a'):aM [(a,y)] a'=none:=by unfold aM;simp[h]
theorem Ra{carts:List Str}:∀{bs:List aq},jh carts bs->∀b∈bs,∀o∈b.outs,o≠b.name
 |x::bs,f,b,hb,o,ho=>by
  rcases y0a.mp hb with rfl|hb
  .intro e;rcases f.1 o ho with z|z
   .exact f.2.1 (e ▸ z)
   .exact f.2.2.1 (e ▸ z)
  .exact Ra f.2.2.2 b hb o ho
noncomputable def gL:ak Int->D
 |none=>.aI
 |some v=>.int v
def dD(ar:Str):List aq->List (TK×D)
 |[]=>[]
 |b::bs=>dD ar bs++[(.inr b.name,gL (atS (aS ar (b::bs)) b.name))]
theorem Pk(ar:Str):∀bs:List aq,(dD ar bs).length=bs.length
 |[]=>rfl
 |b::bs=>by unfold dD;rw[dw,Pk ar bs];rfl
theorem Pl{l m:List (TK×D)}{k:TK}:aM (l++m) k=(aM l k).or (aM m k):=by
 grind [aM]
theorem Cf{ar:Str}:∀{bs:List aq} {n:Str},n∉bs.map aq.name->aM (dD ar bs) (.inr n)=none
 |[],n,_=>rfl
 |b::bs,n,hn=>by
  have ne:TK.inr b.name≠TK.inr n:=λz=>hn (by rw[<-TK.inr.inj z];exact .head _)
  unfold dD;rw[Pl,Cf (bs:=bs) λz=>hn (.tail _ z),Option.none_or,vq ne]
theorem Gs{carts:List Str}{ar:Str}:∀{bs:List aq} {n:Str},jh carts bs->n∈bs.map aq.name->aM (dD ar bs) (.inr n)=some (gL (atS (aS ar bs) n))
 |b::bs,n,f,hn=>by
  have eu:dD ar (b::bs)=dD ar bs++[(.inr b.name,gL (atS (aS ar (b::bs)) b.name))]:=rfl;rw[eu,Pl];by_cases e:n=b.name
  .subst e;rw[Cf f.2.1,Option.none_or,vp]
  .have hm:n∈bs.map aq.name:=by
    simp_all
   rw[Gs f.2.2.2 hm,zS e];rfl
theorem Qq(b:aq){ar:Str}{y:D}:∀{l:List (TK×D)},aM l (.inr b.name)=none->bN l (.inr b.name) y=l++[(.inr b.name,y)]
 |[],_=>rfl
 |(k,z)::l,h=>by
  have hk:k≠.inr b.name:=λe=>by
   rw[e] at h;unfold aM at h;rw[List.find?_cons_of_pos (by simp)] at h
   cases h
  have h':aM l (.inr b.name)=none:=by
   unfold aM at h ⊢
   rwa[List.find?_cons_of_neg (by simpa using hk)] at h
  rw[BB,bc hk,Qq b (ar:=ar) h'];rfl
def oA(ar:Str)(bs:List aq)(outs:List Str):List Int:=outs.filterMap λo=>if o∈bs.map aq.name then atS (aS ar bs) o else none
theorem Zu{carts:List Str}{ar:Str}(hc:ar∈carts){bs:List aq}(f:jh carts bs){outs:List Str}(ho:∀o∈outs,o∈bs.map aq.name\/o∈carts):v∈oA ar bs outs++(if outs.contains ar=true then[0] else[])↔v∈cX (aS ar bs) outs:=by
 grind [iK,oA,F8,Pa]
theorem Rb{xs ys:List Int}(h:∀v,v∈xs↔v∈ys)(fS:ys≠[]):xs≠[]/\dP xs=dP ys:=by
 obtain⟨m1,m2⟩:=Fo fS;have hx:xs≠[]:=λz=>by
  simp_all
 obtain⟨n1,n2⟩:=Fo hx;have c1:=m2 _ ((h _).mp n1);have c2:=n2 _ ((h _).mpr m1);exact⟨hx,by lia⟩
section
variable{S:aU}{ar:Str}{bs:List aq}{carts outs:List Str}{t:List Cell}{n:Nat}{rr:List Cell}
theorem Zv:∀outs:List Str,(outs.filterMap λo=>(if o∈bs.map aq.name then atS (aS ar bs) o else none).map D.int)=(oA ar bs outs).map D.int
 |[]=>rfl
 |o::outs=>by
  grind [oA]
theorem Vn(hn:t[n]?=some (.o (.av (dD ar bs))))(f:jh carts bs)(q:Nat)(h:outs.length<=1000):a_ (ae 0) (zV q) (zW q) (dS outs) [none,aN n] ⟨t,rr⟩ []=some (.ok ((oA ar bs outs).map D.int) ⟨t,rr⟩):=by
 rw[dS,uw (λo=>(if o∈bs.map aq.name then atS (aS ar bs) o else none).map D.int) outs (by lia) λo m=>by
  unfold zV zW;by_cases hm:o∈bs.map aq.name
  .have v:=Gs (ar:=ar) f hm;rw[bM hm];cases hc:atS (aS ar bs) o with
   |some w=>
    rw[hc] at v;unfold gL at v;exact .inr ⟨rd (.int w),.int w,rfl,by simp only[↓ev,hn,aJ,v,t8],by simp only[↓ev,hn,v],rfl⟩
   |none=>
    rw[hc] at v;unfold gL at v;exact .inl ⟨rfl,by simp only[↓ev,hn,aJ,v,t8]⟩
  .have v:=Cf (ar:=ar) hm;rw[bc hm];exact .inl ⟨rfl,by simp only[↓ev,hn,aJ,v,wO]⟩,Zv]
end
section
variable{S:aU}{t rr:List Cell}{n:Nat}{l l':List (TK×D)}{bl:List D}{k d:Int}{b:aq}{ar:Str}{a4 a5:ak Val}{gE:List Int}{cs:D}
theorem W7(hl:((bl.length:Nat):Int)=d)(ha:dq bl (d - 1 - k)=some (ah b))(hn:t[n]?=some (.o (.av l)))(hm:∀c:Cell,(t++[c])[n]?=some (.o (.av l)))(hs:∀c x:Cell,(t++[c]).set n x=t.set n x++[c])(ht:(n<t.length)=True)(hc:∀q,a_ (ae 0) (zV q) (zW q) (dS b.outs) [none,aN n] ⟨t,rr⟩ []=some (.ok (gE.map D.int) ⟨t,rr⟩))(hw:b.outs.contains ar=true)(hz:(gE.length<1000000)=True)(hv:b.long+dP (gE++[0])=v)(hp:bN l (.inr b.name) (.int v)=l')(hq:(l.length<1000000)=True):
  ue 0 [ao (.tup [.lst bl,cs]),aY ar,aN n,bI k,a4,a5] ⟨t,rr⟩=some (.nx [ao (.tup [.lst bl,cs]),aY ar,aN n,bI k,ao (ah b),aN t.length] ⟨t.set n (.o (.av l'))++[.o (.lst ((gE++[0]).map D.int))],rr⟩):=by
 have m:=Fp (gE++[0]);have ap:(gE++[0]).map D.int=gE.map D.int++[.int 0]:=by rw[fV];rfl
 have z:(gE.map D.int).length=gE.length:=bx ..;rw[ap] at m ⊢;have ne:(gE++[0]=[])=False:=eq_false (by simp)
 have ps:((0:Int)<((gE.length+1:Nat):Int))=True:=bD (by lia)
 unfold ue ah at *;simp only[↓ev,bQ,hl,ha,aQ,rJ,hc,g7,aJ,gZ,hw,dy,z,hz,iU,yL,ps,decide_true,cB,m,ne,hv,hm,hq,hp,hs]
theorem W8(hl:((bl.length:Nat):Int)=d)(ha:dq bl (d - 1 - k)=some (ah b))(hn:t[n]?=some (.o (.av l)))(hm:∀c:Cell,(t++[c])[n]?=some (.o (.av l)))(hs:∀c x:Cell,(t++[c]).set n x=t.set n x++[c])(ht:(n<t.length)=True)(hc:∀q,a_ (ae 0) (zV q) (zW q) (dS b.outs) [none,aN n] ⟨t,rr⟩ []=some (.ok (gE.map D.int) ⟨t,rr⟩))(hw:b.outs.contains ar=false)(ps:((0:Int)<(gE.length:Int))=True)(ne:(gE=[])=False)(hv:b.long+dP gE=v)(hp:bN l (.inr b.name) (.int v)=l')(hq:(l.length<1000000)=True):
  ue 0 [ao (.tup [.lst bl,cs]),aY ar,aN n,bI k,a4,a5] ⟨t,rr⟩=some (.nx [ao (.tup [.lst bl,cs]),aY ar,aN n,bI k,ao (ah b),aN t.length] ⟨t.set n (.o (.av l'))++[.o (.lst (gE.map D.int))],rr⟩):=by
 have m:=Fp gE;have z:(gE.map D.int).length=gE.length:=bx ..;unfold ue ah at *;simp only[↓ev,bQ,hl,ha,aQ,rJ,hc,g7,aJ,gZ,hw,dy,z,ps,decide_true,cB,m,ne,hv,hm,hq,hp,hs]
theorem Vo(hl:((bl.length:Nat):Int)=d)(ha:dq bl (d - 1 - k)=some (ah b))(hn:t[n]?=some (.o (.av l)))(hm:∀c:Cell,(t++[c])[n]?=some (.o (.av l)))(hs:∀c x:Cell,(t++[c]).set n x=t.set n x++[c])(ht:(n<t.length)=True)(hc:∀q,a_ (ae 0) (zV q) (zW q) (dS b.outs) [none,aN n] ⟨t,rr⟩ []=some (.ok [] ⟨t,rr⟩))(hw:b.outs.contains ar=false)(hp:bN l (.inr b.name) .aI=l')(hq:(l.length<1000000)=True):
  ue 0 [ao (.tup [.lst bl,cs]),aY ar,aN n,bI k,a4,a5] ⟨t,rr⟩=some (.nx [ao (.tup [.lst bl,cs]),aY ar,aN n,bI k,ao (ah b),aN t.length] ⟨t.set n (.o (.av l'))++[.o (.lst [])],rr⟩):=by
 have z0:((0:Int)<((0:Nat):Int))=False:=eq_false (by decide)
 unfold ue ah at *;simp only[↓ev,bQ,hl,ha,aQ,rJ,hc,g7,aJ,gZ,hw,dy,z0,decide_false,hm,hq,hp,hs]
end
section
variable{h:aF}{ar:Str}{b:aq}{i v:Int}
theorem W9{carts:List Str}(hc:ar∈carts){bs:List aq}(f:jh carts (b::bs)):atS (aS ar (b::bs)) b.name=if cX (aS ar bs) b.outs=[] then none else some (b.long+dP (cX (aS ar bs) b.outs)):=by
 have ho:∀o∈b.outs,o≠b.name:=Ra f b (.head _);rw[F7 hc f b (.head _),IH (kn:=aS ar (b::bs)) (kn':=aS ar bs) (outs:=b.outs) λo m=>zS (ho o m)]
theorem e7m{l:List aq}{q post:List aq}{x:aq}(e:l.reverse=q++x::post):l=post.reverse++x::q.reverse/\dq (l.map ah) ((l.length:Int) - 1 - (q.length:Int))=some (ah x):=by
 have e1:l=post.reverse++x::q.reverse:=by
  simp_all
 refine⟨e1,?_⟩;have hl:l.length=post.length+q.length+1:=by rw[e1];simp;lia
 rw[show(l.length:Int) - 1 - (q.length:Int)=((post.length:Nat):Int) by lia]
 refine rG ?_;rw[e1,fV,qE (by simp)]
 simp
theorem Vp(g:aH h)(hc:ar∈h.carts)(S:aU):∃U' t,aO (ae 3) (ue 0) (fO 0 h.af.length) [ao (aE h),aY ar,aN S.s.length,none,none,none] ⟨S.s++[.o (.av [])],S.r⟩=some (.nx U' ⟨t,S.r⟩)/\(∃a3 a4 a5,U'=[ao (aE h),aY ar,aN S.s.length,a3,a4,a5])/\t[S.s.length]?=some (.o (.av (dD ar h.af)))/\t.take S.s.length=S.s:=by
 have bl:=g.sm.bl;have ou:=g.sm.ou;have hen:fO 0 h.af.length=((List.range h.af.length).zip h.af.reverse).map λ(p:Nat×aq)=>D.int (p.1:Nat):=by
  rw[nz,show(λ(p:Nat×aq)=>D.int (p.1:Nat))=(λ(i:Nat)=>D.int (i:Int))∘Prod.fst from rfl,<-eU,List.map_fst_zip (by simp)]
 have R5:((List.range h.af.length).zip h.af.reverse).map Prod.snd=h.af.reverse:=by rw[List.map_snd_zip];simp
 rw[hen];obtain⟨U',S',e,⟨a3,a4,a5,e1⟩,t,rfl,e2,e3⟩:=iC (gg:=ae 3) (body:=ue 0) (f:=λ(p:Nat×aq)=>D.int (p.1:Nat)) (U:=[ao (aE h),aY ar,aN S.s.length,none,none,none]) (S:=⟨S.s++[.o (.av [])],S.r⟩) (λpre U S'=>(∃a3 a4 a5,U=[ao (aE h),aY ar,aN S.s.length,a3,a4,a5])/\∃t,S'=⟨t,S.r⟩/\t[S.s.length]?=some (.o (.av (dD ar (pre.map Prod.snd).reverse)))/\t.take S.s.length=S.s) ((List.range h.af.length).zip h.af.reverse) ⟨⟨_,_,_,rfl⟩,_,rfl,dy,List.take_left⟩ (by
  rintro q ⟨k,x⟩ post eq U S' ⟨⟨a3,a4,a5,rfl⟩,t,rfl,hn,htk⟩;have eq2:=congrArg (List.map Prod.snd) eq;rw[R5,fV,cU] at eq2;obtain⟨eb,ha⟩:=e7m eq2;have ek:k=(q.map Prod.snd).length:=by
   have:((List.range h.af.length).zip h.af.reverse)[q.length]?=some (k,x):=by rw[eq,qE (bY _)];simp
   rw[List.getElem?_zip_eq_some] at this;have h1:=this.1;rw[eW] at h1;obtain⟨hl,h1⟩:=h1;rw[List.getElem_range] at h1;rw[bx];exact h1.symm
  rw[fV,List.map_singleton,List.reverse_append,List.reverse_singleton,List.singleton_append];generalize q.map Prod.snd=qs at *;have fx:jh h.carts (x::qs.reverse):=zX (by rw[<-eb];exact g.fwd)
  have ho:x.outs.length<=900:=by
   rw[eb,fV,cU,List.sum_append,MG] at ou;dsimp only at ou;lia
  have hql:qs.length<=100:=by
   have h2:=congrArg List.length eb;rw[dw,kG,Hx,Hx] at h2;lia
  have lt:S.s.length<t.length:=(eW.mp hn).1;have hm:∀c:Cell,(t++[c])[S.s.length]?=some (.o (.av (dD ar qs.reverse))):=λc=>by rw[sT lt];exact hn
  have hs:∀c x:Cell,(t++[c]).set S.s.length x=t.set S.s.length x++[c]:=λc x=>List.set_append_left _ _ lt
  have o4:=λq=>Vn (rr:=S.r) (outs:=x.outs) hn fx.2.2.2 q (by lia)
  have hlen:((h.af.map ah).length:Int)=(h.af.length:Int):=by rw[bx]
  have hq:((dD ar qs.reverse).length<1000000)=True:=bD (by rw[Pk,Hx];lia)
  have pu:=λy=>Qq x (ar:=ar) (y:=y) (Cf (ar:=ar) fx.2.1)
  have sm:=λv=>Zu (v:=v) hc fx.2.2.2 fx.1
  have bh:=W9 hc fx;have et:dD ar (x::qs.reverse)=dD ar qs.reverse++[(.inr x.name,gL (atS (aS ar (x::qs.reverse)) x.name))]:=rfl;have fin:∀(y:D) (m:List D),y=gL (atS (aS ar (x::qs.reverse)) x.name)->(t.set S.s.length (.o (.av (dD ar qs.reverse++[(TK.inr x.name,y)])))++[Cell.o (.lst m)])[S.s.length]?=some (.o (.av (dD ar (x::qs.reverse))))/\(t.set S.s.length (.o (.av (dD ar qs.reverse++[(TK.inr x.name,y)])))++[Cell.o (.lst m)]).take S.s.length=S.s:=λy m hy=>by
   rw[hy,<-et];constructor
   .rw[sT (by rw[t5];exact lt),t4 lt]
   .rw[List.take_append_of_le_length (by rw[t5];lia),List.take_set_of_le (bY _)]
    exact htk
  subst ek;have hsl:(oA ar qs.reverse x.outs).length<=x.outs.length:=EF _ _;generalize oA ar qs.reverse x.outs=gE at *;cases hw:x.outs.contains ar with
  |true=>
   rw[hw,bM rfl] at sm;have vV:cX (aS ar qs.reverse) x.outs≠[]:=λz=>by
    have:=(sm 0).mp (iQ.mpr (.inr (.head _)))
    simp_all
   obtain⟨_,me⟩:=Rb sm vV;rw[bc vV] at bh;obtain⟨f1,f2⟩:=fin (.int (x.long+dP (gE++[0]))) ((gE++[0]).map D.int) (by rw[bh,me];rfl)
   exact⟨_,_,_,rfl,.inl (W7 hlen ha hn hm hs (bD lt) o4 hw (bD (by lia)) rfl (pu _) hq),⟨_,_,_,rfl⟩,_,rfl,f1,f2⟩
  |false=>
   rw[hw,bc (by decide),kN] at sm
   by_cases vV:cX (aS ar qs.reverse) x.outs=[]
   .have se:gE=[]:=List.eq_nil_iff_forall_not_mem.mpr λv m=>by
     simp_all
    subst se;rw[bM vV] at bh;obtain⟨f1,f2⟩:=fin .aI [] (by rw[bh];rfl)
    exact⟨_,_,_,rfl,.inl (Vo hlen ha hn hm hs (bD lt) o4 hw (pu _) hq),⟨_,_,_,rfl⟩,_,rfl,f1,f2⟩
   .obtain⟨ne,me⟩:=Rb sm vV;rw[bc vV] at bh;obtain⟨f1,f2⟩:=fin (.int (x.long+dP gE)) (gE.map D.int) (by rw[bh,me];rfl)
    exact⟨_,_,_,rfl,.inl (W8 hlen ha hn hm hs (bD lt) o4 hw (bD (by have:=List.length_pos_iff.mpr ne;lia)) (eq_false ne) rfl (pu _) hq),⟨_,_,_,rfl⟩,_,rfl,f1,f2⟩)
 rw[R5,List.reverse_reverse] at e2;exact⟨U',t,e,⟨a3,a4,a5,e1⟩,e2,e3⟩
theorem Rc(g:aH h)(hc:ar∈h.carts):P0 z9 [.d (aE h),cV ar] (.o (.av (dD ar h.af))):=by
 intro S;obtain⟨U',t,e,⟨a3,a4,a5,rfl⟩,e2,e3⟩:=Vp g hc S;have bl:=g.sm.bl;have hlen:((h.af.map ah).length:Int)=(h.af.length:Int):=by rw[bx]
 have hD:aE h=.tup [.lst (h.af.map ah),.lst (dS h.carts)]:=rfl;rw[hD] at e ⊢;have hz:Nat.ble (h.af.length:Int).natAbs 1000000000000=true:=by rw[HI];lia
 have tn:((h.af.length:Int)).toNat=h.af.length:=Hv _;have cu:aU.cut ⟨t,S.r⟩ S.s.length=S:=by unfold aU.cut;dsimp only;rw[e3]
 unfold z9 OK;simp only[↓ev,aQ,bQ,hlen,hz,tn,fH,e,uP,e2,cu]
end
variable{l L:List (Str×Str×Int)}{p:Str×Str×Int}{a5 a6 a7 a8 a9 g1 g2 g3 g4:ak Val}{F:List (TK×D)}
theorem Jm(l:List Str):(iN l).Perm l:=by
 refine(Classical.epsilon_spec (p:=λs:List Str=>s.Perm l/\PyProof.Rows.sortedS s=true) ⟨l.mergeSort λa b=>decide (a.cps.toList<=b.cps.toList),List.mergeSort_perm ..,PyProof.Rows.sortedS_of_pairwise _ ((List.pairwise_mergeSort (le:=λa b:Str=>decide (a.cps.toList<=b.cps.toList)) (λa b c h1 h2=>?_) (λa b=>?_) l).imp λh=>?_)⟩).1
 all_goals grind [PyProof.Rows.ltCps_eq]
noncomputable def ie(l:List (Str×Str×Int))(f:Str):Str×Str×Int:=(l.find? λp=>p.1 == f).getD ("","",0)
noncomputable def jg (l:List (Str×Str×Int)):List (Str×Str×Int):=(iN (l.map (·.1))).map (ie l)
theorem Qr(nd:(l.map (·.1)).Nodup)(hp:p∈l):ie l p.1=p:=by
 unfold ie;cases h:l.find? λq=>q.1 == p.1 with
 |none=>exact cO (Mv.mp h p hp) (by simp)
 |some q=>
  have h1:=HF h;exact tG nd (HE h) hp (by simpa using h1)
theorem Ol(nd:(l.map (·.1)).Nodup):(jg l).Perm l:=by
 have e:(l.map (·.1)).map (ie l)=l:=by
  rw[eU];exact(nH λp hp=>Qr nd hp).trans (List.map_id l)
 have p:=(Jm (l.map (·.1))).map (ie l)
 rw[e] at p;exact p
noncomputable def gH(p:Str×Str×Int):D:=.tup [.str p.2.1,.int p.2.2]
noncomputable def dC(w:Row):D:=.lst [aP w.fl,pl w.b w.i,.int w.gn]
noncomputable def kD(a b c d e:D):List (TK×D):=[(TK.inr "now",a),(TK.inr "flights",b),(TK.inr "still",c),(TK.inr "inside",d),(TK.inr "gone",e)]
noncomputable abbrev vb (h:aF) (x:Hl):List (TK×D):=kD (.int x.now) (.av (td (·.1) gH (jg x.book))) (.lst (dS (cw h x))) (.av (td Row.bag dC (ord h x.rows))) (.lst (qc x.gone))
section
variable{a b c d e:D}
theorem Rf:aM (kD a b c d e) (.inr "now")=some a:=by kernel_rfl
theorem IJ:aM (kD a b c d e) (.inr "flights")=some b:=by kernel_rfl
theorem Jn:aM (kD a b c d e) (.inr "still")=some c:=by kernel_rfl
theorem nI:aM (kD a b c d e) (.inr "inside")=some d:=by kernel_rfl
theorem e7n:List.foldl (λ(kvs:List (TK×D)) (p:TK×D)=>bN kvs p.fst p.snd) [] [(TK.inr "now",a),(TK.inr "flights",b),(TK.inr "still",c),(TK.inr "inside",d),(TK.inr "gone",e)]=kD a b c d e:=by kernel_rfl
end
section
variable{s:List Cell}{h:aF}{r:Int}{x:Hl}{n:Nat}{w:Row}{hd:D}{q:Nat}
theorem W_{q:Nat}:Fi q [eV] (hS hd r x s)=some (.ok (rd (.int x.now)) (hS hd r x s)):=by
 unfold Fi NG;simp only[↓ev,hR,B_,Gr,cx]
theorem Vq(o:Ok h n x)(hn:n<64):dU 0 [eV] (hS hd r x s)=some (.ok (.o (.lst ((jg x.book).map t3))) (hS hd r x s)):=by
 have sz:=o.sz;have lp:=(Jm (x.book.map (·.1))).length_eq
 rw[bx] at lp;have e1:eD ((j' x.book).map (·.1.d))=some (x.book.map (·.1)):=by
  unfold j';rw[F6,Ji]
 have l1:((x.book.map (·.1)).length<64)=True:=bD (by rw[bx];lia)
 have e2:a_ (ae 0) (gw true) (eF 0) ((iN (x.book.map (·.1))).map D.str) [none,cy] (hS hd r x s) []=some (.ok ((jg x.book).map t3) (hS hd r x s)):=by
  unfold jg;rw[qz (λf=>t3 (ie x.book f)) _ (by lia) λf hf=>by
   obtain⟨p,hp,e⟩:=iS.mp ((Jm _).mem_iff.mp hf);have v:aM (j' x.book) (.inr f)=some (t3 (ie x.book f)):=by
    rw[<-e,Qr o.bn hp];exact jk (k:=λp:Str×Str×Int=>p.1) o.bn hp
   refine⟨rd (t3 (ie x.book f)),?_,rfl⟩;unfold eF;simp only[↓ev,hR,oR,p7,aQ,v],eU]
  rfl
 unfold dU jq;simp only[↓ev,hR,oR,p7,aQ,e1,l1,fH,e2,cx]
noncomputable abbrev AV(hd:D)(r:Int)(x:Hl)(s:List Cell)(L:List (TK×D)):aU:=⟨s++[.o (.av L)],hR hd r x⟩
theorem e7o(hp:p.1∉L.map (·.1))(hl:L.length<1000):bV 0 [cy,aN s.length,aY p.1,aY p.2.1,bI p.2.2,a5,a6,a7,a8,a9] (AV hd r x s (td (·.1) gH L))=some (.nx [cy,aN s.length,aY p.1,aY p.2.1,bI p.2.2,a5,a6,a7,a8,a9] (AV hd r x s (td (·.1) gH (L++[p])))):=by
 have e:=b2i (k:=λp:Str×Str×Int=>p.1) (v:=gH) hp
 have l1:((td (·.1) gH L).length<1000000)=True:=bD (by rw[lT];lia)
 unfold gH at *;unfold bV;simp only[↓ev,aQ,dy,l1,e,iU]
theorem Zw(nd:(L.map (·.1)).Nodup)(hl:L.length<1000):∃a2 a3 a4,aO (ba [(ae 2),(ae 3),(ae 4)]) (bV 0) (L.map t3) [cy,aN s.length,none,none,none,a5,a6,a7,a8,a9] (AV hd r x s [])=some (.nx [cy,aN s.length,a2,a3,a4,a5,a6,a7,a8,a9] (AV hd r x s (td (·.1) gH L))):=by
 obtain⟨U',S',e,⟨a2,a3,a4,rfl⟩,rfl⟩:=iC (gg:=ba [(ae 2),(ae 3),(ae 4)]) (body:=bV 0) (f:=t3) (U:=[cy,aN s.length,none,none,none,a5,a6,a7,a8,a9]) (S:=AV hd r x s []) (λpre U S'=>(∃a2 a3 a4,U=[cy,aN s.length,a2,a3,a4,a5,a6,a7,a8,a9])/\S'=AV hd r x s (td (·.1) gH pre)) L ⟨⟨_,_,_,rfl⟩,rfl⟩ (by
  rintro d p post eq U S' ⟨⟨a2,a3,a4,rfl⟩,rfl⟩;have h1:p.1∉d.map (·.1):=by
   grind
  have h2:d.length<1000:=by rw[eq] at hl;simp at hl;lia
  exact⟨_,_,_,rfl,.inl (e7o h1 h2),⟨_,_,_,rfl⟩,rfl⟩)
 exact⟨a2,a3,a4,e⟩
noncomputable abbrev AU(hd:D)(r:Int)(x:Hl)(s:List Cell)(F L:List (TK×D)):aU:=⟨s++[.o (.av F),.o (.av L)],hR hd r x⟩
theorem e7p{L:List Row}(hp:w.bag∉L.map Row.bag)(hl:L.length<1000):bW 0 [cy,g1,g2,g3,g4,aN (s.length+1),aY w.bag,ao (aP w.fl),ao (pl w.b w.i),bI w.gn] (AU hd r x s F (td Row.bag dC L))=some (.nx [cy,g1,g2,g3,g4,aN (s.length+1),aY w.bag,ao (aP w.fl),ao (pl w.b w.i),bI w.gn] (AU hd r x s F (td Row.bag dC (L++[w])))):=by
 have e:=b2i (k:=Row.bag) (v:=dC) hp;have l1:((td Row.bag dC L).length<1000000)=True:=bD (by rw[lT];lia)
 unfold dC at *;unfold bW;simp only[↓ev,aQ,aJ,Am,l1,e,DN]
theorem Zx{L:List Row}(nd:(L.map Row.bag).Nodup)(hl:L.length<1000):∃a6 a7 a8 a9,aO (ba [(ae 6),(ae 7),(ae 8),(ae 9)]) (bW 0) (L.map bP) [cy,g1,g2,g3,g4,aN (s.length+1),none,none,none,none] (AU hd r x s F [])=some (.nx [cy,g1,g2,g3,g4,aN (s.length+1),a6,a7,a8,a9] (AU hd r x s F (td Row.bag dC L))):=by
 obtain⟨U',S',e,⟨a6,a7,a8,a9,rfl⟩,rfl⟩:=iC (gg:=ba [(ae 6),(ae 7),(ae 8),(ae 9)]) (body:=bW 0) (f:=bP) (U:=[cy,g1,g2,g3,g4,aN (s.length+1),none,none,none,none]) (S:=AU hd r x s F []) (λpre U S'=>(∃a6 a7 a8 a9,U=[cy,g1,g2,g3,g4,aN (s.length+1),a6,a7,a8,a9])/\S'=AU hd r x s F (td Row.bag dC pre)) L ⟨⟨_,_,_,_,rfl⟩,rfl⟩ (by
  rintro d p post eq U S' ⟨⟨a2,a3,a4,a9,rfl⟩,rfl⟩;have h2:d.length<1000:=by rw[eq] at hl;simp at hl;lia
  exact⟨_,_,_,rfl,.inl (e7p (FO eq nd) h2),⟨_,_,_,_,rfl⟩,rfl⟩)
 exact⟨a6,a7,a8,a9,e⟩
theorem L4{α:Type}{l L:List α}{j:Nat}:List.take (l.length+j) (l++L)=l++L.take j:=List.take_length_add_append ..
theorem e7q(g:aH h)(o:Ok h n x)(hn:n<64):bU 0 [eV] (hS (aE h) r x s)=some (.ok (.o (.av (vb h x))) (hS (aE h) r x s)):=by
 have rl:=o.rl;have sz:=o.sz;have lp:=o.perm.length_eq;have bp:=Ol o.bn;have e1:=λs=>Vq (s:=s) (hd:=aE h) (r:=r) o hn
 obtain⟨a2,a3,a4,e2⟩:=Zw (s:=s) (hd:=aE h) (r:=r) (x:=x) (a5:=none) (a6:=none) (a7:=none) (a8:=none) (a9:=none) (L:=jg x.book) ((bp.map _).nodup_iff.mpr o.bn) (by rw[bp.length_eq];lia)
 have e3:=λs q=>Cd (s:=s) (r:=r) (q:=q) g o
 obtain⟨a6,a7,a8,a9,e4⟩:=Zx (s:=s) (hd:=aE h) (r:=r) (x:=x) (F:=td (·.1) gH (jg x.book)) (g1:=(aN s.length)) (g2:=a2) (g3:=a3) (g4:=a4) (L:=ord h x.rows) ((o.perm.map _).nodup_iff.mpr o.nb) (by lia)
 have e5:=λs q=>W_ (s:=s) (hd:=aE h) (r:=r) (x:=x) (q:=q)
 have e6:=λs q=>IV (s:=s) (r:=r) (x:=x) (q:=q) g
 have e7:=λs q=>e6a (s:=s) (hd:=aE h) (r:=r) (x:=x) (q:=q)
 unfold vb;generalize aE h=hd at *;generalize jg x.book=bk at *;generalize(td (·.1) gH bk)=F at *
 generalize td Row.bag dC (ord h x.rows)=I at *;unfold bU f9;simp only[↓ev,aQ,hR,dN,Ua,e1,fH,e2,yL,vM,xJ,e3,e4,Vj,e5,IE,e6,e5z,e7,dy,iU,Am,DN,e7n,L4,qA]
end
variable{h:aF}{L:List Row}{w:Row}{a5' a4':ak Val}
abbrev yN(h:aF)(a b:Row):Prop:=G9 (je h a) (je h b)=true
theorem e7r{rows:List Row}(nd:(rows.map (je h)).Nodup):(ord h rows).Pairwise (yN h):=by
 unfold ord;split
 .rename_i hl
  cases rows with
  |nil=>exact .nil
  |cons a l=>
   cases l with
   |nil=>exact List.pairwise_singleton _ _
   |cons b l=>simp at hl;lia
 .rename_i hl
  obtain⟨p,pw⟩:=BF nd (by rw[bx];lia)
  rw[bx] at p;rw[EE];refine pw.imp_of_mem λ{i j} hi hj h=>?_
  have i1:=qm.mp (p.mem_iff.mp hi);have j1:=qm.mp (p.mem_iff.mp hj);unfold ltAt at h;simp only[zC,dR,fG i1,fG j1,A3,HG] at h ⊢;exact h
noncomputable def fy(L:List Row)(b:Str)(c:Int):List Row:=L.filter λw=>w.b == b&&w.i == c
def dA(L:List Row)(bt:aq):List Row:=(List.range bt.long.toNat).flatMap λ(c:Nat)=>fy L bt.name (c:Int)
def nA(h:aF)(L:List Row):List Row:=h.af.flatMap (dA L)
theorem gA{b:Str}{c:Int}:w∈fy L b c↔w∈L/\w.b=b/\w.i=c:=by
 unfold fy;rw[tZ,iW,beq_iff_eq,beq_iff_eq]
theorem gz{bt:aq}:w∈dA L bt↔w∈L/\w.b=bt.name/\0<=w.i/\w.i<bt.long:=by
 unfold dA;rw[List.mem_flatMap];constructor
 .rintro⟨c,hc,hw⟩;obtain⟨h1,h2,h3⟩:=gA.mp hw
  simp_all
 .rintro⟨h1,h2,h3,h4⟩;exact⟨w.i.toNat,qm.mpr (by lia),gA.mpr ⟨h1,h2,by lia⟩⟩
theorem Xa(h:aF)(nd:(h.af.map aq.name).Nodup):h.af.Pairwise λa b=>rk h a.name<rk h b.name:=by
 rw[List.pairwise_iff_getElem];have key:∀(i:Nat) (hi:i<h.af.length),rk h (h.af[i]).name=(i:Int):=λi hi=>by
  unfold rk;obtain⟨j,hj⟩:=BA (nG (f:=aq.name) (zy hi));rw[hj];obtain⟨e1,_⟩:=zT hj;have e2:(h.af.map aq.name)[i]?=some (h.af[i]).name:=by rw[dR,fG hi];rfl
  rw[Fx nd e1 e2];rfl
 simp_all
theorem JW{carts:List Str}:∀{bs:List aq},jh carts bs->(bs.map aq.name).Nodup
 |[],_=>.nil
 |b::bs,f=>qp.mpr ⟨f.2.1,JW f.2.2.2⟩
theorem Pm(g:aH h)(pw:L.Pairwise (yN h))(ho:∀w∈L,jZ h w):nA h L=L:=by
 have irr:∀a b:Row,yN h a b->yN h b a->a=b:=λa b h1 h2=>by
  have h1:=sY h1;have h2:=sY h2;lia
 have nn:∀{l:List Row},l.Pairwise (yN h)->l.Nodup:=λp=>p.imp λ{a b} h e=>by
  subst e;have h:=sY h;lia
 have pr:(nA h L).Pairwise (yN h):=by
  unfold nA;rw[List.pairwise_flatMap];refine⟨λbt _=>?_,(Xa h (JW g.fwd)).imp λ{a b} CL x hx y hy=>?_⟩
  .unfold dA;rw[List.pairwise_flatMap];refine⟨λc _=>pw.filter _,List.pairwise_lt_range.imp λ{a b} CL x hx y hy=>?_⟩
   obtain⟨_,x1,x2⟩:=gA.mp hx;obtain⟨_,y1,y2⟩:=gA.mp hy;refine oH (.inr ⟨?_,?_⟩)
   .unfold je;rw[x1,y1]
   .show x.i<y.i;lia
  .obtain⟨_,x1,_⟩:=gz.mp hx;obtain⟨_,y1,_⟩:=gz.mp hy;refine oH (.inl ?_);show rk h x.b<rk h y.b;rw[x1,y1];exact CL
 refine List.Perm.eq_of_pairwise (λa b _ _=>irr a b) pr pw ((List.perm_ext_iff_of_nodup (nn pr) (nn pw)).mpr λw=>?_)
 unfold nA;rw[List.mem_flatMap];constructor
 .rintro⟨bt,_,hw⟩;exact(gz.mp hw).1
 .intro hw;obtain⟨bt,hb,e,i0,i1,_⟩:=ho w hw;exact⟨bt,hb,gz.mpr ⟨hw,e.symm,i0,i1⟩⟩
section
variable{s rr:List Cell}{h:aF}{x:Hl}{n:Nat}{w:Row}{a1 a2 a3 a4 a5:D}{L:List Row}{aV:List D}{bt:aq}{c:Int}{hd:D}
noncomputable abbrev sS(s rr:List Cell)(aV:List D):aU:=⟨s++[.o (.lst aV)],rr⟩
abbrev nD(a1 a2 a3 a5:D)(L:List Row):D:=.av (kD a1 a2 a3 (.av (td Row.bag dC L)) a5)
theorem e7s(nd:(L.map Row.bag).Nodup)(hw:w∈L)(hl:aV.length<1000):Bq 0 [ao hd,ao (nD a1 a2 a3 a5 L),aN s.length,ao (ah bt),bI c,aY w.bag] (sS s rr aV)=some (.nx [ao hd,ao (nD a1 a2 a3 a5 L),aN s.length,ao (ah bt),bI c,aY w.bag] (sS s rr (aV++if(w.b == bt.name&&w.i == c)=true then[.str w.bag] else[]))):=by
 have v:aM (td Row.bag dC L) (.inr w.bag)=some (.lst [aP w.fl,pl w.b w.i,.int w.gn]):=jk nd hw;have l1:(aV.length<1000000)=True:=bD (by lia)
 have hB:ah bt=.tup [.str bt.name,.int bt.long,.bl bt.ring,.lst (dS bt.outs)]:=rfl;rw[hB];unfold Bq;cases hc:(w.b == bt.name&&w.i == c) with
 |true=>simp only[↓ev,nI,v,cB,bQ,aQ,Dx,aJ,yp,hc,dy,l1,iU]
 |false=>simp only[↓ev,nI,v,cB,bQ,aQ,Dx,aJ,yp,hc,kN]
theorem Zy(nd:(L.map Row.bag).Nodup)(hL:L.length<=8)(hl:aV.length+L.length<900):∃b5,aO (ae 5) (Bq 0) (dS (L.map Row.bag)) [ao hd,ao (nD a1 a2 a3 a5 L),aN s.length,ao (ah bt),bI c,a5'] (sS s rr aV)=some (.nx [ao hd,ao (nD a1 a2 a3 a5 L),aN s.length,ao (ah bt),bI c,b5] (sS s rr (aV++dS ((fy L bt.name c).map Row.bag)))):=by
 rw[show dS (L.map Row.bag)=L.map λw=>.str w.bag by unfold dS;rw[eU];rfl]
 obtain⟨U',S',e,⟨b5,rfl⟩,rfl⟩:=iC (gg:=ae 5) (body:=Bq 0) (f:=λw:Row=>D.str w.bag) (U:=[ao hd,ao (nD a1 a2 a3 a5 L),aN s.length,ao (ah bt),bI c,a5']) (S:=sS s rr aV) (λpre U S'=>(∃b5,U=[ao hd,ao (nD a1 a2 a3 a5 L),aN s.length,ao (ah bt),bI c,b5])/\S'=sS s rr (aV++dS ((fy pre bt.name c).map Row.bag))) L ⟨⟨_,rfl⟩,by unfold fy;simp⟩ (by
  rintro d w post eq U S' ⟨⟨b5,rfl⟩,rfl⟩;have RV:(fy d bt.name c).length<=d.length:=vz _ _;have hd2:d.length<L.length:=by rw[eq];simp
  refine⟨_,_,_,rfl,.inl (e7s nd (by rw[eq];simp) (by simp;lia)),⟨_,rfl⟩,?_⟩
  unfold fy;rw[List.filter_append,AZ,lG];cases(w.b == bt.name&&w.i == c) <;> simp)
 exact⟨b5,e⟩
theorem Zz(nd:(L.map Row.bag).Nodup)(hL:L.length<=8)(hl:aV.length+L.length<900):∃b5,Br 0 [ao hd,ao (nD a1 a2 a3 a5 L),aN s.length,ao (ah bt),bI c,a5'] (sS s rr aV)=some (.nx [ao hd,ao (nD a1 a2 a3 a5 L),aN s.length,ao (ah bt),bI c,b5] (sS s rr (aV++dS ((fy L bt.name c).map Row.bag)))):=by
 obtain⟨b5,e⟩:=Zy (s:=s) (rr:=rr) (hd:=hd) (a1:=a1) (a2:=a2) (a3:=a3) (a5:=a5) (bt:=bt) (c:=c) (a5':=a5') nd hL hl;refine⟨b5,?_⟩;generalize ah bt=B at *;unfold Br;simp only[↓ev,nI,F6,fH,e]
theorem Xb(nd:(L.map Row.bag).Nodup)(hL:L.length<=8)(hl:aV.length+(dA L bt).length+L.length<900):∃b4 b5,aO (ae 4) (Br 0) (fO 0 bt.long.toNat) [ao hd,ao (nD a1 a2 a3 a5 L),aN s.length,ao (ah bt),a4',a5'] (sS s rr aV)=some (.nx [ao hd,ao (nD a1 a2 a3 a5 L),aN s.length,ao (ah bt),b4,b5] (sS s rr (aV++dS ((dA L bt).map Row.bag)))):=by
 rw[nz];obtain⟨U',S',e,⟨b4,b5,rfl⟩,rfl⟩:=iC (gg:=ae 4) (body:=Br 0) (f:=λi:Nat=>D.int (i:Int)) (U:=[ao hd,ao (nD a1 a2 a3 a5 L),aN s.length,ao (ah bt),a4',a5']) (S:=sS s rr aV) (λpre U S'=>(∃b4 b5,U=[ao hd,ao (nD a1 a2 a3 a5 L),aN s.length,ao (ah bt),b4,b5])/\S'=sS s rr (aV++dS ((pre.flatMap λ(c:Nat)=>fy L bt.name (c:Int)).map Row.bag))) (List.range bt.long.toNat) ⟨⟨_,_,rfl⟩,by simp⟩ (by
  rintro d i post eq U S' ⟨⟨b4,b5,rfl⟩,rfl⟩;have RV:(d.flatMap λ(c:Nat)=>fy L bt.name (c:Int)).length<=(dA L bt).length:=by unfold dA;rw[eq,List.flatMap_append,dw];lia
  obtain⟨S_,e⟩:=Zz (s:=s) (rr:=rr) (hd:=hd) (a1:=a1) (a2:=a2) (a3:=a3) (a5:=a5) (bt:=bt) (c:=(i:Int)) (aV:=aV++dS ((d.flatMap λ(c:Nat)=>fy L bt.name (c:Int)).map Row.bag)) (a5':=b5) nd hL (by simp only[dw,bx];lia)
  refine⟨_,_,_,rfl,.inl e,⟨_,_,rfl⟩,?_⟩
  simp_all)
 exact⟨b4,b5,e⟩
theorem ZA(nd:(L.map Row.bag).Nodup)(hL:L.length<=8)(hb:0<=bt.long/\bt.long<=1000)(hl:aV.length+(dA L bt).length+L.length<900):∃b4 b5,Fg 0 [ao hd,ao (nD a1 a2 a3 a5 L),aN s.length,ao (ah bt),a4',a5'] (sS s rr aV)=some (.nx [ao hd,ao (nD a1 a2 a3 a5 L),aN s.length,ao (ah bt),b4,b5] (sS s rr (aV++dS ((dA L bt).map Row.bag)))):=by
 obtain⟨b4,b5,e⟩:=Xb (s:=s) (rr:=rr) (hd:=hd) (a1:=a1) (a2:=a2) (a3:=a3) (a5:=a5) (bt:=bt) (a4':=a4') (a5':=a5') nd hL hl;refine⟨b4,b5,?_⟩;have hB:ah bt=.tup [.str bt.name,.int bt.long,.bl bt.ring,.lst (dS bt.outs)]:=rfl;have hz:Nat.ble bt.long.natAbs 1000000000000=true:=by rw[HI];lia
 rw[hB] at e ⊢;unfold Fg;simp only[↓ev,cB,hz,fH,e]
theorem e7t(g:aH h)(sl:∀b∈h.af,0<=b.long/\b.long<=1000)(nd:(L.map Row.bag).Nodup)(hL:L.length<=8)(pw:L.Pairwise (yN h))(ho:∀w∈L,jZ h w):P0 z_ [.d (aE h),.d (nD a1 a2 a3 a5 L)] (.o (.lst (dS (L.map Row.bag)))):=by
 intro S;have key:=iC (gg:=ae 3) (body:=Fg 0) (f:=ah) (U:=[ao (aE h),ao (nD a1 a2 a3 a5 L),aN S.s.length,none,none,none]) (S:=sS S.s S.r []) (λpre U S'=>(∃b3 b4 b5,U=[ao (aE h),ao (nD a1 a2 a3 a5 L),aN S.s.length,b3,b4,b5])/\S'=sS S.s S.r (dS ((pre.flatMap (dA L)).map Row.bag))) h.af ⟨⟨_,_,_,rfl⟩,rfl⟩ (by
  rintro d bt post eq U S' ⟨⟨b3,b4,b5,rfl⟩,rfl⟩;have RV:(d.flatMap (dA L)).length+(dA L bt).length<=L.length:=by
   have e:=congrArg List.length (Pm g pw ho)
   grind [nA]
  have b1:=sl bt (by rw[eq];simp)
  obtain⟨b4',S_,e⟩:=ZA (s:=S.s) (rr:=S.r) (hd:=aE h) (a1:=a1) (a2:=a2) (a3:=a3) (a5:=a5) (bt:=bt) (aV:=dS ((d.flatMap (dA L)).map Row.bag)) (a4':=b4) (a5':=b5) nd hL b1 (by simp only[bx];lia)
  refine⟨_,_,_,rfl,.inl e,⟨_,_,_,rfl⟩,?_⟩
  simp_all)
 obtain⟨U',S',e,⟨b3,b4,b5,rfl⟩,rfl⟩:=key;rw[show h.af.flatMap (dA L)=L from Pm g pw ho] at e;have hD:aE h=.tup [.lst (h.af.map ah),.lst (dS h.carts)]:=rfl;rw[hD] at e ⊢;unfold z_ OL;simp only[↓ev,aQ,aJ,bQ,fH,e,uP,dy,qA]
end
section
variable{s:List Cell}{h:aF}{r:Int}{x:Hl}{n:Nat}{w:Row}
theorem Xc(g:aH h)(o:Ok h n x)(hw:w∈x.rows):(w.fl=none/\m_ x w=none)\/∃f ct cl,w.fl=some f/\m_ x w=some (ct,cl)/\ct∈h.carts/\ct≠dZ h/\aM (td (·.1) gH (jg x.book)) (.inr f)=some (.tup [.str ct,.int cl]):=by
 unfold m_;cases hf:w.fl with
 |none=>exact .inl ⟨rfl,rfl⟩
 |some f=>
  have bp:=Ol o.bn;cases e:x.book.find? (λp=>p.1 == f) with
  |none=>
   obtain⟨p,hp,ep⟩:=iS.mp ((o.rw w hw).2.2 f hf);exact cO (Mv.mp e p hp) (by simp[ep])
  |some p=>
   have e1:p.1=f:=beq_iff_eq.mp (HF (p:=λp:Str×Str×Int=>p.1 == f) e)
   have m:=HE e;have md:=o.bk p m;refine .inr ⟨f,p.2.1,p.2.2,rfl,by rw[wM,e];rfl,MD md,λz=>?_,?_⟩
   .have cn:=g.cn;unfold dZ at z;cases hc:h.carts with
    |nil=>rw[hc] at md;cases md
    |cons c cs=>
     simp_all
   .rw[<-e1];exact jk (k:=λp:Str×Str×Int=>p.1) (v:=gH) ((bp.map _).nodup_iff.mpr o.bn) (bp.mem_iff.mpr m)
noncomputable def K'(v:ak Int)(now i cl:Int)(ct vX:Str):Str:=match v with
 |none=>vX
 |some v=>if now+(v - i)<=cl then ct else vX
theorem ZC{bag b vX ct:Str}{i now cl gn:Int}{f:Str}{tl:List (TK×D)}{bl cs:List D}{F I:List (TK×D)}{a3 a5:D}(hI:aM I (.inr bag)=some (.lst [aP (some f),pl b i,.int gn]))(hF:aM F (.inr f)=some (.tup [.str ct,.int cl]))(ef:P0 z9 [.d (.tup [.lst bl,.lst cs]),cV ct] (.o (.av tl)))(v:ak Int)(ht:aM tl (.inr b)=some (gL v))(ha:dq cs 0=some (.str vX)):P0 xt [.d (.tup [.lst bl,.lst cs]),.d (.av (kD (.int now) (.av F) a3 (.av I) a5)),cV bag] (rd (.str (K' v now i cl ct vX))):=by
 intro S;unfold aP at hI;unfold xt Im K';cases v with
 |none=>
  unfold gL at ht;simp only[↓ev,nI,hI,aQ,bQ,IJ,hF,ef,cB,ht,aJ,ha,dX]
 |some v=>
  unfold gL at ht;have e:now+v - i=now+(v - i):=by lia
  by_cases hc:now+(v - i)<=cl
  .have hc:=bD hc;simp only[↓ev,nI,hI,aQ,bQ,IJ,hF,ef,cB,ht,Rf,e,hc,decide_true,dX]
  .have hc:=eq_false hc;simp only[↓ev,nI,hI,aQ,bQ,IJ,hF,ef,cB,ht,Rf,e,hc,decide_false,aJ,ha,dX]
theorem ZD(g:aH h)(o:Ok h n x)(hw:w∈x.rows):P0 xt [.d (aE h),.d (.av (vb h x)),cV w.bag] (rd (.str (dW h x w))):=by
 have v:aM (td Row.bag dC (ord h x.rows)) (.inr w.bag)=some (.lst [aP w.fl,pl w.b w.i,.int w.gn]):=jk (v:=dC) ((o.perm.map _).nodup_iff.mpr o.nb) (o.mem.mpr hw);obtain⟨_,ha⟩:=Ak g;have hD:aE h=.tup [.lst (h.af.map ah),.lst (dS h.carts)]:=rfl;unfold dW;rcases Xc g o hw with⟨e1,e2⟩|⟨f,ct,cl,e1,e2,hc,_,hk⟩
 .rw[e1] at v;rw[e2];unfold aP at v;intro S;unfold vb;rw[hD];unfold dZ;generalize h.carts.getD 0 ""=vX at *;generalize td Row.bag dC (ord h x.rows)=I at *;unfold xt Im;simp only[↓ev,nI,v,aQ,bQ,aJ,cB,ha,dX]
 .rw[e1] at v;rw[e2];have ef:=Rc g hc;have ht:=Gs (ar:=ct) g.fwd (o.rw w hw).1.nm;rw[hD] at ef;have key:=ZC (now:=x.now) (a3:=.lst (dS (cw h x))) (a5:=.lst (qc x.gone)) v hk ef _ ht ha;rw[<-hD] at key;dsimp only;unfold p_;unfold K' at key;cases hv:atS (aS ct h.af) w.b with
  |none=>rw[hv] at key;exact key
  |some u=>
   rw[hv] at key;dsimp only at key ⊢;rw[show(if decide (x.now+(u - w.i)<=cl)=true then ct else dZ h)=if x.now+(u - w.i)<=cl then ct else dZ h by simp]
   exact key
theorem ZE(g:aH h)(sl:∀b∈h.af,0<=b.long/\b.long<=1000)(o:Ok h n x):P0 z_ [.d (aE h),.d (.av (vb h x))] (.o (.lst (dS ((ord h x.rows).map Row.bag)))):=by
 have rl:=o.rl;have lp:=o.perm.length_eq;exact e7t g sl ((o.perm.map _).nodup_iff.mpr o.nb) (by lia) (e7r o.nk) λw hw=>(o.rw w (o.mem.mp hw)).1
end
variable{tt:Bool}{a2:ak Val}
noncomputable def sD:Nat->D->Bool
 |_,.aI=>true
 |_,.str _=>true
 |_,.int _=>true
 |n+1,.lst l=>l.all (sD n)&&decide (l.length<=1000)
 |n+1,.tup l=>l.all (sD n)&&decide (l.length<=1000)
 |_,_=>false
noncomputable abbrev sP:D:=.tup [.ty "tuple",.ty "list"]
section
variable{z:Str}{i:Int}{l:List D}
theorem j1:cM (.str z) sP=some (rd (.bl false)):=rfl
theorem j2:cM (.int i) sP=some (rd (.bl false)):=rfl
theorem j3:cM .aI sP=some (rd (.bl false)):=rfl
theorem j4:cM (.lst l) sP=some (rd (.bl true)):=rfl
theorem j5:cM (.tup l) sP=some (rd (.bl true)):=rfl
theorem j6:cM (.lst l) (.ty "tuple")=some (rd (.bl false)):=rfl
theorem j7:cM (.int i) (.ty "str")=some (rd (.bl false)):=rfl
theorem j8:cM (.int i) (.ty "int")=some (rd (.bl true)):=rfl
theorem j9:cM (.int i) (.ty "bool")=some (rd (.bl false)):=rfl
end
section
variable{rf:Nat->GM}{q:Nat}{v:Val}{S:aU}{z:Str}{i:Int}{ds:List D}
theorem Rg(hv:lB S v=some .aI):oQ rf q [some v,ao .aI,none,none] S=some (.rt (rd (.bl true)) S):=by
 unfold oQ;simp only[↓ev,aQ,j3,aJ,hv]
theorem Rh(hv:lB S v=some (.str z)):oQ rf q [some v,aY z,none,none] S=some (.rt (rd (.bl true)) S):=by
 unfold oQ;simp only[↓ev,aQ,j1,aJ,C9,hv,fB,fW]
theorem Ri(hv:lB S v=some (.int i)):oQ rf q [some v,bI i,none,none] S=some (.rt (rd (.bl true)) S):=by
 unfold oQ;simp only[↓ev,aQ,j2,aJ,j7,hv,j8,j9,f7,fW]
noncomputable abbrev qB:Bool->List D->D
 |true,ds=>.tup ds
 |false,ds=>.lst ds
theorem e7u{d:D}(hv:lB S v=some (qB tt ds))(ha:dq ds i=some d)(he:rf q [.d d,.d d] S=some (.ok (rd (.bl true)) S)):Bt rf q [some v,ao (qB tt ds),a2,bI i] S=some (.nx [some v,ao (qB tt ds),a2,bI i] S):=by
 unfold Bt;cases tt with
 |true=>simp only[↓ev,hv,ha,he,aJ]
 |false=>simp only[↓ev,hv,ha,he,aJ]
theorem ZF(hv:lB S v=some (qB tt ds))(he:∀d∈ds,rf q [.d d,.d d] S=some (.ok (rd (.bl true)) S)):∃a3,aO (ae 3) (Bt rf q) (fO 0 ds.length) [some v,ao (qB tt ds),a2,none] S=some (.nx [some v,ao (qB tt ds),a2,a3] S):=by
 rw[nz];obtain⟨U',S',e,⟨a3,rfl⟩,rfl⟩:=iC (gg:=ae 3) (body:=Bt rf q) (f:=λi:Nat=>D.int (i:Int)) (U:=[some v,ao (qB tt ds),a2,none]) (S:=S) (λpre U S'=>(∃a3,U=[some v,ao (qB tt ds),a2,a3])/\S'=S) (List.range ds.length) ⟨⟨_,rfl⟩,rfl⟩ (by
  rintro d i post eq U S' ⟨⟨a3,rfl⟩,rfl⟩;obtain⟨_,hi⟩:=FI eq;exact⟨_,_,_,rfl,.inl (e7u hv (rG (fG hi)) (he _ (zy hi))),⟨_,rfl⟩,rfl⟩)
 exact⟨a3,e⟩
theorem e7v(hv:lB S v=some (qB tt ds))(hl:ds.length<=1000)(he:∀q,∀d∈ds,rf q [.d d,.d d] S=some (.ok (rd (.bl true)) S)):oQ rf q [some v,ao (qB tt ds),none,none] S=some (.rt (rd (.bl true)) S):=by
 have e:=λq=>ZF (rf:=rf) (q:=q) (a2:=(ao (.bl true))) hv (he q)
 have hz:Nat.ble ((ds.length:Nat):Int).natAbs 1000000000000=true:=by rw[HI];lia
 have tn:((ds.length:Nat):Int).toNat=ds.length:=Hv _;unfold oQ;cases tt with
 |true=>
  obtain⟨a3,e⟩:=e q;simp only[↓ev,aQ,j5,C_,hv,aJ,fW,kH,hz,tn,Nat.max_zero,e]
 |false=>
  obtain⟨a3,e⟩:=e q;simp only[↓ev,aQ,j4,j6,aJ,hv,R9,fW,kH,hz,tn,Nat.max_zero,e]
theorem xZ{d:D}(e:oQ rf q [some v,ao d,none,none] S=some (.rt (rd (.bl true)) S)):aT 2 4 (oQ rf) q [v,.d d] S=some (.ok (rd (.bl true)) S):=by
 unfold aT;generalize oQ rf q=ml at *;simp only[↓ev,e,dX]
theorem e7w{n:Nat}{d:D}(h:sD n d=true):lB S (.d d)=some d:=by
 cases d with
 |ref m=>cases n <;> cases h
 |_=>rfl
theorem Xd(n:Nat):∀(d:D),sD n d=true->∀j,n<j->∀q S v,lB S v=some d->AK 2 4 oQ j q [v,.d d] S=some (.ok (rd (.bl true)) S):=by
 induction n with
 |zero=>
  intro d h j hj q S v hv;cases j with
  |zero=>lia
  |succ j=>
   cases d with
   |aI=>exact xZ (Rg hv)
   |str z=>exact xZ (Rh hv)
   |int z=>exact xZ (Ri hv)
   |_=>cases h
 |succ n ih=>
  intro d h j hj q S v hv;cases j with
  |zero=>lia
  |succ j=>
   have go:∀tt l,(l.all (sD n)&&decide (l.length<=1000))=true->lB S v=some (qB tt l)->AK 2 4 oQ (j+1) q [v,.d (qB tt l)] S=some (.ok (rd (.bl true)) S):=λtt l h hv=>by
    obtain⟨h1,h2⟩:=A2.mp h;exact xZ (e7v hv (sY h2) λq d hd=>ih d (jJ.mp h1 d hd) j (by lia) q S _ (e7w (jJ.mp h1 d hd)))
   cases d with
   |aI=>exact xZ (Rg hv)
   |str z=>exact xZ (Rh hv)
   |int z=>exact xZ (Ri hv)
   |lst l=>exact go false l h hv
   |tup l=>exact go true l h hv
   |_=>cases h
theorem Rj{d:D}(h:sD 4 d=true)(hv:lB S v=some d):Ab q [v,.d d] S=some (.ok (rd (.bl true)) S):=Xd 4 d h 5 (by decide) q S v hv
end
theorem Pn:∀{l:List aq} {bt:aq},(l.map aq.name).Nodup->bt∈l->(l.filterMap λb=>if(b.name == bt.name)=true then some (ah b) else none)=[ah bt]
 |c::l,bt,nd,hb=>by
  obtain⟨n1,n2⟩:=qp.mp nd;rw[qD];rcases y0a.mp hb with rfl|hb
  .simp_all
  .rw[bc λe=>n1 (by rw[eq_of_beq e];exact nG hb),Pn n2 hb]
section
variable{h:aF}{r:Int}{x:Hl}{n:Nat}{w:Row}{bt:aq}{ar:Str}
theorem ZG(g:aH h)(hb:bt∈h.af):P0 BH [.d (aE h),cV bt.name] (rd (ah bt)):=by
 intro S;have bl:=g.sm.bl;have e:a_ (ae 0) (Iw 0) (Iy 0) (h.af.map ah) [none,aY bt.name] S []=some (.ok [ah bt] S):=by
  rw[uw (λb=>if(b.name == bt.name)=true then some (ah b) else none) h.af (by lia) λb m=>by
   have hB:ah b=.tup [.str b.name,.int b.long,.bl b.ring,.lst (dS b.outs)]:=rfl;unfold Iw Iy;cases hc:(b.name == bt.name) with
   |true=>exact .inr ⟨rd (ah b),_,rfl,by rw[hB];simp only[↓ev,bQ,aJ,fB,hc],rfl,rfl⟩
   |false=>exact .inl ⟨rfl,by rw[hB];simp only[↓ev,bQ,aJ,fB,hc]⟩,Pn (JW g.fwd) hb]
 have hD:aE h=.tup [.lst (h.af.map ah),.lst (dS h.carts)]:=rfl;rw[hD];unfold BH ON;simp only[↓ev,bQ,fH,e,dX]
def oh(kn:List (Str×Int)):ak Str->D
 |none=>.aI
 |some o=>.tup [.int ((atS kn o).getD 0),.str o]
theorem e7x{kn:List (Str×Int)}{best:ak Str}{o:Str}{tl:List (TK×D)}{g0 g1 a6:ak Val}{S:aU}(hp:(o == ar)=true/\atS kn o=some 0\/(o == ar)=false/\(aM tl (.inr o)).getD .aI=gL (atS kn o)):∃b6,zL 0 [g0,g1,aY ar,ao (.av tl),ao (oh kn best),aY o,a6] S=some (.nx [g0,g1,aY ar,ao (.av tl),ao (oh kn (jj kn best o)),aY o,b6] S):=by
 cases hv:atS kn o with
 |none=>
  rw[hv] at hp;have hs:jj kn best o=best:=by unfold jj;rw[hv]
  rw[hs];rcases hp with⟨h1,h2⟩|⟨h1,h2⟩
  .cases h2
  .unfold gL at h2;generalize oh kn best=B at *;refine⟨(ao .aI),?_⟩;unfold zL;simp only[↓ev,aJ,fB,h1,h2,aQ]
 |some P=>
  rw[hv] at hp;have e0:oh kn (some o)=.tup [.int P,.str o]:=by show D.tup [.int ((atS kn o).getD 0),.str o]=_;rw[hv];rfl
  refine⟨(bI P),?_⟩;have key:∀{B:D} {b:Bool},(B=.aI/\b=true\/∃u p,B=.tup [.int u,.str p]/\b=decide (P<u))->zL 0 [g0,g1,aY ar,ao (.av tl),ao B,aY o,a6] S=some (.nx [g0,g1,aY ar,ao (.av tl),ao (if b=true then .tup [.int P,.str o] else B),aY o,bI P] S):=λ{B b} hB=>by
   unfold zL;rcases hB with⟨rfl,rfl⟩|⟨u,p,rfl,rfl⟩
   .rcases hp with⟨h1,h2⟩|⟨h1,h2⟩
    .cases h2;simp only[↓ev,aJ,fB,h1,aQ]
    .unfold gL at h2;simp only[↓ev,aJ,fB,h1,h2,aQ]
   .by_cases hl:P<u
    .have hl:=bD hl;rcases hp with⟨h1,h2⟩|⟨h1,h2⟩
     .cases h2;simp only[↓ev,aJ,fB,h1,aQ,bQ,hl,decide_true]
     .unfold gL at h2;simp only[↓ev,aJ,fB,h1,h2,aQ,bQ,hl,decide_true]
    .have hl:=eq_false hl;rcases hp with⟨h1,h2⟩|⟨h1,h2⟩
     .cases h2;simp only[↓ev,aJ,fB,h1,aQ,bQ,hl,decide_false]
     .unfold gL at h2;simp only[↓ev,aJ,fB,h1,h2,aQ,bQ,hl,decide_false]
  cases best with
  |none=>
   have hs:jj kn none o=some o:=by unfold jj;rw[hv]
   rw[hs,e0];exact key (B:=.aI) (.inl ⟨rfl,rfl⟩)
  |some p=>
   have hs:jj kn (some p) o=if P<(atS kn p).getD 0 then some o else some p:=by unfold jj;rw[hv]
   have k2:=key (B:=oh kn (some p)) (b:=decide (P<(atS kn p).getD 0)) (.inr ⟨_,_,rfl,rfl⟩);rw[hs,k2];by_cases hl:P<(atS kn p).getD 0
   .rw[bM hl,e0,bM (oH hl)]
   .rw[bc hl,bc (by simpa using hl)]
theorem e7y(g:aH h)(hc:ar∈h.carts)(hb:bt∈h.af){a:Str}(ha:f6 (aS ar h.af) bt.outs=some a):P0 Bl [.d (aE h),.d (ah bt),cV ar] (rd (.str a)):=by
 intro S;have ef:=Rc g hc;have ho:=FN g.fwd bt hb;have DA:∀o∈bt.outs,(o == ar)=true/\atS (aS ar h.af) o=some 0\/(o == ar)=false/\(aM (dD ar h.af) (.inr o)).getD .aI=gL (atS (aS ar h.af) o):=λo m=>by
  by_cases e:o=ar
  .subst e;exact .inl ⟨by simp,F8 hc g.fwd⟩
  .refine .inr ⟨by simp[e],?_⟩
   rcases ho o m with z|z
   .rw[Gs g.fwd z];rfl
   .rw[Cf (z5 g.fwd o z),Pa g.fwd z e];rfl
 have key:=iC (gg:=ae 5) (body:=zL 0) (f:=λo:Str=>D.str o) (U:=[ao (aE h),ao (ah bt),aY ar,ao (.av (dD ar h.af)),ao .aI,none,none]) (S:=S) (λpre U S'=>(∃b5 b6,U=[ao (aE h),ao (ah bt),aY ar,ao (.av (dD ar h.af)),ao (oh (aS ar h.af) (pre.foldl (jj (aS ar h.af)) none)),b5,b6])/\S'=S) bt.outs ⟨⟨_,_,rfl⟩,rfl⟩ (by
  rintro d o post eq U S' ⟨⟨b5,b6,rfl⟩,rfl⟩;obtain⟨Tf,e⟩:=e7x (g0:=(ao (aE h))) (g1:=(ao (ah bt))) (a6:=b6) (S:=S') (DA o (by rw[eq];simp))
  refine⟨_,_,_,rfl,.inl e,⟨(aY o),Tf,?_⟩,rfl⟩
  simp_all)
 obtain⟨U',S',e,⟨b5,b6,rfl⟩,rfl⟩:=key;rw[show bt.outs.foldl (jj (aS ar h.af)) none=some a from ha] at e;have hB:ah bt=.tup [.str bt.name,.int bt.long,.bl bt.ring,.lst (dS bt.outs)]:=rfl;unfold oh at e;rw[hB] at e ⊢;generalize aE h=hd at *;generalize dD ar h.af=tl at *;unfold Bl Nb;simp only[↓ev,ef,aQ,rJ,fH,e,cB,dX]
end
section
variable{h:aF}{r:Int}{x:Hl}{n:Nat}{w:Row}{bt:aq}
theorem ZH{α:Type}{k:α->Str}{v:α->D}{xs:List α}:(td k v xs).map (·.2)=xs.map v:=by
 unfold td;rw[eU];rfl
def AN(L:List Row):List D:=L.map λw=>pl w.b w.i
theorem ZI(L:List Row)(hl:L.length<=1000){S:aU}:a_ (ae 0) (gw true) (IA 0) (L.map dC) [none] S []=some (.ok (AN L) S):=by
 rw[qz (λw=>pl w.b w.i) L (by lia) λw m=>⟨rd (pl w.b w.i),by
  rfl,rfl⟩]
 rfl
theorem e7z(L:List Row)(b:Str):(AN L).any (λz=>gu z (pl b 0))=tR L b:=by
 unfold AN tR;rw[List.any_map]
 congr 1
 funext w;exact yp
theorem e9o(L:List Row):(AN L).all (eC 40)=true:=by
 unfold AN;rw[t7];exact jJ.mpr λw _=>rfl
theorem ZJ(o:Str):(eJ h x).contains o=((cw h x).contains o || tR (ord h x.rows) o):=by
 unfold eJ tR;rw[zx,lh,iQ,Mq,lh,Mw,wJ];refine or_congr_right ⟨?_,?_⟩
 .rintro⟨w,m,e⟩;split at e
  .cases e
   rename_i hi
   exact⟨w,m,by simp[eq_of_beq hi]⟩
  .cases e
 .rintro⟨w,m,e⟩;rw[iW,beq_iff_eq,beq_iff_eq] at e;exact⟨w,m,by rw[bM (by simp[e.2]),e.1]⟩
structure Bc (hd:D) (bl:List D) (cs:List Str) (bn ct a:Str) (bs:List Str) (ln:Int) (rg:Bool) (I F:List (TK×D)) (now:Int) (sl:List Str) (a5:D) (L:List Row) (bag:Str) (fl:ak Str) (i gn:Int):Prop where
 ed:hd=.tup [.lst bl,.lst (dS cs)]
 hI:aM I (.inr bag)=some (.lst [aP fl,pl bn i,.int gn])
 hb:P0 BH [.d hd,cV bn] (rd (.tup [.str bn,.int ln,.bl rg,.lst (dS bs)]))
 hc:P0 xt [.d hd,.d (.av (kD (.int now) (.av F) (.lst (dS sl)) (.av I) a5)),cV bag] (rd (.str ct))
 ho:P0 Bl [.d hd,.d (.tup [.str bn,.int ln,.bl rg,.lst (dS bs)]),cV ct] (rd (.str a))
 ht:eQ I=true
 hv:I.map (·.2)=L.map dC
 hw:∀S,a_ (ae 0) (gw true) (IA 0) (L.map dC) [none] S []=some (.ok (AN L) S)
section
variable{hd:D}{bl:List D}{cs:List Str}{bn ct a:Str}{bs:List Str}{ln:Int}{rg:Bool}{I F:List (TK×D)}{now:Int}{sl:List Str}{a5:D}{L:List Row}{bag:Str}{fl:ak Str}{i gn:Int}
theorem Ma(b:Bc hd bl cs bn ct a bs ln rg I F now sl a5 L bag fl i gn)(hl:(i+1<ln)=True):P0 tD [.d hd,.d (.av (kD (.int now) (.av F) (.lst (dS sl)) (.av I) a5)),aR r,cV bag] (rd (pl bn (i+1))):=by
 obtain⟨ed,hI,hb,hc,ho,ht,hv,hw⟩:=b;intro S;generalize aP fl=ff at *;unfold tD BJ Aa;simp only[↓ev,nI,hI,aQ,cB,bQ,hb,hl,decide_true,dX]
theorem Mb(b:Bc hd bl cs bn ct a bs ln true I F now sl a5 L bag none i gn)(hl:(i+1<ln)=False)(hg:(gn<r)=True):P0 tD [.d hd,.d (.av (kD (.int now) (.av F) (.lst (dS sl)) (.av I) a5)),aR r,cV bag] (rd (pl bn 0)):=by
 obtain⟨ed,hI,hb,hc,ho,ht,hv,hw⟩:=b;intro S;unfold aP at hI;unfold tD BJ Aa;simp only[↓ev,nI,hI,aQ,cB,bQ,hb,hl,decide_false,aJ,hc,ho,gp,hg,decide_true,dX]
def Hf(cs:List Str)(rg:Bool)(bz:Bool)(bn a:Str):D:=if cs.contains a=true then .str a else if(rg&&bz)=true then pl bn 0 else pl a 0
abbrev Ht(hd st:D)(r:Int)(bag bn a:Str)(bs:List Str)(ln:Int)(rg:Bool)(ff:D)(i gn:Int):Gm:=[ao hd,ao st,bI r,aY bag,ao (.lst [ff,pl bn i,.int gn]),ao (.tup [.str bn,.int ln,.bl rg,.lst (dS bs)]),aY a,none]
theorem e8a(b:Bc hd bl cs bn ct a bs ln rg I F now sl a5 L bag fl i gn)(hl:(i+1<ln)=False)(hn:rg=false\/(∃f,fl=some f)\/fl=none/\(gn<r)=False)(rest:GS)(S:aU):Aa rest 0 [ao hd,ao (.av (kD (.int now) (.av F) (.lst (dS sl)) (.av I) a5)),bI r,aY bag,none,none,none,none] S=rest (Ht hd (.av (kD (.int now) (.av F) (.lst (dS sl)) (.av I) a5)) r bag bn a bs ln rg (aP fl) i gn) S:=by
 obtain⟨ed,hI,hb,hc,ho,ht,hv,hw⟩:=b;unfold Aa;rcases hn with rfl|⟨f,rfl⟩|⟨rfl,hg⟩
 .generalize aP fl=ff at *;simp only[↓ev,nI,hI,aQ,cB,bQ,hb,hl,decide_false,aJ,hc,ho,gp]
 .unfold aP at hI ⊢;cases rg <;> simp only[↓ev,nI,hI,aQ,cB,bQ,hb,hl,decide_false,aJ,hc,ho,gp]
 .unfold aP at hI ⊢;cases rg <;> simp only[↓ev,nI,hI,aQ,cB,bQ,hb,hl,decide_false,aJ,hc,ho,gp,hg]
theorem e8b{st:D}{S:aU}{y:D}(pre:∀rest:GS,Aa rest 0 [ao hd,ao st,bI r,aY bag,none,none,none,none] S=rest (Ht hd st r bag bn a bs ln rg (aP fl) i gn) S)(e:FD 0 (Ht hd st r bag bn a bs ln rg (aP fl) i gn) S=some (.rt (rd y) S)):tD 0 [.d hd,.d st,aR r,cV bag] S=some (.ok (rd y) S):=by
 have e2:BJ 0 [ao hd,ao st,bI r,aY bag,none,none,none,none] S=some (.rt (rd y) S):=(pre (FD 0)).trans e;unfold tD aT;generalize BJ 0=ml at *;simp only[↓ev,e2,dX]
theorem Mc(b:Bc hd bl cs bn ct a bs ln rg I F now sl a5 L bag fl i gn)(hl:(i+1<ln)=False)(hn:rg=false\/(∃f,fl=some f)\/fl=none/\(gn<r)=False):P0 tD [.d hd,.d (.av (kD (.int now) (.av F) (.lst (dS sl)) (.av I) a5)),aR r,cV bag] (rd (Hf cs rg (sl.contains a || tR L a) bn a)):=by
 intro S;refine e8b (λrest=>e8a b hl hn rest S) ?_
 obtain⟨ed,hI,hb,hc,ho,ht,hv,hw⟩:=b;subst ed;have va:=e7z L a;have vo:=e9o L;generalize aP fl=ff at *;unfold Hf FD Ht;cases h1:cs.contains a with
 |true=>simp only[↓ev,cB,g7,aJ,gZ,h1]
 |false=>
  cases rg with
  |false=>simp only[↓ev,cB,g7,aJ,gZ,h1,nI,ht,hv,fH,hw,aQ,gp]
  |true=>
   cases h2:sl.contains a with
   |true=>simp only[↓ev,cB,g7,Et,aJ,gZ,h1,nI,ht,hv,fH,hw,aQ,gp,Jn,h2,bQ]
   |false=>
    cases h3:tR L a with
    |true=>
     rw[h3] at va;simp only[↓ev,cB,g7,Et,aJ,gZ,h1,nI,ht,hv,fH,hw,aQ,gp,Jn,h2,vo,va,bQ]
    |false=>
     rw[h3] at va;simp only[↓ev,cB,g7,Et,aJ,gZ,h1,nI,ht,hv,fH,hw,aQ,gp,Jn,h2,vo,va]
end
theorem ZK(g:aH h)(o:Ok h n x)(hw:w∈x.rows):P0 tD [.d (aE h),.d (.av (vb h x)),aR r,cV w.bag] (rd (gD (aB h r x w))):=by
 obtain⟨bt,hb,eb,_⟩:=(o.rw w hw).1;obtain⟨a,ha,_⟩:=JR g o hw hb eb;have Wo:=(JA g o hw).1;have rl:=o.rl;have lp:=o.perm.length_eq;have v:aM (td Row.bag dC (ord h x.rows)) (.inr w.bag)=some (.lst [aP w.fl,pl bt.name w.i,.int w.gn]):=by
  rw[eb];exact jk (v:=dC) ((o.perm.map _).nodup_iff.mpr o.nb) (o.mem.mpr hw)
 have B:Bc (aE h) (h.af.map ah) h.carts bt.name (dW h x w) a bt.outs bt.long bt.ring (td Row.bag dC (ord h x.rows)) (td (·.1) gH (jg x.book)) x.now (cw h x) (.lst (qc x.gone)) (ord h x.rows) w.bag w.fl w.i w.gn:=⟨rfl,v,ZG g hb,ZD g o hw,e7y g Wo hb ha,vO,ZH,λS=>ZI _ (by lia)⟩
 have eg:aB h r x w=km h r x w bt:=by
  unfold aB;rw[<-eb,Fv g hb]
 rw[eg];unfold km;by_cases hl:w.i+1<bt.long
 .rw[bM hl];exact Ma B (bD hl)
 .rw[bc hl];by_cases hr:bt.ring=true/\w.fl=none/\w.gn<r
  .rw[bM hr];obtain⟨h1,h2,h3⟩:=hr;rw[h1,h2] at B;exact Mb B (eq_false hl) (bD h3)
  .rw[bc hr,ha];have key:=Mc (r:=r) B (eq_false hl) (by
    cases hrg:bt.ring with
    |false=>exact .inl rfl
    |true=>
     cases KD:w.fl with
     |some f=>exact .inr (.inl ⟨f,rfl⟩)
     |none=>exact .inr (.inr ⟨rfl,eq_false λz=>hr ⟨hrg,KD,z⟩⟩))
   rw[<-ZJ] at key;have e2:gD (ox h x bt ((some a).getD ""))=Hf h.carts bt.ring ((eJ h x).contains a) bt.name a:=by
    show gD (ox h x bt a)=_;unfold ox Hf;split
    .rfl
    .split <;> rfl
   rw[e2];exact key
end
variable{S2:aU}{hd:D}
theorem Vr{d:D}(hd:iw d):∃t ts,d=.tup (.str t::ts)/\(t == ("turn":Str))=false:=by
 cases hd with
 |lX _=>exact⟨_,_,rfl,by decide +kernel⟩
 |change _=>exact⟨_,_,rfl,by decide +kernel⟩
 |off _=>exact⟨_,_,rfl,by decide +kernel⟩
 |put _ _=>exact⟨_,_,rfl,by decide +kernel⟩
 |read _ _=>exact⟨_,_,rfl,by decide +kernel⟩
 |stop=>exact⟨_,_,rfl,by decide +kernel⟩
 |start=>exact⟨_,_,rfl,by decide +kernel⟩
section
variable{s:List Cell}{h:aF}{r:Int}{x:Hl}{n:Nat}{d:D}{g0 g1 g2 g4 a5 a6 a7 a8 a9:ak Val}{ns:List Int}
theorem e8c{l:List D}(e:B9 0 [eV] (hS hd r x s)=some (.ok (.o (.lst l)) S2)):iE 0 [g0,g1,g2,cy,g4,a5,a6,a7,a8,a9] (hS hd r x s)=some (.nx [g0,g1,g2,cy,g4,a5,a6,a7,a8,a9] S2):=by
 unfold iE;simp only[↓ev,e]
theorem ZL(g:aH h)(o:Ok h n x)(hn:n<1000)(m:Nat):∃x' jN,Ok h n x'/\aO (ae 6) (iE 0) (fO 0 m) [g0,g1,g2,cy,g4,a5,a6,a7,a8,a9] (hS (aE h) r x s)=some (.nx [g0,g1,g2,cy,g4,a5,jN,a7,a8,a9] (hS (aE h) r x' s)):=by
 rw[nz];obtain⟨U',S',e,⟨jN,rfl⟩,x',o',rfl⟩:=iC (gg:=ae 6) (body:=iE 0) (f:=λ(i:Nat)=>D.int (i:Int)) (U:=[g0,g1,g2,cy,g4,a5,a6,a7,a8,a9]) (S:=hS (aE h) r x s) (λpre U S'=>(∃a6,U=[g0,g1,g2,cy,g4,a5,a6,a7,a8,a9])/\∃x',Ok h n x'/\S'=hS (aE h) r x' s) (List.range m) ⟨⟨_,rfl⟩,x,o,rfl⟩ (by
  rintro d i post eq U S' ⟨⟨a6,rfl⟩,x',o',rfl⟩;obtain⟨X,t,e⟩:=e7d (r:=r) (s:=s) g o' hn;exact⟨_,_,_,rfl,.inl (e8c e),⟨_,rfl⟩,_,o'.turn g t,rfl⟩)
 exact⟨x',jN,o',e⟩
theorem ZM(g:aH h)(o:Ok h n x)(hn:n<1000)(o5:iw d\/∃m:Int,1<=m/\m<=12/\d=kF m):∃x' jN,Ok h (n+1) x'/\eZ 0 [g0,g1,g2,cy,g4,ao d,a6,a7,a8,a9] (hS (aE h) r x s)=some (.nx [g0,g1,g2,cy,g4,ao d,jN,a7,a8,a9] (hS (aE h) r x' s)):=by
 rcases o5 with o5|⟨m,m1,m12,rfl⟩
 .obtain⟨v,x',o',e⟩:=e7k (s:=s) (r:=r) g o hn o5;obtain⟨t,ts,rfl,ht⟩:=Vr o5;refine⟨x',a6,o',?_⟩;clear o5;generalize aE h=hd at *;unfold eZ;simp only[↓ev,bQ,aJ,fB,ht,e]
 .obtain⟨x',jN,o',e⟩:=ZL (r:=r) (s:=s) (g0:=g0) (g1:=g1) (g2:=g2) (g4:=g4) (a5:=(ao (kF m))) (a6:=a6) (a7:=a7) (a8:=a8) (a9:=a9) g o hn m.toNat;have hz:Nat.ble m.natAbs 1000000000000=true:=by rw[HI];lia
  have ht:(("turn":Str) == "turn")=true:=by decide +kernel
  refine⟨x',jN,o'.up,?_⟩;generalize aE h=hd at *;unfold eZ;unfold kF at e ⊢;simp only[↓ev,bQ,aJ,fB,fW,cB,hz,fH,e]
theorem Xe(g:aH h)(o:Ok h n x)(ds:List D)(hl:n+ds.length<900)(o5:∀d∈ds,iw d\/∃m:Int,1<=m/\m<=12/\d=kF m):∃x' a5' jN,Ok h (n+ds.length) x'/\aO (ae 5) (eZ 0) ds [g0,g1,g2,cy,g4,a5,a6,a7,a8,a9] (hS (aE h) r x s)=some (.nx [g0,g1,g2,cy,g4,a5',jN,a7,a8,a9] (hS (aE h) r x' s)):=by
 have key:=iC (gg:=ae 5) (body:=eZ 0) (f:=λd:D=>d) (U:=[g0,g1,g2,cy,g4,a5,a6,a7,a8,a9]) (S:=hS (aE h) r x s) (λpre U S'=>(∃a5 a6,U=[g0,g1,g2,cy,g4,a5,a6,a7,a8,a9])/\∃x',Ok h (n+pre.length) x'/\S'=hS (aE h) r x' s) ds ⟨⟨_,_,rfl⟩,x,o,rfl⟩ (by
  rintro p d post eq U S' ⟨⟨a5,a6,rfl⟩,x',o',rfl⟩;have hp:p.length+1<=ds.length:=by
   simp_all
  obtain⟨x2,jN,o2,e⟩:=ZM (r:=r) (s:=s) (g0:=g0) (g1:=g1) (g2:=g2) (g4:=g4) (a6:=a6) (a7:=a7) (a8:=a8) (a9:=a9) g o' (by lia) (o5 d (by rw[eq];simp))
  refine⟨_,_,_,rfl,.inl e,⟨_,_,rfl⟩,x2,?_,rfl⟩;rw[dw,t6];exact o2)
 rw[List.map_id'] at key;obtain⟨U',S',e,⟨a5',jN,rfl⟩,x',o',rfl⟩:=key;exact⟨x',a5',jN,o',e⟩
theorem ZN(l:List (Str×Str×Int)):eC 30 (.lst (qc l))=true:=by
 show(l.map t3).all (eC 29)=true;rw[t7];exact jJ.mpr λp _=>rfl
theorem e8d:((vb h x).all λp=>okN 2 p.2)=true:=by
 have h1:eC 30 (.lst (dS (cw h x)))=true:=g7 29 _;have h2:((td (·.1) gH (jg x.book)).all λp=>okN 1 p.2)=true:=by
  unfold td;rw[t7];exact jJ.mpr λp _=>rfl
 have h3:((td Row.bag dC (ord h x.rows)).all λp=>okN 1 p.2)=true:=by
  unfold td;rw[t7];refine jJ.mpr λw _=>?_
  show[aP w.fl,pl w.b w.i,.int w.gn].all (eC 29)=true;cases w.fl <;> rfl
 show(okN 2 (.int x.now)&&(okN 2 (.av (td (·.1) gH (jg x.book)))&&(okN 2 (.lst (dS (cw h x)))&&(okN 2 (.av (td Row.bag dC (ord h x.rows)))&&(okN 2 (.lst (qc x.gone))&&true)))))=true
 rw[show okN 2 (.av (td (·.1) gH (jg x.book)))=true from h2,show okN 2 (.lst (dS (cw h x)))=true from h1,show okN 2 (.av (td Row.bag dC (ord h x.rows)))=true from h3,show okN 2 (.lst (qc x.gone))=true from ZN _]
 rfl
theorem Xf(g:aH h)(o:Ok h n x){S:aU}:a_ (ae 0) (gw true) (jO 0) (dS ((ord h x.rows).map Row.bag)) [none,ao (aE h),ao (.av (vb h x)),bI r] S []=some (.ok ((ord h x.rows).map (gh h r x)) S):=by
 have rl:=o.rl;have lp:=o.perm.length_eq;rw[show dS ((ord h x.rows).map Row.bag)=(ord h x.rows).map λw=>.str w.bag by unfold dS;rw[eU];rfl,qz (gh h r x) (ord h x.rows) (by lia) λw m=>by
  have e:=ZK (r:=r) g o (o.mem.mp m);refine⟨rd (gh h r x w),?_,rfl⟩;unfold gh;generalize aE h=hd at *;unfold vb at *;generalize kD _ _ _ _ _=st at *;generalize gD (aB h r x w)=gl at *;unfold jO;simp only[↓ev,e,aQ]]
theorem ZO(o:Ok h n x):sD 4 (.lst ((ord h x.rows).map (gh h r x)))=true:=by
 have rl:=o.rl;have lp:=o.perm.length_eq;show(((ord h x.rows).map (gh h r x)).all (sD 3)&&decide (((ord h x.rows).map (gh h r x)).length<=1000))=true;rw[bx,oH (by lia),Bool.and_true,t7]
 refine jJ.mpr λw _=>?_
 show(([.str w.bag,gD (aB h r x w)]:List D).all (sD 2)&&true)=true;rcases aB h r x w with⟨a,_|i⟩ <;> rfl
theorem ZP{st:List (TK×D)}{ki:Int}{x':Hl}{ds bg W:List D}{a5' jN:ak Val}(ed:xx 0 [.d (bq ns),aR ki,.d hd] (hS hd r x s)=some (.ok (.o (.lst ds)) (hS hd r x s)))
  (e:aO (ae 5) (eZ 0) ds [ao (bq ns),ao hd,bI r,cy,bI ki,a5,a6,a7,a8,a9] (hS hd r x s)=some (.nx [ao (bq ns),ao hd,bI r,cy,bI ki,a5',jN,a7,a8,a9] (hS hd r x' s)))
  (et:∀s,bU 0 [eV] (hS hd r x' s)=some (.ok (.o (.av st)) (hS hd r x' s))) (er:P0 z_ [.d hd,.d (.av st)] (.o (.lst bg))) (ec:∀S,a_ (ae 0) (gw true) (jO 0) bg [none,ao hd,ao (.av st),bI r] S []=some (.ok W S))
  (ew:∀s,xA 0 [eV] (hS hd r x' s)=some (.ok (.o (.lst W)) (hS hd r x' s))) (e1:Ab 0 [.c s.length,.d (.lst W)] (hS hd r x' (s++[.o (.lst W)]))=some (.ok (rd (.bl true)) (hS hd r x' (s++[.o (.lst W)])))) (e2:∀S,Ab 0 [.d (.lst W),.d (.lst W)] S=some (.ok (rd (.bl true)) S)) (hn:(st.all λp=>okN 2 p.snd)=true) :
  e_ 0 [ao (bq ns),ao hd,bI r,cy,bI ki,a5,a6,a7,a8,a9] (hS hd r x s)=some (.nx [ao (bq ns),ao hd,bI r,cy,bI ki,a5',jN,ao (.av st),ao (.lst W),aN s.length] (hS hd r x' (s++[.o (.lst [])]))):=by
 unfold e_;simp only[↓ev,ed,fH,e,et,aQ,er,ec,ew,e1,aJ,dy,iU,e2,hn,and_self]
theorem Ld(g:aH h)(sl:∀b∈h.af,0<=b.long/\b.long<=1000)(b0:0<h.af.length)(o:Ok h n x)(hn:n<60)(k:Nat)(hk:k<900):∃x' s' a5' jN MX M1 M6,Ok h (n+2) x'/\e_ 0 [ao (bq ns),ao (aE h),bI r,cy,bI (k:Int),a5,a6,a7,a8,a9] (hS (aE h) r x s)=some (.nx [ao (bq ns),ao (aE h),bI r,cy,bI (k:Int),a5',jN,MX,M1,M6] (hS (aE h) r x' s')):=by
 obtain⟨ds,dk,ed⟩:=Zt (ns:=ns) g b0 k hk (hS (aE h) r x s);have dl:=dk.1;obtain⟨x',a5',jN,o',e⟩:=Xe (r:=r) (s:=s) (g0:=(ao (bq ns))) (g1:=(ao (aE h))) (g2:=(bI r)) (g4:=(bI (k:Int))) (a5:=a5) (a6:=a6) (a7:=a7) (a8:=a8) (a9:=a9) g o ds (by lia) dk.2
 have o2:Ok h (n+2) x':=⟨o'.rw,o'.nd,o'.un,o'.bk,o'.bn,o'.gi,o'.rl,jt o'.sz (by lia)⟩
 have w4:=ZO (r:=r) o2;exact⟨x',_,a5',jN,_,_,_,o2,ZP ed e (λs=>e7q g o2 (by lia)) (ZE g sl o2) (λS=>Xf g o2) (λs=>Pb g o2) (Rj w4 (by
  show((s++[Cell.o _])[s.length]?).bind Cell.lB=_;rw[dy];rfl)) (λS=>Rj w4 rfl) e8d⟩
theorem e9p(g:aH h)(sl:∀b∈h.af,0<=b.long/\b.long<=1000)(b0:0<h.af.length)(o:Ok h 0 x)(m:Nat)(hm:m<=25){a4:ak Val}:∃U' S',aO (ae 4) (e_ 0) (mq 15 2 m) [ao (bq ns),ao (aE h),bI r,cy,a4,a5,a6,a7,a8,a9] (hS (aE h) r x s)=some (.nx U' S'):=by
 have er:mq 15 2 m=(List.range m).map λi=>D.int ((15+2*i:Nat):Int):=by
  grind [mq]
 rw[er];obtain⟨U',S',e,_⟩:=iC (gg:=ae 4) (body:=e_ 0) (f:=λi:Nat=>D.int ((15+2*i:Nat):Int)) (U:=[ao (bq ns),ao (aE h),bI r,cy,a4,a5,a6,a7,a8,a9]) (S:=hS (aE h) r x s) (λpre U S'=>(∃a4 a5 a6 a7 a8 a9,U=[ao (bq ns),ao (aE h),bI r,cy,a4,a5,a6,a7,a8,a9])/\∃x' s',Ok h (2*pre.length) x'/\S'=hS (aE h) r x' s') (List.range m) ⟨⟨_,_,_,_,_,_,rfl⟩,x,s,o,rfl⟩ (by
  rintro p i post eq U S' ⟨⟨a4,a5,a6,a7,a8,a9,rfl⟩,x',s',o',rfl⟩;obtain⟨hq,hi⟩:=FI eq;obtain⟨x2,s2,a5',jN,MX,M1,M6,o2,e⟩:=Ld (ns:=ns) (r:=r) (s:=s') (a5:=a5) (a6:=a6) (a7:=a7) (a8:=a8) (a9:=a9) g sl b0 o' (by lia) (15+2*i) (by lia)
  refine⟨_,_,_,rfl,.inl e,⟨_,_,_,_,_,_,rfl⟩,x2,s2,?_,rfl⟩;rw[dw,t6,Nat.mul_add];exact o2)
 exact⟨U',S',e⟩
noncomputable def x0:Hl:=⟨0,[],[],[],[]⟩
theorem tU(h:aF):Ok h 0 x0:=⟨λw m=>(by cases m),Hz,Hz,λp m=>(by cases m),Hz,λp m=>(by cases m),by decide,by decide⟩
theorem e8e(e:nt 0 [ao (bq ns),none,none,none,none,none,none,none,none,none] ⟨[],[]⟩=some (.rt (rd (.bl true)) S2)):∃S,oK 0 [.d (bq ns)] ⟨[],[]⟩=some (.ok (.v (.d (.bl true))) S):=by
 refine⟨S2.cut 0,?_⟩;unfold oK aT;generalize nt 0=ml at *;simp only[↓ev,e]
theorem e8f{t:Int}{U':Gm}{S':aU}(hh:P0 zZ [.d (bq ns)] (rd hd))(hr:Pr kT [.d (bq ns),aR 14,aR 3] (rd (.int r)))(hi:BM 0 [eV,.d hd,aR r] ⟨[],[.ins cHall []]⟩=some (.ok (rd .aI) (hS hd r x0 [])))(ho:Pr jM [.d (bq ns),aR 14,aR 20] (rd (.int t)))(hm:(-2^64<(2:Int)/\(2:Int)<2^64 \/ -2^64<t/\t<2^64)=True)(hz:Nat.ble (23+2*t).natAbs 1000000=true)
  (hl:aO (ae 4) (e_ 0) (mq 15 2 (f_ 15 (23+2*t))) [ao (bq ns),ao hd,bI r,cy,none,none,none,none,none,none] (hS hd r x0 [])=some (.nx U' S')):nt 0 [ao (bq ns),none,none,none,none,none,none,none,none,none] ⟨[],[]⟩=some (.rt (rd (.bl true)) S'):=by
 unfold nt;have z15:Nat.ble (15:Int).natAbs 1000000=true:=by decide
 simp only[↓ev,hh,aQ,hr,hi,ho,hm,z15,hz,and_self,fH,hl]
theorem Rk:∀{bs:List aq},(∀b∈bs,0<=b.long)->0<=jH bs/\∀b∈bs,b.long<=jH bs
 |[],_=>⟨by unfold jH;simp,λb m=>by cases m⟩
 |c::bs,h=>by
  obtain⟨i1,i2⟩:=Rk (bs:=bs) λb m=>h b (.tail _ m)
  have hc:=h c (.head _);have e:jH (c::bs)=c.long+jH bs:=by unfold jH;simp
  rw[e];refine⟨by lia,λb m=>?_⟩
  rcases y0a.mp m with rfl|m
  .lia
  .have:=i2 b m;lia
theorem e9q:∀ns:List Int,ns.length<=63->∃S,oK 0 [.d (.lst (ns.map D.int))] ⟨[],[]⟩=some (.ok (.v (.d (.bl true))) S):=by
 intro ns _;obtain⟨h,g,sl,b0,b5,c4,eh⟩:=YS ns;obtain⟨_,r0,r4⟩:=hZ ns 14 0 3 (by decide) (by decide) (by decide)
 have hr:Pr kT [.d (bq ns),aR 14,aR 3] _:=xX ns 14 3 (by decide) (by decide)
 obtain⟨_,t0,t21⟩:=hZ ns 14 1 20 (by decide) (by decide) (by decide)
 have ho:Pr jM [.d (bq ns),aR 14,aR 20] _:=vJ ns 14 20 (by decide) (by decide)
 have DQ:∀b∈h.af,0<=b.long/\b.long<=1000:=λb hb=>by
  have nn:∀b∈h.af,0<=b.long:=λb hb=>by have:=(g.lg b hb).1;lia
  have:=(Rk nn).2 b hb;exact⟨nn b hb,by lia⟩
 generalize bF ns 14 0 3=r at *;generalize bF ns 14 1 20=t at *;obtain⟨U',S',hl⟩:=e9p (ns:=ns) (r:=r) (s:=[]) (a4:=none) (a5:=none) (a6:=none) (a7:=none) (a8:=none) (a9:=none) g DQ b0 (tU h) (f_ 15 (23+2*t)) (by unfold f_;lia)
 exact e8e (e8f eh hr (e5w (S:=⟨[],[]⟩) g) ho (bD (.inl (by decide))) (by rw[HI];lia) hl)
end
variable{w:cD}{K:aL}{mg:Str->ak ai}{us:List ai}{h:bZ}{l:PySem.W.OpenLaw}
def pF(K:aL):L2.Sp:=λvs H Q _=>∃(a:aj) (ns:List Int),vs=[.ref a]/\c8 K H a (ns.map V.int)/\ns.length<=63/\∀H',Q (.bl true) H'
theorem e8g{P:dc}{base:bZ}(T:Txt K mg):dz P w K mg base (lH P w) 7 (fA K none "law") (fF K (fA K none "law")) ["_law_script"] (pF K):=by
 exact YH (e5n T 0) e9q
theorem us_1(h:us.length=1):∃a0,us=[a0]:=by
 obtain _|⟨a0,us⟩:=us
 .cases h
 obtain _|⟨z,us⟩:=us
 .exact⟨a0,rfl⟩
 .simp at h
theorem us_2(h:us.length=2):∃a0 a1,us=[a0,a1]:=by
 obtain _|⟨a0,us⟩:=us
 .cases h
 obtain _|⟨a1,us⟩:=us
 .cases h
 obtain _|⟨z,us⟩:=us
 .exact⟨a0,a1,rfl⟩
 .simp at h
theorem us_3(h:us.length=3):∃a0 a1 a2,us=[a0,a1,a2]:=by
 obtain _|⟨a0,us⟩:=us
 .cases h
 obtain _|⟨a1,us⟩:=us
 .cases h
 obtain _|⟨a2,us⟩:=us
 .cases h
 obtain _|⟨z,us⟩:=us
 .exact⟨a0,a1,a2,rfl⟩
 .simp at h
theorem us_4(h:us.length=4):∃a0 a1 a2 a3,us=[a0,a1,a2,a3]:=by
 obtain _|⟨a0,us⟩:=us
 .cases h
 obtain _|⟨a1,us⟩:=us
 .cases h
 obtain _|⟨a2,us⟩:=us
 .cases h
 obtain _|⟨a3,us⟩:=us
 .cases h
 obtain _|⟨z,us⟩:=us
 .exact⟨a0,a1,a2,a3,rfl⟩
 .simp at h
abbrev iy(K:aL)(n:Str)(C:aj):Prop:=PySem.W.nsIn K mainGlobals n=some (some (.ref C))/\fX K C (.ref 31::qy) none/\PySem.W.keepIn K (.ref C)=true
theorem errs_mk(X:K.In h)(G:h.Ns mainGlobals mg)(h0:iy K "NoName" 44)(h1:iy K "NoSize" 56)(h2:iy K "NoOut" 68)(h3:iy K "NoHand" 80)(h4:iy K "NoMoment" 92)(h5:iy K "NoFlight" 104)(h6:iy K "NoBelt" 116)(h7:iy K "NoRoom" 128)(h8:iy K "NoBag" 140)(GB:fX K 31 qy none)(hB:PySem.W.nsIn K mainGlobals "CarryError"=some (some (.ref 31))):pK K mg i9 31:=by
 refine⟨λp hp=>?_,GB,PySem.W.mg_of X G hB⟩
 simp only[i9,y0a,y1v,or_false] at hp;rcases hp with rfl|rfl|rfl|rfl|rfl|rfl|rfl|rfl|rfl
 .exact⟨PySem.W.mg_of X G h0.1,h0.2⟩
 .exact⟨PySem.W.mg_of X G h1.1,h1.2⟩
 .exact⟨PySem.W.mg_of X G h2.1,h2.2⟩
 .exact⟨PySem.W.mg_of X G h3.1,h3.2⟩
 .exact⟨PySem.W.mg_of X G h4.1,h4.2⟩
 .exact⟨PySem.W.mg_of X G h5.1,h5.2⟩
 .exact⟨PySem.W.mg_of X G h6.1,h6.2⟩
 .exact⟨PySem.W.mg_of X G h7.1,h7.2⟩
 .exact⟨PySem.W.mg_of X G h8.1,h8.2⟩
theorem fin_mk{fa:aj}(X:K.In h)(G:h.Ns mainGlobals mg)(hfa:mg "law"=some (.ref fa))(T:Txt K mg)
  : ∃fd:lj,(∀(s:ax) (v:ai),BindsTo s fd ⟨[v],[]⟩ [("_law_script",v)])/\∀base:bZ,K.In base->base.Ns mainGlobals mg->dz l.prog w K mg base (lH l.prog w) 7 fa fd ["_law_script"] (pF K):=by
 have e:=hfa.symm.trans T.q8.mg;cases e;obtain⟨oc,od,kV,doc,pm,an,fj,ct,pd,e,_,_⟩:=T.q8.fn.ex;exact⟨_,λs v=>by rw[e];exact .of_eq rfl,λbase _ _=>e8g T⟩
theorem walk{q:dc}{loose:List Str}{XP:(Str->ak ai)->bZ->Prop}{YP:cD->bZ->Prop}{d:DefRec}{K:Params->aL}(hn:l.most=some 63)(CP:d.params.defaults=[])
  (hY:∀(w:cD) (h:bZ),YP w h->(K w.params).In h)
  (F:∀(w:cD) (mg:Str->ak ai) (fa:aj) (h:bZ),(K w.params).In h->h.Ns mainGlobals mg->mg d.name=some (.ref fa)-> ∃fd:lj,(∀(s:ax) (u:ai),BindsTo s fd ⟨[u],[]⟩ [("_law_script",u)])/\∀base:bZ,(K w.params).In base->base.Ns mainGlobals mg->dz l.prog w (K w.params) mg base (lH l.prog w) 7 fa fd ["_law_script"] (pF (K w.params))) :
  PySem.W.WalkO q loose XP YP l.row.toRowW d [] (λf vs=>PySem.call f vs):=
 L2.vt (n:=63) (k:=7) (x:="_law_script") (CX:=λw=>lH l.prog w) (sp:=λw=>pF (K w.params)) hn (by decide) CP ⟨rfl,by decide,by decide⟩ hY F (λ_ _ a ns hl _ hS=>⟨a,ns,rfl,hS,hl,λ_=>rfl⟩) λ_ _ _ _ _ ⟨_,_,_,_,_,_,z⟩=>z
end Carry
end
open PySem PySem.W PyProof.Rows
set_option maxRecDepth 100000 in
set_option maxHeartbeats 0 in
theorem PySem.Challenge.cw_carry_k65_wants_holds : PySem.Challenge.rw_carry_k65_wants.Holds := by
 simp -failIfUnchanged only[Carry.Hd.hd0];w_on;o_law;(try simp only[Carry.Hd.hd]);k_head;(case hw=>w_witness2)
 k_fill
 refine Carry.walk (l:=PySem.Challenge.rw_carry_k65_wants) rfl rfl (λw h Y=>PySem.W.kIn_of Y) ?F
 case F=>
  intro w mg fa h KX G hmg;refine' Carry.fin_mk KX G hmg ?T;constructor
  case atr=>
   intro p hp;simp only[Carry.atrs,y0a,y1v,or_false] at hp;rcases hp with rfl|rfl|rfl|rfl|rfl|rfl|rfl|rfl|rfl|rfl <;> (dsimp only[Carry.cHall];exact⟨⟨by k_is,by k_is,by k_is,by k_is⟩,by show _=_;k_is⟩)
  case er=>
   refine' Carry.errs_mk KX G ?h0 ?h1 ?h2 ?h3 ?h4 ?h5 ?h6 ?h7 ?h8 ?GB ?hB
   all_goals first|(refine' ⟨?za,?zb,?zd⟩;(case zb=>refine' L2.errC_mk ?zl ?zm ?zs ?zi;(case zl=>k_is);(case zm=>k_is);(case zs=>kernel_rfl);(case zi=>kernel_rfl));(case za=>k_is);(case zd=>k_is))|(refine' L2.errC_mk ?zl ?zm ?zs ?zi;(case zl=>k_is);(case zm=>k_is);(case zs=>kernel_rfl);(case zi=>kernel_rfl))|k_is|(show _=_;k_is)
  all_goals first|refine' L2.dM KX G ?_ ?_ ?_|refine' L2.mM ?_ ?_ ?_ ?_|refine' L2.mK ?_ ?_ ?_ ?_|refine' L2.Cls.mk ?_ ?_ ?_ ?_|refine' L2.kM KX G ?_|refine' PySem.W.mg_of KX G ?_|refine' PySem.W.mg_none_of KX G ?_
  all_goals (try dsimp only[Carry.cHall])
  all_goals first|(refine' L2.fun_mk ?zl ?zc ?zk;(case zl=>k_is);(case zc=>k_is);(case zk=>k_is))|(intro _ _ _ _ _ _ us hl;obtain⟨_,rfl⟩:=Carry.us_1 hl;rfl)|(intro _ _ _ _ _ _ us hl;obtain⟨_,_,rfl⟩:=Carry.us_2 hl;rfl)|(intro _ _ _ _ _ _ us hl;obtain⟨_,_,_,rfl⟩:=Carry.us_3 hl;rfl)|(intro _ _ _ _ _ _ us hl;obtain⟨_,_,_,_,rfl⟩:=Carry.us_4 hl;rfl)|k_is|(show _=_;k_is)|skip
  all_goals (try (refine' L2.fun_mk ?zl ?zc ?zk;(case zl=>k_is);(case zc=>k_is);(case zk=>k_is)))