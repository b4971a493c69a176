import PyProof.Rows.All
import Wide.All
import OpenK.AllK
import Wide.FinOn
import Lean
import PyProof.EqAt
import PyProof.EqKinds
import PyProof.TupleCall
import PyProof.StationsW
import PyProof.ExcClass3
import PyProof.ExcInit
import PyProof.ExcBaseAll.ValueError
import PyProof.ExcArgsOwn
import KE.KIsAll
import PyProof.ExcAttrAll.ValueError
import PyProof.InstStoreFacts
import KE.KTryMore
import PyProof.RulesAs
import PyProof.NsDelKeeps
import KE.KRevIter
import PyProof.SeqI3
import PyProof.DictWalks
import PyProof.EnumIter
import PyProof.EnumStmt
import PyProof.EnumMake
import PyProof.WalksEnum
import PyProof.FactsAll.NoneType_1
import PyProof.NeKinds
import KE.KDictList
import KE.KItemsList
import PyProof.Rows.SortShell
import PyProof.WalkInts
import PyProof.MeetsSeq
import PyProof.SeqRoads2
import KE.KDictOf
import PyProof.AttrMissHeap
import KE.KSortTup
import PyProof.Rows.SortWalk
import PyProof.Rows.SumAny
import PyProof.Rows.SortStr
import PyProof.Rows.SetFrom
import PySem.Challenge.RW_carry_k68_whole_one_place_each
set_option linter.all false
set_option bootstrap.genMatcherCode false
set_option compiler.extract_closed false
set_option compiler.reuse false
set_option genSizeOf false
set_option genSizeOfSpec false
def bw:=@List.length_map.{0,0}
def bZ:=@Nat.le_refl
def cy:=@Option.bind_eq_some_iff.{0,0}
theorem cM:type_of% @Option.any_some.{0}:=rfl
def cQ:=@PySem.Heap.lt_size
def cU:=@List.map_cons.{0,0}
def cZ:=@PySem.Heap.get?_push_of_some
def dm:=@Option.map_eq_some_iff.{0,0}
def dF:=@List.mem_append.{0}
def dU:=@List.length_append.{0}
def eE:=@List.size_toArray.{0}
def y0b:=@List.mem_cons.{0}
def eW:=@List.mem_map.{0,0}
def fE:=@List.getElem?_eq_some_iff.{0}
def fL:=@List.map_map.{0,0,0}
def fR:=@List.map_append.{0,0}
def f7:=@Nat.lt_of_lt_of_le
def f9:=@List.getElem?_map.{0,0}
def gH:=@Nat.ne_of_lt
def gK:=@Nat.max_self
def hV:=@Bool.not_true
def iH:=@List.getElem?_eq_getElem.{0}
def iZ:=@PySem.Heap.get?_push_size
def jo:=@Nat.le_trans
def jD:=@Bool.and_eq_true
def jQ:=@List.append_nil.{0}
def jY:=@Nat.lt_irrefl
def jZ:=@List.all_eq_true.{0}
theorem kG:type_of% @List.length_cons.{0}:=rfl
def kH:=@List.mem_singleton.{0}
def kO:=@Nat.zero_le
def lh:=@List.prefix_refl.{0}
def lj:=@List.append_assoc.{0}
def lq:=@List.contains_iff_mem.{0}
def lr:=@Bool.not_false
def lK:=@Bool.false_eq_true
def lJ:=@List.nodup_append.{0}
def mT:=@List.mem_filterMap.{0,0}
def mU:=@List.mem_map_of_mem.{0,0}
def nQ:=@List.map_congr_left.{0,0}
def n8:=@List.mem_cons_of_mem.{0}
def n9:=@List.mem_append_right.{0}
def oQ:=@PySem.Heap.get?_update_other
def pV:=@List.mem_filter.{0}
def pW:=@List.length_replicate.{0}
def qG:=@List.filterMap_cons.{0,0}
def qH:=@Nat.lt_succ_self
def qI:=@List.mem_of_getElem?.{0}
def qJ:=@PySem.Heap.get?_update_self
def qV:=@Array.getElem?_eq_getElem.{0}
def qW:=@List.all_cons.{0}
def tG:=@List.mem_range
def tH:=@Bool.false_ne_true
def tI:=@Nat.le_succ
def tJ:=@List.nodup_cons.{0}
def ue:=@List.getElem?_append_right.{0}
def uf:=@List.getElem?_append_left.{0}
def ug:=@List.length_singleton.{0}
def uh:=@Nat.lt_succ_of_lt
def ui:=@Array.getElem?_toList.{0}
def vK:=@List.mem_cons_self.{0}
def vL:=@List.getElem?_set_self.{0}
def vM:=@Array.getElem?_eq_some_iff.{0}
theorem vN:type_of% @Option.isSome_some.{0}:=rfl
def xq:=@Nat.ne_of_gt
def xr:=@List.length_take.{0}
def xt:=@List.length_set.{0}
def xu:=@List.length_range
def xw:=@List.length_filter_le.{0}
theorem zV:type_of% @Array.length_toList.{0}:=rfl
def zW:=@List.mem_iff_getElem?.{0}
def zX:=@Bool.and_eq_true_iff
def zY:=@Option.bind_some.{0,0}
def zZ:=@List.getElem?_range
def z5:=@Nat.le_of_ble_eq_true
theorem z6:type_of% @Option.isSome_none.{0}:=rfl
def z7:=@List.getElem?_eq_none.{0}
def z8:=@Bool.eq_false_iff
def A9:=@List.getElem?_set_ne.{0}
def A_:=@List.length_drop.{0}
def A':=@Bool.eq_iff_iff
theorem Ba:type_of% @List.length_nil.{0}:=rfl
def Bb:=@List.all_map.{0,0}
def Bc:=@List.find?_cons.{0}
def Bd:=@List.getD_eq_getElem?_getD.{0}
def Be:=@List.filterMap_nil.{0,0}
def Eo:=@Nat.le_of_lt
def Ep:=@List.mem_append_left.{0}
def Er:=@List.getElem_inj.{0}
def Es:=@Nat.le_of_eq
def Et:=@List.map_nil.{0,0}
def Eu:=@List.filter_cons.{0}
def Ew:=@List.take_of_length_le.{0}
def y1v:=@List.not_mem_nil.{0}
def Ey:=@Option.map_some.{0,0}
def Ez:=@List.filter_sublist.{0}
def EA:=@PySem.Heap.get?_push_ne
def EB:=@Nat.zero_add
def El:=@List.nil_append.{0}
def Em:=@List.pairwise_map.{0,0}
def En:=@List.mem_of_find?_eq_some.{0}
def Ht:=@List.getElem_mem.{0}
def Hu:=@List.drop_of_length_le.{0}
def Hv:=@Nat.le_add_right
def Hw:=@Bool.and_false
def Hx:=@Int.le_refl
def Hy:=@List.nodup_nil.{0}
def Hz:=@PySem.Heap.get?_update_ne
theorem HA:type_of% @List.foldl_cons.{0,0}:=rfl
def HC:=@List.find?_some.{0}
def HD:=@List.map_drop.{0,0}
def HE:=@List.set_set.{0}
def HF:=@List.length_filterMap_le.{0,0}
def Mi:=@Array.mem_toList_iff.{0}
def Mj:=@List.getElem?_replicate.{0}
def Ml:=@Int.toNat_natCast
def Mm:=@Nat.sub_self
def Mn:=@Nat.lt_of_le_of_lt
def Mo:=@List.drop_eq_getElem_cons.{0}
def Mp:=@Bool.and_true
def Mq:=@Array.forIn_toList.{0,0,0}
def Mr:=@List.nodup_range
def Ms:=@List.find?_eq_none.{0}
def Mt:=@List.any_eq_true.{0}
def Mu:=@List.ext_getElem?.{0}
def Mv:=@List.foldl_append.{0,0}
def Mw:=@PySem.Heap.size_update
def Mx:=@Bool.not_eq_true'
def My:=@Nat.le_of_lt_succ
def Mz:=@Nat.lt_succ_of_le
def MA:=@List.map_take.{0,0}
def MB:=@Nat.ble_eq_true_of_le
def MC:=@List.sum_cons.{0}
def MD:=@Bool.or_true
def ME:=@Option.getD_some.{0}
def MF:=@List.filterMap_append.{0,0}
def MG:=@List.set_getElem_self.{0}
def ay:=@PySem.wpAny_bind
def aR:=@PySem.wpAny_pure
def oS:=@if_true.{1}
def bx:=@if_pos.{1}
def bc:=@if_neg.{1}
def iC:=@if_false.{1}
def qX:=@decide_eq_true
def qK:=@decide_eq_false
def fG:=@beq_self_eq_true.{0}
def jq:=@PySem.wpAny_holding
def y9a:=@decide_eq_true_iff
def xx:=@of_decide_eq_true
def pX:=@beq_eq_false_iff_ne.{0}
def HG:=@Classical.byContradiction
def cz:=@absurd.{0}
def tK:=@True.intro
def bH:=@eq_true
namespace Carry.Hd
open Lean Meta PySem PySem.W
abbrev kC:=@mkConst
abbrev aM:=@mkAppM
abbrev nL:=mkRawNatLit
abbrev Ex:=Lean.Expr
def fit(ds:Array (Ex×Ex×Ex)):MetaM (Array (Ex×Ex×Ex)):=do
 let cs:Std.HashSet Ex:=ds.foldl (λz d=>if d.1.isConst then z.insert d.1 else z) {}
 ds.filterM λd=>do
  let ty:=Fast.bareType (<-inferType d.1)
  return (ty.find? λy=>cs.contains y || y.isConstOf ``PySem.W.Frag).isNone
def spots(ds:Array (Ex×Ex×Ex)):Std.HashMap Ex Nat:=ds.zipIdx.foldl (λz d=>z.insert d.1.1 d.2) {}
def parts(tw:Name->MetaM Unit)(v:Ex):MetaM (Array (Ex×Ex×Ex)):=do
 for x in Fast.constsOf v do
  if let .const c _:=x then
   if((<-getEnv).getModuleIdxFor? c).isNone || (`PySem.Challenge).isPrefixOf c then tw c
 fit (<-Fast.twinsIn v)
def twin:Nat->Name->MetaM Unit
 |0,_=>return
 |k+1,c=>do
  let (n,e) <-Fast.stemIn c true
  if(<-getEnv).contains e then return
  if let some none:=(<-Fast.primed.get).get? c then return
  let some (.defnInfo d):=(<-getEnv).find? c|return
  let ds <-parts (twin k) d.value
  if ds.isEmpty then
   Fast.primed.modify λz=>z.insert c none
   return
  let ix:=spots ds
  withOptions (Elab.async.set · false) do
   addDecl (.defnDecl { name:=n,levelParams:=[],type:=d.type,value:=Fast.putIn ix (λi=>ds[i]!.2.1) d.value,hints:=d.hints,safety:=.safe})
   addDecl (.thmDecl { name:=e,levelParams:=[],type:=<-mkEq (kC c) (kC n),value:=<-mkEqRefl (kC c)})
  Fast.primed.modify λz=>z.insert c (some (n,e))
def prep(v:Ex):MetaM (Array (Ex×Ex×Ex)):=parts (twin 9) v
def put(stem:Name)(ty v:Ex):MetaM Ex:=do
 let ds <-prep v
 let c <-defAt stem ty (Fast.putIn (spots ds) (λi=>ds[i]!.2.1) v)
 Fast.primed.modify λz=>z.insert c.constName! none
 return c
abbrev Objs:=Array (Obj×Obj×Ex)
def lay(old:Objs)(s t:Shared):MetaM Objs:=do
 let P:=kC ``Params
 unless s.heap.objs.size == t.heap.objs.size && s.toks == t.toks && toExpr s.drawn == toExpr t.drawn && toExpr s.heap.life == toExpr t.heap.life do throwError "the worlds part"
 let mut out:=#[]
 for i in [0:s.heap.objs.size] do
  let (a,b):=(s.heap.objs[i]!,t.heap.objs[i]!)
  if let some (a',b',e):=old[i]? then
   if sameObjNow a' a && sameObjNow b' b then
    out:=out.push (a',b',e)
    continue
  let v <-withLocalDeclD `P P λp=>do
   let e:=objE p a
   unless e == objE p b do throwError "an object is the world's"
   mkLambdaFVars #[p] e
  out:=out.push (a,b,<-put `o (<-mkArrow P (kC ``Obj)) v)
 return out
def state(l:Bool)(old:Objs)(s t:Shared):MetaM (Objs×W.State):=do
 let P:=kC ``Params
 let os <-lay old s t
 let life:=toExpr s.heap.life
 let S:W.State:={ heap:=default,gens:=<-gensE s t,drawn:=toExpr s.drawn,toks:=nL s.toks}
 if l then
  let v <-withLocalDeclD `P P λp=>mkLambdaFVars #[p] (mkApp2 (kC ``Heap.mk) (mkApp2 (kC ``Array.mk [0]) (kC ``Obj) (listE (kC ``Obj) (os.toList.map λx=>mkApp x.2.2 p))) life)
  return (os,{ S with heap:=<-put `h (<-mkArrow P (kC ``Heap)) v})
 let v <-withLocalDeclD `P P λp=>mkLambdaFVars #[p] (treeE p (os.map (·.2.2)) 1 0)
 return (os,{ S with tree:=some (<-put `t (<-mkArrow P (kC ``BT)) v,nL s.heap.objs.size,life)})
def aux(ty pf:Ex):MetaM Ex:=do return kC (<-withOptions (Elab.async.set · false) (mkAuxLemma [] ty pf (cache:=false)))
def look:Nat->Ex->Ex->MetaM Ex
 |k,l,r=>do
  let W:=kC ``World
  let O:=kC ``OsState
  let q <-withLocalDeclD `w W λw=>withLocalDeclD `os O λos=>do
   let un (e:Ex):MetaM Ex:=do
    let e:=(mkApp2 e w os).headBeta
    if e.isAppOf ``openSeen || e.isAppOf ``openGood then return (<-unfoldDefinition? e).getD e
    return e
   let (a,b):=(<-un l,<-un r)
   unless a.isAppOfArity ``Prod.mk 4 && b.isAppOfArity ``Prod.mk 4 do return none
   let sh (e:Ex) (i:Nat):MetaM Ex:=mkLambdaFVars #[w,os] (e.getArg! i)
   return some (<-sh a 2,<-sh b 2,<-sh a 3,<-sh b 3)
  match k,q with
  |n+1,some (a1,b1,a2,b2)=>
   let (x,y):=(<-look n a1 b1,<-look n a2 b2)
   let (ty,pf) <-withLocalDeclD `w W λw=>withLocalDeclD `os O λos=>do
    return (<-mkForallFVars #[w,os] (<-mkEq (mkApp2 l w os).headBeta (mkApp2 r w os).headBeta),<-mkLambdaFVars #[w,os] (<-aM ``looks_pair #[mkApp2 x w os,mkApp2 y w os]))
   aux ty pf
  |_,_=>
   let P <-withLocalDeclD `w W λw=>do mkLambdaFVars #[w] (<-mkEq (mkApp l w).headBeta (mkApp r w).headBeta)
   discard <| prep P
   let e <-byKernelQuick P []
   withLocalDeclD `w W λw=>withLocalDeclD `os O λos=>do mkLambdaFVars #[w,os] (<-aM ``congrFun #[mkApp e w,os])
def most:Nat:=3000
def left(g:MVarId)(pE:Ex)(p:Program)(_:List String):MetaM Unit:=g.withContext do
 let a:=(<-instantiateMVars (<-g.getType)).consumeMData.getAppArgs
 let some N <-(Meta.evalNat a[7]!).run|throwError "no number"
 let (.ok t,.ok t'):=(<-traceTop p N 1,<-traceTop p N 2)|throwError "no trace"
 let tb:=kC ``treeTable
 let (W,O):=(kC ``World,kC ``OsState)
 let m0:=nL t.s0.heap.objs.size
 let ann:=toExpr t.ann
 let main <-aM ``Program.main #[pE]
 let op <-aM ``opening #[pE]
 let e1 <-aux (<-mkEq op (mkApp (kC ``plainProg) (<-aM ``Scope.names #[<-aM ``Module.scope #[main]]))) (<-mkEqRefl op)
 let e2 <-withLocalDeclD `s (kC ``Shared) λs=>do
  let r <-aM ``some #[s]
  aux (<-mkForallFVars #[s] (<-mkEq (mkApp2 (kC ``fenceModules?) pE s) r)) (<-mkLambdaFVars #[s] (<-mkEqRefl r))
 let e3 <-mkDecideProof (<-mkEq (mkApp2 (kC ``Nat.ble) (nL 600) a[7]!) (kC ``Bool.true))
 let boot:=mkAppN (kC ``boot_open) #[pE,a[7]!,e1,e3,e2]
 let bE <-aM ``behindTheImports #[pE]
 let some cells <-cellsD? bE|throwError "no body"
 let env0 <-Elab.Term.TermElabM.run' do
  let s1 <-Elab.Term.exprToSyntax (<-aM ``Module.scope #[main])
  let s2 <-Elab.Term.exprToSyntax (toExpr t.code)
  let e <-Elab.Term.withSynthesize (Elab.Term.elabTermEnsuringType (<-`(({ scope:=$s1,locals:=mainNs,globals:=mainNs,cells:=[],code:=$s2,frame:=some $(quote t.frame)}:Env))) (kC ``Env))
  instantiateMVars e
 let env <-defAt `env (kC ``Env) env0
 let fp:=toExpr t.framePos
 let cE:=mkApp2 (kC ``Code.body) bE env
 let B:=listE (kC ``Frame) [mkApp (kC ``topFrame) fp]
 let go (f:Name) (more:Array Ex) (n:Nat) (w s th:Ex):Ex:=mkAppN (kC f) (#[tb,pE,w,m0,ann]++more++#[nL n,s,th])
 let one:=#[nL 1]
 let piece (rows:List String) (l r:Ex->Ex->MetaM Ex):MetaM Ex:=do
  for x in [pE,env] do discard <| prep x
  byPiece rows l r
 let ends (S:Ex) (pos:Pos):MetaM Ex:=do aM ``some #[<-aM ``Prod.mk #[kC ``Flow.next,<-aM ``Prod.mk #[S,<-aM ``Prod.mk #[cE,toExpr pos]]]]
 let rowsOf (x y:Snap):=(x.rows++y.rows).eraseDups
 let mut o:Objs:=#[]
 for i in [0:t.s0.heap.objs.size] do o:=o.push (t.s0.heap.objs[i]!,t'.s0.heap.objs[i]!,kC ((`PySem.W).str s!"boot_o_{i}"))
 let S0:PySem.W.State:={ heap:=kC ``boot_heap,gens:=mkApp2 (kC ``Array.mk [0]) (kC ``GenState) (mkApp (kC ``List.nil [0]) (kC ``GenState)),drawn:=kC ``boot_drawn,toks:=kC ``boot_toks}
 let (o1,Sa) <-state true o t.pre.s t'.pre.s
 let thA:=mkApp4 (kC ``Thread.mk) (mkApp2 (kC ``denote) tb cE) cE (toExpr t.pre.pos) B
 let stub:=mkApp (kC ``topStub) pE
 let pre <-piece (rowsOf t.pre t'.pre) (λw os=>pure (go ``topGo #[] t.pre.steps w (S0.at w os) stub)) λw os=>do aM ``some #[<-aM ``Prod.mk #[Sa.at w os,thA]]
 let (o2,Sb) <-state false o1 t.block.s t'.block.s
 let block <-piece (rowsOf t.block t'.block) (λw os=>pure (go ``segRun one t.block.steps.succ w (Sa.at w os) (mkAppN (kC ``blockOf) #[bE,env,cE,toExpr t.pre.pos,B]))) λw os=>ends (Sb.at w os) t.block.pos
 let mut gs:Array (List Ex×Nat×Snap×Snap×List String):=#[]
 for (st,x,x') in cells.zip (t.pieces.zip t'.pieces) do
  let k:=max x.steps x'.steps
  let rs:=rowsOf x x'
  match gs.back? with
  |some (l,n,_,_,r)=>
   if n+k<=most && (r++rs).eraseDups.length<=3 then gs:=gs.pop.push (l++[st],n+k,x,x',(r++rs).eraseDups) else gs:=gs.push ([st],k,x,x',rs)
  |none=>gs:=gs.push ([st],k,x,x',rs)
 let mut cur:=(o2,Sb,t.block.pos)
 let mut lems:=#[]
 for (sts,n,x,x',rs) in gs do
  let stE <-defAt `st (mkApp (kC ``List [0]) (kC ``Stmt)) (listE (kC ``Stmt) sts)
  discard <| prep stE
  let (o0,S1,p1):=cur
  let (o',S') <-state false o0 x.s x'.s
  let th:=mkAppN (kC ``piecesOf) #[stE,env,cE,toExpr p1,B]
  let h <-piece rs (λw os=>pure (go ``segRunT one n.succ w (S1.atT w os) th)) λw os=>ends (S'.atT w os) x.pos
  lems:=lems.push (stE,n.succ,S1,p1,S',x.pos,<-liftT h ``segRun_of)
  cur:=(o',S',x.pos)
  logInfo m!"PIECE {sts.length} {n} {x.s.heap.objs.size}"
 let (oN,SN,pN):=cur
 let (_,Sf) <-state true oN t.fin.s t'.fin.s
 let fin <-piece (rowsOf t.fin t'.fin) (λw os=>pure (go ``topRun #[] t.fin.steps.succ w (SN.at w os) (mkApp4 (kC ``Thread.mk) (mkApp (kC ``doneF) (kC ``Flow.next)) cE (toExpr pN) B))) λw os=>aM ``some #[Sf.at w os]
 let run <-withLocalDeclD `w W λw=>withLocalDeclD `os O λos=>do
  let w1 (l:Ex):MetaM Ex:=do aM ``congrFun #[mkApp l w,os]
  let r:=Sf.at w os
  let com:=#[tb,pE,w,m0,ann,env,fp]
  let mut k <-w1 fin
  let mut M:=nL t.fin.steps.succ
  let mut rest:=listE (kC ``Stmt) []
  for (stE,n,S1,p1,S',p2,h) in lems.toList.reverse do
   k:=mkAppN (kC ``piece_app) (com++#[nL n,M,S1.at w os,S'.at w os,r,stE,rest,cE,toExpr p1,toExpr p2,<-w1 h,k])
   M:=mkApp2 (kC ``Nat.add) (nL n) M
   rest <-aM ``HAppend.hAppend #[stE,rest]
  k:=mkAppN (kC ``piece_block) (com++#[nL t.block.steps.succ,M,Sa.at w os,Sb.at w os,r,bE,cE,toExpr t.pre.pos,toExpr t.block.pos,<-w1 block,k])
  M:=mkApp2 (kC ``Nat.add) (nL t.block.steps.succ) M
  k:=mkAppN (kC ``go_top) #[tb,pE,w,m0,ann,nL t.pre.steps,M,S0.at w os,Sa.at w os,r,stub,thA,<-w1 pre,k]
  M:=mkApp2 (kC ``Nat.add) (nL t.pre.steps) M
  let ty <-mkEq (mkAppN (kC ``topRun) #[tb,pE,w,m0,ann,M,S0.at w os,stub]) (<-aM ``some #[r])
  return (M,<-aux (<-mkForallFVars #[w,os] ty) (<-mkLambdaFVars #[w,os] k))
 let lem:=kC ``LeftO.of_pieces
 let (ms,_,_) <-forallMetaTelescope (<-inferType lem)
 let vs:=#[pE,a[1]!,a[2]!,a[3]!,a[4]!,a[5]!,a[6]!,a[7]!,a[8]!,S0.heap,Sf.heap,S0.gens,Sf.gens,S0.drawn,Sf.drawn,S0.toks,Sf.toks,m0,ann,run.1]
 for (m,v) in ms.zip vs do m.mvarId!.assign v
 let want (i:Nat):MetaM Ex:=do instantiateMVars (<-inferType ms[i]!)
 let .forallE n1 d1 b1 i1 <-want 21|throwError "size"
 let size <-byKernelQuick (.lam n1 d1 b1 i1) []
 let .forallE _ _ bl _ <-want 24|throwError "looks"
 let (l,r) <-withLocalDeclD `w W λw=>do
  let some (_,l,r):=(bl.instantiate1 w).eq?|throwError "looks"
  return (<-mkLambdaFVars #[w] l,<-mkLambdaFVars #[w] r)
 let h <-look 12 l r
 let looks <-withLocalDeclD `w W λw=>do
  let f <-withLocalDeclD `os O λos=>mkLambdaFVars #[os] (mkApp2 h w os)
  mkLambdaFVars #[w] (<-aM ``funext #[f])
 g.assign (mkAppN lem (vs++#[boot,size,run.2,<-mkDecideProof (<-want 23),looks]))
simproc_decl hd0 (PySem.W.OpenLaw.Holds _):=λe=>do
 if let .const (.str p s) _:=e.appArg! then twin 9 (p.str ("p"++(s.drop 1).toString))
 return .continue
simproc_decl hd (PySem.W.OpenRow.Holds _):=λ_=>do
 PySem.W.leftPieces.set (some left)
 return .continue
end Carry.Hd
noncomputable section
set_option Elab.async false
set_option maxRecDepth 100000
set_option tactic.hygienic false
abbrev ah:=@PySem.Value
abbrev aq:=@PySem.Shared
abbrev ai:=@PySem.Addr
abbrev uj:=@PySem.SetTable
abbrev aj:=@Option.{0}
abbrev lu:=@PySem.FuncData
abbrev cP:=@PySem.Around
abbrev dq:=@PySem.Program
abbrev oR:=@PySem.NameKind
abbrev bT:=@PySem.Heap
abbrev cF:=@PySem.World
abbrev aJ:=@PySem.W.Frag
abbrev fX:=@PySem.W.Frag
namespace L2
open PySem PySem.Spec PyProof.Rows
abbrev Key:=Sum Int Str
noncomputable def wG:Key->ah->Bool
 |.inl k,v=>Value.isInt k v
 |.inr x,v=>Value.isStrOf x v
noncomputable def K3(w:cF):Key->Int
 |.inl k=>hashInt k
 |.inr x=>hashStr w x
theorem xV:∀{k:Key} {v:ah},wG k v=true->(∃i t,k=Sum.inl i/\v=Value.int i t)\/(∃x t,k=Sum.inr x/\v=Value.str x t)
 |.inl i,v,h=>by
  obtain⟨t,e⟩:=Value.isInt_shape (k:=i) (v:=v) h;exact .inl ⟨i,t,rfl,e⟩
 |.inr x,v,h=>by
  obtain⟨t,e⟩:=Value.isStrOf_shape (x:=x) (v:=v) h;exact .inr ⟨x,t,rfl,e⟩
def ZC(a b:Int):decide ((Sum.inl a:Key)=Sum.inl b)=(a == b):=by
 by_cases e:a=b
 .subst e;simp
 .have h:¬(Sum.inl a:Key)=Sum.inl b:=λq=>e (Sum.inl.inj q)
  rw[qK h];exact(pX.mpr e).symm
def ZD(a b:Str):decide ((Sum.inr a:Key)=Sum.inr b)=decide (a=b):=by
 by_cases e:a=b
 .subst e;simp
 .have h:¬(Sum.inr a:Key)=Sum.inr b:=λq=>e (Sum.inr.inj q)
  rw[qK h,qK e]
def ZE(a:Int)(b:Str):decide ((Sum.inl a:Key)=Sum.inr b)=false:=qK (λq=>nomatch q)
def ZF(a:Str)(b:Int):decide ((Sum.inr a:Key)=Sum.inl b)=false:=qK (λq=>nomatch q)
def Jm(prog:dq)(w:cF):PySem.KeyKind prog w Key where
 is:=wG
 hash:=K3 w
 inj:=λv a b ha hb=>by
  grind [xV]
 byValue:=λk v h=>by
  rcases xV h with⟨i,t,rfl,rfl⟩|⟨x,t,rfl,rfl⟩ <;> rfl
 pyHash:=λhv h=>by
  rcases xV hv with⟨i,t,rfl,rfl⟩|⟨x,t,rfl,rfl⟩
  .exact wpAny_pyHash_int h
  .exact wpAny_pyHash_str h
 eqBool:=λhu hv h=>by
  rcases xV hu with⟨i,t,rfl,rfl⟩|⟨x,t,rfl,rfl⟩
  .rcases xV hv with⟨j,u,rfl,rfl⟩|⟨y,u,rfl,rfl⟩
   .rw[ZC] at h;exact wpAny_eqBool_int h
   .rw[ZE] at h;exact SeqAt.EqAt.int_str i t y u _ _ _ _ h
  .rcases xV hv with⟨j,u,rfl,rfl⟩|⟨y,u,rfl,rfl⟩
   .rw[ZF] at h;exact SeqAt.EqAt.str_int x t j u _ _ _ _ h
   .rw[ZD] at h;exact wpAny_eqBool_str h
 «strs»:=λk x t v h=>by
  rcases xV h with⟨i,u,rfl,e⟩|⟨y,u,rfl,e⟩
  .exact nomatch e
  .injection e with e1 _;subst e1;cases v <;> rfl
inductive V where
 |aM|bl (b:Bool)|int (i:Int)|str (x:Str)|wa (b:Array UInt8)|AM (b:UInt64)|ref (a:ai)|ty (n:String)
 deriving DecidableEq
def RelV:V->ah->Prop
 |.aM,u=>u=Value.none
 |.bl b,u=>u=Value.bool b
 |.int i,u=>∃t,u=Value.int i t
 |.str x,u=>∃t,u=Value.str x t
 |.wa b,u=>∃t,u=Value.bytes b t
 |.AM b,u=>∃t,u=Value.float b t
 |.ref a,u=>u=Value.ref a
 |.ty n,u=>u=Value.type n
abbrev Vals:List V->List ah->Prop:=Paired RelV
theorem Vals.length{xs:List V}{us:List ah}(r:Vals xs us):xs.length=us.length:=Paired.length r
theorem Vals.get:∀{xs:List V} {us:List ah} {i:Nat} {x:V},Vals xs us->xs[i]?=some x->∃u,us[i]?=some u/\RelV x u
 |_,_,_,_,.nil,e=>by simp at e
 |_,_,0,_,.cons r _,e=>by simp at e;subst e;exact⟨_,rfl,r⟩
 |_,_,i+1,x,.cons _ t,e=>by
  obtain⟨u,h1,h2⟩:=Vals.get (i:=i) (x:=x) t (by simpa using e)
  exact⟨u,by simpa using h1,h2⟩
theorem Vals.set{x:V}{u:ah}(r:RelV x u):∀{xs:List V} {us:List ah} (i:Nat),Vals xs us->Vals (xs.set i x) (us.set i u)
 |_,_,_,.nil=>.nil
 |_,_,0,.cons _ t=>.cons r t
 |_,_,i+1,.cons q t=>.cons q (Vals.set r i t)
def Vals.append{xs ys:List V}{us ws:List ah}(h:Vals xs us)(s:Vals ys ws):Vals (xs++ys) (us++ws):=by
 induction h with
 |nil=>exact s
 |cons r t ih=>exact .cons r ih
theorem Vals.take:∀{xs:List V} {us:List ah} (n:Nat),Vals xs us->Vals (xs.take n) (us.take n)
 |_,_,0,_=>.nil
 |_,_,_+1,.nil=>.nil
 |_,_,n+1,.cons r t=>.cons r (Vals.take n t)
theorem Vals.drop:∀{xs:List V} {us:List ah} (n:Nat),Vals xs us->Vals (xs.drop n) (us.drop n)
 |_,_,0,r=>r
 |_,_,_+1,.nil=>.nil
 |_,_,n+1,.cons _ t=>Vals.drop n t
def iN:aj V->aj ah->Prop
 |some v,some u=>RelV v u
 |none,none=>True
 |_,_=>False
def KV{κ:Type}:List (κ×V)->List (κ×ah)->Prop:=Paired λ(p:κ×V) (q:κ×ah)=>p.1=q.1/\RelV p.2 q.2
noncomputable def kV:Key->V
 |.inl i=>.int i
 |.inr x=>.str x
inductive TK where
 |inl (i:Int)|inr (x:Str)|tp (l:List TK)|aM
mutual
def TK.beq:TK->TK->Bool
 |.inl a,.inl b=>decide (a=b)
 |.inr a,.inr b=>decide (a=b)
 |.tp l,.tp m=>TK.uL l m
 |.aM,.aM=>true
 |_,_=>false
def TK.uL:List TK->List TK->Bool
 |[],[]=>true
 |a::l,b::m=>TK.beq a b&&TK.uL l m
 |_,_=>false
end
mutual
theorem TK.beq_iff:∀a b:TK,TK.beq a b=true↔a=b
 |.inl a,.inl b=>⟨λe=>by rw[xx (show decide (a=b)=true from e)],λe=>by cases e;exact qX rfl⟩
 |.inr a,.inr b=>⟨λe=>by rw[xx (show decide (a=b)=true from e)],λe=>by cases e;exact qX rfl⟩
 |.tp l,.tp m=>⟨λe=>by rw[(TK.j' l m).mp e],λe=>by cases e;exact(TK.j' l l).mpr rfl⟩
 |.inl _,.inr _=>⟨λe=>(nomatch (show false=true from e)),λe=>(nomatch e)⟩
 |.inl _,.tp _=>⟨λe=>(nomatch (show false=true from e)),λe=>(nomatch e)⟩
 |.inr _,.inl _=>⟨λe=>(nomatch (show false=true from e)),λe=>(nomatch e)⟩
 |.inr _,.tp _=>⟨λe=>(nomatch (show false=true from e)),λe=>(nomatch e)⟩
 |.tp _,.inl _=>⟨λe=>(nomatch (show false=true from e)),λe=>(nomatch e)⟩
 |.tp _,.inr _=>⟨λe=>(nomatch (show false=true from e)),λe=>(nomatch e)⟩
 |.aM,.aM=>⟨λ_=>rfl,λ_=>rfl⟩
 |.aM,.inl _=>⟨λe=>(nomatch (show false=true from e)),λe=>(nomatch e)⟩
 |.aM,.inr _=>⟨λe=>(nomatch (show false=true from e)),λe=>(nomatch e)⟩
 |.aM,.tp _=>⟨λe=>(nomatch (show false=true from e)),λe=>(nomatch e)⟩
 |.inl _,.aM=>⟨λe=>(nomatch (show false=true from e)),λe=>(nomatch e)⟩
 |.inr _,.aM=>⟨λe=>(nomatch (show false=true from e)),λe=>(nomatch e)⟩
 |.tp _,.aM=>⟨λe=>(nomatch (show false=true from e)),λe=>(nomatch e)⟩
theorem TK.j':∀l m:List TK,TK.uL l m=true↔l=m
 |[],[]=>⟨λ_=>rfl,λ_=>rfl⟩
 |a::l,b::m=>by show(TK.beq a b&&TK.uL l m)=true↔_;rw[jD,TK.beq_iff a b,TK.j' l m];exact⟨λe=>by rw[e.1,e.2],λe=>by cases e;exact⟨rfl,rfl⟩⟩
 |[],_::_=>⟨λe=>(nomatch (show false=true from e)),λe=>(nomatch e)⟩
 |_::_,[]=>⟨λe=>(nomatch (show false=true from e)),λe=>(nomatch e)⟩
end
instance:DecidableEq TK:=λa b=>decidable_of_iff _ (TK.beq_iff a b)
mutual
def TK.hash(w:cF):TK->Int
 |.inl i=>hashInt i
 |.inr x=>hashStr w x
 |.tp l=>reduceHash (Builtin.Tuple.tupleHashOf (TK.eJ w l))
 |.aM=>4238894112
def TK.eJ(w:cF):List TK->List Int
 |[]=>[]
 |a::l=>TK.hash w a::TK.eJ w l
end
def TK.ok:Nat->TK->Bool
 |n+1,.tp l=>l.all (TK.ok n)
 |0,.tp _=>false
 |_,_=>true
def i4(w:cF)(e:TK×V×V)(x:DictEntry):Prop:=x.hash=e.1.hash w/\RelV e.2.1 x.key/\RelV e.2.2 x.val/\e.1.ok 8=true
inductive HO where
  |lst (xs:List V)
  |tup (xs:List V)
  |dK (kvs:List (Key×V))|dT (kvs:List (List Key×V))
  |dG (es:List (TK×V×V)) (ep:Nat)
  |set (S:Int->Bool) (n:Nat)
  |ins (C dx:ai) (fs:List (Str×V))
  |own (x:ai)
  |xd (fs:List (Str×V))
  |met (f x:ai)
  |Lz (lo hi:Int)
  |Y (o:Obj) (u:HO)
  |zR (ps:Array ah)
  |ext (φ:bT->Prop)
abbrev Hp:=ai->aj HO
noncomputable def upd(H:Hp)(a:ai)(o:HO):Hp:=λb=>if b=a then some o else H b
theorem aK{H:Hp}{a:ai}{o:HO}:upd H a o a=some o:=by unfold upd;rw[bx rfl]
theorem dH{H:Hp}{a b:ai}{o:HO}(h:b≠a):upd H a o b=H b:=by unfold upd;rw[bc h]
def W9{H:Hp}{a:ai}{o u:HO}:upd (upd H a o) a u=upd H a u:=by
 funext b;unfold upd;split <;> rfl
def rP{H:Hp}{a b:ai}{o:HO}(h:H a=some o)(h':H b=none):a≠b:=by
 lia
section
variable(P:dq)(w:cF)
def bI(H:Hp)(h:bT)(a:ai):HO->Prop
 |.lst xs=>xs.length<=sizeLine/\∃(aE:List ah) (n:Nat),Vals xs aE/\h.get? a=some { cls:=.type "list",data:=.seq aE.toArray n}
 |.tup xs=>xs.length<=sizeLine/\∃aE:List ah,Vals xs aE/\IsTup h a aE.toArray
 |.dK kvs=>kvs.length<=sizeLine/\(a == sysModules)=false/\∃vs,KV kvs vs/\h.DictOf (Jm P w) a vs
 |.dT kvs=>kvs.length<=sizeLine/\(a == sysModules)=false/\∃xs:List (List Key×ai×ah),
   Paired (λ(p:List Key×V) (q:List Key×ai×ah)=>p.1=q.1/\H q.2.1=some (.tup (p.1.map kV))/\RelV p.2 q.2.2) kvs xs/\
   ∃o es ep,h.get? a=some o/\o.ExactDict/\o.data=.dict es ep/\es.toList=xs.map (entryOfKey (tupleKind (Jm P w)))/\(xs.map (·.1)).Nodup
 |.dG es ep=>es.length<=sizeLine/\(a == sysModules)=false/\∃o xs,h.get? a=some o/\o.ExactDict/\o.data=.dict xs ep/\Paired (i4 w) es xs.toList/\(es.map (·.1)).Nodup
 |.set S n=>h.SetOf (intKind P w) a S n
 |.ins C dx fs=>H dx=some (.own a)/\fs.length<=1000/\dx≠a/\h.get? a=some (PySem.W.instObj C dx)/\
   ∃mA,h.Ns1 dx mA/\(∀f,iN (fs.lookup f) (mA f))/\PySem.Within mA (fs.map (·.1))
 |.own _=>∃o,h.get? a=some o
 |.xd fs=>∃mA,h.Ns1 a mA/\∀f,iN (fs.lookup f) (mA f)
 |.Lz lo hi=>∃t u v,h.get? a=some { cls:=.type "range",data:=.fields #[.int lo t,.int hi u,.int 1 v]}
 |.Y o u=>h.get? a=some o/\bI H h a u
 |.zR ps=>h.get? a=some { cls:=.none,data:=.fields ps}
 |.met f x=>h.get? a=some (PySem.W.methodObj (.ref f) (.ref x))
 |.ext φ=>φ h/\(∃o,h.get? a=some o)/\∀h1 h2:bT,φ h1->(∀o,h1.get? a=some o->h2.get? a=some o)->φ h2
def i9(H:Hp)(h:bT):Prop:=∀a o,H a=some o->bI P w H h a o
end
section
variable{P:dq}{w:cF}{H H':Hp}{h h':bT}{a:ai}{o:HO}
theorem bI.lt(x:bI P w H h a o):a<h.objs.size:=by
 cases o with
 |lst xs=>obtain⟨_,_,_,_,e⟩:=x;exact cQ e
 |tup xs=>obtain⟨_,_,_,p⟩:=x;exact p.lt
 |dK kvs=>obtain⟨_,_,_,_,o,_,_,e,_⟩:=x;exact cQ e
 |dT kvs=>obtain⟨_,_,_,_,o,_,_,e,_⟩:=x;exact cQ e
 |dG es ep=>obtain⟨_,_,o,_,e,_⟩:=x;exact cQ e
 |set S n=>obtain⟨o,_,_,_,e,_⟩:=x;exact cQ e
 |ins C dx fs=>obtain⟨_,_,_,e,_⟩:=x;exact cQ e
 |own y=>obtain⟨_,e⟩:=x;exact cQ e
 |xd fs=>obtain⟨_,⟨_,_,_,e,_⟩,_⟩:=x;exact cQ e
 |Lz lo hi=>obtain⟨_,_,_,e⟩:=x;exact cQ e
 |Y ob u=>obtain⟨e,_⟩:=x;exact cQ e
 |zR ps=>exact cQ (show h.get? a=some _ from x)
 |met f y=>exact cQ (show h.get? a=some _ from x)
 |ext φ=>obtain⟨_,⟨_,e⟩,_⟩:=x;exact cQ e
def Paired.Di{α β:Type}{F G:α->β->Prop}{l₁:List α}{l₂:List β}(h:Paired F l₁ l₂)(f:∀a b,F a b->G a b):Paired G l₁ l₂:=by
 induction h with
 |nil=>exact .nil
 |cons r t ih=>exact .cons (f _ _ r) ih
def bI.mE(x:bI P w H h a o)(k:∀b u,(b=a\/H b=some (.own a))->h.get? b=some u->h'.get? b=some u)
  (ho:∀b,H b=some (.own a)->H' b=some (.own a)) (ht:∀b xs,H b=some (.tup xs)->H' b=some (.tup xs)):bI P w H' h' a o:=by
 induction o with
 |lst xs=>obtain⟨z,aE,n,r,e⟩:=x;exact⟨z,aE,n,r,k _ _ (.inl rfl) e⟩
 |tup xs=>obtain⟨z,aE,r,ob,e,c⟩:=x;exact⟨z,aE,r,ob,k _ _ (.inl rfl) e,c⟩
 |dK kvs=>obtain⟨z,y,vs,r,ob,es,ep,e,c⟩:=x;exact⟨z,y,vs,r,ob,es,ep,k _ _ (.inl rfl) e,c⟩
 |dT kvs=>
  obtain⟨z,y,xs,r,ob,es,ep,e,c⟩:=x;exact⟨z,y,xs,Paired.Di r λp q z=>⟨z.1,ht _ _ z.2.1,z.2.2⟩,ob,es,ep,k _ _ (.inl rfl) e,c⟩
 |dG es ep=>obtain⟨z,y,ob,xs,e,c⟩:=x;exact⟨z,y,ob,xs,k _ _ (.inl rfl) e,c⟩
 |set S n=>obtain⟨ob,es,ep,t,e,c⟩:=x;exact⟨ob,es,ep,t,k _ _ (.inl rfl) e,c⟩
 |ins C dx fs=>
  obtain⟨d,z,ne,e,mA,⟨od,es,ep,e2,c⟩,r⟩:=x;exact⟨ho _ d,z,ne,k _ _ (.inl rfl) e,mA,⟨od,es,ep,k _ _ (.inr d) e2,c⟩,r⟩
 |own y=>obtain⟨ob,e⟩:=x;exact⟨ob,k _ _ (.inl rfl) e⟩
 |xd fs=>obtain⟨mA,⟨od,es,ep,e,c⟩,r⟩:=x;exact⟨mA,⟨od,es,ep,k _ _ (.inl rfl) e,c⟩,r⟩
 |Lz lo hi=>obtain⟨t,u,v,e⟩:=x;exact⟨t,u,v,k _ _ (.inl rfl) e⟩
 |Y ob u ih=>obtain⟨e,q⟩:=x;exact⟨k _ _ (.inl rfl) e,ih q⟩
 |zR ps=>
  have e:h.get? a=some { cls:=.none,data:=.fields ps}:=x;show h'.get? a=some { cls:=.none,data:=.fields ps};exact k a _ (.inl rfl) e
 |met f y=>
  have e:h.get? a=some (PySem.W.methodObj (.ref f) (.ref y)):=x;show h'.get? a=some (PySem.W.methodObj (.ref f) (.ref y));exact k a _ (.inl rfl) e
 |ext φ=>obtain⟨p,⟨o,e⟩,st⟩:=x;exact⟨st _ _ p λo q=>k _ _ (.inl rfl) q,⟨o,k _ _ (.inl rfl) e⟩,st⟩
theorem i9.lt(x:i9 P w H h)(e:H a=some o):a<h.objs.size:=(x a o e).lt
def i9.fresh(x:i9 P w H h)(e:h.objs.size<=a):H a=none:=by
 cases q:H a with
 |none=>rfl
 |some u=>exact cz (f7 (x.lt q) e) (jY _)
def i9.kept(x:i9 P w H h)(k:∀b u,h.get? b=some u->h'.get? b=some u):i9 P w H h':=λa o e=>
 (x a o e).mE (λb u _ q=>k b u q) (λ_ q=>q) λ_ _ q=>q
def i9.laid(x:i9 P w H h)(k:∀b u,h.get? b=some u->h'.get? b=some u)(hp:h.objs.size<=a)(new:bI P w (upd H a o) h' a o):i9 P w (upd H a o) h':=λb u e=>by
 have hn:=x.fresh hp;by_cases hb:b=a
 .subst hb;rw[aK] at e;cases e;exact new
 .rw[dH hb] at e;exact(x b u e).mE (λc v _ q=>k c v q) (λc q=>by rw[dH (rP q hn)];exact q) λc xs q=>by rw[dH (rP q hn)];exact q
end
def Rd(H:Hp)(a:ai)(u:HO):Prop:=H a=some u\/∃o,H a=some (.Y o u)
def Rd.ok{P:dq}{w:cF}{H:Hp}{h:bT}{a:ai}{u:HO}(r:Rd H a u)(x:i9 P w H h):bI P w H h a u:=by
 rcases r with r|⟨o,r⟩
 .exact x a u r
 .obtain⟨_,q⟩:=x a _ r;exact q
def Bl:aj HO->Prop
 |some (.lst _)=>True
 |some (.dK _)=>True
 |some (.dT _)=>True
 |some (.dG _ _)=>True
 |some (.set _ _)=>True
 |some (.ins _ _ _)=>True
 |some (.ext _)=>True
 |_=>False
section
variable{P:dq}{w:cF}{H:Hp}{h h':bT}{x e:ai}{o':HO}
def i9.write(ok:i9 P w H h)(mu:Bl (H x))(he:e=x\/H e=some (.own x))(k:∀b u,b≠e->h.get? b=some u->h'.get? b=some u)(AS:∃u,h'.get? e=some u)
  (new:bI P w (upd H x o') h' x o'):i9 P w (upd H x o') h':=λb u q=>by
 have Ld:∀c y,H c=some (.own y)->c≠x:=λc y r z=>by subst z;rw[r] at mu;exact mu
 have Le:∀c xs,H c=some (.tup xs)->c≠x:=λc xs r z=>by subst z;rw[r] at mu;exact mu
 by_cases hb:b=x
 .grind [aK]
 .rw[dH hb] at q;by_cases AQ:b=e
  .have q':H b=some (.own x):=by
    rcases he with z|z
    .exact cz (AQ.trans z) hb
    .rw[AQ];exact z
   rw[q] at q';cases q';obtain⟨v,hv⟩:=AS;exact⟨v,by rw[AQ];exact hv⟩
  .refine(ok b u q).mE (λc v hc r=>k c v ?_ r) (λc r=>by rw[dH (Ld c b r)];exact r) λc xs r=>by rw[dH (Le c xs r)];exact r
   grind
end
structure Un (fs ex:List ai) (H H':Hp) (h h':bT):Prop where
 keep:∀b o,h.get? b=some o->H b=none->b∉fs->b∉ex->h'.get? b=some o
 slot:∀b o,h.get? b=some o->H b=none->b∈fs->b∉ex->∃sl,h'.get? b=some { o with slots:=sl}
 free:∀b o,h.get? b=some o->H b=none->b∉ex->H' b=none
 there:∀b o,h.get? b=some o->b∉ex->∃o',h'.get? b=some o'
 k_:∀b xs,H b=some (.tup xs)->H' b=some (.tup xs)
 kg:∀b o u,H b=some (.Y o u)->H' b=some (.Y o u)
 k9:∀b ps,H b=some (.zR ps)->∃more,H' b=some (.zR (ps++more))
section
variable{fs AN ex ex':List ai}{H H1 H2:Hp}{h h1 h2 h':bT}{a x e:ai}{o:HO}
def Un.any(u:Un fs ex H H1 h h1){b:ai}{ob:Obj}(q:h.get? b=some ob)(n:H b=none)(hx:b∉ex):∃sl,h1.get? b=some { ob with slots:=sl}:=by
 by_cases hb:b∈fs
 .exact u.slot b ob q n hb hx
 .exact⟨ob.slots,u.keep b ob q n hb hx⟩
def Un.kept(k:∀b u,h.get? b=some u->h'.get? b=some u):Un fs ex H H h h':=
 ⟨λb ob q _ _ _=>k b ob q,λb ob q _ _ _=>⟨ob.slots,k b ob q⟩,λ_ _ _ n _=>n,λb ob q _=>⟨ob,k b ob q⟩,λ_ _ q=>q,λ_ _ _ q=>q,λ_ ps q=>⟨#[],by rw[q];simp⟩⟩
def Un.refl:Un fs ex H H h h:=Un.kept λ_ _ q=>q
def Un.laid(k:∀b u,h.get? b=some u->h'.get? b=some u)(hp:h.objs.size<=a)(hn:H a=none):Un fs ex H (upd H a o) h h' where
 keep:=λb u q _ _ _=>k b u q
 slot:=λb u q _ _ _=>⟨u.slots,k b u q⟩
 free:=λb u q n _=>by rw[dH (gH (f7 (cQ q) hp))];exact n
 there:=λb u q _=>⟨u,k b u q⟩
 k_:=λb xs q=>by rw[dH (rP q hn)];exact q
 kg:=λb u xs q=>by rw[dH (rP q hn)];exact q
 k9:=λb ps q=>⟨#[],by rw[dH (rP q hn),q];simp⟩
def Un.write(mu:Bl (H x))(he:e=x\/H e=some (.own x))(k:∀b u,b≠e->h.get? b=some u->h'.get? b=some u)(AS:∃u,h'.get? e=some u):Un fs ex H (upd H x o) h h':=by
 have hx:∀b,H b=none->b≠x:=λb n z=>by subst z;rw[n] at mu;exact mu
 have hb:∀b,H b=none->b≠e:=λb n z=>by
  subst z;rcases he with r|r
  .exact hx b n r
  .rw[n] at r;cases r
 have hm:∀b u,H b=some u->¬Bl (some u)->b≠x:=λb u q nm z=>by subst z;rw[q] at mu;exact nm mu
 refine⟨λb u q n _ _=>k b u (hb b n) q,λb u q n _ _=>⟨u.slots,k b u (hb b n) q⟩,λb u q n _=>by rw[dH (hx b n)];exact n,λb u q _=>?_,
  λb xs q=>by rw[dH (hm b _ q λz=>z)];exact q,λb u xs q=>by rw[dH (hm b _ q λz=>z)];exact q,λb ps q=>⟨#[],by rw[dH (hm b _ q λz=>z),q];simp⟩⟩
 by_cases AQ:b=e
 .subst AQ;exact AS
 .exact⟨u,k b u AQ q⟩
end
noncomputable def Hq(h:bT)(H:Hp):List ai:=(List.range h.objs.size).filter λa=>(H a).isSome
def l9(h:bT)(H:Hp):bT:=PySem.W.hideAll h (Hq h H)
def Uj(h:bT)(H:Hp):(l9 h H).objs.size=h.objs.size:=PySem.W.hideAll_size _ _
def Vt{h:bT}{H:Hp}{b:ai}{o:Obj}(e:h.get? b=some o)(n:H b=none):(l9 h H).get? b=some o:=
 PySem.W.hideAll_get _ e λhm=>by
  have q:(H b).isSome=true:=(pV.mp hm).2;rw[n] at q;simp at q
def W_{h:bT}{H:Hp}{b:ai}{o:Obj}(e:(l9 h H).get? b=some o):h.get? b=some o/\H b=none:=by
 have e':h.get? b=some o:=PySem.W.of_hideAll (Hq h H) e;refine⟨e',?_⟩;cases q:H b with
 |none=>rfl
 |some x=>
  have hm:b∈Hq h H:=pV.mpr ⟨tG.mpr (cQ e'),by simp[q]⟩
  have z:(l9 h H).get? b=none:=PySem.W.hideAll_none (Hq h H) hm;rw[z] at e;cases e
variable{t' i:Nat}{ch:List ai}{x:Str}{M:Model}{A:cP}{E:ah->aq->Prop}{v:V}{u:ah}{Q:Unit->aq->Prop}
structure Mod (K:aJ) (mg:Str->aj ah) (base:bT):Prop where
 AY:K.In base
 glob:base.Ns mainGlobals mg
 blt:∃mb,base.Ns builtinsNs mb/\∀x:Str,x≠"__name__"->mb x=bootBuiltins x
 nolimit:base.NoLimit
set_option genInjectivity false in
structure Cx where
 prog:dq
 w:cF
 K:aJ
 mg:Str->aj ah
 base:bT
 A:cP
 N:List Str
 s₀:aq
 H₀:Hp
 env:Env
 outer:List Env
 stack:List Env
 ex:List ai
 fn:Str->Bool
 calm:Bool
 pn:List (ai×Obj)
 xe:ah->aq->Prop
noncomputable def kf(l:List Env):List ai:=l.filterMap (·.frame)
abbrev Cx.fs(X:Cx):List ai:=kf X.outer
def HW(sc:Scope)(x:Str):Prop:=sc.names.lookup x=some .local \/ sc.names.lookup x=some .cell\/sc.names.lookup x=some .free
def Loc(sc:Scope)(x:Str):Prop:=sc.names.lookup x=some .local \/ sc.names.lookup x=some .cell
def Look(env:Env)(h:bT)(m:Str->aj ah)(x:Str)(u:ah):Prop:=
 (env.kindOf x=some .local /\ m x=some u)\/((env.kindOf x=some .cell\/env.kindOf x=some .free)/\∃c,env.cells.lookup x=some c/\h.IsCell c (some u))
structure Cx.Ok (X:Cx):Prop where
 mod:Mod X.K X.mg X.base
 kind:X.env.scope.kind=.function
 glob:X.env.globals=mainGlobals
 blt:X.env.builtins=builtinsNs
 above:X.s₀.heap.objs.size<=X.env.locals
 inj:∀x y c,X.env.cells.lookup x=some c->X.env.cells.lookup y=some c->x=y
 has:∀x,(X.env.kindOf x=some .cell\/X.env.kindOf x=some .free)->∃c,X.env.cells.lookup x=some c
 yy:∀x c,X.fn x=true->X.env.cells.lookup x=some c->X.s₀.heap.objs.size<=c
 hd:X.calm=true->X.A.handled=none
 frames:X.A.frames=some X.stack
 A5:X.stack=X.outer\/(X.stack=X.env::X.outer/\X.env.frame=some X.env.locals)
 GC:∀b∈X.ex,b≠X.env.locals/\∀x c,X.env.cells.lookup x=some c->c≠b
 bs:∀b o,X.base.get? b=some o->X.s₀.heap.get? b=some o/\X.H₀ b=none
 rY:X.base.objs.size<=X.s₀.heap.objs.size
 oK:∀b o,X.base.get? b=some o->b∉X.ex
 qt:∀b∈X.ex,b∉X.fs
 iP:X.s₀.heap.FunFrames X.base X.outer
 uU:∀b∈X.fs,X.H₀ b=none
structure Inv (X:Cx) (aa:List (ai×Obj)) (Z:List (aj V)) (H:Hp) (s:aq):Prop where
 ok:X.Ok
 os:s.os=X.s₀.os
 bare:AllBare s.gens
 base:Un X.fs X.ex X.H₀ H X.s₀.heap s.heap
 loc:∃m,s.heap.Ns X.env.locals m/\∀(i:Nat) (x:Str) (v:V),X.N[i]?=some x->Z[i]?=some (some v)->HW X.env.scope x->∃u,RelV v u/\Look X.env s.heap m x u
 cell:∀x c,X.env.cells.lookup x=some c->∃v,s.heap.IsCell c v
 free:H X.env.locals=none
 eZ:∀x c,X.env.cells.lookup x=some c->H c=none
 pin:∀p∈X.pn++aa,s.heap.get? p.1=some p.2/\H p.1=none/\p.1≠X.env.locals/\p.1∉X.fs/\∀v,p.2.data≠.cell v
 bG:i9 X.prog X.w H s.heap
 len:Z.length=X.N.length
section
variable{X:Cx}{aa:List (ai×Obj)}{Z:List (aj V)}{H H':Hp}{s:aq}{h':bT}
def Cx.Ok.Lc(ok:X.Ok){b:ai}{o:Obj}(e:X.base.get? b=some o):b∉X.fs:=λhb=>by
 have:=(ok.iP.mem hb).1
 lia
theorem Inv.bs(I:Inv X aa Z H s):∀b o,X.base.get? b=some o->s.heap.get? b=some o/\H b=none:=λb o e=>
 ⟨I.base.keep b o (I.ok.bs b o e).1 (I.ok.bs b o e).2 (I.ok.Lc e) (I.ok.oK b o e),I.base.free b o (I.ok.bs b o e).1 (I.ok.bs b o e).2 (I.ok.oK b o e)⟩
def Inv.bk(I:Inv X aa Z H s):∀b o,X.base.get? b=some o->s.heap.get? b=some o:=λb o e=>(I.bs b o e).1
theorem Inv.mod(I:Inv X aa Z H s):Mod X.K X.mg X.base:=I.ok.mod
def Inv.jV(I:Inv X aa Z H s):X.K.In s.heap:=I.ok.mod.AY.keeps I.bk
theorem Inv.lt(I:Inv X aa Z H s):X.env.locals<s.heap.objs.size:=let ⟨_,hn,_⟩:=I.loc;hn.lt
def Inv.sz(I:Inv X aa Z H s):X.s₀.heap.objs.size<=s.heap.objs.size:=jo I.ok.above (Eo I.lt)
def Inv.zq(I:Inv X aa Z H s){a:ai}(h:s.heap.objs.size<=a):a∉X.fs:=λhb=>by
 obtain⟨_,o,ho,_⟩:=I.ok.iP.mem hb;exact cz (f7 (cQ ho) (jo I.sz h)) (jY _)
def Inv.yA(I:Inv X aa Z H s):∀x c,X.env.cells.lookup x=some c->c≠X.env.locals:=λx c e z=>by
 obtain⟨v,o,ho,hd⟩:=I.cell x c e;obtain⟨m,⟨o',es,ep,wk,pB,_⟩,_⟩:=I.loc
 lia
theorem Inv.iP(I:Inv X aa Z H s):s.heap.FunFrames X.base X.outer:=by
 have all:∀(l:List Env),(∀b∈kf l,b∈X.fs)->X.s₀.heap.FunFrames X.base l->s.heap.FunFrames X.base l:=by
  intro l
  induction l with
  |nil=>intro _ _;trivial
  |cons env r ih=>
   intro hs hl;obtain⟨hk,⟨L,o,hf,hn,ho,hd⟩,hr⟩:=hl;have hL:L∈X.fs:=hs L (by unfold kf;rw[qG,hf];exact vK)
   obtain⟨sl,e⟩:=I.base.slot L o ho (I.ok.uU L hL) hL λz=>I.ok.qt L z hL
   exact⟨hk,⟨L,_,hf,hn,e,hd⟩,ih (λb hb=>hs b (by unfold kf;rw[qG,hf];exact n8 _ hb)) hr⟩
 exact all X.outer (λ_ hb=>hb) I.ok.iP
def Inv.stack(I:Inv X aa Z H s):s.heap.FunFrames X.base X.stack:=by
 rcases I.ok.A5 with e|⟨e,hf⟩
 .rw[e];exact I.iP
 .rw[e];obtain⟨m,hn,_⟩:=I.loc;refine .cons (by rw[I.ok.kind];decide) hf hn ?_ I.iP
  exact Heap.get?_none_of_le (jo I.ok.rY I.ok.above)
def Inv.kE(I:Inv X aa Z H s):∀b∈kf X.stack,b∈X.env.locals::X.fs:=λb hb=>by
 rcases I.ok.A5 with e|⟨e,hf⟩
 .rw[e] at hb;exact n8 _ hb
 .rw[e] at hb;unfold kf at hb;rw[qG,hf] at hb;exact hb
def Inv.jX(I:Inv X aa Z H s):∀b∈kf X.stack,H b=none:=λb hb=>by
 rcases y0b.mp (I.kE b hb) with e|hb
 .rw[e];exact I.free
 .obtain⟨_,o,ho,_⟩:=I.ok.iP.mem hb;exact I.base.free b o ho (I.ok.uU b hb) λz=>I.ok.qt b z hb
def Inv.step{g':Array GenState}{t':Nat}{d':Drawn}{ch:List ai}(I:Inv X aa Z H s)
  (kJ:∀b∈ch,(b∈X.ex\/X.s₀.heap.objs.size<=b)/\b≠X.env.locals/\(∀x c,X.env.cells.lookup x=some c->c≠b)/\∀p∈X.pn++aa,p.1≠b)
  (keep:∀b o,b≠X.env.locals->b∉X.fs->b∉ch->s.heap.get? b=some o->H b=none->h'.get? b=some o)
  (slot:∀b o,b≠X.env.locals->b∈X.fs->b∉ch->s.heap.get? b=some o->H b=none->∃sl,h'.get? b=some { o with slots:=sl}) (free:∀b o,b∉ch->s.heap.get? b=some o->H b=none->H' b=none)
  (there:∀b o,b∉ch->s.heap.get? b=some o->∃o',h'.get? b=some o')
  (k_:∀b xs,H b=some (.tup xs)->H' b=some (.tup xs)) (kg:∀b o u,H b=some (.Y o u)->H' b=some (.Y o u)) (k9:∀b ps,H b=some (.zR ps)->∃more,H' b=some (.zR (ps++more)))
  (ns:∀m,s.heap.Ns X.env.locals m->h'.Ns X.env.locals m) (bG:i9 X.prog X.w H' h') (hg:AllBare g') :
  Inv X aa Z H' { s with heap:=h',gens:=g',drawn:=d',toks:=t'}:=by
 have So:∀b o,X.s₀.heap.get? b=some o->b≠X.env.locals:=λb o e=>gH (f7 (cQ e) I.ok.above)
 have Ha:∀b o,X.s₀.heap.get? b=some o->b∉X.ex->b∉ch:=λb o e hx hb=>by
  rcases(kJ b hb).1 with z|z
  .exact hx z
  .exact cz (f7 (cQ e) z) (jY _)
 have cellK:∀x c,X.env.cells.lookup x=some c->∀v,s.heap.IsCell c v->h'.IsCell c v:=λx c e v ⟨o,ho,hd⟩=>by
  have vg:c∉ch:=λz=>(kJ c z).2.2.1 x c e rfl
  by_cases hc:c∈X.fs
  .obtain⟨sl,q⟩:=slot c o (I.yA x c e) hc vg ho (I.eZ x c e);exact⟨_,q,hd⟩
  .exact⟨o,keep c o (I.yA x c e) hc vg ho (I.eZ x c e),hd⟩
 refine⟨I.ok,I.os,hg,⟨λb o e n hb hx=>?_,λb o e n hb hx=>?_,λb o e n hx=>?_,λb o e hx=>?_,λb xs e=>k_ b xs (I.base.k_ b xs e),λb o xs e=>kg b o xs (I.base.kg b o xs e),λb ps e=>?_⟩,?_,λx c e=>?_,?_,λx c e=>?_,λp hp=>?_,bG,I.len⟩
 .exact keep b o (So b o e) hb (Ha b o e hx) (I.base.keep b o e n hb hx) (I.base.free b o e n hx)
 .obtain⟨sl,e1⟩:=I.base.slot b o e n hb hx;obtain⟨LI,e2⟩:=slot b _ (So b o e) hb (Ha b o e hx) e1 (I.base.free b o e n hx);exact⟨LI,e2⟩
 .obtain⟨o',e1⟩:=I.base.there b o e hx;exact free b o' (Ha b o e hx) e1 (I.base.free b o e n hx)
 .obtain⟨o',e1⟩:=I.base.there b o e hx;exact there b o' (Ha b o e hx) e1
 .obtain⟨m1,e1⟩:=I.base.k9 b ps e;obtain⟨m2,e2⟩:=k9 b _ e1;exact⟨m1++m2,by rw[e2,Array.append_assoc]⟩
 .obtain⟨m,hn,hl⟩:=I.loc;refine⟨m,ns m hn,λi x v e1 e2 e3=>?_⟩
  obtain⟨u,r,l⟩:=hl i x v e1 e2 e3;refine⟨u,r,?_⟩;rcases l with l|⟨k,c,e,z⟩
  .exact .inl l
  .exact .inr ⟨k,c,e,cellK x c e _ z⟩
 .obtain⟨v,z⟩:=I.cell x c e;exact⟨v,cellK x c e v z⟩
 .obtain⟨m,⟨o,_,_,ho,_⟩,_⟩:=I.loc;exact free _ o (λz=>(kJ _ z).2.1 rfl) ho I.free
 .obtain⟨v,o,ho,hd⟩:=I.cell x c e;exact free c o (λz=>(kJ c z).2.2.1 x c e rfl) ho (I.eZ x c e)
 .obtain⟨e,n,ne,nf,d⟩:=I.pin p hp;have vg:p.1∉ch:=λz=>(kJ p.1 z).2.2.2 p hp rfl
  exact⟨keep p.1 p.2 ne nf vg e n,free p.1 p.2 vg e n,ne,nf,d⟩
def Inv.un(I:Inv X aa Z H s)(u:Un X.fs [] H H' s.heap h')(bG:i9 X.prog X.w H' h'):Inv X aa Z H' { s with heap:=h',toks:=t'}:=by
 obtain⟨m,⟨o,es,ep,ho,r⟩,_⟩:=id I.loc;obtain⟨sl,hL⟩:=u.any ho I.free (by simp)
 exact I.step (g':=s.gens) (d':=s.drawn) (ch:=[]) (λ_ z=>nomatch z) (λb o _ hb _ e n=>u.keep b o e n hb (by simp)) (λb o _ hb _ e n=>u.slot b o e n hb (by simp)) (λb o _ e n=>u.free b o e n (by simp)) (λb o _ e=>u.there b o e (by simp)) u.k_ u.kg u.k9 (λm' hm=>by
  obtain⟨o',es',lF,wk,r'⟩:=hm;rw[ho] at wk;cases wk;exact⟨_,es',lF,hL,r'⟩) bG I.bare
def Inv.call{g':Array GenState}{d':Drawn}(I:Inv X aa Z H s)(u:Un (kf X.stack) ch H H' s.heap h')(bG:i9 X.prog X.w H' h')(hg:AllBare g')
  (kJ:∀b∈ch,(b∈X.ex\/X.s₀.heap.objs.size<=b)/\b≠X.env.locals/\(∀x c,X.env.cells.lookup x=some c->c≠b)/\∀p∈X.pn++aa,p.1≠b) :
  Inv X aa Z H' { s with heap:=h',gens:=g',drawn:=d',toks:=t'}:=by
 obtain⟨m,⟨o,es,ep,ho,r⟩,_⟩:=id I.loc;obtain⟨sl,hL⟩:=u.any ho I.free λz=>(kJ _ z).2.1 rfl
 exact I.step (ch:=ch) kJ (λb o hL hb hc e n=>u.keep b o e n (λz=>(y0b.mp (I.kE b z)).elim hL hb) hc) (λb o _ _ hc e n=>u.any e n hc) (λb o hc e n=>u.free b o e n hc) (λb o hc e=>u.there b o e hc) u.k_ u.kg u.k9 (λm' hm=>by
  obtain⟨o',es',lF,wk,r'⟩:=hm;rw[ho] at wk;cases wk;exact⟨_,es',lF,hL,r'⟩) bG hg
def Inv.turned{it:ai}(I:Inv X aa Z H s)(k:∀b o,b≠it->s.heap.get? b=some o->h'.get? b=some o)(hn:H it=none)(hL:it≠X.env.locals)
  (h1:it∈X.ex\/X.s₀.heap.objs.size<=it) (h2:∀x c,X.env.cells.lookup x=some c->c≠it) (h3:∀p∈X.pn++aa,p.1≠it):Inv X aa Z H { s with heap:=h',toks:=t'}:=by
 have Sr:∀b u,H b=some u->b≠it:=λb u e z=>by rw[z,hn] at e;cases e
 refine I.step (g':=s.gens) (d':=s.drawn) (ch:=[it]) (λb hb=>?_) (λb o _ _ hc e _=>k b o (λz=>hc (by simp[z])) e) (λb o _ _ hc e _=>⟨o.slots,k b o (λz=>hc (by simp[z])) e⟩) (λ_ _ _ _ n=>n)
  (λb o hc e=>⟨o,k b o (λz=>hc (by simp[z])) e⟩) (λ_ _ e=>e) (λ_ _ _ e=>e) (λb ps e=>⟨#[],by rw[e];simp⟩) (λm hm=>?_) (λb u e=>?_) I.bare
 .have e:b=it:=by simpa using hb
  subst e;exact⟨h1,hL,h2,h3⟩
 .obtain⟨o,es,ep,ho,r⟩:=hm;exact⟨o,es,ep,k _ o (Ne.symm hL) ho,r⟩
 .refine(I.bG b u e).mE (λc v hc q=>k c v ?_ q) (λ_ q=>q) λ_ _ q=>q
  rcases hc with z|z
  .rw[z];exact Sr b u e
  .exact Sr c _ z
def Inv.tok(I:Inv X aa Z H s)(t:Nat):Inv X aa Z H { s with toks:=t}:=I.un (h':=s.heap) (t':=t) Un.refl I.bG
theorem Inv.kept{t':Nat}(I:Inv X aa Z H s)(k:∀b u,s.heap.get? b=some u->h'.get? b=some u):Inv X aa Z H { s with heap:=h',toks:=t'}:=I.un (Un.kept k) (I.bG.kept k)
theorem Inv.laid{a:ai}{o:HO}{t':Nat}(I:Inv X aa Z H s)(k:∀b u,s.heap.get? b=some u->h'.get? b=some u)(hp:s.heap.objs.size<=a)(new:bI X.prog X.w (upd H a o) h' a o):
  Inv X aa Z (upd H a o) { s with heap:=h',toks:=t'}:=I.un (Un.laid k hp (I.bG.fresh hp)) (I.bG.laid k hp new)
theorem Inv.write{x e:ai}{o:HO}{t':Nat}(I:Inv X aa Z H s)(mu:Bl (H x))(he:e=x\/H e=some (.own x))(k:∀b u,b≠e->s.heap.get? b=some u->h'.get? b=some u)(AS:∃u,h'.get? e=some u)
  (new:bI X.prog X.w (upd H x o) h' x o):Inv X aa Z (upd H x o) { s with heap:=h',toks:=t'}:=I.un (Un.write mu he k AS) (I.bG.write mu he k AS new)
def Inv.jW{nF:List (ai×Obj)}(I:Inv X aa Z H s)(h:∀p∈nF,s.heap.get? p.1=some p.2/\H p.1=none/\p.1≠X.env.locals/\p.1∉X.fs/\∀v,p.2.data≠.cell v):Inv X nF Z H s:=
 ⟨I.ok,I.os,I.bare,I.base,I.loc,I.cell,I.free,I.eZ,λp hp=>(dF.mp hp).elim (λz=>I.pin p (Ep _ z)) (h p),I.bG,I.len⟩
def Ol{N:List Str}(hN:N.Nodup){j:Nat}(a:N[i]?=some x)(b:N[j]?=some x):i=j:=by
 obtain⟨h1,e1⟩:=fE.mp a;obtain⟨h2,e2⟩:=fE.mp b;exact(Er hN).mp (e1.trans e2.symm)
def NF(I:Inv X aa Z H s)(hN:X.N.Nodup)(hi:X.N[i]?=some x)(hx:Loc X.env.scope x)(r:RelV v u)
  (h:∀s',Inv X aa (Z.set i (some v)) H s'->(∃a,Heap.SameBut a s.heap s'.heap/\(a=X.env.locals\/X.env.cells.lookup x=some a))->Q () s') (hf:X.fn x=true\/X.env.scope.names.lookup x=some .local := by first|exact .inl rfl|exact .inr rfl|assumption):wpAny M A (storeName X.env x u) Q E s:=by
 obtain⟨m,hn,hl⟩:=id I.loc;have Kv:(X.env.scope.kind == .class || (X.env.scope.kind == .module&&X.env.locals != X.env.globals))=false:=by rw[I.ok.kind];rfl
 have R5:i<Z.length:=by rw[I.len];exact(fE.mp hi).1
 have yA:=I.yA;have tracked:∀{a:ai} {h':bT},(∃o,s.heap.get? a=some o/\H a=none)->Heap.SameBut a s.heap h'->i9 X.prog X.w H h':=λ{a h'} ha hs b ob e=>by
  obtain⟨_,_,hfree⟩:=ha;refine(I.bG b ob e).mE (λc w' hc q=>(hs.2 c ?_).trans q) (λ_ q=>q) λ_ _ q=>q
  lia
 rcases hx with hk|hk
 .refine wpAny_storeName_local hk hn (λh' GZ hs=>?_) Kv
  obtain⟨oL,_,_,iG,_⟩:=id hn;refine h _ ⟨I.ok,I.os,I.bare,⟨λb o e n hb hx=>?_,λb o e n hb hx=>?_,I.base.free,λb o e hx=>?_,I.base.k_,I.base.kg,I.base.k9⟩,⟨_,GZ,λj y v' e1 e2 e3=>?_⟩,λy c e=>?_,I.free,I.eZ,λp hp=>?_,tracked ⟨oL,iG,I.free⟩ hs,by simpa using I.len⟩ ⟨_,hs,.inl rfl⟩
  .exact(hs.2 b (gH (f7 (cQ e) I.ok.above))).trans (I.base.keep b o e n hb hx)
  .obtain⟨sl,e1⟩:=I.base.slot b o e n hb hx;exact⟨sl,(hs.2 b (gH (f7 (cQ e) I.ok.above))).trans e1⟩
  .obtain⟨o',e1⟩:=I.base.there b o e hx;exact⟨o',(hs.2 b (gH (f7 (cQ e) I.ok.above))).trans e1⟩
  .by_cases hj:j=i
   .subst hj;rw[hi] at e1;cases e1;rw[vL R5] at e2;cases e2;exact⟨u,r,.inl ⟨hk,by simp⟩⟩
   .rw[A9 (Ne.symm hj)] at e2;obtain⟨u',r',q⟩:=hl j y v' e1 e2 e3;refine⟨u',r',?_⟩;rcases q with⟨k,e⟩|⟨k,c,e,z⟩
    .refine .inl ⟨k,?_⟩;have:y≠x:=λe=>hj (Ol hN e1 (e ▸ hi))
     simp[this,e]
    .exact .inr ⟨k,c,e,z.sameBut hs (yA y c e)⟩
  .obtain⟨w',z⟩:=I.cell y c e;exact⟨w',z.sameBut hs (yA y c e)⟩
  .obtain⟨e,n,ne,nf,d⟩:=I.pin p hp;exact⟨(hs.2 p.1 ne).trans e,n,ne,nf,d⟩
 .have CP:X.fn x=true:=by
   rcases hf with z|z
   .exact z
   .rw[z] at hk;cases hk
  obtain⟨c,hc⟩:=I.ok.has x (.inl hk);obtain⟨w',z⟩:=I.cell x c hc;refine wpAny_storeName_cell I.ok.kind hk hc z (λh' nX hs=>?_)
  obtain⟨oc,u0,KJ⟩:=id z;refine h { s with heap:=h'} ⟨I.ok,I.os,I.bare,⟨λb o e n hb hx=>?_,λb o e n hb hx=>?_,I.base.free,λb o e hx=>?_,I.base.k_,I.base.kg,I.base.k9⟩,⟨m,hn.sameBut hs (Ne.symm (yA x c hc)),λj y v' e1 e2 e3=>?_⟩,λy c' e=>?_,I.free,I.eZ,λp hp=>?_,tracked ⟨oc,u0,I.eZ x c hc⟩ hs,by simpa using I.len⟩ ⟨c,hs,.inr hc⟩
  .exact(hs.2 b (gH (f7 (cQ e) (I.ok.yy x c CP hc)))).trans (I.base.keep b o e n hb hx)
  .obtain⟨sl,e1⟩:=I.base.slot b o e n hb hx;exact⟨sl,(hs.2 b (gH (f7 (cQ e) (I.ok.yy x c CP hc)))).trans e1⟩
  .obtain⟨o',e1⟩:=I.base.there b o e hx;exact⟨o',(hs.2 b (gH (f7 (cQ e) (I.ok.yy x c CP hc)))).trans e1⟩
  .by_cases hj:j=i
   .subst hj;rw[hi] at e1;cases e1;rw[vL R5] at e2;cases e2;exact⟨u,r,.inr ⟨.inl hk,c,hc,nX⟩⟩
   .rw[A9 (Ne.symm hj)] at e2;obtain⟨u',r',q⟩:=hl j y v' e1 e2 e3;refine⟨u',r',?_⟩;rcases q with q|⟨k,c',e,z'⟩
    .exact .inl q
    .refine .inr ⟨k,c',e,z'.sameBut hs ?_⟩;rintro rfl;exact hj (Ol hN e1 (I.ok.inj _ _ _ e hc ▸ hi))
  .by_cases RZ:c'=c
   .subst RZ;exact⟨_,nX⟩
   .obtain⟨w2,z2⟩:=I.cell y c' e;exact⟨w2,z2.sameBut hs RZ⟩
  .obtain⟨e,n,ne,nf,d⟩:=I.pin p hp;refine⟨(hs.2 p.1 ?_).trans e,n,ne,nf,d⟩;intro q;rw[q,u0] at e;have q':oc=p.2:=Option.some.inj e;exact d w' (by rw[<-q'];exact KJ)
def Om(I:Inv X aa Z H s)(hN:X.N.Nodup)(hi:X.N[i]?=some x)(hx:Loc X.env.scope x)(r:RelV v u)
  (h:∀s',Inv X aa (Z.set i (some v)) H s'->Q () s') (hf:X.fn x=true\/X.env.scope.names.lookup x=some .local := by first|exact .inl rfl|exact .inr rfl|assumption):wpAny M A (storeName X.env x u) Q E s:=
 NF I hN hi hx r (λs' I' _=>h s' I') hf
def Inv.wb{s':aq}(I:Inv X aa Z H s)(ho:s'.os=s.os)(u:Un (kf X.stack) ch H H' s.heap s'.heap)(bG:i9 X.prog X.w H' s'.heap)(hg:AllBare s'.gens)
  (kJ:∀b∈ch,(b∈X.ex\/X.s₀.heap.objs.size<=b)/\b≠X.env.locals/\(∀x c,X.env.cells.lookup x=some c->c≠b)/\∀p∈X.pn++aa,p.1≠b):Inv X aa Z H' s':=by
 obtain⟨h',g',d',t',o'⟩:=s';have e:o'=s.os:=ho;subst e;exact I.call (g':=g') (t':=t') (d':=d') u bG hg kJ
end
abbrev XK:=ah->aj ai->Hp->Prop
abbrev St:=List (aj V)
abbrev VK:=V->Hp->Prop
abbrev TE:=St->Hp->VK->Prop
abbrev TT:=St->Hp->(Bool->Hp->Prop)->Prop
abbrev TA:=St->Hp->(List V->Hp->Prop)->Prop
set_option genInjectivity false in
structure Ends where
 nx:St->Hp->Prop
 rt:VK
 bk:St->Hp->Prop:=λ_ _=>False
 ct:St->Hp->Prop:=λ_ _=>False
abbrev TS:=Ends->St->Hp->Prop
def EP(X:Cx)(aa:List (ai×Obj))(Z:St)(Q:VK)(u:ah)(s':aq):Prop:=∃v H',Inv X aa Z H' s'/\RelV v u/\Q v H'
def TP(X:Cx)(aa:List (ai×Obj))(Z:St)(Q:Bool->Hp->Prop)(b:Bool)(s':aq):Prop:=∃H',Inv X aa Z H' s'/\Q b H'
def AP(X:Cx)(aa:List (ai×Obj))(Z:St)(Q:List V->Hp->Prop)(us:List ah)(s':aq):Prop:=∃vs H',Inv X aa Z H' s'/\Vals vs us/\Q vs H'
def SP(X:Cx)(aa:List (ai×Obj))(D:Ends)(f:Flow)(s':aq):Prop:=
 match f with
 |.next=>∃Z' H',Inv X aa Z' H' s'/\D.nx Z' H'
 |.brk=>∃Z' H',Inv X aa Z' H' s'/\D.bk Z' H'
 |.cont=>∃Z' H',Inv X aa Z' H' s'/\D.ct Z' H'
 |.ret u=>∃v Z' H',Inv X aa Z' H' s'/\RelV v u/\D.rt v H'
def PE(X:Cx)(e:Expr)(t:TE):Prop:=
 ∀(aa:List (ai×Obj)) (s:aq) (Z:St) (H:Hp) (Q:VK),Inv X aa Z H s->t Z H Q->wpAny (model X.prog X.w) X.A (eval e X.env) (EP X aa Z Q) X.xe s
def PT(X:Cx)(e:Expr)(t:TT):Prop:=
 ∀(aa:List (ai×Obj)) (s:aq) (Z:St) (H:Hp) (Q:Bool->Hp->Prop),Inv X aa Z H s->t Z H Q->wpAny (model X.prog X.w) X.A (isTrue e X.env (eval e X.env)) (TP X aa Z Q) X.xe s
def PW(X:Cx)(e:Expr)(t:TT):Prop:=
 ∀(whole:Sem ah) (aa:List (ai×Obj)) (s:aq) (Z:St) (H:Hp) (Q:Bool->Hp->Prop),Inv X aa Z H s->t Z H Q->wpAny (model X.prog X.w) X.A (isTrue e X.env whole) (TP X aa Z Q) X.xe s
def PW.pt{X:Cx}{e:Expr}{t:TT}(h:PW X e t):PT X e t:=h _
def PA(X:Cx)(es:List Expr)(t:TA):Prop:=
 ∀(pos:Pos) (aa:List (ai×Obj)) (s:aq) (Z:St) (H:Hp) (Q:List V->Hp->Prop),Inv X aa Z H s->t Z H Q->wpAny (model X.prog X.w) X.A (spliced (backTo pos (starEach es X.env))) (AP X aa Z Q) X.xe s
def PS(X:Cx)(st:Stmt)(t:TS):Prop:=
 ∀(aa:List (ai×Obj)) (s:aq) (Z:St) (H:Hp) (D:Ends),Inv X aa Z H s->t D Z H->wpAny (model X.prog X.w) X.A (exec st X.env) (SP X aa D) X.xe s
def i_(X:Cx)(st:List Stmt)(t:TS):Prop:=
 ∀(aa:List (ai×Obj)) (s:aq) (Z:St) (H:Hp) (D:Ends),Inv X aa Z H s->t D Z H->wpAny (model X.prog X.w) X.A (execs st X.env) (SP X aa D) X.xe s
def bM{α:Type}{t:Sem α}{Q Q':α->aq->Prop}{s:aq}(h:wpAny M A t Q E s)(hQ:∀a s,Q a s->Q' a s):wpAny M A t Q' E s:=wpAny_mono h hQ λ_ _ x=>x
section
variable{X:Cx}
def D_(i:Nat):TE:=λZ H Q=>∃v,Z[i]?=some (some v)/\Q v H
def tC(v:V):TE:=λ_ H Q=>Q v H
def ZG{i:Nat}{x:Str}{pos:Pos}(hN:X.N[i]?=some x)(hv:HW X.env.scope x)(hd:(x == ("__debug__":Str))=false:=by decide)(sx:(x == ("__classdict__":Str))=false:=by decide):PE X (.Name x pos) (D_ i):=by
 intro aa s Z H Q I h;obtain⟨v,e,h⟩:=h;obtain⟨m,hn,hl⟩:=I.loc;obtain⟨u,r,l⟩:=hl i x v hN e hv;have fin:EP X aa Z Q u s:=⟨v,H,I,r,h⟩;rcases l with⟨hk,hm⟩|⟨hk,c,hc,pA⟩
 .exact wpAny_Name (wpAny_loadName_local I.ok.kind hk hn hm fin) hd
 .rcases hk with hk|hk
  .exact wpAny_Name (wpAny_loadName_cell I.ok.kind hk hc pA fin) hd
  .exact wpAny_Name (wpAny_loadName_free I.ok.kind hk hc pA fin sx) hd
def ZH{i j pos}:PE X (.Constant (.int i) j pos) (tC (.int i)):=λ_ _ _ H _ I h=>wpAny_Constant_int ⟨.int i,H,I.tok _,⟨_,rfl⟩,h⟩
def e7f{b j pos}:PE X (.Constant (.bool b) j pos) (tC (.bl b)):=λ_ _ _ H _ I h=>Constant_bool ⟨.bl b,H,I,rfl,h⟩
def ZI{j pos}:PE X (.Constant .none j pos) (tC .aM):=λ_ _ _ H _ I h=>Constant_none ⟨.aM,H,I,rfl,h⟩
def ZJ{x j pos}:PE X (.Constant (.str x) j pos) (tC (.str x)):=λ_ _ _ H _ I h=>Calls.Constant_str ⟨.str x,H,I.tok _,⟨_,rfl⟩,h⟩
def Gl(X:Cx)(x:Str):Prop:=X.env.kindOf x=some .globalImplicit
def As{E:ah->aq->Prop}{aa:List (ai×Obj)}{s:aq}{Z:St}{H:Hp}{x:Str}{u:ah}{pos:Pos}{Q:ah->aq->Prop}(I:Inv X aa Z H s)(hg:Gl X x)(hm:X.mg x=some u)(h:Q u s)
  (hd:(x == ("__debug__":Str))=false:=by decide):wpAny (model X.prog X.w) X.A (eval (.Name x pos) X.env) Q E s:=
 Calls.Name_function_global I.ok.kind hg (Calls.loadGlobal_global (by rw[I.ok.glob];exact I.mod.glob.keeps I.bk) hm h) hd
def tR{E:ah->aq->Prop}{aa:List (ai×Obj)}{s:aq}{Z:St}{H:Hp}{x:Str}{u:ah}{pos:Pos}{Q:ah->aq->Prop}(I:Inv X aa Z H s)(hg:Gl X x)(hm:X.mg x=none)(hv:bootBuiltins x=some u)(h:Q u s)
  (hn:x≠"__name__":=by decide) (hd:(x == ("__debug__":Str))=false:=by decide):wpAny (model X.prog X.w) X.A (eval (.Name x pos) X.env) Q E s:=by
 obtain⟨mb,h1,h2⟩:=I.mod.blt;exact Calls.Name_function_global I.ok.kind hg (Calls.loadGlobal_builtin (by rw[I.ok.glob];exact I.mod.glob.keeps I.bk) hm (by rw[I.ok.blt];exact h1.keeps I.bk) ((h2 x hn).trans hv) h) hd
def Xa{x:Str}{v:V}{u:ah}{pos:Pos}(hg:Gl X x)(hm:X.mg x=none)(hv:bootBuiltins x=some u)(r:RelV v u)(hn:x≠"__name__":=by decide)(hd:(x == ("__debug__":Str))=false:=by decide):PE X (.Name x pos) (tC v):=
 λ_ _ _ H _ I h=>tR I hg hm hv ⟨v,H,I,r,h⟩ hn hd
variable{a b:Expr}{ta tb:TE}{pos:Pos}
variable{tA Hj:TT}{rest:List Expr}
def LP(t u:TT):TT:=λZ H Q=>t Z H λc H1=>if c=true then u Z H1 Q else Q false H1
def tOr(t u:TT):TT:=λZ H Q=>t Z H λc H1=>if c=true then Q true H1 else u Z H1 Q
def LX(t:TT):TT:=λZ H Q=>t Z H λc H1=>Q (!c) H1
def Xb(ha:PT X a tA):PW X (.BoolOp .And [a] pos) tA:=by
 intro wh aa s Z H Q I h;refine isTrue_and (bM (ha aa s Z H Q I h) λc s1 e=>?_)
 cases c with
 |true=>exact isTrue_and_nil e
 |false=>exact e
def ZK(ha:PT X a tA):PW X (.BoolOp .Or [a] pos) tA:=by
 intro wh aa s Z H Q I h;refine isTrue_or (bM (ha aa s Z H Q I h) λc s1 e=>?_)
 cases c with
 |false=>exact isTrue_or_nil e
 |true=>exact e
def ZL(ha:PT X a tA)(hb:PW X (.BoolOp .And (b::rest) pos) Hj):PW X (.BoolOp .And (a::b::rest) pos) (LP tA Hj):=by
 intro wh aa s Z H Q I h;refine isTrue_and (bM (ha aa s Z H _ I h) λc s1 hh=>?_)
 obtain⟨H1,I1,q1⟩:=hh;cases c with
 |true=>exact hb wh aa s1 Z H1 Q I1 q1
 |false=>exact⟨H1,I1,q1⟩
def e7g(ha:PT X a tA)(hb:PW X (.BoolOp .Or (b::rest) pos) Hj):PW X (.BoolOp .Or (a::b::rest) pos) (tOr tA Hj):=by
 intro wh aa s Z H Q I h;refine isTrue_or (bM (ha aa s Z H _ I h) λc s1 hh=>?_)
 obtain⟨H1,I1,q1⟩:=hh;cases c with
 |true=>exact⟨H1,I1,q1⟩
 |false=>exact hb wh aa s1 Z H1 Q I1 q1
def ZM(ha:PT X a tA):PT X (.UnaryOp .Not a pos) (LX tA):=by
 intro aa s Z H Q I h;exact isTrue_not (ha aa s Z H (λc H1=>Q (!c) H1) I h)
def DZ(ta tb:TE):TE:=λZ H Q=>ta Z H λx H1=>∃c,x=.bl c/\if c=true then tb Z H1 Q else Q (.bl false) H1
def zz{op}{t:TE}(h:PE X a t):PE X (.BoolOp op [a] pos) t:=λaa s Z H Q I hw=>BoolOp_one (h aa s Z H Q I hw)
def ZN(ha:PE X a ta)(hb:PE X (.BoolOp .And (b::rest) pos) tb):PE X (.BoolOp .And (a::b::rest) pos) (DZ ta tb):=by
 intro aa s Z H Q I h;refine BoolOp_and (bM (ha aa s Z H _ I h) λv s1 hh=>?_)
 obtain⟨x,H1,I1,r1,q1⟩:=hh;obtain⟨c,rfl,q1⟩:=q1;cases r1;refine wpAny_truthy_bool ?_;cases c with
 |true=>exact hb aa s1 Z H1 Q I1 q1
 |false=>exact⟨.bl false,H1,I1,rfl,q1⟩
def tIf(t:TT)(ta tb:TE):TE:=λZ H Q=>t Z H λc H1=>if c=true then ta Z H1 Q else tb Z H1 Q
def Vu{c:Expr}(hc:PT X c tA)(ha:PE X a ta)(hb:PE X b tb):PE X (.IfExp c a b pos) (tIf tA ta tb):=by
 intro aa s Z H Q I h;refine wpAny_IfExp (bM (hc aa s Z H _ I h) λd s1 hh=>?_)
 obtain⟨H1,I1,q1⟩:=hh;cases d with
 |true=>exact ha aa s1 Z H1 Q I1 q1
 |false=>exact hb aa s1 Z H1 Q I1 q1
end
variable{x:Str}{u:ah}{aa:List (ai×Obj)}{Z:St}{H:Hp}{s:aq}{c i e o tg:Expr}{tc:TT}{es:List Expr}{to ti te:TE}{P:dq}{w:cF}{K:aJ}
def cW(K:aJ)(H:Hp)(a:ai)(xs:List V):Prop:=
 Rd H a (.lst xs)\/
  ∃(o:Obj) (aE:Array ah) (n:Nat),K.lookup a=some o/\o.cls=.type "list"/\o.dict=none/\o.data=.seq aE n/\aE.size<=sizeLine/\Vals xs aE.toList
def iE(K:aJ)(H:Hp)(a:ai)(xs:List V):Prop:=
 Rd H a (.tup xs)\/
  ∃(o:Obj) (aE:Array ah) (n:Nat),K.lookup a=some o/\o.cls=.type "tuple"/\o.data=.seq aE n/\aE.size<=sizeLine/\Vals xs aE.toList
noncomputable def IH:ah->aj V
 |.none=>some .aM
 |.bool b=>some (.bl b)
 |.int i _=>some (.int i)
 |.str x _=>some (.str x)
 |.bytes b _=>some (.wa b)
 |.float b _=>some (.AM b)
 |.ref a=>some (.ref a)
 |.type n=>some (.ty n)
 |_=>none
def RelV.abs{x:V}(r:RelV x u):IH u=some x:=by
 cases x with
 |aM=>cases r;rfl
 |bl _=>cases r;rfl
 |int _=>obtain⟨t,rfl⟩:=r;rfl
 |str _=>obtain⟨t,rfl⟩:=r;rfl
 |wa _=>obtain⟨t,rfl⟩:=r;rfl
 |AM _=>obtain⟨t,rfl⟩:=r;rfl
 |ref _=>cases r;rfl
 |ty _=>cases r;rfl
theorem RelV.inj{x y:V}{u:ah}(r:RelV x u)(q:RelV y u):x=y:=Option.some.inj (r.abs.symm.trans q.abs)
theorem Vals.inj{xs ys:List V}{us:List ah}(h:Vals xs us)(h':Vals ys us):xs=ys:=by
 induction h generalizing ys with
 |nil=>cases h';rfl
 |cons r t ih=>
  cases h' with
  |cons r' t'=>rw[r.inj r',ih t']
section
variable{X:Cx}{aa:List (ai×Obj)}{Z:St}{H:Hp}{s:aq}{a:ai}{xs ys:List V}
def Inv.list(I:Inv X aa Z H s)(h:cW X.K H a xs):∃aE:List ah,Vals xs aE/\PlainL s.heap a aE.toArray/\xs.length<=sizeLine:=by
 rcases h with h|⟨o,aE,n,hk,hc,hd,hs,hz,r⟩
 .obtain⟨z,aE,n,r,e⟩:=h.ok I.bG;exact⟨aE,r,⟨_,n,e,rfl,rfl,rfl⟩,z⟩
 .refine⟨aE.toList,r,⟨o,n,I.jV a o hk,hc,hd,by simpa using hs⟩,?_⟩
  have e:=r.length
  simp_all
def Inv.tuple(I:Inv X aa Z H s)(h:iE X.K H a xs):∃aE:List ah,Vals xs aE/\IsTup s.heap a aE.toArray/\xs.length<=sizeLine:=by
 rcases h with h|⟨o,aE,n,hk,hc,hs,hz,r⟩
 .obtain⟨z,aE,r,p⟩:=h.ok I.bG;exact⟨aE,r,p,z⟩
 .refine⟨aE.toList,r,⟨o,I.jV a o hk,hc,n,by simpa using hs⟩,?_⟩
  have e:=r.length;simp only[zV] at e;lia
def Inv.kx(I:Inv X aa Z H s)(h:cW X.K H a xs)(h':cW X.K H a ys):xs=ys:=by
 obtain⟨aE,r,⟨o,n,e,_,_,d⟩,_⟩:=I.list h;obtain⟨its',r',⟨o',n',e',_,_,d'⟩,_⟩:=I.list h';rw[e] at e';cases e';rw[d] at d';injection d' with d1 _;have:aE=its':=by simpa using congrArg Array.toList d1
 subst this;exact r.inj r'
def Inv.lI(I:Inv X aa Z H s)(h:iE X.K H a xs)(h':iE X.K H a ys):xs=ys:=by
 obtain⟨aE,r,⟨o,e,_,n,d⟩,_⟩:=I.tuple h;obtain⟨its',r',⟨o',e',_,n',d'⟩,_⟩:=I.tuple h';rw[e] at e';cases e';rw[d] at d';injection d' with d1 _;have:aE=its':=by simpa using congrArg Array.toList d1
 subst this;exact r.inj r'
end
section
variable{X:Cx}{st:Stmt}{rest:List Stmt}{t u:TS}{e:Expr}{te:TE}{pos:Pos}
def D8:TS:=λD Z H=>D.nx Z H
def LZ(t u:TS):TS:=λD Z H=>t { D with nx:=u D} Z H
def pK:i_ X [] D8:=λ_ _ Z H _ I h=>wpAny_execs_nil ⟨Z,H,I,h⟩
def Vv(h1:PS X st t)(h2:i_ X rest u):i_ X (st::rest) (LZ t u):=by
 intro aa s Z H D I h;refine wpAny_execs_cons (bM (h1 aa s Z H { D with nx:=u D} I h) λf s1 q=>?_)
 cases f with
 |next=>
  obtain⟨Z',H',I',q⟩:=q;exact h2 aa s1 Z' H' D I' q
 |ret v=>exact q
 |brk=>exact q
 |cont=>exact q
def Inv.quiet(I:Inv X aa Z H s):interactive X.env=false:=by simp[interactive,I.ok.kind]
def D7(te:TE):TS:=λD Z H=>te Z H λ_ H1=>D.nx Z H1
def Xc(he:PE X e te)(hs:swapsWith e none pos.line X.env=pure false:=by rfl):PS X (.Expr e pos) (D7 te):=by
 intro aa s Z H D I h;exact wpAny_Expr_any (bM (he aa s Z H _ I h) λv s1 ⟨x,H1,I1,r1,q1⟩=>⟨Z,H1,I1,q1⟩) I.quiet hs
def LY(te:TE):TS:=λD Z H=>te Z H D.rt
def ZO(he:PE X e te):PS X (.Return (some e) pos) (LY te):=by
 intro aa s Z H D I h;exact wpAny_Return_some (bM (he aa s Z H _ I h) λv s1 ⟨x,H1,I1,r1,q1⟩=>⟨x,Z,H1,I1,r1,q1⟩)
def LV(c:TT)(t u:TS):TS:=λD Z H=>c Z H λb H1=>if b=true then t D Z H1 else u D Z H1
def e7h{a b:List Stmt}(hc:PT X c tc)(ha:i_ X a t)(hb:i_ X b u):PS X (.If c a b pos) (LV tc t u):=by
 intro aa s Z H D I h;refine wpAny_If (bM (hc aa s Z H _ I h) λd s1 hh=>?_)
 obtain⟨H1,I1,q1⟩:=hh;cases d with
 |true=>exact ha aa s1 Z H1 D I1 q1
 |false=>exact hb aa s1 Z H1 D I1 q1
end
abbrev TG:=V->St->Hp->(St->Hp->Prop)->Prop
abbrev tP:=List V->St->Hp->(St->Hp->Prop)->Prop
def PG(X:Cx)(target:Expr)(t:TG):Prop:=
 ∀(aa:List (ai×Obj)) (s:aq) (Z:St) (H:Hp) (v:V) (u:ah) (Q:St->Hp->Prop),Inv X aa Z H s->RelV v u->t v Z H Q->
  wpAny (model X.prog X.w) X.A (assign target X.env u) (λ_ s'=>∃Z' H',Inv X aa Z' H' s'/\Q Z' H') X.xe s
def Bo(X:Cx)(ts:List Expr)(t:tP):Prop:=
 ∀(aa:List (ai×Obj)) (s:aq) (Z:St) (H:Hp) (vs:List V) (us:List ah) (Q:St->Hp->Prop),Inv X aa Z H s->Vals vs us->t vs Z H Q->
  wpAny (model X.prog X.w) X.A (assignInOrder ((assignEach ts X.env).map (·.2)) us) (λ_ s'=>∃Z' H',Inv X aa Z' H' s'/\Q Z' H') X.xe s
abbrev qj:=V->V->V->Hp->(Hp->Prop)->Prop
def uw(X:Cx)(t:qj):Prop:=
 ∀(aa:List (ai×Obj)) (s:aq) (Z:St) (H:Hp) (o i v:V) (ov iv u:ah) (Q:Hp->Prop),Inv X aa Z H s->RelV o ov->RelV i iv->RelV v u->t o i v H Q->
  wpAny (model X.prog X.w) X.A (setItem ov iv u) (λ_ s'=>∃H',Inv X aa Z H' s'/\Q H') X.xe s
abbrev EI:=V->V->Hp->VK->Prop
def EG(X:Cx)(op:Operator)(t:EI):Prop:=
 ∀(aa:List (ai×Obj)) (s:aq) (Z:St) (H:Hp) (x y:V) (v u:ah) (Q:VK),Inv X aa Z H s->RelV x v->RelV y u->t x y H Q->
  wpAny (model X.prog X.w) X.A (inplaceOp op v u) (EP X aa Z Q) X.xe s
section
variable{X:Cx}{pos:Pos}
def pj(i:Nat):TG:=λv Z H Q=>Q (Z.set i (some v)) H
def Xd{i:Nat}(hN:X.N.Nodup)(hi:X.N[i]?=some x)(hx:Loc X.env.scope x)(hf:X.fn x=true\/X.env.scope.names.lookup x=some .local := by first|exact .inl rfl|exact .inr rfl|assumption):PG X (.Name x pos) (pj i):=by
 intro aa s Z H v u Q I r h;exact wpAny_assign_Name (Om I hN hi hx r (λs' I'=>⟨_,H,I',h⟩) hf)
def CF:tP:=λvs Z H Q=>vs=[]/\Q Z H
def we(t:TG)(u:tP):tP:=λvs Z H Q=>∃v r,vs=v::r/\t v Z H λZ' H'=>u r Z' H' Q
def vn:Bo X [] CF:=by
 intro aa s Z H vs us Q I r h;obtain⟨e,h⟩:=h;subst e;cases r;exact assignInOrder_nil ⟨Z,H,I,h⟩
def sW{t:TG}{u:tP}(h1:PG X e t)(h2:Bo X es u)
  (hs:(assignEach (e::es) X.env).map (·.2)=assign e X.env::(assignEach es X.env).map (·.2):=by rfl):Bo X (e::es) (we t u):=by
 intro aa s Z H vs us Q I r h;obtain⟨v,vr,e1,h⟩:=h;subst e1;cases r with
 |cons r rr=>
  rw[hs];refine assignInOrder_cons (bM (h1 aa s Z H _ _ _ I r h) λ_ s1 hh=>?_)
  obtain⟨Z1,H1,I1,q1⟩:=hh;exact h2 aa s1 Z1 H1 _ _ Q I1 rr q1
def yN(K:aJ)(n:Nat)(t:tP):TG:=λv Z H Q=>∃a xs,v=.ref a/\iE K H a xs/\xs.length=n/\t xs Z H Q
def ZP{k:Nat}{t:tP}{n:Nat}(hc:X.calm=true)(h:Bo X es t)
  (hn:(assignEach es X.env).length=n:=by rfl) (ko:(assignEach es X.env).findIdx? (·.1)=none:=by rfl):PG X (.Tuple es k pos) (yN X.K n t):=by
 intro aa s Z H v u Q I r hw;obtain⟨a,xs,e1,hq,hl,hw⟩:=hw;subst e1;cases r;obtain⟨aE,rv,ht,hz⟩:=I.tuple hq;refine assign_Tuple_tuple (I.ok.hd hc) ht (by simp[hn,<-hl,rv.length]) ko λh' hx=>?_
 have I1:Inv X aa Z H { s with heap:=h'}:=I.kept (t':=s.toks) λb o e=>hx b o (gH (cQ e)) e
 exact h aa _ Z H xs _ Q I1 (by simpa using rv) hw
def Kh(to ti:TE)(t:qj):TG:=λv Z H Q=>to Z H λo H1=>ti Z H1 λi H2=>t o i v H2 λH3=>Q Z H3
def ZQ{t:qj}(ho:PE X o to)(hi:PE X i ti)(hs:uw X t)
  (ha:∀v,assign (.Subscript o i pos) X.env v=(do
   let ov <-holding [v] (eval o X.env)
   let iv <-holding [v,ov] (eval i X.env)
   standAt pos
   holding [v,ov,iv] (setItem ov iv v)
   release [v,ov,iv] []):=by intro _;rfl):PG X (.Subscript o i pos) (Kh to ti t):=by
 intro aa s Z H v u Q I r h;rw[ha];refine ay (jq (bM (ho aa s Z H _ I h) λov s1 hh=>?_))
 obtain⟨x,H1,I1,r1,q1⟩:=hh;refine ay (jq (bM (hi aa s1 Z H1 _ I1 q1) λiv s2 hh=>?_))
 obtain⟨y,H2,I2,r2,q2⟩:=hh;refine ay (wpAny_standAt (ay (jq (bM (hs aa s2 Z H2 x y v ov iv u _ I2 r1 r2 r q2) λ_ s3 hh=>?_))))
 obtain⟨H3,I3,q3⟩:=hh;exact wpAny_release ⟨Z,H3,I3,q3⟩
def D0(te:TE)(g:TG):TS:=λD Z H=>te Z H λx H1=>g x Z H1 D.nx
def ZR{g:TG}(he:PE X e te)(hg:PG X tg g)(hs:swapsWithSole [tg] e pos.line X.env=pure false:=by rfl)(hw:swappedStores [tg] e X.env=pure none:=by rfl)
  (h1:(assignEach [tg] X.env).map (·.2)=[assign tg X.env]:=by rfl):PS X (.Assign [tg] e pos) (D0 te g):=by
 intro aa s Z H D I h;refine wpAny_Assign_stores (bM (he aa s Z H _ I h) λv s1 hh=>?_) hs hw
 obtain⟨x,H1,I1,r1,q1⟩:=hh;rw[h1];exact bM (hg aa s1 Z H1 x v _ I1 r1 q1) λ_ s2 q=>q
def ZS{i:Nat}{pos':Pos}(hN:X.N.Nodup)(hi:X.N[i]?=some x)(hx:Loc X.env.scope x)(he:PE X e te)(hs:swapsWith e (some (.Name x pos')) pos.line X.env=pure false:=by rfl)(hf:X.fn x=true\/X.env.scope.names.lookup x=some .local := by first|exact .inl rfl|exact .inr rfl|assumption):
  PS X (.Assign [.Name x pos'] e pos) (D0 te (pj i)):=by
 intro aa s Z H D I h;refine wpAny_Assign_Name (bM (he aa s Z H _ I h) λv s1 hh=>?_) hs
 obtain⟨y,H1,I1,r1,q1⟩:=hh;exact Om I1 hN hi hx r1 (λs2 I2=>⟨_,H1,I2,q1⟩) hf
def D5(to ti te:TE)(vz:V->V->Hp->VK->Prop)(Hm:EI)(vD:qj):TS:=λD Z H=>to Z H λo H1=>ti Z H1 λi H2=>vz o i H2 λx H3=>te Z H3 λy H4=>Hm x y H4 λz H5=>vD o i z H5 λH6=>D.nx Z H6
def Bm(X:Cx)(t:V->V->Hp->VK->Prop):Prop:=
 ∀(aa:List (ai×Obj)) (s:aq) (Z:St) (H:Hp) (o i:V) (ov iv:ah) (Q:VK),Inv X aa Z H s->RelV o ov->RelV i iv->t o i H Q->
  wpAny (model X.prog X.w) X.A (getItem ov iv) (EP X aa Z Q) X.xe s
def Xe{vz:V->V->Hp->VK->Prop}{Hm:EI}{vD:qj}{op:Operator}{fV:Pos}(ho:PE X o to)(hi:PE X i ti)(hg:Bm X vz)(he:PE X e te)(hp:EG X op Hm)(hs:uw X vD)
  (ha:∀ov iv new,augStore i ov iv new=(do holding [new,ov,iv] (setItem ov iv new);release [new,ov,iv] [];pure .next):=by intros;rfl):PS X (.AugAssign (.Subscript o i fV) op e pos) (D5 to ti te vz Hm vD):=by
 intro aa s Z H D I h;refine wpAny_AugAssign_SubscriptAny (bM (ho aa s Z H _ I h) λov s1 hh=>?_) ha
 obtain⟨x1,H1,I1,r1,q1⟩:=hh;refine bM (hi aa s1 Z H1 _ I1 q1) λiv s2 hh=>?_
 obtain⟨x2,H2,I2,r2,q2⟩:=hh;refine bM (hg aa s2 Z H2 x1 x2 ov iv _ I2 r1 r2 q2) λold s3 hh=>?_
 obtain⟨x3,H3,I3,r3,q3⟩:=hh;refine bM (he aa s3 Z H3 _ I3 q3) λv s4 hh=>?_
 obtain⟨x4,H4,I4,r4,q4⟩:=hh;refine bM (hp aa s4 Z H4 x3 x4 old v _ I4 r3 r4 q4) λnew s5 hh=>?_
 obtain⟨x5,H5,I5,r5,q5⟩:=hh;exact bM (hs aa s5 Z H5 x1 x2 x5 ov iv new _ I5 r1 r2 r5 q5) λ_ s6 ⟨H6,I6,q6⟩=>⟨Z,H6,I6,q6⟩
def KS(f:Int->Int->Int):EI:=λx y H Q=>∃i j,x=.int i/\y=.int j/\Q (.int (f i j)) H
def y0:EG X .Add (KS λi j=>i+j):=by
 intro aa s Z H x y v u Q I r1 r2 h;obtain⟨i,j,e1,e2,q⟩:=h;subst e1;subst e2;obtain⟨t,rfl⟩:=r1;obtain⟨t',rfl⟩:=r2;exact iadd_int ⟨.int _,H,I.tok _,⟨_,rfl⟩,q⟩
def ZT(c:TT)(tb:TS):TS:=λD Z H=>∃W:Nat->St->Hp->Prop,(∃m,W m Z H)/\∀m Z H,W m Z H->
 c Z H λb H1=>if b=true then ∃N:St->Hp->Prop,(∀Z' H',N Z' H'->∃m',m'<m/\W m' Z' H')/\tb { D with nx:=N,ct:=N,bk:=D.nx} Z H1 else D.nx Z H1
def Vw{body:List Stmt}{tb:TS}(hp:PassesOwn (model X.prog X.w) X.A X.env X.xe)(hc:PT X c tc)(hb:i_ X body tb):PS X (.While c body [] pos) (ZT tc tb):=by
 intro aa s Z H D I h;obtain⟨W,⟨m0,w0⟩,turn⟩:=h;refine wpAny_While (codeAny_whileLoop (λn s'=>∃Z' H',Inv X aa Z' H' s'/\W n Z' H') ?_ m0 ⟨Z,H,I,w0⟩)
 rintro n s1 ⟨Z1,H1,I1,w1⟩;refine wpAny_passesOwn hp (bM (hc aa s1 Z1 H1 _ I1 (turn n Z1 H1 w1)) λb s2 hh=>?_)
 obtain⟨H2,I2,q2⟩:=hh;cases b with
 |true=>
  obtain⟨N,hN,q2⟩:=q2;rw[bx rfl];refine wpAny_passesOwn hp (bM (hb aa s2 Z1 H2 _ I2 q2) λf s3 q3=>?_)
  cases f with
  |next=>
   obtain⟨Z3,H3,I3,n3⟩:=q3;obtain⟨m',hm,w3⟩:=hN Z3 H3 n3;exact⟨m',hm,Z3,H3,I3,w3⟩
  |cont=>
   obtain⟨Z3,H3,I3,n3⟩:=q3;obtain⟨m',hm,w3⟩:=hN Z3 H3 n3;exact⟨m',hm,Z3,H3,I3,w3⟩
  |brk=>exact q3
  |ret v=>exact q3
 |false=>
  rw[bc tH];exact wpAny_execs_nil ⟨Z1,H2,I2,q2⟩
end
set_option genInjectivity false in
structure It where
 go:Nat->Hp->Prop
 tL:Nat->Hp->V->Hp->Prop
 stop:Nat->Hp->Prop
def i8(X:Cx)(aa:List (ai×Obj))(H:Hp)(b:ai):Prop:=
 H b=none/\b≠X.env.locals/\b∉X.fs/\(b∈X.ex\/X.s₀.heap.objs.size<=b)/\(∀x c,X.env.cells.lookup x=some c->c≠b)/\∀p∈X.pn++aa,p.1≠b
def Inv.k6{X:Cx}{H':Hp}{b:ai}(I:Inv X aa Z H s)(hb:s.heap.objs.size<=b)(hn:H' b=none):i8 X aa H' b:=by
 refine⟨hn,xq (f7 I.lt hb),I.zq hb,.inr (jo I.sz hb),λx c e z=>?_,λp hp z=>?_⟩
 .obtain⟨v,q⟩:=I.cell x c e;exact cz (f7 q.lt (by rw[z];exact hb)) (jY _)
 .exact cz (f7 (cQ (I.pin p hp).1) (by rw[z];exact hb)) (jY _)
structure Turn (P:dq) (w:cF) (K:aJ) (tg:Expr) (J:It) (fp:List ai) (it:ai) (tn:Nat->bT->Prop):Prop where
 mem:it∈fp
 obj:∀i h,tn i h->∀b∈fp,∃o,h.get? b=some o/\∀v,o.data≠.cell v
 keep:∀i h h',tn i h->(∀b∈fp,∀o,h.get? b=some o->h'.get? b=some o)->tn i h'
 item:∀(X:Cx),X.prog=P->X.w=w->X.K=K->X.calm=true->∀(i:Nat) (aa:List (ai×Obj)) (s:aq) (Z:St) (H:Hp) (E:ah->aq->Prop),Inv X aa Z H s->(∀b∈fp,i8 X aa H b)->tn i s.heap->J.go i H->
  wpAny (model P w) X.A (pyNext (.ref it)) (λr s1=>∃u,r=some u/\ wpAny (model P w) X.A (letOwnedTupleGo tg (.ref it) u) (λ_ s2=>∃x H',Inv X aa Z H' s2/\RelV x u/\J.tL i H x H'/\tn (i+1) s2.heap/\∀b∈fp,H' b=none) E s1) E s
 done:∀(X:Cx),X.prog=P->X.w=w->X.K=K->X.calm=true->∀(i:Nat) (aa:List (ai×Obj)) (s:aq) (Z:St) (H:Hp) (E:ah->aq->Prop),Inv X aa Z H s->(∀b∈fp,i8 X aa H b)->tn i s.heap->J.stop i H->
  wpAny (model P w) X.A (pyNext (.ref it)) (λr s1=>r=none/\Inv X aa Z H s1) E s
 self:∀(A:cP) (i:Nat) (s:aq) (Q:ah->aq->Prop) (E:ah->aq->Prop),tn i s.heap->Q (.ref it) s->wpAny (model P w) A (pyIter (.ref it)) Q E s
abbrev TI:=St->Hp->(It->Hp->Prop)->Prop
def HS(X:Cx)(aa:List (ai×Obj))(Z:St)(tg:Expr)(R:It->Hp->Prop)(G9:ah)(s2:aq):Prop:=
 ∃(it:ai) (fp:List ai) (tn:Nat->bT->Prop) (J:It) (H':Hp),G9=.ref it/\Inv X aa Z H' s2/\Turn X.prog X.w X.K tg J fp it tn/\tn 0 s2.heap/\(∀b∈fp,i8 X aa H' b)/\R J H'
def PI(X:Cx)(tg iter:Expr)(wi:TI):Prop:=
 ∀(aa:List (ai×Obj)) (s:aq) (Z:St) (H:Hp) (R:It->Hp->Prop),Inv X aa Z H s->wi Z H R->
  wpAny (model X.prog X.w) X.A (eval iter X.env) (λv s1=>wpAny (model X.prog X.w) X.A (pyIter v) (HS X aa Z tg R) X.xe s1) X.xe s
def yv{M:Model}{A:cP}{E:ah->aq->Prop}{it:ai}{o:Obj}{n:String}{vs:Array ah}{Q:Unit->aq->Prop}(ho:s.heap.get? it=some o)(hc:o.cls=.type n)(hd:o.data=.fields vs)
  (hn:["enumerate","zip","dict_itemiterator","dict_reverseitemiterator","odict_iterator","itertools.zip_longest","itertools.pairwise"].contains n=false) (hQ:Q () s):wpAny M A (letOwnedTupleGo tg (.ref it) u) Q E s:=by
 unfold letOwnedTupleGo;cases tg <;> first
  |exact aR hQ
  |(cases u <;> first
    |exact aR hQ
    |(refine ay (wpAny_load ho ?_)
      rw[hc,hd];show wpAny M A (if(["enumerate","zip","dict_itemiterator","dict_reverseitemiterator","odict_iterator","itertools.zip_longest","itertools.pairwise"].contains n&&vs[0]? == some (rawInt _))=true then _ else _) Q E s
      rw[bc (by intro h;rw[hn,Bool.false_and] at h;cases h)]
      exact aR hQ))
def HL(K:aJ)(a:ai):It:=
 ⟨λi H=>∃xs x,cW K H a xs/\xs[i]?=some x,λi H x H'=>H'=H/\∀xs,cW K H a xs->xs[i]?=some x,λi H=>∃xs,cW K H a xs/\xs.length<=i⟩
def HM(K:aJ)(a:ai):It:=
 ⟨λi H=>∃xs x,iE K H a xs/\xs[i]?=some x,λi H x H'=>H'=H/\∀xs,iE K H a xs->xs[i]?=some x,λi H=>∃xs,iE K H a xs/\xs.length<=i⟩
def EE(lo:Int)(n:Nat):It:=⟨λi _=>i<n,λi H x H'=>H'=H/\x=.int (lo+i),λi _=>n<=i⟩
def Uk(a it:ai):Turn P w K tg (HL K a) [it] it (λi h=>h.IsListIter it a i) where
 mem:=by simp
 obj:=λi h st b hb=>by
  have e:b=it:=by simpa using hb
  subst e;obtain⟨o,e,c,d⟩:=st;exact⟨o,e,λv z=>by rw[d] at z;cases z⟩
 keep:=λi h h' st k=>st.at λo e=>k it (by simp) o e
 item:=by
  intro X hP hw hK hc i aa s Z H E I hf st hg;subst hP hw hK;obtain⟨xs,x,hq,hx⟩:=hg;obtain⟨aE,rv,p,hz⟩:=I.list hq;obtain⟨u,hu,ru⟩:=rv.get hx;obtain⟨f0,f1,f2,f3,f4,f5⟩:=hf it (by simp)
  refine wpAny_pyNext_list_item st p.isList (x:=u) (by simpa using hu) λh' jC sb=>?_
  have I1:Inv X aa Z H { s with heap:=h'}:=I.turned (t':=s.toks) (λb o hb e=>(sb.2 b hb).trans e) f0 f1 f3 f4 f5
  obtain⟨o,e,c,d⟩:=id jC;exact⟨u,rfl,yv (s:={ s with heap:=h'}) e c d (by decide) ⟨x,H,I1,ru,⟨rfl,λys hy=>by rw[I.kx hy hq];exact hx⟩,jC,λb hb=>(hf b hb).1⟩⟩
 done:=by
  intro X hP hw hK hc i aa s Z H E I hf st hg;subst hP hw hK;obtain⟨xs,hq,hx⟩:=hg;obtain⟨aE,rv,p,hz⟩:=I.list hq;obtain⟨f0,f1,f2,f3,f4,f5⟩:=hf it (by simp)
  have hl:=rv.length;exact wpAny_pyNext_list_end (I.ok.hd hc) st p.isList (by simp;lia) λh' eb=>⟨rfl,I.turned (t':=s.toks) (λb o hb e=>eb b o hb e) f0 f1 f3 f4 f5⟩
 self:=λ_ _ _ _ _ st h=>wpAny_pyIter_listiter st h
def Tu(a it:ai):Turn P w K tg (HM K a) [it] it (λi h=>h.IsTupleIter it a i) where
 mem:=by simp
 obj:=λi h st b hb=>by
  have e:b=it:=by simpa using hb
  subst e;obtain⟨o,e,c,d⟩:=st;exact⟨o,e,λv z=>by rw[d] at z;cases z⟩
 keep:=λi h h' st k=>st.at λo e=>k it (by simp) o e
 item:=by
  intro X hP hw hK hc i aa s Z H E I hf st hg;subst hP hw hK;obtain⟨xs,x,hq,hx⟩:=hg;obtain⟨aE,rv,p,hz⟩:=I.tuple hq;obtain⟨u,hu,ru⟩:=rv.get hx;obtain⟨f0,f1,f2,f3,f4,f5⟩:=hf it (by simp)
  refine wpAny_pyNext_tuple_item st (show s.heap.IsTuple a aE.toArray from p) (x:=u) (by simpa using hu) λh' jC sb=>?_
  have I1:Inv X aa Z H { s with heap:=h'}:=I.turned (t':=s.toks) (λb o hb e=>(sb.2 b hb).trans e) f0 f1 f3 f4 f5
  obtain⟨o,e,c,d⟩:=id jC;exact⟨u,rfl,yv (s:={ s with heap:=h'}) e c d (by decide) ⟨x,H,I1,ru,⟨rfl,λys hy=>by rw[I.lI hy hq];exact hx⟩,jC,λb hb=>(hf b hb).1⟩⟩
 done:=by
  intro X hP hw hK hc i aa s Z H E I hf st hg;subst hP hw hK;obtain⟨xs,hq,hx⟩:=hg;obtain⟨aE,rv,p,hz⟩:=I.tuple hq;obtain⟨f0,f1,f2,f3,f4,f5⟩:=hf it (by simp)
  have hl:=rv.length;exact wpAny_pyNext_tuple_end (I.ok.hd hc) st (show s.heap.IsTuple a aE.toArray from p) (by simp;lia) λh' eb=>⟨rfl,I.turned (t':=s.toks) (λb o hb e=>eb b o hb e) f0 f1 f3 f4 f5⟩
 self:=λ_ _ _ _ _ st h=>wpAny_pyIter_tupleiter st h
def Tv(it:ai)(lo:Int)(n:Nat):Turn P w K tg (EE lo n) [it] it (λi h=>IsRangeIter h it (lo+(i:Nat)*1) ((n:Int) - (i:Nat)) 1) where
 mem:=by simp
 obj:=λi h st b hb=>by
  have e:b=it:=by simpa using hb
  subst e;exact⟨_,st,λv z=>by
   have z':Data.fields _=Data.cell v:=z;cases z'⟩
 keep:=λi h h' st k=>k it (by simp) _ st
 item:=by
  intro X hP hw hK hc i aa s Z H E I hf st hg;subst hP hw hK;obtain⟨f0,f1,f2,f3,f4,f5⟩:=hf it (by simp)
  have W:=Walks.range (prog:=X.prog) (w:=X.w) (I.ok.hd hc) it lo 1 n;refine W.item i s _ _ hg st λv h' tk hv jC kk=>?_
  obtain⟨t,rfl⟩:=hv;have I1:Inv X aa Z H { s with heap:=h',toks:=tk}:=I.turned (λb o hb e=>kk b o (by simpa using hb) e) f0 f1 f3 f4 f5
  refine⟨_,rfl,yv (s:={ s with heap:=h',toks:=tk}) (n:="range_iterator") jC rfl rfl (by decide) ⟨.int (lo+i),H,I1,⟨t,?_⟩,⟨rfl,rfl⟩,jC,λb hb=>(hf b hb).1⟩⟩
  rw[Int.mul_one]
 done:=by
  intro X hP hw hK hc i aa s Z H E I hf st hg;subst hP hw hK;obtain⟨f0,f1,f2,f3,f4,f5⟩:=hf it (by simp)
  exact wpAny_pyNext_range_end (I.ok.hd hc) st (by have:n<=i:=hg;lia) λh' eb=>⟨rfl,I.turned (t':=s.toks) (λb o hb e=>eb b o hb e) f0 f1 f3 f4 f5⟩
 self:=λ_ _ _ _ _ st h=>wpAny_pyIter_rangeiter st h
section
variable{X:Cx}{tg:Expr}
def wt(K:aJ)(tl:TE):TI:=λZ H R=>tl Z H λx H1=>∃a,x=.ref a/\(∃xs,cW K H1 a xs)/\R (HL K a) H1
def C6(K:aJ)(tl:TE):TI:=λZ H R=>tl Z H λx H1=>∃a,x=.ref a/\(∃xs,iE K H1 a xs)/\R (HM K a) H1
def Xf{l:Expr}{tl:TE}(hl:PE X l tl):PI X tg l (wt X.K tl):=by
 intro aa s Z H R I h;refine bM (hl aa s Z H _ I h) λv s1 hh=>?_
 obtain⟨x,H1,I1,r1,q1⟩:=hh;obtain⟨a,e,⟨xs,hq⟩,q⟩:=q1;subst e;cases r1;obtain⟨aE,rv,p,hz⟩:=I1.list hq;refine wpAny_pyIter_list p.isList ?_;refine⟨s1.heap.objs.size,[s1.heap.objs.size],_,_,H1,rfl,I1.kept (t':=s1.toks) λb o e=>cZ _ e,Uk a _,⟨_,iZ _ rfl,rfl,rfl⟩,λb hb=>?_,q⟩
 have e:b=s1.heap.objs.size:=by simpa using hb
 subst e;exact I1.k6 (bZ _) (I1.bG.fresh (bZ _))
def ZU{l:Expr}{tl:TE}(hl:PE X l tl):PI X tg l (C6 X.K tl):=by
 intro aa s Z H R I h;refine bM (hl aa s Z H _ I h) λv s1 hh=>?_
 obtain⟨x,H1,I1,r1,q1⟩:=hh;obtain⟨a,e,⟨xs,hq⟩,q⟩:=q1;subst e;cases r1;obtain⟨aE,rv,p,hz⟩:=I1.tuple hq;refine wpAny_pyIter_tuple (show s1.heap.IsTuple a aE.toArray from p) ?_;refine⟨s1.heap.objs.size,[s1.heap.objs.size],_,_,H1,rfl,I1.kept (t':=s1.toks) λb o e=>cZ _ e,Tu a _,⟨_,iZ _ rfl,rfl,rfl⟩,λb hb=>?_,q⟩
 have e:b=s1.heap.objs.size:=by simpa using hb
 subst e;exact I1.k6 (bZ _) (I1.bG.fresh (bZ _))
def Vx{aa:List (ai×Obj)}{Z:St}{H:Hp}{s:aq}{R:It->Hp->Prop}{E:ah->aq->Prop}{lo hi:Int}{t u v:Tok}{tk:Nat}(I:Inv X aa Z H s)(h1:-(2^62)<=lo)(h2:lo<2^62)(h3:-(2^62)<=hi)(h4:hi<2^62)
  (q:R (EE lo (hi - lo).toNat) H):wpAny (model X.prog X.w) X.A (pyIter (.ref s.heap.objs.size)) (HS X aa Z tg R) E { s with heap:=s.heap.push { cls:=.type "range",data:=.fields #[.int lo t,.int hi u,.int 1 v]},toks:=tk}:=by
 refine wpAny_pyIter_range (IsRange.new ..) (small_one h1 h2 h3 h4) ?_;have I1:Inv X aa Z H { s with heap:=s.heap.push { cls:=.type "range",data:=.fields #[.int lo t,.int hi u,.int 1 v]},toks:=tk}:=I.kept λb o e=>cZ _ e
 refine⟨(s.heap.push { cls:=.type "range",data:=.fields #[.int lo t,.int hi u,.int 1 v]}).objs.size,[(s.heap.push { cls:=.type "range",data:=.fields #[.int lo t,.int hi u,.int 1 v]}).objs.size],_,_,H,rfl,I1.kept (t':=tk) λb o e=>cZ _ e,Tv _ lo (hi - lo).toNat,?_,λb hb=>?_,q⟩
 .have e1:lo+((0:Nat):Int)*1=lo:=by simp
  have e2:(((hi - lo).toNat:Nat):Int) - ((0:Nat):Int)=Builtin.Range.rangeSize lo hi 1:=by rw[rangeSize_one];split <;> lia
  show IsRangeIter _ _ (lo+((0:Nat):Int)*1) ((((hi - lo).toNat:Nat):Int) - ((0:Nat):Int)) 1;rw[e1,e2];exact iZ _ rfl
 .have e:b=(s.heap.push { cls:=.type "range",data:=.fields #[.int lo t,.int hi u,.int 1 v]}).objs.size:=by simpa using hb
  subst e;exact I1.k6 (bZ _) (I1.bG.fresh (bZ _))
def wu(ta:TA):TI:=λZ H R=>ta Z H λvs H1=>∃j:Int,vs=[.int j] /\ -(2^62)<=j/\j<2^62/\R (EE 0 j.toNat) H1
def Ul{a:Expr}{ta:TA}{p pos:Pos}(hg:Gl X "range")(hm:X.mg "range"=none)(ha:PA X [a] ta)(hs:starEach [a] X.env=[(false,eval a X.env)]:=by rfl):PI X tg (.Call (.Name "range" p) [a] [] pos) (wu ta):=by
 intro aa s Z H R I h;refine Call_ (tR I hg hm boot_range (PyProof.Rows.callWith_type1 (bM (ha pos aa s Z H _ I h) λus s1 hh=>?_) hs rfl))
 obtain⟨vs,H1,I1,r1,q1⟩:=hh;obtain⟨j,e,q1,q2,q⟩:=q1;subst e;cases r1 with
 |cons r rr=>
  cases rr;obtain⟨t,rfl⟩:=r;exact call_range_1 (Vx I1 (by lia) (by lia) q1 q2 (by simpa using q))
def LU(wi:TI)(g:TG)(tb:TS):TS:=λD Z H=>wi Z H λJ H1=>∃W:Nat->Nat->St->Hp->Prop,(∃m,W 0 m Z H1)/\∀i m Z H,W i m Z H->
 (J.stop i H/\D.nx Z H)\/(J.go i H/\∃N:St->Hp->Prop,(∀Z' H',N Z' H'->∃m',m'<m/\W (i+1) m' Z' H')/\∀x H',J.tL i H x H'->g x Z H' λZ2 H2=>tb { D with nx:=N,ct:=N,bk:=D.nx} Z2 H2)
noncomputable def B_(fp:List ai)(h:bT):List (ai×Obj):=fp.filterMap λb=>(h.get? b).map λo=>(b,o)
def BC{fp:List ai}{h:bT}{b:ai}{o:Obj}(hb:b∈fp)(e:h.get? b=some o):(b,o)∈B_ fp h:=mT.mpr ⟨b,hb,by rw[e];rfl⟩
def Um{fp:List ai}{h:bT}{p:ai×Obj}(hp:p∈B_ fp h):p.1∈fp/\h.get? p.1=some p.2:=by
 obtain⟨b,hb,e⟩:=mT.mp hp;cases q:h.get? b with
 |none=>rw[q] at e;cases e
 |some o=>
  rw[q] at e;have e':(b,o)=p:=Option.some.inj e;subst e';exact⟨hb,q⟩
def Inv.pinned{aa:List (ai×Obj)}{Z:St}{H:Hp}{s:aq}{fp:List ai}(I:Inv X aa Z H s)(hf:∀b∈fp,i8 X aa H b)(ho:∀b∈fp,∃o,s.heap.get? b=some o/\∀v,o.data≠.cell v):Inv X (aa++B_ fp s.heap) Z H s:=
 I.jW λp hp=>(dF.mp hp).elim (λz=>I.pin p (n9 _ z)) λz=>by
  obtain⟨hb,e⟩:=Um z;obtain⟨f0,f1,f2,_⟩:=hf p.1 hb;obtain⟨o,e',d⟩:=ho p.1 hb;rw[e] at e';cases e';exact⟨e,f0,f1,f2,d⟩
def Inv.fB{aa pl:List (ai×Obj)}{Z:St}{H:Hp}{s:aq}(I:Inv X (aa++pl) Z H s):Inv X aa Z H s:=I.jW λp hp=>I.pin p (n9 _ (Ep _ hp))
def Qz{iter:Expr}{body:List Stmt}{wi:TI}{g:TG}{tb:TS}{pos:Pos}(hp:PassesOwn (model X.prog X.w) X.A X.env X.xe)(hc:X.calm=true)(hi:PI X tg iter wi)(hg:PG X tg g)(hb:i_ X body tb)
  (hs:∀x,foldedSetIterable iter X.env x=pure x:=by intro _;rfl):PS X (.For tg iter body [] pos) (LU wi g tb):=by
 intro aa s Z H D I h;refine wpAny_For (bM (hi aa s Z H _ I h) λv s1 h1=>bM h1 λG9 s2 h2=>?_) hs
 obtain⟨it,fp,tn,J,H2,e,I2,T,qU,f2,W,⟨m0,w0⟩,turn⟩:=h2;subst e;have oP:∀{H':Hp},(∀b∈fp,H' b=none)->∀b∈fp,i8 X aa H' b:=λhn b hb=>⟨hn b hb,(f2 b hb).2⟩
 refine codeAny_forLoop_any (λn s'=>∃i Z' H',Inv X aa Z' H' s'/\tn i s'.heap/\(∀b∈fp,H' b=none)/\W i n Z' H') ?_ m0 ⟨0,Z,H2,I2,qU,λb hb=>(f2 b hb).1,w0⟩
 rintro n s3 ⟨i,Z3,H3,I3,SI,RQ,w3⟩;rcases turn i n Z3 H3 w3 with⟨stop,qn⟩|⟨go,N,hN,step⟩
 .refine wpAny_passesOwn hp (bM (T.done X rfl rfl rfl hc i aa s3 Z3 H3 X.xe I3 (oP RQ) SI stop) λr s4 ⟨hr,I4⟩=>?_)
  subst hr;exact wpAny_execs_nil ⟨Z3,H3,I4,qn⟩
 .refine wpAny_passesOwn hp (bM (T.item X rfl rfl rfl hc i aa s3 Z3 H3 X.xe I3 (oP RQ) SI go) λr s4 ⟨u,hr,h4⟩=>?_)
  subst hr;refine wpAny_passesOwn hp (bM h4 λ_ s5 hh=>?_)
  obtain⟨x,H5,I5,r5,y5,zP,Ke⟩:=hh;have HI:=I5.pinned (oP Ke) (T.obj _ _ zP);refine wpAny_passesOwn hp (bM (hg _ s5 Z3 H5 x u _ HI r5 (step x H5 y5)) λ_ s6 hh=>?_)
  obtain⟨Z6,H6,I6,q6⟩:=hh;refine wpAny_passesOwn hp (bM (hb _ s6 Z6 H6 _ I6 q6) λf s7 q7=>?_)
  have again:∀{Z7:St} {H7:Hp},Inv X (aa++B_ fp s5.heap) Z7 H7 s7->N Z7 H7->∃m,m<n/\∃i Z' H',Inv X aa Z' H' s7/\tn i s7.heap/\(∀b∈fp,H' b=none)/\W i m Z' H':=λ{Z7 H7} I7 n7=>by
   obtain⟨m',hm,w7⟩:=hN Z7 H7 n7;refine⟨m',hm,i+1,Z7,H7,I7.fB,T.keep _ _ _ zP λb hb o e=>(I7.pin (b,o) (n9 _ (n9 _ (BC hb e)))).1,λb hb=>?_,w7⟩
   obtain⟨o,e,d⟩:=T.obj _ _ zP b hb;exact(I7.pin (b,o) (n9 _ (n9 _ (BC hb e)))).2.1
  cases f with
  |next=>obtain⟨Z7,H7,I7,n7⟩:=q7;exact again I7 n7
  |cont=>obtain⟨Z7,H7,I7,n7⟩:=q7;exact again I7 n7
  |brk=>obtain⟨Z7,H7,I7,q7⟩:=q7;exact⟨Z7,H7,I7.fB,q7⟩
  |ret v=>obtain⟨x7,Z7,H7,I7,r7,q7⟩:=q7;exact⟨x7,Z7,H7,I7.fB,r7,q7⟩
end
variable{aa:List (ai×Obj)}{s:aq}{Z:St}{H:Hp}{f:ah->ah->Sem ah}{op:CmpOp}{g:Int->Int->Int}{x:V}{us:List ah}
abbrev R2:=V->V->Hp->VK->Prop
variable{r r':R2}
def ec(X:Cx)(f:ah->ah->Sem ah)(r:R2):Prop:=
 ∀(aa:List (ai×Obj)) (s:aq) (Z:St) (H:Hp) (x y:V) (v u:ah) (Q:VK),Inv X aa Z H s->RelV x v->RelV y u->r x y H Q->
  wpAny (model X.prog X.w) X.A (f v u) (EP X aa Z Q) X.xe s
def EJ(X:Cx)(f:ah->Sem ah)(r:V->Hp->VK->Prop):Prop:=
 ∀(aa:List (ai×Obj)) (s:aq) (Z:St) (H:Hp) (x:V) (v:ah) (Q:VK),Inv X aa Z H s->RelV x v->r x H Q->
  wpAny (model X.prog X.w) X.A (f v) (EP X aa Z Q) X.xe s
def bS(X:Cx)(f:ah)(r:List V->Hp->VK->Prop):Prop:=
 ∀(aa:List (ai×Obj)) (s:aq) (Z:St) (H:Hp) (xs:List V) (us:List ah) (Q:VK),Inv X aa Z H s->Vals xs us->r xs H Q->
  wpAny (model X.prog X.w) X.A (call f us) (EP X aa Z Q) X.xe s
def HV(X:Cx)(r:V->Hp->(Bool->Hp->Prop)->Prop):Prop:=
 ∀(aa:List (ai×Obj)) (s:aq) (Z:St) (H:Hp) (x:V) (v:ah) (Q:Bool->Hp->Prop),Inv X aa Z H s->RelV x v->r x H Q->
  wpAny (model X.prog X.w) X.A (truthy v) (TP X aa Z Q) X.xe s
def Hk(r:R2)(ta tb:TE):TE:=λZ H Q=>ta Z H λx H1=>tb Z H1 λy H2=>r x y H2 Q
def tUn(r:V->Hp->VK->Prop)(ta:TE):TE:=λZ H Q=>ta Z H λx H1=>r x H1 Q
def rI(C:Int->Int->Prop)(g:Int->Int->V):R2:=λx y H Q=>∃i j,x=.int i/\y=.int j/\C i j/\Q (g i j) H
def pM(g:Int->Int->V):R2:=λx y H Q=>∃i j,x=.int i/\y=.int j/\Q (g i j) H
def rU(g:Int->V):V->Hp->VK->Prop:=λx H Q=>∃i,x=.int i/\Q (g i) H
section
variable{X:Cx}{a b c:Expr}{ta tb tc:TE}{pos:Pos}
def yw(ha:PE X a ta)(hb:PE X b tb){R:V->V->Hp->Prop}(I:Inv X aa Z H s)
  (h:ta Z H λx H1=>tb Z H1 λy H2=>R x y H2) {Q:ah->aq->Prop} 
  (hf:∀v u s2 x y H2,Inv X aa Z H2 s2->RelV x v->RelV y u->R x y H2->wpAny (model X.prog X.w) X.A (f v u) Q X.xe s2) :
  wpAny (model X.prog X.w) X.A (eval a X.env) (λv s₁=>wpAny (model X.prog X.w) X.A (eval b X.env) (λu s₂=>wpAny (model X.prog X.w) X.A (f v u) Q X.xe s₂) X.xe s₁) X.xe s:=by
 refine bM (ha aa s Z H _ I h) λv s1 hh=>?_
 obtain⟨x,H1,I1,r1,q1⟩:=hh;refine bM (hb aa s1 Z H1 _ I1 q1) λu s2 hh=>?_
 obtain⟨y,H2,I2,r2,q2⟩:=hh;exact hf v u s2 x y H2 I2 r1 r2 q2
def e7i{op:Operator}(ho:ec X (binaryOp op) r)(ha:PE X a ta)(hb:PE X b tb):PE X (.BinOp a op b pos) (Hk r ta tb):=by
 intro aa s Z H Q I h;exact wpAny_BinOp (yw ha hb I h λv u s2 x y H2 I2 rx ry q=>ho aa s2 Z H2 x y v u Q I2 rx ry q)
def e7j{op:UnaryOp}{r:V->Hp->VK->Prop}(ho:EJ X (unaryOp op) r)(ha:PE X a ta):PE X (.UnaryOp op a pos) (tUn r ta):=by
 intro aa s Z H Q I h;exact UnaryOp_ (bM (ha aa s Z H _ I h) λv s1 ⟨x,H1,I1,r1,q1⟩=>ho aa s1 Z H1 x v Q I1 r1 q1)
def Hf{C:Int->Int->Prop}
  (rule:∀(i j:Int) (t u:Tok) (s:aq) (Q:ah->aq->Prop) (E:ah->aq->Prop),C i j->Q (.int (g i j) s.toks) { s with toks:=s.toks+1}->wpAny (model X.prog X.w) X.A (f (.int i t) (.int j u)) Q E s) :
  ec X f (rI C λi j=>.int (g i j)):=by
 intro aa s Z H x y v u Q I rx ry h;obtain⟨i,j,rfl,rfl,hc,q⟩:=h;obtain⟨t,rfl⟩:=rx;obtain⟨t',rfl⟩:=ry;exact rule i j t t' s _ _ hc ⟨.int (g i j),H,I.tok _,⟨_,rfl⟩,q⟩
def Du
  (rule:∀(i j:Int) (t u:Tok) (s:aq) (Q:ah->aq->Prop) (E:ah->aq->Prop),Q (.int (g i j) s.toks) { s with toks:=s.toks+1}->wpAny (model X.prog X.w) X.A (f (.int i t) (.int j u)) Q E s) :
  ec X f (pM λi j=>.int (g i j)):=by
 intro aa s Z H x y v u Q I rx ry h;obtain⟨i,j,rfl,rfl,q⟩:=h;obtain⟨t,rfl⟩:=rx;obtain⟨t',rfl⟩:=ry;exact rule i j t t' s _ _ ⟨.int (g i j),H,I.tok _,⟨_,rfl⟩,q⟩
def zt{g:Int->Int->Bool}
  (rule:∀(i j:Int) (t u:Tok) (s:aq) (Q:ah->aq->Prop) (E:ah->aq->Prop),Q (.bool (g i j)) s->wpAny (model X.prog X.w) X.A (f (.int i t) (.int j u)) Q E s) :
  ec X f (pM λi j=>.bl (g i j)):=by
 intro aa s Z H x y v u Q I rx ry h;obtain⟨i,j,rfl,rfl,q⟩:=h;obtain⟨t,rfl⟩:=rx;obtain⟨t',rfl⟩:=ry;exact rule i j t t' s _ _ ⟨.bl (g i j),H,I,rfl,q⟩
def xy(i j:Int):Prop:=0<j/\j<1073741824
def xA(i j:Int):Prop:=0<=j/\j<=1000000/\i.natAbs<2^64
def uk(i j:Int):Prop:=(-(2^64)<i/\i<2^64)\/(-(2^64)<j/\j<2^64)
def uk.ok{i j:Int}(h:uk i j):IntMulOk i j:=by
 rcases h with⟨h1,h2⟩|⟨h1,h2⟩
 .exact .of_left (intBits_le_64 h1 h2)
 .exact .of_right (intBits_le_64 h1 h2)
def zu:ec X (binaryOp .Add) (pM λi j=>.int (i+j)):=Du λ_ _ _ _ _ _ _ q=>add_int q
def ZV:ec X (binaryOp .Sub) (pM λi j=>.int (i - j)):=Du λ_ _ _ _ _ _ _ q=>sub_int q
def zw:ec X (binaryOp .Mult) (rI uk λi j=>.int (i*j)):=Hf λ_ _ _ _ _ _ _ hc q=>mul_int q hc.ok
def Xg:ec X (binaryOp .FloorDiv) (rI xy λi j=>.int (i / j)):=Hf λi j _ _ _ _ _ hc q=>by
 have h1:(0:Int)<j:=hc.1;have h2:j<1073741824:=hc.2;exact floordiv_int (by lia) (by rw[Int.fdiv_eq_ediv_of_nonneg i (by lia)];exact q) (.inl (PyProof.noPylong_small (by lia)))
def ZW:ec X (binaryOp .Mod) (rI (λ_ j=>0<j) λi j=>.int (i%j)):=Hf λi j _ _ _ _ _ hc q=>by
 have h1:(0:Int)<j:=hc;exact mod_int' (by lia) (by rw[Int.fmod_eq_emod_of_nonneg i (by lia)];exact q)
def ZX:ec X (binaryOp .Pow) (rI xA λi j=>.int (i^j.toNat)):=Hf λ_ _ _ _ _ _ _ hc q=>pow_int_small hc.1 hc.2.1 hc.2.2 q
def unI{f:ah->Sem ah}{g:Int->Int}
  (rule:∀(i:Int) (t:Tok) (s:aq) (Q:ah->aq->Prop) (E:ah->aq->Prop),Q (.int (g i) s.toks) { s with toks:=s.toks+1}->wpAny (model X.prog X.w) X.A (f (.int i t)) Q E s) :
  EJ X f (rU λi=>.int (g i)):=by
 intro aa s Z H x v Q I rx h;obtain⟨i,rfl,q⟩:=h;obtain⟨t,rfl⟩:=rx;exact rule i t s _ _ ⟨.int (g i),H,I.tok _,⟨_,rfl⟩,q⟩
def ZY:EJ X (unaryOp .USub) (rU λi=>.int (-i)):=unI λ_ _ _ _ _ q=>neg_int q
def uH{Q:VK}{k k':Bool}(I:Inv X aa Z H s)(q:Q (.bl k) H)(e:k=k'):EP X aa Z Q (.bool k') s:=by
 subst e;exact⟨.bl k,H,I,rfl,q⟩
def wN:ec X (compareOp .Lt) (pM λi j=>.bl (decide (i<j))):=zt λ_ _ _ _ _ _ _ q=>lt_int q
def wM:ec X (compareOp .LtE) (pM λi j=>.bl (decide (i<=j))):=zt λ_ _ _ _ _ _ _ q=>le_int q
def e7k:ec X (compareOp .Gt) (pM λi j=>.bl (decide (j<i))):=zt λ_ _ _ _ _ _ _ q=>gt_int q
def Uo:ec X (compareOp .In) (λx y H Q=>∃i j,x=.str i/\y=.str j/\Q (.bl (!(Builtin.Str.occurrences j i 0 j.length 1).isEmpty)) H):=by
 intro aa s Z H x y v u Q I rx ry h;obtain⟨i,j,rfl,rfl,q⟩:=h;obtain⟨t,rfl⟩:=rx;obtain⟨t',rfl⟩:=ry;exact in_str (uH I q rfl)
def zv:ec X (compareOp .Is) (λx y H Q=>y=.aM/\Q (.bl (decide (x=.aM))) H):=by
 intro aa s Z H x y v u Q I rx ry h;obtain⟨rfl,q⟩:=h;cases ry;refine is_none_gen (uH I q ?_);cases x <;> first
  |(cases rx;rfl)
  |(obtain⟨t,rfl⟩:=rx;rfl)
def vj:ec X (compareOp .IsNot) (λx y H Q=>y=.aM/\Q (.bl (!decide (x=.aM))) H):=by
 intro aa s Z H x y v u Q I rx ry h;obtain⟨rfl,q⟩:=h;cases ry;refine isnot_none_gen (uH I q ?_);cases x <;> first
  |(cases rx;rfl)
  |(obtain⟨t,rfl⟩:=rx;rfl)
def Td:ec X (compareOp .NotIn) (λx y H Q=>∃i j,x=.str i/\y=.str j/\Q (.bl (!(!(Builtin.Str.occurrences j i 0 j.length 1).isEmpty))) H):=by
 intro aa s Z H x y v u Q I rx ry h;obtain⟨i,j,rfl,rfl,q⟩:=h;obtain⟨t,rfl⟩:=rx;obtain⟨t',rfl⟩:=ry;exact notIn_str (uH I q rfl)
def ec.or(h:ec X f r)(h':ec X f r'):ec X f (λx y H Q=>r x y H Q\/r' x y H Q):=by
 intro aa s Z H x y v u Q I rx ry q;rcases q with q|q
 .exact h aa s Z H x y v u Q I rx ry q
 .exact h' aa s Z H x y v u Q I rx ry q
def Xh(ho:ec X (compareOp op) r)(ha:PE X a ta)(hb:PE X b tb)(hm:behindInMarks op b=false):PE X (.Compare a [op] [b] pos) (Hk r ta tb):=by
 intro aa s Z H Q I h;exact wpAny_Compare1 (yw ha hb I h λv u s2 x y H2 I2 rx ry q=>ho aa s2 Z H2 x y v u Q I2 rx ry q) hm
def tu(t:TE):TT:=λZ H Q=>t Z H λx H'=>∃k,x=.bl k/\Q k H'
def Xi(ho:ec X (compareOp op) r)(ha:PE X a ta)(hb:PE X b tb)(hm:behindInMarks op b=false):PT X (.Compare a [op] [b] pos) (tu (Hk r ta tb)):=by
 intro aa s Z H Q I h;refine wpAny_isTrue_Compare1 (bM (ha aa s Z H _ I h) λv s1 h1=>?_) hm
 obtain⟨x,H1,I1,r1,q1⟩:=h1;refine bM (hb aa s1 Z H1 _ I1 q1) λu s2 h2=>?_
 obtain⟨y,H2,I2,r2,q2⟩:=h2;refine bM (ho aa s2 Z H2 x y v u _ I2 r1 r2 q2) λc s3 h3=>?_
 obtain⟨z,H3,I3,r3,k,rfl,q3⟩:=h3;cases r3;exact wpAny_truthy_bool ⟨H3,I3,q3⟩
def QA(r r':R2)(ta tb tc:TE):TE:=λZ H Q=>ta Z H λx H1=>tb Z H1 λy H2=>r x y H2 λz H3=>∃k,z=.bl k/\
 (if k=true then tc Z H3 λw' H4=>r' y w' H4 Q else Q (.bl false) H3)
def Vy{zr:CmpOp}(ho:ec X (compareOp op) r)(wk:ec X (compareOp zr) r')(ha:PE X a ta)(hb:PE X b tb)(hc:PE X c tc)
  (hm:lastMarks [op,zr] [b,c]=false:=by with_unfolding_all rfl):PT X (.Compare a [op,zr] [b,c] pos) (tu (QA r r' ta tb tc)):=by
 intro aa s Z H Q I h;refine isTrue_chain (bM (ha aa s Z H _ I h) λv s1 h1=>?_) hm
 obtain⟨x,H1,I1,r1,q1⟩:=h1;refine test_link (bM (hb aa s1 Z H1 _ I1 q1) λu s2 h2=>?_)
 obtain⟨y,H2,I2,r2,q2⟩:=h2;refine bM (ho aa s2 Z H2 x y v u _ I2 r1 r2 q2) λd s3 h3=>?_
 obtain⟨z,H3,I3,r3,k,rfl,q3⟩:=h3;cases r3;refine wpAny_truthy_bool ?_;cases k with
 |false=>
  obtain⟨k',e',q'⟩:=q3;cases e';exact ite_ff ⟨H3,I3,q'⟩
 |true=>
  refine ite_tt (test_last (bM (hc aa s3 Z H3 _ I3 q3) λw' s4 h4=>?_))
  obtain⟨z',H4,I4,r4,q4⟩:=h4;refine bM (wk aa s4 Z H4 y z' u w' _ I4 r2 r4 q4) λd' s5 h5=>?_
  obtain⟨z2,H5,I5,r5,k2,rfl,q5⟩:=h5;cases r5;exact wpAny_truthy_bool ⟨H5,I5,q5⟩
def xK(K:aJ)(x:V)(H:Hp)(k:Bool):Prop:=
 match x with
 |.aM=>k=false
 |.bl b=>k=b
 |.int i=>k=(i != 0)
 |.str y=>y.length<=sizeLine/\k=((y.length:Int) != 0)
 |.wa y=>y.size<=sizeLine/\k=((y.size:Int) != 0)
 |.ref p=>(∃xs,cW K H p xs/\k = !xs.isEmpty)\/(∃xs,iE K H p xs/\k = !xs.isEmpty)\/∃kvs,H p=some (.dK kvs)/\k = !kvs.isEmpty
 |_=>False
def Tw{κ:Type}{kvs:List (κ×V)}{vs:List (κ×ah)}(r:KV kvs vs):(!vs.isEmpty) = !kvs.isEmpty:=by
 cases r <;> rfl
def Nj{xs:List V}{aE:List ah}(r:Vals xs aE):(!aE.toArray.isEmpty) = !xs.isEmpty:=by
 cases r <;> simp
def yo:(sizeLine:Nat)<2^63:=by rw[sizeLine_eq];decide
def ZZ:HV X (λx H Q=>∃k,xK X.K x H k/\Q k H):=by
 intro aa s Z H x v Q I rx h;obtain⟨k,e,q⟩:=h;have hl:=yo;have hs:sizeLine=16777216:=sizeLine_eq;cases x with
 |aM=>
  cases rx;have e':k=false:=e;subst e';exact truthy_none ⟨H,I,q⟩
 |bl b=>
  cases rx;have e':k=b:=e;subst e';exact wpAny_truthy_bool ⟨H,I,q⟩
 |int i=>
  obtain⟨t,rfl⟩:=rx;have e':k=(i != 0):=e;subst e';exact PySem.P.truthy_int ⟨H,I,q⟩
 |str y=>
  obtain⟨t,rfl⟩:=rx;obtain⟨hy,e'⟩:y.length<=sizeLine/\k=((y.length:Int) != 0):=e;subst e';exact PySem.P.truthy_str (by lia) ⟨H,I.tok _,q⟩
 |wa y=>
  obtain⟨t,rfl⟩:=rx;obtain⟨hy,e'⟩:y.size<=sizeLine/\k=((y.size:Int) != 0):=e;subst e';exact PySem.W.truthy_bytes (by lia) ⟨H,I.tok _,q⟩
 |ref p=>
  cases rx;have e':(∃xs,cW X.K H p xs/\k = !xs.isEmpty)\/(∃xs,iE X.K H p xs/\k = !xs.isEmpty)\/∃kvs,H p=some (.dK kvs)/\k = !kvs.isEmpty:=e;rcases e' with⟨xs,hx,e'⟩|⟨xs,hx,e'⟩|⟨kvs,hx,e'⟩
  .subst e';obtain⟨aE,r,pl,hz⟩:=I.list hx;have hlen:=r.length;exact wpAny_truthy_list pl.isList (by simp only[eE];lia) ⟨H,I.tok _,by rw[Nj r];exact q⟩
  .subst e';obtain⟨aE,r,pl,hz⟩:=I.tuple hx;have hlen:=r.length;exact truthy_tuple pl (by simp only[eE];lia) ⟨H,I.tok _,by rw[Nj r];exact q⟩
  .subst e';obtain⟨hz,hS,vs,r,m⟩:kvs.length<=sizeLine/\(p == sysModules)=false/\∃vs,KV kvs vs/\s.heap.DictOf (Jm X.prog X.w) p vs:=I.bG p _ hx;have hlen:kvs.length=vs.length:=Paired.length r;exact wpAny_truthy_dict hS m (by lia) ⟨H,I.tok _,by rw[Tw r];exact q⟩
 |_=>exact(show False from e).elim
def Vz(ha:PE X a ta)(he:∀whole,isTrue a X.env whole=(do let v <-whole;standAt a.pos;holding [v] (truthy v))):
  PT X a (λZ H Q=>ta Z H λx H'=>∃k,xK X.K x H' k/\Q k H'):=by
 intro aa s Z H Q I h;exact isTrue_plain (bM (ha aa s Z H _ I h) λv s1 ⟨x,H1,I1,r1,q1⟩=>ZZ aa s1 Z H1 x v Q I1 r1 q1) (he _)
def oM:ec X (binaryOp .Add) (λx y H Q=>∃i j,x=.str i/\y=.str j/\i.length+j.length<=sizeLine/\Q (.str (i++j)) H):=by
 intro aa s Z H x y v u Q I rx ry h;obtain⟨i,j,rfl,rfl,hz,q⟩:=h;obtain⟨t,rfl⟩:=rx;obtain⟨t',rfl⟩:=ry;exact add_str (λt' tk=>⟨.str (i++j),H,I.tok _,⟨_,rfl⟩,q⟩) hz
def vals1(r:Vals [x] us):∃u,us=[u]/\RelV x u:=by
 cases r with
 |cons r1 r2=>cases r2;exact⟨_,rfl,r1⟩
def vals2{y:V}(r:Vals [x,y] us):∃u w',us=[u,w']/\RelV x u/\RelV y w':=by
 cases r with
 |cons r1 r2=>
  cases r2 with
  |cons r3 r4=>cases r4;exact⟨_,_,rfl,r1,r3⟩
end
variable{h:bT}{dx C:ai}{mA:Str->aj ah}{Q:ah->aq->Prop}{v:V}{o:aj ah}{u:ah}{K:aJ}{f:Str}
structure ox (h:bT) (x dx C:ai) (mA:Str->aj ah):Prop where
 obj:h.get? x=some (PySem.W.instObj C dx)
 ns:h.Ns1 dx mA
 ne:dx≠x
def Uq(n:h.Ns1 dx mA):∃od,h.get? dx=some od/\∀name,PySem.W.lookIn name od=some (mA name):=by
 obtain⟨o,es,ep,ho,hd,hk,_,hm⟩:=n;refine⟨o,ho,λname=>?_⟩
 have e:=hm name;unfold nsFind findBy at e;rw[<-Array.find?_toList] at e;unfold PySem.W.lookIn;rw[hd];dsimp only;split
 .rename_i q
  rw[q] at e;exact congrArg some e
 .rename_i q
  rw[q] at e;have a:es.toList.any (·.refKey)=false:=by
   rw[List.any_eq_false];intro y hy;obtain⟨z,t,KD⟩:=hk y (Mi.mp hy);simp[DictEntry.refKey,KD]
  have a':¬es.toList.any (·.refKey)=true:=by rw[a];exact tH
  rw[bc a'];exact congrArg some e
theorem ox.look{x:ai}(I:ox h x dx C mA):∃od,PySem.W.InstAt h x (PySem.W.instObj C dx) C (some od)/\∀name,PySem.W.lookIn name od=some (mA name):=
 let ⟨od,ho,hl⟩:=Uq I.ns
 ⟨od,⟨I.obj,rfl,rfl,ho⟩,hl⟩
section
variable{prog:dq}{w:cF}{A:cP}{E:ah->aq->Prop}{s:aq}{K:aJ}{x dx C f:ai}{mA:Str->aj ah}{name:Str}{v:ah}
def Xj{expr:Bool}(X:K.In s.heap)(I:ox s.heap x dx C mA)(hg:PySem.W.plainGet K C name=true)(hh:PySem.W.hasDictIn K C=true)
  (ha:PySem.W.findIn K (.ref C) name=some none) (hv:mA name=some v) (KQ:PySem.W.handedIn v=true) (h:Q v { s with toks:=s.toks+1}) :
  wpAny (model prog w) A (getAttr (.ref x) name expr) Q E s:=by
 obtain⟨od,J,hl⟩:=I.look;exact PySem.W.get_value X J (PySem.W.plainGet_of hg).1 (PySem.W.findObj_own hh ha rfl (by rw[hl,hv])) KQ h
def VA{pl:Sem Bool}{Q:ah×List ah->aq->Prop}(X:K.In s.heap)(I:ox s.heap x dx C mA)(hg:PySem.W.plainGet K C name=true)
  (hf:PySem.W.findIn K (.ref C) name=some (some (.ref f))) (ht:PySem.W.isFn K (.ref f)=true) (hv:mA name=none) (h:Q (.ref f,[.ref x]) s) :
  wpAny (model prog w) A (getMethod (.ref x) name pl) Q E s:=by
 obtain⟨od,J,hl⟩:=I.look;exact PySem.W.method_fn X J (PySem.W.plainGet_of hg).1 (PySem.W.plainGet_of hg).2 hf (beq_iff_eq.mp ht) (by show(PySem.W.lookIn name od).map (·.isSome)=some false;rw[hl,hv];rfl) h
def Xk{ns:List Str}{Q:Unit->aq->Prop}(X:K.In s.heap)(I:ox s.heap x dx C mA)
  (hs:PySem.W.findIn K (.ref C) "__setattr__"=some (some (.builtin "object.__setattr__"))) (hp:PySem.W.plainOver K C=true) (ht:PySem.W.takerIn K C name=some none) (hh:PySem.W.hasDictIn K C=true)
  (hw:PySem.Within mA ns) (hsz:ns.length<=sizeLine)
  (h:∀h',ox h' x dx C (λy=>if y=name then some v else mA y)->Heap.SameBut dx s.heap h'->Q () { s with heap:=h',toks:=s.toks+2}) :
  wpAny (model prog w) A (setAttr (.ref x) name v) Q E s:=by
 obtain⟨od,J,hl⟩:=I.look;refine PySem.W.set_plain X J hs (PySem.W.osa_open (s:={ s with toks:=s.toks+1}) (r:=none) X J hp ht λb=>?_)
 obtain⟨cd,hc,pB⟩:=PySem.W.any_some hh;have hx:s.heap.get? x=some ⟨.ref C,some dx,.plain,#[]⟩:=I.obj;refine ay (aR (ay (ay (wpAny_loadPart hx (ay (PySem.W.Looks.here (s:={ s with toks:=s.toks+1}) (PySem.W.looks_clsIn X hc) ?_))))));rw[pB];refine aR (a:=some dx) (ay (aR (ay ?_)));refine wpAny_nsSet1 (s:={ s with toks:=s.toks+1}) I.ns λh' yU qS=>?_
 obtain⟨oD,esD,epD,KI,Kw,hcD⟩:=yU.count (PySem.Within.cons name v hw);refine ay (wpAny_lookBehind KI (by rw[Kw];exact pastItsLine_dict (jo hcD (by rw[kG];lia))) ?_)
 exact aR (h _ ⟨(qS.2 _ (Ne.symm I.ne)).trans I.obj,yU,I.ne⟩ qS)
def VB{R:Result->aq->Prop}{vs:List ah}{kw:List (Str×ah)}(X:K.In s.heap)(hm:PySem.W.makesIn K C=true)
  (hi:PySem.W.findIn K (.ref C) "__init__"=some (some (.ref f))) (hf:PySem.W.typeIn K (.ref f)=some (.type "function"))
  (h:codeAny (model prog w) (A.under (.builtin "type.__call__" ⟨.ref C::vs,kw⟩)) (.call (.ref f) ⟨.ref (s.heap.objs.size+1)::vs,kw⟩) (PySem.W.InitBack (s.heap.objs.size+1) R) {s with heap:=(s.heap.push PySem.W.emptyDict).push (PySem.W.instObj C s.heap.objs.size)}) :
  codeAny (model prog w) A (.call (.ref C) ⟨vs,kw⟩) R s:=by
 obtain⟨hh,g,d,t,os⟩:=s;exact PySem.W.make_core (PySem.W.makes_of X hm) (PySem.W.looks_findIn X hi) (λself=>PySem.W.bind_fn X self hf) (.inl rfl) h
end
noncomputable def eC(f:Str)(v:V):List (Str×V)->List (Str×V)
 |[]=>[(f,v)]
 |(g,x)::r=>if g=f then(g,v)::r else(g,x)::eC f v r
theorem M9(f g:Str)(v:V):∀fs:List (Str×V),(eC f v fs).lookup g=if g=f then some v else fs.lookup g
 |[]=>by
  show List.lookup g [(f,v)]=_;by_cases h:g=f
  .have hb:(g == f)=true:=beq_iff_eq.mpr h;simp only[List.lookup,hb,bx h]
  .have hb:(g == f)=false:=pX.mpr h;simp only[List.lookup,hb,bc h]
 |(k,x)::r=>by
  have ih:=M9 f g v r;rw[show eC f v ((k,x)::r)=(if k=f then(k,v)::r else(k,x)::eC f v r) from rfl]
  by_cases hk:k=f
  .rw[bx hk];by_cases h:g=k
   .have hb:(g == k)=true:=beq_iff_eq.mpr h;simp only[List.lookup,hb,bx (h.trans hk)]
   .have hb:(g == k)=false:=pX.mpr h;simp only[List.lookup,hb,bc (λe:g=f=>h (e.trans hk.symm))]
  .rw[bc hk];by_cases h:g=k
   .have hb:(g == k)=true:=beq_iff_eq.mpr h;simp only[List.lookup,hb,bc (λe:g=f=>hk (h.symm.trans e))]
   .have hb:(g == k)=false:=pX.mpr h;simp only[List.lookup,hb];exact ih
theorem II(f:Str)(v:V):∀fs:List (Str×V),f∈(eC f v fs).map (·.1)/\∀g,g∈fs.map (·.1)->g∈(eC f v fs).map (·.1)
 |[]=>⟨by simp[eC],λg h=>by simp at h⟩
 |(k,x)::r=>by
  obtain⟨i1,i2⟩:=II f v r;rw[show eC f v ((k,x)::r)=(if k=f then(k,v)::r else(k,x)::eC f v r) from rfl]
  by_cases hk:k=f
  .rw[bx hk];subst hk;exact⟨by simp,λg h=>by simpa using h⟩
  .rw[bc hk];refine⟨?_,λg h=>?_⟩
   .rw[cU];exact n8 _ i1
   .rw[cU] at h ⊢;rcases y0b.mp h with e|e
    .exact y0b.mpr (.inl e)
    .exact n8 _ (i2 g e)
theorem M_(f:Str)(v:V):∀fs:List (Str×V),(eC f v fs).length<=fs.length+1
 |[]=>by simp[eC]
 |(k,x)::r=>by
  have ih:=M_ f v r;rw[show eC f v ((k,x)::r)=(if k=f then(k,v)::r else(k,x)::eC f v r) from rfl]
  by_cases hk:k=f
  .rw[bx hk,kG,kG];lia
  .rw[bc hk,kG,kG];lia
def iN.some_of(r:iN (some v) o):∃u,o=some u/\RelV v u:=by
 cases o with
 |none=>exact(show False from r).elim
 |some u=>exact⟨u,rfl,r⟩
def iN.none_of(r:iN none o):o=none:=by
 cases o with
 |none=>rfl
 |some u=>exact(show False from r).elim
def Ur(r:RelV v u):PySem.W.handedIn u=true:=by
 cases v with
 |aM=>cases(show u=Value.none from r);rfl
 |bl b=>cases(show u=Value.bool b from r);rfl
 |int i=>obtain⟨t,e⟩:=(show ∃t,u=Value.int i t from r);cases e;rfl
 |str x=>obtain⟨t,e⟩:=(show ∃t,u=Value.str x t from r);cases e;rfl
 |wa b=>obtain⟨t,e⟩:=(show ∃t,u=Value.bytes b t from r);cases e;rfl
 |AM b=>obtain⟨t,e⟩:=(show ∃t,u=Value.float b t from r);cases e;rfl
 |ref a=>cases(show u=Value.ref a from r);rfl
 |ty n=>cases(show u=Value.type n from r);rfl
section
variable{P:dq}{w:cF}{H H':Hp}{h h':bT}{a C dx:ai}{fs AN:List (Str×V)}
def Jn(bG:i9 P w H h)(e:H a=some (.ins C dx fs)):∃mA,ox h a dx C mA/\(∀f,iN (fs.lookup f) (mA f))/\PySem.Within mA (fs.map (·.1))/\fs.length<=1000/\H dx=some (.own a):=by
 obtain⟨d,z,ne,ob,mA,n,r,q⟩:=(show bI P w H h a (.ins C dx fs) from bG a _ e);exact⟨mA,⟨ob,n,ne⟩,r,q,z,d⟩
end
structure Cls (K:aJ) (C:ai):Prop where
 pg:PySem.W.plainGet K C Str.empty=true
 hd:PySem.W.hasDictIn K C=true
 po:PySem.W.plainOver K C=true
 sa:PySem.W.findIn K (.ref C) "__setattr__"=some (some (.builtin "object.__setattr__"))
def Cls.get(c:Cls K C)(f:Str):PySem.W.plainGet K C f=true:=c.pg
def gf(K:aJ)(C:ai)(f:Str):Prop:=PySem.W.findIn K (.ref C) f=some none
def gf.Ea(n:gf K C f):PySem.W.takerIn K C f=some none:=by
 unfold PySem.W.takerIn;rw[show PySem.W.findIn K (.ref C) f=some none from n];rfl
structure Meth (K:aJ) (C:ai) (m:Str) (f:ai):Prop where
 at_:PySem.W.findIn K (.ref C) m=some (some (.ref f))
 fn:PySem.W.isFn K (.ref f)=true
 kp:PySem.W.keepIn K (.ref f)=true
section
variable{X:Cx}{aa:List (ai×Obj)}{Z:St}{H:Hp}{s:aq}{a C dx:ai}{fs:List (Str×V)}{f:Str}{v:V}{A:cP}{E:ah->aq->Prop}
def Nk{b:Bool}(I:Inv X aa Z H s)(e:H a=some (.ins C dx fs))(c:Cls X.K C)(n:gf X.K C f)(l:fs.lookup f=some v)
  (h:∀u s',Inv X aa Z H s'->RelV v u->Q u s'):wpAny (model X.prog X.w) A (getAttr (.ref a) f b) Q E s:=by
 obtain⟨mA,O,r,_,_,_⟩:=Jn I.bG e;obtain⟨u,hu,ru⟩:=iN.some_of (v:=v) (o:=mA f) (by rw[<-l];exact r f)
 exact Xj I.jV O (c.get f) c.hd n hu (Ur ru) (h u _ (I.tok _) ru)
def Nl{m:Str}{g:ai}{pl:Sem Bool}{Q:ah×List ah->aq->Prop}(I:Inv X aa Z H s)(e:H a=some (.ins C dx fs))(c:Cls X.K C)(k:Meth X.K C m g)(l:fs.lookup m=none)
  (h:Q (.ref g,[.ref a]) s):wpAny (model X.prog X.w) A (getMethod (.ref a) m pl) Q E s:=by
 obtain⟨mA,O,r,_,_,_⟩:=Jn I.bG e;have hn:mA m=none:=iN.none_of (by rw[<-l];exact r m)
 exact VA I.jV O (c.get m) k.at_ k.fn hn h
def Nm{y:V}{Q:Unit->aq->Prop}(I:Inv X aa Z H s)(e:H a=some (.ins C dx fs))(c:Cls X.K C)(n:gf X.K C f)(hl:fs.length<1000)(ry:RelV y u)
  (h:∀s',Inv X aa Z (upd H a (.ins C dx (eC f y fs))) s'->Q () s'):wpAny (model X.prog X.w) A (setAttr (.ref a) f u) Q E s:=by
 obtain⟨mA,O,r,wi,_,ho⟩:=Jn I.bG e;have hz:(fs.map (·.1)).length<=sizeLine:=by rw[bw,sizeLine_eq];lia
 refine Xk I.jV O c.sa c.po n.Ea c.hd wi hz λh' O' sb=>h _ ?_
 have hd:∃o,h'.get? dx=some o:=let ⟨o,_,_,e',_⟩:=O'.ns;⟨o,e'⟩
 refine I.write (x:=a) (e:=dx) (by rw[e];exact tK) (.inr ho) (λb q hb z=>(sb.2 b hb).trans z) hd ?_
 refine⟨by rw[dH O.ne];exact ho,?_,O.ne,O'.obj,_,O'.ns,λg=>?_,λg hg=>?_⟩
 .have:=M_ f y fs;lia
 .show iN ((eC f y fs).lookup g) (if g=f then some u else mA g)
  rw[M9];by_cases q:g=f
  .rw[bx q,bx q];exact ry
  .rw[bc q,bc q];exact r g
 .by_cases q:g=f
  .rw[q];exact(II f y fs).1
  .refine(II f y fs).2 g (wi g λz=>hg ?_)
   show(if g=f then some u else mA g)=none
   rw[bc q];exact z
def Inv.made(I:Inv X aa Z H s):Inv X aa Z (upd (upd H s.heap.objs.size (.own (s.heap.objs.size+1))) (s.heap.objs.size+1) (.ins C s.heap.objs.size []))
  {s with heap:=(s.heap.push PySem.W.emptyDict).push (PySem.W.instObj C s.heap.objs.size)}:=by
 have e1:(s.heap.push PySem.W.emptyDict).get? s.heap.objs.size=some PySem.W.emptyDict:=iZ s.heap rfl;have e2:((s.heap.push PySem.W.emptyDict).push (PySem.W.instObj C s.heap.objs.size)).get? (s.heap.objs.size+1)=some (PySem.W.instObj C s.heap.objs.size):=by
  have:=iZ (s.heap.push PySem.W.emptyDict) (o:=PySem.W.instObj C s.heap.objs.size) rfl
  rwa[Heap.size_push] at this
 have e3:(s.heap.push PySem.W.emptyDict).Ns s.heap.objs.size (λ_=>none):=⟨PySem.W.emptyDict,#[],_,e1,rfl,(λe he=>cz he (by simp)),λ_=>rfl⟩
 have I1:=I.laid (a:=s.heap.objs.size) (o:=.own (s.heap.objs.size+1)) (h':=s.heap.push PySem.W.emptyDict) (t':=s.toks) (λb u q=>cZ _ q) (bZ _) ⟨_,e1⟩
 refine I1.laid (a:=s.heap.objs.size+1) (o:=.ins C s.heap.objs.size []) (t':=s.toks) (λb u q=>cZ _ q) (Es (Heap.size_push _ _)) ?_
 have ne:s.heap.objs.size≠s.heap.objs.size+1:=gH (qH _);refine⟨by rw[dH ne,aK],kO _,ne,e2,λ_=>none,(Heap.Ns1.of_empty e3).at λo q=>cZ _ q,λ_=>tK,λy hy=>cz rfl hy⟩
def Xl{prog:dq}{w:cF}{env:Env}{e:Expr}{pos:Pos}{s:aq}(hb:attributeBase e f env (eval e env)=eval e env)
  (h:wpAny (model prog w) A (eval e env) (λo s₁=>wpAny (model prog w) A (getAttr o f true) Q E s₁) E s):wpAny (model prog w) A (eval (.Attribute e f pos) env) Q E s:=
 Attribute_any_ h (by rw[arm_eval_Attribute,hb])
end
def LS(K:aJ)(ta:TE)(f:Str):TE:=λZ H Q=>ta Z H λx H1=>∃a C dx fs v,x=.ref a/\H1 a=some (.ins C dx fs)/\Cls K C/\gf K C f/\fs.lookup f=some v/\Q v H1
def LC(K:aJ)(ta tv:TE)(f:Str):TS:=λD Z H=>tv Z H λy H1=>ta Z H1 λx H2=>∃a C dx fs,x=.ref a/\H2 a=some (.ins C dx fs)/\Cls K C/\gf K C f/\fs.length<1000/\
 D.nx Z (upd H2 a (.ins C dx (eC f y fs)))
def xF(X:Cx)(op:Operator)(rd:V->V->Hp->VK->Prop):Prop:=
 ∀(aa:List (ai×Obj)) (s:aq) (Z:St) (H:Hp) (x y:V) (u v:ah) (Q:VK),Inv X aa Z H s->RelV x u->RelV y v->rd x y H Q->wpAny (model X.prog X.w) X.A (inplaceOp op u v) (EP X aa Z Q) X.xe s
def Xm(K:aJ)(ta tv:TE)(rd:V->V->Hp->VK->Prop)(f:Str):TS:=λD Z H=>ta Z H λx H1=>∃a C dx fs v,x=.ref a/\H1 a=some (.ins C dx fs)/\Cls K C/\gf K C f/\fs.lookup f=some v/\
 tv Z H1 λy H2=>rd v y H2 λz H3=>∃J6 AN,H3 a=some (.ins C J6 AN)/\AN.length<1000/\D.nx Z (upd H3 a (.ins C J6 (eC f z AN)))
section
variable{X:Cx}{o e value:Expr}{f:Str}{pos pos' fV:Pos}{ta tv:TE}
def Z0(he:PE X e ta)(hb:attributeBase e f X.env (eval e X.env)=eval e X.env):PE X (.Attribute e f pos) (LS X.K ta f):=by
 intro aa s Z H Q I h;refine Xl hb (bM (he aa s Z H _ I h) λu s1 hh=>?_)
 obtain⟨x,H1,I1,rx,a,C,dx,fs,v,ex,ea,c,n,l,q⟩:=hh;subst ex;obtain rfl:u=Value.ref a:=rx;exact Nk I1 ea c n l λu' s2 I2 ru=>⟨v,H1,I2,ru,q⟩
def Z4(ha:PE X o ta)(hv:PE X value tv)(hs:swapsWith value (some (.Attribute o f pos')) pos.line X.env=pure false):PS X (.Assign [.Attribute o f pos'] value pos) (LC X.K ta tv f):=by
 intro aa s Z H D I h;refine plainObj_wpAny_Assign_Attribute (bM (hv aa s Z H _ I h) λu s1 h1=>?_) hs
 obtain⟨y,H1,I1,ry,q⟩:=h1;refine bM (ha aa s1 Z H1 _ I1 q) λov s2 h2=>?_
 obtain⟨x,H2,I2,rx,a,C,dx,fs,rfl,ea,c,n,l,q2⟩:=h2;obtain rfl:ov=Value.ref a:=rx;exact Nm I2 ea c n l ry λs3 I3=>⟨Z,_,I3,q2⟩
def Us{op:Operator}{rd:V->V->Hp->VK->Prop}(ha:PE X o ta)(hv:PE X value tv)(yY:xF X op rd):PS X (.AugAssign (.Attribute o f fV) op value pos) (Xm X.K ta tv rd f):=by
 intro aa s Z H D I h;refine wpAny_AugAssign_AttributeAny (bM (ha aa s Z H _ I h) λov s1 hh=>?_)
 obtain⟨x,H1,I1,rx,a,C,dx,fs,v,ex,ea,c,n,l,q⟩:=hh;subst ex;obtain rfl:ov=Value.ref a:=rx;refine Nk I1 ea c n l λu s2 I2 ru=>bM (hv aa s2 Z H1 _ I2 q) λw3 s3 h3=>?_
 obtain⟨y,H2,I3,ry,q3⟩:=h3;refine bM (yY aa s3 Z H2 v y u w3 _ I3 ru ry q3) λw4 s4 h4=>?_
 obtain⟨z,H3,I4,rz,J6,AN,ea',l',q4⟩:=h4;exact Nm I4 ea' c n l' rz λs5 I5=>⟨Z,_,I5,q4⟩
def Lw:V->V->Hp->VK->Prop:=λx y H Q=>∃i j,x=.int i/\y=.int j/\Q (.int (i+j)) H
def Z5:xF X .Add Lw:=by
 rintro aa s Z H x y u v Q I rx ry ⟨i,j,rfl,rfl,q⟩;obtain⟨t,rfl⟩:=(show ∃t,u=Value.int i t from rx);obtain⟨t',rfl⟩:=(show ∃t',v=Value.int j t' from ry);exact PyProof.Rows.iadd_int ⟨.int (i+j),H,I.tok _,⟨_,rfl⟩,q⟩
end
variable{k:Nat}{A:cP}{C f:ai}{us:List ah}{kw:List (Str×ah)}{P:dq}{w:cF}{K:aJ}{mg:Str->aj ah}{base:bT}{outer:List Env}{s:aq}{H:Hp}{Q:VK}{ps N:List Str}{aa:List (ai×Obj)}{Z:St}{vs:List V}{qual:Str}{scope:Scope}
structure cC (k:Nat) (A:cP):Prop where
 hd:A.handled=none
 dp:A.depth+3*k+5<recursionLimit
 un:A.units+16*k+200<cLine
def cC.mono{j:Nat}(r:cC k A)(h:j<=k):cC j A:=⟨r.hd,by have:=r.dp;lia,by have:=r.un;lia⟩
def cC.deeper{k:Nat}{A:cP}(r:cC (k+1) A)(env:Env):cC k (A.deeper env):=
 ⟨r.hd,by have:=r.dp;show A.depth+1+3*k+5<_;lia,by have:=r.un;show A.units+3+16*k+200<_;lia⟩
def Tz:(A.under (.builtin "type.__call__" ⟨.ref C::us,kw⟩)).depth=A.depth+1:=by
 rfl
def TB:(A.under (.builtin "type.__call__" ⟨.ref C::us,kw⟩)).units=A.units+1:=by
 rfl
def cC.make(r:cC (k+1) A)(C:ai)(us:List ah)(kw:List (Str×ah)):cC k (A.under (.builtin "type.__call__" ⟨.ref C::us,kw⟩)):=
 ⟨r.hd,by have:=r.dp;rw[Tz];lia,by have:=r.un;rw[TB];lia⟩
def cC.depth{k:Nat}{A:cP}(r:cC k A):A.depth<recursionLimit:=by have:=r.dp;lia
def cC.units{k:Nat}{A:cP}(r:cC k A):A.units+64<cLine:=by have:=r.un;lia
def vx:TA:=λ_ H Q=>Q [] H
def tm(ta:TE)(tr:TA):TA:=λZ H Q=>ta Z H λx H1=>tr Z H1 λxs H2=>Q (x::xs) H2
section
variable{X:Cx}{e:Expr}{es:List Expr}{te:TE}{t:TA}{pos:Pos}
def mq:PA X [] vx:=λ_ _ _ _ H Q I h=>Calls.spliced_nil ⟨[],H,I,.nil,h⟩
def FN(ha:PE X e te)(hr:PA X es t)(hs:starEach (e::es) X.env=(false,eval e X.env)::starEach es X.env:=by rfl):PA X (e::es) (tm te t):=by
 intro pos aa s Z H Q I h;rw[hs];show wpAny _ _ (spliced ((false,eval e X.env)::backTo pos (starEach es X.env))) _ _ s;refine Calls.spliced_cons (bM (ha aa s Z H _ I h) λu s1 hh=>?_)
 obtain⟨x,H1,I1,r1,q1⟩:=hh;exact bM (hr pos aa s1 Z H1 _ I1 q1) λus s2 ⟨xs,H2,I2,r2,q2⟩=>⟨x::xs,H2,I2,.cons r1 r2,q2⟩
def L0(t:TA):TE:=λZ H Q=>t Z H λxs H1=>xs.length<=sizeLine/\∀p,H1 p=none->Q (.ref p) (upd H1 p (.tup xs))
def LW(t:TA):TE:=λZ H Q=>t Z H λxs H1=>xs.length<=sizeLine/\∀p,H1 p=none->Q (.ref p) (upd H1 p (.lst xs))
def Z8{x1}(h:PA X es t):PE X (.Tuple es x1 pos) (L0 t):=by
 intro aa s Z H Q I hq;refine wpAny_Tuple_spliced (bM (h pos aa s Z H _ I hq) λus s1 ⟨xs,H1,I1,r,z,q⟩=>⟨by rw[<-r.length];exact z,?_⟩)
 have hf:H1 s1.heap.objs.size=none:=I1.bG.fresh (bZ _);refine⟨.ref s1.heap.objs.size,upd H1 s1.heap.objs.size (.tup xs),I1.laid (t':=s1.toks) (λb u e=>cZ _ e) (bZ _) ?_,rfl,q _ hf⟩
 exact⟨z,us,r,⟨_,iZ _ rfl,rfl,_,rfl⟩⟩
def Z9(h:PA X es t):PE X (.List es pos) (LW t):=by
 intro aa s Z H Q I hq;refine wpAny_List_spliced (bM (h pos aa s Z H _ I hq) λus s1 ⟨xs,H1,I1,r,z,q⟩=>⟨by rw[<-r.length];exact z,?_⟩)
 have hf:H1 s1.heap.objs.size=none:=I1.bG.fresh (bZ _);refine⟨.ref s1.heap.objs.size,upd H1 s1.heap.objs.size (.lst xs),I1.laid (t':=s1.toks) (λb u e=>cZ _ e) (bZ _) ?_,rfl,q _ hf⟩
 exact⟨z,us,0,r,iZ _ rfl⟩
end
abbrev Sp:=List V->Hp->VK->XK->Prop
abbrev tM:=List Env->Hp->aq->XK->ah->aq->Prop
variable{CX:tM}
structure og (P:dq) (w:cF) (K:aJ) (mg:Str->aj ah) (base:bT) (A:cP) (outer:List Env) (s:aq) (H:Hp):Prop where
 frames:A.frames=some outer
 mod:Mod K mg base
 bs:∀b o,base.get? b=some o->s.heap.get? b=some o/\H b=none
 rY:base.objs.size<=s.heap.objs.size
 iP:s.heap.FunFrames base outer
 uU:∀b∈kf outer,H b=none
 bG:i9 P w H s.heap
 bare:AllBare s.gens
def CE(outer:List Env)(P:dq)(w:cF)(H:Hp)(s:aq)(Q:VK)(u:ah)(s':aq):Prop:=
 ∃v H',s'.os=s.os/\AllBare s'.gens/\Un (kf outer) [] H H' s.heap s'.heap/\i9 P w H' s'.heap/\RelV v u/\Q v H'
def CR(CX:tM)(outer:List Env)(P:dq)(w:cF)(H:Hp)(s:aq)(Q:VK)(E:XK)(r:Result)(s':aq):Prop:=
 match r with
 |.ok (.ret u)=>CE outer P w H s Q u s'
 |.ok _=>False
 |.error e=>CX outer H s E e s'
structure d_ (P:dq) (w:cF) (K:aJ) (mg:Str->aj ah) (base:bT) (CX:tM) (k:Nat) (f:ai) (fd:lu) (ps:List Str) (sp:Sp):Prop where
 len:∀vs H Q E,sp vs H Q E->vs.length=ps.length
 run:∀(A:cP) (outer:List Env) (s:aq) (H:Hp) (args:Args) (us:List ah) (vs:List V) (Q:VK) (E:XK),cC k A->og P w K mg base A outer s H->BindsTo s fd args (ps.zip us)->Vals vs us->sp vs H Q E->
  codeAny (model P w) A (.call (.ref f) args) (CR CX outer P w H s Q E) s
def og.make(e:og P w K mg base A outer s H)(C:ai)(us:List ah)(kw:List (Str×ah)):
  og P w K mg base (A.under (.builtin "type.__call__" ⟨.ref C::us,kw⟩)) outer s H:=⟨by first|exact e.frames|(simpa[Around.under,Code.envs,Code.isFrame,pushEnvs] using e.frames),e.mod,e.bs,e.rY,e.iP,e.uU,e.bG,e.bare⟩
section
variable{X:Cx}{aa:List (ai×Obj)}{Z:St}{H:Hp}{s s':aq}
def Inv.CB(I:Inv X aa Z H s):og X.prog X.w X.K X.mg X.base X.A X.stack s H:=
 ⟨I.ok.frames,I.ok.mod,I.bs,jo I.ok.rY I.sz,I.stack,I.jX,I.bG,I.bare⟩
def Inv.after{u:ah}(I:Inv X aa Z H s)(h:CE X.stack X.prog X.w H s Q u s'):EP X aa Z Q u s':=by
 obtain⟨v,H',os,bare,un,bG,r,q⟩:=h;obtain⟨hh,g,d,t,os'⟩:=s';obtain rfl:os'=s.os:=os;exact⟨v,H',I.call (h':=hh) (g':=g) (d':=d) (t':=t) (ch:=[]) un bG bare (λb z=>cz z (by simp)),r,q⟩
end
def D6(sp:Sp)(kZ:List V)(E:St->XK)(t:TA):TE:=λZ H Q=>t Z H λvs H1=>sp (vs++kZ) H1 Q (E Z)
def tq(C:ai)(m:Str)(sp:Sp)(kZ:List V)(E:St->XK)(ta:TE)(t:TA):TE:=λZ H Q=>ta Z H λx H1=>∃a dx fs,x=.ref a/\H1 a=some (.ins C dx fs)/\fs.lookup m=none/\
 t Z H1 λvs H2=>sp (x::(vs++kZ)) H2 Q (E Z)
def xm(C:ai)(sp:Sp)(kZ:List V)(E:St->XK)(t:TA):TE:=λZ H Q=>t Z H λvs H1=>∀x dx,H1 x=none->H1 dx=none->dx≠x->
 sp (.ref x::(vs++kZ)) (upd (upd H1 dx (.own x)) x (.ins C dx [])) (λv H2=>v=.aM/\Q (.ref x) H2) (E Z)
def Binds(K:aJ)(fd:lu)(ps:List Str)(ds:List ah):Prop:=
 ∀(s:aq) (us:List ah),K.In s.heap->(us++ds).length=ps.length->BindsTo s fd ⟨us,[]⟩ (ps.zip (us++ds))
def Binds.all{fd:lu}(h:∀us:List ah,us.length=ps.length->bindArgs fd ⟨us,[]⟩=pure (ps.zip us)):Binds K fd ps []:=λs us _ hl=>by
 rw[jQ] at hl ⊢;exact .of_eq (h us hl)
def yp(CX:tM)(X:Cx)(E:St->XK):Prop:=∀(aa:List (ai×Obj)) (Z:St) (H:Hp) (s:aq) (e:ah) (s':aq),Inv X aa Z H s->CX X.stack H s (E Z) e s'->X.xe e s'
section
variable{X:Cx}{CX:tM}{k:Nat}{f C:ai}{fd:lu}{ps:List Str}{sp:Sp}{kZ:List V}{ds:List ah}{E:St->XK}{x m:Str}{p pos apos:Pos}{e o:Expr}{es:List Expr}{ta:TE}{t:TA}
def JF(F:d_ X.prog X.w X.K X.mg X.base CX k f fd ps sp)(hr:cC k X.A)(hb:Binds X.K fd ps ds)(hd:Vals kZ ds)(hx:yp CX X E)
  (I:Inv X aa Z H s) (r:Vals vs us) (h:sp (vs++kZ) H Q (E Z)):wpAny (model X.prog X.w) X.A (call (.ref f) us) (EP X aa Z Q) X.xe s:=by
 have r2:Vals (vs++kZ) (us++ds):=r.append hd;have hl:(us++ds).length=ps.length:=by rw[<-r2.length];exact F.len _ _ _ _ h
 refine wpAny_call (codeAny_mono (F.run X.A X.stack s H ⟨us,[]⟩ (us++ds) (vs++kZ) Q (E Z) hr I.CB (hb s us I.jV hl) r2 h) λr s' hq=>?_)
 cases r with
 |error e=>exact hx aa Z H s e s' I hq
 |ok fl=>
  cases fl with
  |ret u=>exact I.after hq
  |next=>exact False.elim hq
  |brk=>exact False.elim hq
  |cont=>exact False.elim hq
def Xn(F:d_ X.prog X.w X.K X.mg X.base CX k f fd ps sp)(hr:cC k X.A)(hg:Gl X x)(hm:X.mg x=some (.ref f))(hk:PySem.W.keepIn X.K (.ref f)=true)(hb:Binds X.K fd ps ds)(hd:Vals kZ ds)(hx:yp CX X E)
  (ha:PA X (e::es) t) (k7:(x == ("__debug__":Str))=false:=by decide) (he:starEach (e::es) X.env=(false,eval e X.env)::starEach es X.env:=by rfl) (jU:(backTo pos (starEach es X.env)).any (·.1)=false:=by rfl) :
  PE X (.Call (.Name x p) (e::es) [] pos) (D6 sp kZ E t):=by
 intro aa s Z H Q I h;refine wpAny_Call_Name_kw (As I hg hm ?_ k7);refine PySem.W.callWith_K (h₀:=X.base) I.ok.mod.AY hk (bM (ha pos aa s Z H _ I h) λus s1 ⟨vs,H1,I1,r,q⟩=>⟨I1.jV,?_⟩) he jU
 exact JF F hr hb hd hx I1 r q
def Xo{pl:Sem Bool}(he:PE X o ta)(c:Cls X.K C)(hm:Meth X.K C m f)(F:d_ X.prog X.w X.K X.mg X.base CX k f fd ps sp)(hr:cC k X.A)(hb:Binds X.K fd ps ds)(hd:Vals kZ ds)(hx:yp CX X E)(ha:PA X (e::es) t)
  (ko:starEach (e::es) X.env=(false,eval e X.env)::starEach es X.env:=by rfl) (jU:(backTo pos (starEach es X.env)).any (·.1)=false:=by rfl)
  (ht:eval (.Call (.Attribute o m apos) (e::es) [] pos) X.env=(do
   let ov <-eval o X.env
   standAt apos.atName
   let (f,first) <-holding [ov] (getMethod ov m pl)
   callWith pos f first (backTo pos (starEach (e::es) X.env)) (backToKw pos (keywordEach [] X.env))):=by rfl) :
  PE X (.Call (.Attribute o m apos) (e::es) [] pos) (tq C m sp kZ E ta t):=by
 intro aa s Z H Q I h;refine PySem.W.methodCall_KW (pl:=pl) (bM (he aa s Z H _ I h) λu s1 hh=>?_) ht
 obtain⟨x,H1,I1,rx,a,dx,fs,ex,ea,l,q⟩:=hh;subst ex;obtain rfl:u=Value.ref a:=rx;refine Nl I1 ea c hm l ?_;refine PySem.W.callWith_K (first:=[.ref a]) (h₀:=X.base) I.ok.mod.AY hm.kp (bM (ha pos aa s1 Z H1 _ I1 q) λus s2 ⟨vs,H2,I2,r,q2⟩=>⟨I2.jV,?_⟩) ko jU
 exact JF (us:=.ref a::us) (vs:=.ref a::vs) F hr hb hd hx I2 (.cons rfl r) q2
def VC{pl:Sem Bool}(he:PE X o ta)(c:Cls X.K C)(hm:Meth X.K C m f)(F:d_ X.prog X.w X.K X.mg X.base CX k f fd ps sp)(hr:cC k X.A)(hb:Binds X.K fd ps ds)(hd:Vals kZ ds)(hx:yp CX X E)
  (ht:eval (.Call (.Attribute o m apos) [] [] pos) X.env=(do
   let ov <-eval o X.env
   standAt apos.atName
   let (f,first) <-holding [ov] (getMethod ov m pl)
   callWith pos f first (backTo pos (starEach [] X.env)) (backToKw pos (keywordEach [] X.env))):=by rfl) :
  PE X (.Call (.Attribute o m apos) [] [] pos) (tq C m sp kZ E ta vx):=by
 intro aa s Z H Q I h;refine PySem.W.methodCall_KW (pl:=pl) (bM (he aa s Z H _ I h) λu s1 hh=>?_) ht
 obtain⟨x,H1,I1,rx,a,dx,fs,ex,ea,l,q⟩:=hh;subst ex;obtain rfl:u=Value.ref a:=rx;refine Nl I1 ea c hm l ?_;exact PySem.W.callWith_K0 (first:=[.ref a]) I1.jV hm.kp (JF (us:=[.ref a]) (vs:=[.ref a]) F hr hb hd hx I1 (.cons rfl .nil) q)
structure Mk (K:aJ) (C f:ai):Prop where
 makes:PySem.W.makesIn K C=true
 init:PySem.W.findIn K (.ref C) "__init__"=some (some (.ref f))
 fn:PySem.W.isFn K (.ref f)=true
 kp:PySem.W.keepIn K (.ref C)=true
def VD(M:Mk X.K C f)(F:d_ X.prog X.w X.K X.mg X.base CX k f fd ps sp)(hr:cC (k+1) X.A)(hb:Binds X.K fd ps ds)(hd:Vals kZ ds)
  (hx:yp CX X E) (I:Inv X aa Z H s) (r:Vals vs us)
  (h:∀x dx,H x=none->H dx=none->dx≠x->sp (.ref x::(vs++kZ)) (upd (upd H dx (.own x)) x (.ins C dx [])) (λv H2=>v=.aM/\Q (.ref x) H2) (E Z)) :
  wpAny (model X.prog X.w) X.A (call (.ref C) us) (EP X aa Z Q) X.xe s:=by
 have hq:=h (s.heap.objs.size+1) s.heap.objs.size (I.bG.fresh (tI _)) (I.bG.fresh (bZ _)) (gH (qH _));have I2:=Inv.made (C:=C) I;have r2:Vals (V.ref (s.heap.objs.size+1)::(vs++kZ)) (Value.ref (s.heap.objs.size+1)::(us++ds)):=.cons rfl (r.append hd);have hl:(Value.ref (s.heap.objs.size+1)::us++ds).length=ps.length:=by
  have e:=r2.length;rw[F.len _ _ _ _ hq] at e;exact e.symm
 refine wpAny_call (VB (f:=f) I.jV M.makes M.init (beq_iff_eq.mp M.fn) (codeAny_mono (F.run _ X.stack _ _ ⟨Value.ref (s.heap.objs.size+1)::us,[]⟩ (Value.ref (s.heap.objs.size+1)::(us++ds)) _ _ (E Z) (hr.make C us []) (I2.CB.make C us []) (hb _ (Value.ref (s.heap.objs.size+1)::us) I2.jV hl) r2 hq) λr s' CZ=>?_))
 cases r with
 |error e=>exact hx aa Z _ _ e s' I2 CZ
 |ok fl=>
  cases fl with
  |ret u=>
   obtain⟨v,H',I3,rv,ev,q3⟩:=I2.after CZ;subst ev;exact⟨rv,⟨V.ref (s.heap.objs.size+1),H',I3,rfl,q3⟩⟩
  |next=>exact False.elim CZ
  |brk=>exact False.elim CZ
  |cont=>exact False.elim CZ
def Xp(M:Mk X.K C f)(F:d_ X.prog X.w X.K X.mg X.base CX k f fd ps sp)(hr:cC (k+1) X.A)(hg:Gl X x)(hm:X.mg x=some (.ref C))(hb:Binds X.K fd ps ds)(hd:Vals kZ ds)(hx:yp CX X E)
  (ha:PA X (e::es) t) (k7:(x == ("__debug__":Str))=false:=by decide) (he:starEach (e::es) X.env=(false,eval e X.env)::starEach es X.env:=by rfl) (jU:(backTo pos (starEach es X.env)).any (·.1)=false:=by rfl) :
  PE X (.Call (.Name x p) (e::es) [] pos) (xm C sp kZ E t):=by
 intro aa s Z H Q I h;refine wpAny_Call_Name_kw (As I hg hm ?_ k7);refine PySem.W.callWith_K (h₀:=X.base) I.ok.mod.AY M.kp (bM (ha pos aa s Z H _ I h) λus s1 ⟨vs,H1,I1,r,q⟩=>⟨I1.jV,?_⟩) he jU
 exact VD M F hr hb hd hx I1 r q
end
structure iM (N P:List Str) (sc:Scope):Prop where
 kind:sc.kind=.function
 co:sc.isCoroutine=false
 gen:sc.isGenerator=false
 nd:N.Nodup
 pre:N.take P.length=P
 par:∀x∈P,sc.names.lookup x=some .local \/ sc.names.lookup x=some .cell
 zp:∀y∈sc.names,y.2≠.free
theorem NG{kindOf:Str->aj oR}{x:Str}:∀{binds:List (Str×ah)} {m:Str->aj ah},(∀v,(x,v)∉binds)->bindL kindOf binds m x=m x
 |[],_,_=>rfl
 |(n,v)::r,m,h=>by
  unfold bindL;rw[NG λw hw=>h w (n8 _ hw)]
  split
  .have:x≠n:=by rintro rfl;exact h v vK
   simp[this]
  .rfl
theorem NH{kindOf:Str->aj oR}{x:Str}:∀{binds:List (Str×ah)} {m:Str->aj ah},(∀v,(x,v)∉binds)->bindC kindOf binds m x=m x
 |[],_,_=>rfl
 |(n,v)::r,m,h=>by
  unfold bindC;rw[NH λw hw=>h w (n8 _ hw)]
  split
  .rfl
  .have:x≠n:=by rintro rfl;exact h v vK
   simp[this]
theorem NI{kindOf:Str->aj oR}{x:Str}{v:ah}:∀{P:List Str} {vs:List ah} {i:Nat} {m:Str->aj ah},P.Nodup->P[i]?=some x->vs[i]?=some v->kindOf x=some .local ->
  bindL kindOf (P.zip vs) m x=some v
 |[],_,_,_,_,h,_,_=>by simp at h
 |_::_,[],_,_,_,_,h,_=>by simp at h
 |p::P,w::vs,0,m,nd,h1,h2,hk=>by
  simp at h1 h2;subst h1;subst h2;show bindL kindOf ((p,w)::P.zip vs) m p=_;unfold bindL;rw[NG λv hv=>(tJ.mp nd).1 (List.of_mem_zip hv).1,bx hk]
  simp
 |p::P,w::vs,i+1,m,nd,h1,h2,hk=>by
  show bindL kindOf ((p,w)::P.zip vs) m x=_;unfold bindL;exact NI (i:=i) (tJ.mp nd).2 (by simpa using h1) (by simpa using h2) hk
theorem NJ{kindOf:Str->aj oR}{x:Str}{v:ah}:∀{P:List Str} {vs:List ah} {i:Nat} {m:Str->aj ah},P.Nodup->P[i]?=some x->vs[i]?=some v->kindOf x≠some .local ->
  bindC kindOf (P.zip vs) m x=some v
 |[],_,_,_,_,h,_,_=>by simp at h
 |_::_,[],_,_,_,_,h,_=>by simp at h
 |p::P,w::vs,0,m,nd,h1,h2,hk=>by
  simp at h1 h2;subst h1;subst h2;show bindC kindOf ((p,w)::P.zip vs) m p=_;unfold bindC;rw[NH λv hv=>(tJ.mp nd).1 (List.of_mem_zip hv).1,bc hk]
  simp
 |p::P,w::vs,i+1,m,nd,h1,h2,hk=>by
  show bindC kindOf ((p,w)::P.zip vs) m x=_;unfold bindC;exact NJ (i:=i) (tJ.mp nd).2 (by simpa using h1) (by simpa using h2) hk
noncomputable def start(N:List Str)(vs:List V):St:=vs.map some++List.replicate (N.length - vs.length) none
noncomputable def lX(CX:tM)(P:dq)(w:cF)(K:aJ)(mg:Str->aj ah)(base:bT)(N:List Str)(qual:Str)(scope:Scope)(f:ai)(cd:ah)(A:cP)(outer:List Env)(s:aq)(H:Hp)(E:XK):Cx where
 prog:=P
 w:=w
 K:=K
 mg:=mg
 base:=base
 A:=A.deeper (envOfC qual scope s.heap.objs.size f cd)
 N:=N
 s₀:=s
 H₀:=H
 env:=envOfC qual scope s.heap.objs.size f cd
 outer:=outer
 stack:=envOfC qual scope s.heap.objs.size f cd::outer
 ex:=[]
 calm:=true
 fn:=λ_=>true
 pn:=[]
 xe:=λe s'=>wpAny (model P w) (A.deeper (envOfC qual scope s.heap.objs.size f cd)) (leaving (envOfC qual scope s.heap.objs.size f cd) e) (λ_ s_=>CX outer H s E e s_) (λe' s_=>CX outer H s E e' s_) s'
def Oo{sc:Scope}{n:Nat}{x:Str}(h:sc.names.lookup x=some .cell):∃c,(cellsFrom n sc.names []).lookup x=some c:=by
 have q:=PySem.W.cellsFrom_some sc.names n [] (.inl h);exact Option.isSome_iff_exists.mp q
def Ut{cd:ah}{s1:aq}{E:XK}
  (S:iM N ps scope) (hd:A.handled=none) (e0:og P w K mg base A outer s H) (hl:vs.length=ps.length) (r:Vals vs us)
  (x:InCallC s s.heap.objs.size (bindL (envOfC qual scope s.heap.objs.size f cd).kindOf (ps.zip us) λ_=>none) (cellsFrom (s.heap.objs.size+1) scope.names []) (bindC (envOfC qual scope s.heap.objs.size f cd).kindOf (ps.zip us) λ_=>none) s1) :
  Inv (lX CX P w K mg base N qual scope f cd A outer s H E) [] (start N vs) H s1:=by
 have jU:ps.length<=N.length:=by have:=congrArg List.length S.pre;rw[xr] at this;lia
 obtain⟨h1,tk,rfl,hk⟩:=x.done;have Dq:∀b:ai,b∉(lX CX P w K mg base N qual scope f cd A outer s H E).ex:=λb z=>cz (show b∈([]:List ai) from z) (by simp)
 refine⟨⟨e0.mod,S.kind,rfl,rfl,bZ _,λy z c h1 h2=>?_,λy hy=>?_,λy c _ h=>?_,λ_=>hd,Around.frames_deeper e0.frames,.inr ⟨rfl,rfl⟩,λb z=>cz z (Dq b),e0.bs,e0.rY,λb _ _=>Dq b,λb z=>cz z (Dq b),e0.iP,e0.uU⟩,rfl,e0.bare,Un.kept hk,⟨_,x.toInCall.ns,λi y v h1 h2 h3=>?_⟩,λy c h=>⟨_,x.cell y c h⟩,e0.bG.fresh (bZ _),λy c h=>?_,λp hp=>cz (show p∈([]:List (ai×Obj)) from hp) (by simp),e0.bG.kept hk,?_⟩
 .exact name_of_addr x.apart (PySem.mem_of_lookup h1) (PySem.mem_of_lookup h2)
 .have hy:scope.names.lookup y=some .cell\/scope.names.lookup y=some .free:=hy;rcases hy with hy|hy
  .exact Oo hy
  .exact cz rfl (S.zp _ (PySem.mem_of_lookup hy))
 .exact Eo (x.above y c (PySem.mem_of_lookup h))
 .have hi:i<vs.length:=by
   unfold start at h2;by_cases hi:i<vs.length
   .exact hi
   .rw[ue (by simpa using hi)] at h2
    rw[Mj] at h2;split at h2 <;> cases h2
  have ha:vs[i]?=some v:=by
   unfold start at h2;rw[uf (by simpa using hi),f9] at h2
   cases e:vs[i]? with
   |none=>rw[e] at h2;cases h2
   |some a=>rw[e] at h2;cases h2;rfl
  obtain⟨u,hu,rv⟩:=r.get ha;have hp:ps[i]?=some y:=by
   rw[<-S.pre,List.getElem?_take_of_lt (by lia)];exact h1
  have Sn:ps.Nodup:=by rw[<-S.pre];exact S.nd.sublist (List.take_sublist _ _)
  refine⟨u,rv,?_⟩;rcases S.par y (qI hp) with k|k
  .exact .inl ⟨k,NI Sn hp hu k⟩
  .obtain⟨c,e⟩:=Oo (n:=s.heap.objs.size+1) k;refine .inr ⟨.inl k,c,e,?_⟩;have q:=x.cell y c e;rw[NJ Sn hp hu (by show scope.names.lookup y≠_;rw[k];decide)] at q
   exact q
 .exact e0.bG.fresh (Eo (x.above y c (PySem.mem_of_lookup h)))
 .unfold start;show _=N.length
  simp_all
def e7l{name:Str}{params:Arguments}{body:List Stmt}{dV kV doc pm gR ct oc:ah}{an od:aj ai}
  {pH:Array (aj ah)}  {sp:Sp} (lk:K.lookup f=some ⟨oc,od,.func (PySem.W.fnOf name qual params body scope dV kV doc pm an gR ct),pH⟩) (sx:PySem.W.codeIn K gR qual=true) (S:iM N ps scope)
  (len:∀vs H Q E,sp vs H Q E->vs.length=ps.length)
  (sr:∀(A:cP) (outer:List Env) (s:aq) (H:Hp) (vs:List V) (Q:VK) (E:XK),cC k (A.deeper (envOfC qual scope s.heap.objs.size f gR))->sp vs H Q E-> ∃t,i_ (lX CX P w K mg base N qual scope f gR A outer s H E) body t/\t { nx:=λ_ H'=>Q .aM H',rt:=Q} (start N vs) H) :
  d_ P w K mg base CX (k+1) f (PySem.W.fnOf name qual params body scope dV kV doc pm an gR ct) ps sp:=by
 refine⟨len,λA outer s H args us vs Q E hr e0 hb r wm=>?_⟩
 have hl:=len _ _ _ _ wm;have KX:K.In s.heap:=e0.mod.AY.keeps λb o e=>(e0.bs b o e).1
 have lim:s.heap.NoLimit:=e0.mod.nolimit.keeps λb o e=>(e0.bs b o e).1
 have CT:∀y∈ps.zip us,scope.names.lookup y.1=some .local \/ (scope.names.lookup y.1=some .cell/\((cellsFrom (s.heap.objs.size+1) scope.names []).lookup y.1).isSome=true):=λ⟨n,v⟩ hy=>by
  rcases S.par n (List.of_mem_zip hy).1 with q|q
  .exact .inl q
  .exact .inr ⟨q,PySem.W.cellsFrom_some _ _ _ (.inl q)⟩
 refine codeAny_call_function hr.depth (KX _ _ lk) rfl S.co S.gen rfl (PySem.W.codeRec_of KX sx) (hb _ _ _ _ ?_);refine wpAny_newFunctionEnv_cells S.kind CT λenv he s1 x=>?_
 subst he;refine⟨lim.keeps x.toInCall.keep,codeAny_func ?_⟩;obtain⟨t,ht,hq⟩:=sr A outer s H vs Q E (hr.deeper _) wm;have I:Inv (lX CX P w K mg base N qual scope f gR A outer s H E) [] (start N vs) H s1:=Ut S hr.hd e0 hl r x;refine wpAny_mono (ht [] s1 (start N vs) H _ I hq) (λfl s' hs=>?_) λe s' hs=>hs
 have fin:∀{Z':St} {H':Hp} {v:V} {u:ah},Inv (lX CX P w K mg base N qual scope f gR A outer s H E) [] Z' H' s'->RelV v u->Q v H'->CE outer P w H s Q u s':=
  λ{Z' H' v u} J rv q=>⟨v,H',J.os,J.bare,J.base,J.bG,rv,q⟩
 cases fl with
 |ret u=>
  obtain⟨v,Z',H',J,rv,q⟩:=hs;exact fin J rv q
 |next=>
  obtain⟨Z',H',J,q⟩:=hs;exact fin (v:=V.aM) (u:=Value.none) J rfl q
 |brk=>
  obtain⟨_,_,_,q⟩:=hs;exact False.elim q
 |cont=>
  obtain⟨_,_,_,q⟩:=hs;exact False.elim q
section
variable{X:Cx}{x:Str}{p pos:Pos}{e:Expr}{es:List Expr}{t:TA}{id T:String}{r:List V->Hp->VK->Prop}
def LR(r:List V->Hp->VK->Prop)(t:TA):TE:=λZ H Q=>t Z H λvs H1=>r vs H1 Q
def VE(hc:bS X (.builtin id) r)(hg:Gl X x)(hm:X.mg x=none)(hv:bootBuiltins x=some (.builtin id))(ha:PA X (e::es) t)(hn:x≠"__name__":=by decide)(k7:(x == ("__debug__":Str))=false:=by decide)
  (he:starEach (e::es) X.env=(false,eval e X.env)::starEach es X.env:=by rfl) (jU:(backTo pos (starEach es X.env)).any (·.1)=false:=by rfl):PE X (.Call (.Name x p) (e::es) [] pos) (LR r t):=by
 intro aa s Z H Q I h;refine wpAny_Call_Name_kw (tR I hg hm hv ?_ hn k7);exact PyProof.Rows.callWith_builtin1 (bM (ha pos aa s Z H _ I h) λus s1 ⟨vs,H1,I1,r1,q1⟩=>hc aa s1 Z H1 vs us Q I1 r1 q1) he jU
def Uu(hc:bS X (.type T) r)(hg:Gl X x)(hm:X.mg x=none)(hv:bootBuiltins x=some (.type T))(ha:PA X (e::es) t)(hn:x≠"__name__":=by decide)(k7:(x == ("__debug__":Str))=false:=by decide)
  (he:starEach (e::es) X.env=(false,eval e X.env)::starEach es X.env:=by rfl) (jU:(backTo pos (starEach es X.env)).any (·.1)=false:=by rfl):PE X (.Call (.Name x p) (e::es) [] pos) (LR r t):=by
 intro aa s Z H Q I h;refine wpAny_Call_Name_kw (tR I hg hm hv ?_ hn k7);exact PyProof.Rows.callWith_type1 (bM (ha pos aa s Z H _ I h) λus s1 ⟨vs,H1,I1,r1,q1⟩=>hc aa s1 Z H1 vs us Q I1 r1 q1) he jU
end
end L2
namespace HT
open PySem PyProof.Rows
section
open PySem.SeqAt
open PySem.AutoSeq1 (wpAny_loadPart')
open PySem.MeetsSeq PySem.MeetsSeq2 PySem.MeetsSeq3
end
variable{sl:ai}{vl vu:ah}{lo hi:aj Int}
section
variable{prog:dq}{w:cF}{A:cP}{E:ah->aq->Prop}{s:aq}
def cO(n d:Nat):aj Int->Nat
 |none=>d
 |some v=>if v<0 then(v+(n:Int)).toNat else min v.toNat n
def vq(n d k:Nat):cO n d (some (k:Int))=min k n:=by
 show(if(k:Int)<0 then((k:Int)+(n:Int)).toNat else min (k:Int).toNat n)=min k n
 rw[bc (by lia),Ml]
def Z_(n d:Nat)(hd:d<=n)(o:aj Int):cO n d o<=n:=by
 cases o with
 |none=>exact hd
 |some v=>
  show(if v<0 then(v+(n:Int)).toNat else min v.toNat n)<=n
  by_cases hv:v<0
  .rw[bx hv];lia
  .rw[bc hv];exact Nat.min_le_right _ _
def Ph(v:Int)(n d:Nat):(if v<0 then max (v+(n:Int)) 0 else min v (n:Int))=((cO n d (some v):Nat):Int):=by
 show(if v<0 then max (v+(n:Int)) 0 else min v (n:Int))=(((if v<0 then(v+(n:Int)).toNat else min v.toNat n):Nat):Int)
 by_cases hv:v<0
 .simp only[bx hv];lia
 .simp only[bc hv];lia
def TC(lo hi:aj Int)(n:Nat):Builtin.Slice.sliceAdjust lo hi 1 (n:Int)=(((cO n 0 lo:Nat):Int),((cO n n hi:Nat):Int)):=by
 have h1:¬((1:Int)<0):=by lia
 unfold Builtin.Slice.sliceAdjust;simp only[h1,iC];refine Prod.ext ?_ ?_
 .cases lo with
  |none=>rfl
  |some v=>exact Ph v n 0
 .cases hi with
  |none=>rfl
  |some v=>exact Ph v n n
def TF(i j:Nat):Builtin.Slice.slicePlaces (i:Int) (j:Int) 1=j - i:=by
 unfold Builtin.Slice.slicePlaces;have h1:(1:Int) > 0:=by lia
 simp only[h1,oS,Int.ediv_one];split <;> lia
def Nn{v:ah}{o:aj Int}{Q:aj Int->aq->Prop}(p:IsPart v o)(h:Q o s):wpAny (model prog w) A (Builtin.Slice.slicePartIndex v) Q E s:=by
 cases p with
 |none=>exact slicePart_none h
 |int i t=>exact slicePart_int h
def SV{n:Nat}{Q:Int×Int×Nat->aq->Prop}(hs:s.heap.IsSliceOf sl vl vu .none)(pl:IsPart vl lo)(pu:IsPart vu hi)
  (h:Q (((cO n 0 lo:Nat):Int),1,cO n n hi - cO n 0 lo) s):wpAny (model prog w) A (Builtin.Slice.sliceApplied (.ref sl) (pure (n:Int))) Q E s:=by
 obtain⟨os,CY,GR,GU⟩:=id hs;unfold Builtin.Slice.sliceApplied Builtin.Slice.sliceFields;refine ay (ay (wpAny_field CY GU (x:=vl) rfl (ay (wpAny_field CY GU (x:=vu) rfl (ay (wpAny_field CY GU (x:=.none) rfl (aR ?_)))))));refine ay (slicePart_none ?_);show wpAny _ _ (if((1:Int) == 0)=true then _ else _) _ _ s
 rw[bc (by decide)]
 refine ay (Nn pl (ay (Nn pu (ay (aR ?_)))));show wpAny _ _ (match Builtin.Slice.sliceAdjust lo hi 1 (n:Int) with|(lo,hi)=>pure (lo,(1:Int),Builtin.Slice.slicePlaces lo hi 1)) _ _ s
 rw[TC lo hi n];show wpAny _ _ (pure (((cO n 0 lo:Nat):Int),(1:Int),Builtin.Slice.slicePlaces ((cO n 0 lo:Nat):Int) ((cO n n hi:Nat):Int) 1)) _ _ s;rw[TF];exact aR h
def VF(xs:Array ah)(i k:Nat):((List.range k).filterMap λ(m:Nat)=>xs[((i:Int)+(m:Int)*1).toNat]?).toArray=((xs.toList.drop i).take k).toArray:=by
 have e:(λ(m:Nat)=>xs[((i:Int)+(m:Int)*1).toNat]?)=λm=>xs[i+m]?:=by
  funext m;have:((i:Int)+(m:Int)*1).toNat=i+m:=by lia
  rw[this]
 rw[e];have:=pick_run xs i k;rw[List.filterMap_map] at this;have e2:((λx=>xs[x]?)∘λx=>i+x)=λm=>xs[i+m]?:=rfl
 rw[e2] at this;rw[this]
def iQ{t:ai}{items:Array ah}{Q:ah->aq->Prop}(ht:IsTup s.heap t items)(hs:s.heap.IsSliceOf sl vl vu .none)(pl:IsPart vl lo)(pu:IsPart vu hi)
  (hw:¬(cO items.size 0 lo=0/\cO items.size items.size hi=items.size))
  (h:Q (.ref s.heap.objs.size) { s with heap:=s.heap.push { cls:=.type "tuple",data:=.seq ((items.toList.drop (cO items.size 0 lo)).take (cO items.size items.size hi - cO items.size 0 lo)).toArray}})
  (hsz:items.size<=sizeLine):wpAny (model prog w) A (getItem (.ref t) (.ref sl)) Q E s:=by
 have pF:sizeOk (.seq ((items.toList.drop (cO items.size 0 lo)).take (cO items.size items.size hi - cO items.size 0 lo)).toArray):=by
  show((items.toList.drop (cO items.size 0 lo)).take (cO items.size items.size hi - cO items.size 0 lo)).toArray.size<=sizeLine;rw[eE,xr,A_,zV];lia
 have hj:cO items.size items.size hi<=items.size:=Z_ _ _ (bZ _) hi;obtain⟨os,CY,GR,GU⟩:=id hs;have hTs:s.TypeIs (.ref sl) "slice":=⟨os,CY,GR⟩;unfold getItem;try with_reducible refine jq ?_
 first|refine ay (aR ?_)|skip
 refine ay (wpAny_sequenceKey ht.typeIs (by decide) ?_)
 refine ay (wpAny_callSpecial?_slot (name:=Str.ofString "__getitem__") ht.typeIs PyProof.Rows.slot_tuple_getitem (wpAny_call_entry PyProof.Rows.slot_tuple_getitem ht.typeIs entry_tuple_getitem ?_ (args_tuple_getitem _ _)))
 show wpAny _ _ (Builtin.Tuple.tupleItemsOf (.ref t) >>= _) _ _ s;refine ay (tupleItemsOf_ ht ?_);refine ay (wpAny_typeOf hTs ?_);rw[bx (by decide)]
 refine ay (SV hs pl pu ?_);have t9:¬((((cO items.size 0 lo:Nat):Int) == 0&&(1:Int) == 1&&(cO items.size items.size hi - cO items.size 0 lo) == items.size)=true):=by
  lia
 show wpAny _ _ (if(((cO items.size 0 lo:Nat):Int) == 0&&(1:Int) == 1&&(cO items.size items.size hi - cO items.size 0 lo) == items.size)=true then _ else _) _ _ s
 rw[bc t9,VF];first
  |exact ay (m:=Builtin.Tuple.tupleExact _) (wpAny_newObj_type (aR ⟨_,rfl,aR h⟩) pF)
  |exact ay (m:=Builtin.Tuple.tupleExact _) (wpAny_newObj_type (ay (aR (aR ⟨_,rfl,aR h⟩))) pF)
  |exact ay (ay (m:=Builtin.Tuple.tupleExact _) (wpAny_newObj_type (aR (aR ⟨_,rfl,aR h⟩)) pF))
  |exact ay (ay (m:=Builtin.Tuple.tupleExact _) (wpAny_newObj_type (aR ⟨_,rfl,aR h⟩) pF))
end
end HT
namespace L2
open PySem PySem.Spec PyProof.Rows
variable{r:V->aj Int->aj Int->Hp->VK->Prop}
abbrev TO:=St->Hp->(aj Int->Hp->Prop)->Prop
def PO(X:Cx)(e:aj Expr)(t:TO):Prop:=
 ∀(aa:List (ai×Obj)) (s:aq) (Z:St) (H:Hp) (Q:aj Int->Hp->Prop),Inv X aa Z H s->t Z H Q->
  wpAny (model X.prog X.w) X.A (evalPart e X.env) (λu s'=>∃o H',Inv X aa Z H' s'/\IsPart u o/\Q o H') X.xe s
def Xq:TO:=λ_ H Q=>Q none H
def D9(t:TE):TO:=λZ H Q=>t Z H λx H1=>∃i,x=.int i/\Q (some i) H1
section
variable{X:Cx}{e:Expr}{te:TE}{lo hi:aj Expr}{tl th:TO}{pos p2:Pos}
def Xr:PO X none Xq:=by
 intro aa s Z H Q I h;rw[evalPart_none];exact aR ⟨none,H,I,.none,h⟩
def Xs(h:PE X e te):PO X (some e) (D9 te):=by
 intro aa s Z H Q I hw;rw[evalPart_some];refine bM (h aa s Z H _ I hw) λu s1 hh=>?_
 obtain⟨x,H1,I1,r1,q1⟩:=hh;obtain⟨i,rfl,q⟩:=q1;obtain⟨t,rfl⟩:=r1;exact⟨some i,H1,I1,.int i t,q⟩
def rN(X:Cx)(r:V->aj Int->aj Int->Hp->VK->Prop):Prop:=
 ∀(aa:List (ai×Obj)) (s:aq) (Z:St) (H:Hp) (x:V) (v vl vu:ah) (lo hi:aj Int) (sl:ai) (Q:VK),Inv X aa Z H s->RelV x v->s.heap.IsSliceOf sl vl vu .none->IsPart vl lo->IsPart vu hi->r x lo hi H Q->
  ∃T id,typeLookup (.type T) "__getitem__"=pure (some (.builtin id))/\s.TypeIs v T/\wpAny (model X.prog X.w) X.A (getItem v (.ref sl)) (EP X aa Z Q) X.xe s
def rN.or{r':V->aj Int->aj Int->Hp->VK->Prop}(h:rN X r)(h':rN X r'):rN X (λx lo hi H Q=>r x lo hi H Q\/r' x lo hi H Q):=by
 intro aa s Z H x v vl vu lo hi sl Q I rx hs pl pu q;rcases q with q|q
 .exact h aa s Z H x v vl vu lo hi sl Q I rx hs pl pu q
 .exact h' aa s Z H x v vl vu lo hi sl Q I rx hs pl pu q
def tSl(r:V->aj Int->aj Int->Hp->VK->Prop)(te:TE)(tl th:TO):TE:=λZ H Q=>te Z H λx H1=>tl Z H1 λl H2=>th Z H2 λu H3=>r x l u H3 Q
def VG(hr:rN X r)(he:PE X e te)(hl:PO X lo tl)(hu:PO X hi th):PE X (.Subscript e (.Slice lo hi none p2) pos) (tSl r te tl th):=by
 intro aa s Z H Q I h;refine Subscript_ (bM (he aa s Z H _ I h) λv s1 hh=>?_)
 obtain⟨x,H1,I1,r1,q1⟩:=hh;refine wpAny_Slice (bM (hl aa s1 Z H1 _ I1 q1) λvl s2 ⟨l,H2,I2,pl,q2⟩=>bM (hu aa s2 Z H2 _ I2 q2) λvu s3 ⟨u,H3,I3,pu,q3⟩=>?_)
 rw[evalPart_none];refine aR ?_;have I4:Inv X aa Z H3 { s3 with heap:=s3.heap.push { cls:=.type "slice",data:=.fields #[vl,vu,.none]}}:=I3.kept (t':=s3.toks) λb ob q=>cZ _ q
 obtain⟨T,id,hT,ht,hg⟩:=hr aa { s3 with heap:=s3.heap.push { cls:=.type "slice",data:=.fields #[vl,vu,.none]}} Z H3 x v vl vu l u s3.heap.objs.size Q I4 r1 (Heap.IsSliceOf.new ..) pl pu q3;show wpAny (model X.prog X.w) X.A (subscriptTail e (.Slice lo hi none p2) v (.ref s3.heap.objs.size)) (EP X aa Z Q) X.xe { s3 with heap:=s3.heap.push { cls:=.type "slice",data:=.fields #[vl,vu,.none]}};exact tail_any (ops:=[.ref s3.heap.objs.size,v]) ht hT hg (by with_unfolding_all rfl)
noncomputable def nq(xs:List V)(lo hi:aj Int):List V:=(xs.drop (HT.cO xs.length 0 lo)).take (HT.cO xs.length xs.length hi - HT.cO xs.length 0 lo)
def M'(xs:List V)(lo hi:aj Int):(nq xs lo hi).length<=xs.length:=by
 unfold nq;rw[xr,A_];lia
def zI(K:aJ):V->aj Int->aj Int->Hp->VK->Prop:=λx lo hi H Q=>∃a xs,x=.ref a/\iE K H a xs/\
 ¬(HT.cO xs.length 0 lo=0/\HT.cO xs.length xs.length hi=xs.length)/\∀p,H p=none->Q (.ref p) (upd H p (.tup (nq xs lo hi)))
def Γ:rN X (zI X.K):=by
 intro aa s Z H x v vl vu lo hi sl Q I rx hs pl pu h;obtain⟨a,xs,rfl,hx,hw,q⟩:=h;cases rx;obtain⟨aE,r,ht,hz⟩:=I.tuple hx;have hlen:aE.toArray.size=xs.length:=by rw[eE];exact r.length.symm
 refine⟨"tuple",_,PyProof.Rows.slot_tuple_getitem.lookup,ht.typeIs,?_⟩;refine HT.iQ ht hs pl pu (by rw[hlen];exact hw) ?_ (by rw[hlen];exact hz)
 rw[hlen];refine⟨.ref s.heap.objs.size,_,I.laid (t':=s.toks) (o:=.tup (nq xs lo hi)) (λb ob q=>cZ _ q) (bZ _) ?_,rfl,q _ (I.bG.fresh (bZ _))⟩
 exact⟨jo (M' xs lo hi) hz,_,(r.drop (HT.cO xs.length 0 lo)).take (HT.cO xs.length xs.length hi - HT.cO xs.length 0 lo),IsTup.new _ _⟩
end
variable{n j:Nat}{i:Int}{r:R2}{aa:List (ai×Obj)}{Z:St}{H:Hp}{s:aq}
def vc(n:Nat)(i:Int):aj Nat:=if 0<=i then(if i<n then some i.toNat else none) else if -(n:Int)<=i then some (i+n).toNat else none
def eH{α:Type}(xs:List α)(i:Int):aj α:=(vc xs.length i).bind λj=>xs[j]?
def Pj(h:vc n i=some j):seqIndex? i n=some j/\j<n /\ -(n:Int)<=i/\i<n:=by
 unfold vc at h;by_cases h0:0<=i
 .rw[bx h0] at h;by_cases h1:i<n
  .rw[bx h1] at h;have e:i.toNat=j:=Option.some.inj h;exact⟨by rw[seqIndex_of h0 h1,e],by lia,by lia,h1⟩
  .rw[bc h1] at h;cases h
 .rw[bc h0] at h;by_cases h1:-(n:Int)<=i
  .rw[bx h1] at h;have e:(i+n).toNat=j:=Option.some.inj h;exact⟨by rw[seqIndex_neg (by lia) h1,e],by lia,h1,by lia⟩
  .rw[bc h1] at h;cases h
def Jo{α:Type}{xs:List α}{v:α}(h:eH xs i=some v):∃j,seqIndex? i xs.length=some j/\xs[j]?=some v/\j<xs.length /\ -(xs.length:Int)<=i/\i<xs.length:=by
 unfold eH at h;cases e:vc xs.length i with
 |none=>rw[e] at h;cases h
 |some j=>
  rw[e] at h;obtain⟨h1,h2,h3,h4⟩:=Pj e;exact⟨j,h1,h,h2,h3,h4⟩
def uC{α:Type}{xs:List α}{v:α}(h:xs[j]?=some v):eH xs (j:Int)=some v:=by
 have hj:j<xs.length:=(fE.mp h).1;have e:vc xs.length (j:Int)=some j:=by
  unfold vc;rw[bx (by lia),bx (by lia)];simp
 unfold eH;rw[e];exact h
def Jp(b:Expr):Prop:=∀o i,subscripted b false o i=operate [o,i] (getItem o i)
def qh(X:Cx)(r:R2):Prop:=
 ∀(value slice:Expr) (aa:List (ai×Obj)) (s:aq) (Z:St) (H:Hp) (x y:V) (v u:ah) (Q:VK),Inv X aa Z H s->RelV x v->RelV y u->r x y H Q->
  subscripted slice false v u=operate [v,u] (getItem v u)->wpAny (model X.prog X.w) X.A (subscriptTail value slice v u) (EP X aa Z Q) X.xe s
def HQ(X:Cx)(id:String)(r:V->List V->Hp->VK->Prop):Prop:=
 ∀(aa:List (ai×Obj)) (s:aq) (Z:St) (H:Hp) (x:V) (xs:List V) (v:ah) (us:List ah) (Q:VK),Inv X aa Z H s->RelV x v->Vals xs us->r x xs H Q->
  wpAny (model X.prog X.w) X.A (call (.builtin id) (v::us)) (EP X aa Z Q) X.xe s
section
variable{X:Cx}{a b:Expr}{ta tb:TE}{pos:Pos}
def qh.or{r':R2}(h:qh X r)(h':qh X r'):qh X (λx y H Q=>r x y H Q\/r' x y H Q):=by
 intro value slice aa s Z H x y v u Q I rx ry q hs;rcases q with q|q
 .exact h value slice aa s Z H x y v u Q I rx ry q hs
 .exact h' value slice aa s Z H x y v u Q I rx ry q hs
def e7m(hr:qh X r)(ha:PE X a ta)(hb:PE X b tb)(hs:Jp b):PE X (.Subscript a b pos) (Hk r ta tb):=by
 intro aa s Z H Q I h;exact Subscript_ (yw ha hb I h λv u s2 x y H2 I2 rx ry q=>hr a b aa s2 Z H2 x y v u Q I2 rx ry q (hs _ _))
def zF(K:aJ):R2:=λx y H Q=>∃p xs i v,x=.ref p/\y=.int i/\cW K H p xs/\eH xs i=some v/\Q v H
def zG(K:aJ):R2:=λx y H Q=>∃p xs i v,x=.ref p/\y=.int i/\iE K H p xs/\eH xs i=some v/\Q v H
def DB:R2:=λx y H Q=>∃z i c,x=.str z/\y=.int i/\z.length<=sizeLine/\eH z.cps.toList i=some c/\Q (.str ⟨#[c]⟩) H
def Xt:qh X (zF X.K):=by
 intro value slice aa s Z H x y v u Q I rx ry h hs;obtain⟨p,xs,i,z,rfl,rfl,hq,he,q⟩:=h;cases rx;obtain⟨t,rfl⟩:=ry;obtain⟨aE,r,pl,hz⟩:=I.list hq;obtain⟨j,h1,h2,h3,h4,h5⟩:=Jo he;obtain⟨w,ew,mD⟩:=r.get h2;have hl:=r.length;have hn:=yo;have fin:EP X aa Z Q w s:=⟨z,H,I,mD,q⟩;by_cases h0:0<=i
 .have hj:i.toNat=j:=by
   rw[seqIndex_of h0 h5] at h1;exact Option.some.inj h1
  exact item_listR pl.isList h0 (by lia) (by rw[hj];simpa using ew) fin hs
 .have hj:(i+(aE.toArray.size:Int)).toNat=j:=by
   rw[seqIndex_neg (by lia) h4] at h1
   rw[eE,<-hl];exact Option.some.inj h1
  exact subscriptTail_builtinR (x:=w) pl.isList.typeIs slot_list_getitem.lookup
   (wpAny_getItem_list_neg (Q:=λr s'=>r=w/\EP X aa Z Q r s') pl.isList (by lia) (by rw[eE] <;> lia) (by lia) (by rw[hj];simpa using ew) ⟨rfl,fin⟩) hs
def Δ:qh X (zG X.K):=by
 intro value slice aa s Z H x y v u Q I rx ry h hs;obtain⟨p,xs,i,z,rfl,rfl,hq,he,q⟩:=h;cases rx;obtain⟨t,rfl⟩:=ry;obtain⟨aE,r,pl,hz⟩:=I.tuple hq;obtain⟨j,h1,h2,h3,h4,h5⟩:=Jo he;obtain⟨w,ew,mD⟩:=r.get h2;have hl:=r.length;have hn:=yo;have fin:EP X aa Z Q w s:=⟨z,H,I,mD,q⟩;exact subscriptTail_builtinR (x:=w) pl.typeIs slot_tuple_getitem.lookup
  (getItem_tuple (j:=j) (Q:=λr s'=>r=w/\EP X aa Z Q r s') pl (by lia) (by lia) (by rw[eE,<-hl];exact h1) (by simpa using ew) ⟨rfl,fin⟩) hs
def y7:qh X DB:=by
 intro value slice aa s Z H x y v u Q I rx ry h hs;obtain⟨z,i,c,rfl,rfl,hz,he,q⟩:=h;obtain⟨t,rfl⟩:=rx;obtain⟨t',rfl⟩:=ry;obtain⟨j,h1,h2,h3,h4,h5⟩:=Jo he;have hl:z.cps.toList.length=z.length:=by simp[Str.length]
 rw[hl] at h1 h4 h5;have hn:=yo;exact tail_any (typeIs_str s z t) slot_str_getitem.lookup (getItem_str (c:=c) (by
  lia) (by rw[h1];simpa using h2) ⟨.str ⟨#[c]⟩,H,I.tok _,⟨_,rfl⟩,q⟩) hs
def TH(aE:List ah)(n j:Nat)(u:ah):Obj.mapSeq (·.setIfInBounds j u) { cls:=.type "list",data:=.seq aE.toArray n}={ cls:=.type "list",data:=.seq (aE.set j u).toArray n}:=by
 simp[Obj.mapSeq]
def Inv.lst{aa:List (ai×Obj)}{Z:St}{H:Hp}{s:aq}{p:ai}{xs:List V}(I:Inv X aa Z H s)(h:H p=some (.lst xs)):
  ∃(aE:List ah) (n:Nat),Vals xs aE/\s.heap.get? p=some { cls:=.type "list",data:=.seq aE.toArray n}/\xs.length<=sizeLine:=by
 obtain⟨z,aE,n,r,e⟩:=I.bG p _ h;exact⟨aE,n,r,e,z⟩
def Inv.zg{p:ai}{xs ys:List V}{aE its':List ah}{n':Nat}{f:Obj->Obj}(I:Inv X aa Z H s)(h:H p=some (.lst xs))
  (ho:s.heap.get? p=some { cls:=.type "list",data:=.seq aE.toArray n}) (hf:f { cls:=.type "list",data:=.seq aE.toArray n}={ cls:=.type "list",data:=.seq its'.toArray n'}) (r:Vals ys its') (hz:ys.length<=sizeLine) (t:Nat) :
  Inv X aa Z (upd H p (.lst ys)) { s with heap:=s.heap.update p f,toks:=t}:=by
 have e:(s.heap.update p f).get? p=some { cls:=.type "list",data:=.seq its'.toArray n'}:=by
  rw[qJ f ho (by rw[hf] <;> rfl),hf]
 refine I.write (x:=p) (e:=p) (by rw[h];trivial) (.inl rfl) (λb u hb q=>(oQ _ _ (Ne.symm hb)).trans q) ⟨_,e⟩ ?_
 exact⟨hz,its',n',r,e⟩
def w_:V->V->V->Hp->(Hp->Prop)->Prop:=λo i v H Q=>∃p xs k j,o=.ref p/\i=.int k/\H p=some (.lst xs)/\vc xs.length k=some j/\Q (upd H p (.lst (xs.set j v)))
def VH:uw X w_:=by
 intro aa s Z H o i v ov iv u Q I ro ri rv h;obtain⟨p,xs,k,j,rfl,rfl,hp,hj,q⟩:=h;cases ro;obtain⟨t,rfl⟩:=ri;obtain⟨aE,n,r,ho,hz⟩:=I.lst hp;obtain⟨h1,h2,h3,h4⟩:=Pj hj;have hl:=r.length;have hn:=yo;have I':Inv X aa Z (upd H p (.lst (xs.set j v))) { s with heap:=s.heap.update p (Obj.mapSeq (·.setIfInBounds j u))}:=
  I.zg hp ho (TH aE n j u) (r.set rv j) (by rw[xt];exact hz) s.toks
 by_cases h0:0<=k
 .have hk:k.toNat=j:=by
   rw[seqIndex_of h0 h4] at h1;exact Option.some.inj h1
  exact PySem.W.ki_setAt ho h0 (by lia) (by rw[eE,<-hl];exact h4) (by rw[hk];exact⟨_,I',q⟩)
 .have hk:(k+(aE.toArray.size:Int)).toNat=j:=by
   rw[seqIndex_neg (by lia) h3] at h1
   rw[eE,<-hl];exact Option.some.inj h1
  exact PySem.W.ki_setBack ho (by lia) (by rw[eE,<-hl];exact h3) (by lia) (by rw[hk];exact⟨_,I',q⟩)
def Te(lo hi:aj Int)(n:Nat):(sliceBounds lo hi none n).1=((HT.cO n 0 lo:Nat):Int)/\(sliceBounds lo hi none n).2.1=((HT.cO n n hi:Nat):Int)/\(sliceBounds lo hi none n).2.2=1:=by
 refine⟨?_,?_,rfl⟩
 .cases lo with
  |none=>simp[sliceBounds,HT.cO]
  |some i=>
   simp only[sliceBounds,HT.cO,Option.getD_none,show(1:Int) > 0 by decide,oS]
   by_cases h:i<0
   .simp only[h,oS] <;> lia
   .simp only[h,iC] <;> lia
 .cases hi with
  |none=>simp[sliceBounds,HT.cO]
  |some i=>
   simp only[sliceBounds,HT.cO,Option.getD_none,show(1:Int) > 0 by decide,oS]
   by_cases h:i<0
   .simp only[h,oS] <;> lia
   .simp only[h,iC] <;> lia
def S9(aE:List ah)(lo hi:aj Int):slicePick aE.toArray lo hi none=((aE.drop (HT.cO aE.length 0 lo)).take (HT.cO aE.length aE.length hi - HT.cO aE.length 0 lo)).toArray:=by
 obtain⟨h1,h2,h3⟩:=Te lo hi aE.toArray.size;unfold slicePick;rw[h1,h2,h3];simp only[sliceRange_one,pick_run,eE] <;> rfl
def zH(K:aJ):V->aj Int->aj Int->Hp->VK->Prop:=λx lo hi H Q=>∃a xs,x=.ref a/\cW K H a xs/\∀p,H p=none->Q (.ref p) (upd H p (.lst (nq xs lo hi)))
def Xu:rN X (zH X.K):=by
 intro aa s Z H x v vl vu lo hi sl Q I rx hs pl pu h;obtain⟨a,xs,rfl,hx,q⟩:=h;cases rx;obtain⟨aE,r,ht,hz⟩:=I.list hx;have hlen:=r.length;refine⟨"list",_,slot_list_getitem.lookup,ht.isList.typeIs,?_⟩;refine wpAny_getItem_list_slice ht.isList hs pl pu .none (by simp) ?_ (by rw[eE] <;> lia)
 rw[S9,<-hlen];refine⟨.ref s.heap.objs.size,_,I.laid (t':=s.toks) (o:=.lst (nq xs lo hi)) (λb ob q=>cZ _ q) (bZ _) ?_,rfl,q _ (I.bG.fresh (bZ _))⟩
 exact⟨jo (M' xs lo hi) hz,_,0,(r.drop (HT.cO xs.length 0 lo)).take (HT.cO xs.length xs.length hi - HT.cO xs.length 0 lo),iZ _ rfl⟩
def Tf:bS X (.builtin "len") (λxs H Q=>∃p ys,xs=[.ref p]/\(cW X.K H p ys\/iE X.K H p ys)/\Q (.int ys.length) H):=by
 intro aa s Z H xs us Q I r h;obtain⟨p,ys,rfl,hq,q⟩:=h;obtain⟨u,rfl,rx⟩:=vals1 r;cases rx;have hn:=yo;rcases hq with hq|hq
 .obtain⟨aE,r',pl,hz⟩:=I.list hq;have hlen:=r'.length;exact Calls.call_len_list pl.isList (by simp only[eE] <;> lia) ⟨.int ys.length,H,I.tok _,⟨s.toks+1,by rw[eE,hlen]⟩,q⟩
 .obtain⟨aE,r',pl,hz⟩:=I.tuple hq;have hlen:=r'.length;exact len_tuple pl (by simp only[eE] <;> lia) ⟨.int ys.length,H,I.tok _,⟨s.toks+1,by rw[eE,hlen]⟩,q⟩
def lW:bS X (.builtin "len") (λxs H Q=>∃z,xs=[.str z]/\z.length<=sizeLine/\Q (.int z.length) H):=by
 intro aa s Z H xs us Q I r h;obtain⟨z,rfl,hz,q⟩:=h;obtain⟨u,rfl,t,rfl⟩:=vals1 r;have hn:=yo;exact len_str (by lia) ⟨.int z.length,H,I.tok _,⟨_,rfl⟩,q⟩
def bS.or{f:ah}{r r':List V->Hp->VK->Prop}(h:bS X f r)(h':bS X f r'):bS X f (λxs H Q=>r xs H Q\/r' xs H Q):=by
 intro aa s Z H xs us Q I rs q;rcases q with q|q
 .exact h aa s Z H xs us Q I rs q
 .exact h' aa s Z H xs us Q I rs q
def Tg:bS X (.type "list") (λxs H Q=>∃p ys,xs=[.ref p]/\(cW X.K H p ys\/iE X.K H p ys)/\∀l,H l=none->Q (.ref l) (upd H l (.lst ys))):=by
 intro aa s Z H xs us Q I r h;obtain⟨p,ys,rfl,hq,q⟩:=h;obtain⟨u,rfl,rx⟩:=vals1 r;cases rx;have fin:∀(aE:List ah),Vals ys aE->ys.length<=sizeLine->∀(h':bT) (c':Nat),(∀b o',s.heap.get? b=some o'->h'.get? b=some o')->
   h'.get? s.heap.objs.size=some { cls:=.type "list",dict:=none,data:=.seq aE.toArray c',slots:=#[]}->EP X aa Z Q (.ref s.heap.objs.size) { s with heap:=h'}:=λaE r' hz h' c' kp e=>
  ⟨.ref s.heap.objs.size,_,I.laid (t':=s.toks) kp (bZ _) (show bI X.prog X.w _ h' _ (.lst ys) from⟨hz,aE,c',r',e⟩),rfl,q _ (I.bG.fresh (bZ _))⟩
 rcases hq with hq|hq
 .obtain⟨aE,r',pl,hz⟩:=I.list hq;have hlen:=r'.length;obtain⟨o,ho,hc,n,hd⟩:=pl.isList;exact call_list_seq p (.inl rfl) ho hc hd (λh' c' kp e=>fin aE r' hz h' c' kp e) (by simp only[eE] <;> lia)
 .obtain⟨aE,r',pl,hz⟩:=I.tuple hq;have hlen:=r'.length;obtain⟨o,ho,hc,n,hd⟩:=pl;exact call_list_seq p (.inr rfl) ho hc hd (λh' c' kp e=>fin aE r' hz h' c' kp e) (by simp only[eE] <;> lia)
def Hr(K:aJ)(T:String)(x:V)(H:Hp):Prop:=match x with
 |.str _=>T="str"
 |.int _=>T="int"
 |.ref p=>(T="list"/\∃xs,cW K H p xs)\/(T="tuple"/\∃o,K.lookup p=some o/\o.cls=.type "tuple"/\o.dict=none)\/
   (T="dict"/\((∃kvs,H p=some (.dK kvs))\/(∃kvs,H p=some (.dT kvs))\/∃es ep,H p=some (.dG es ep)))\/(T="set"/\∃S n,H p=some (.set S n))
 |_=>False
def QB{T:String}{x:V}{v:ah}(I:Inv X aa Z H s)(r:RelV x v)(ty:Hr X.K T x H):
  s.TypeIs v T/\∀a,v=.ref a->∃ob,s.heap.get? a=some ob/\ob.dict=none:=by
 cases x with
 |str z=>
  obtain⟨t,rfl⟩:=r;cases(show T="str" from ty);exact⟨typeIs_str s z t,λ_ e=>nomatch e⟩
 |int i=>
  obtain⟨t,rfl⟩:=r;cases(show T="int" from ty);exact⟨typeIs_int s i t,λ_ e=>nomatch e⟩
 |ref p=>
  cases r;rcases ty with⟨rfl,xs,hq⟩|⟨rfl,o,hk,hc,hd⟩|⟨rfl,hk⟩|⟨rfl,S,n,hk⟩
  .obtain⟨aE,_,pl,_⟩:=I.list hq;refine⟨pl.isList.typeIs,λa e=>?_⟩
   cases e;obtain⟨o,n,e,c,hd,_⟩:=pl;exact⟨o,e,hd⟩
  .refine⟨⟨o,I.jV p o hk,hc⟩,λa e=>?_⟩
   cases e;exact⟨o,I.jV _ o hk,hd⟩
  .have z:∃o,s.heap.get? p=some o/\o.ExactDict:=by
    rcases hk with⟨kvs,hk⟩|⟨kvs,hk⟩|⟨es,ep,hk⟩
    .obtain⟨_,_,_,_,o,_,_,e,ex,_⟩:=I.bG p _ hk;exact⟨o,e,ex⟩
    .obtain⟨_,_,_,_,o,_,_,e,ex,_⟩:=I.bG p _ hk;exact⟨o,e,ex⟩
    .obtain⟨_,_,o,_,e,ex,_⟩:=I.bG p _ hk;exact⟨o,e,ex⟩
   obtain⟨o,e,ex⟩:=z;refine⟨⟨o,e,ex.1⟩,λa e2=>?_⟩
   cases e2;exact⟨o,e,ex.2.1⟩
  .obtain⟨o,_,_,_,e,ex,_⟩:=I.bG p _ hk;refine⟨⟨o,e,ex.1⟩,λa e2=>?_⟩
   cases e2;exact⟨o,e,ex.2.1⟩
 |_=>exact False.elim ty
def LQ(K:aJ)(T:String)(r:V->List V->Hp->VK->Prop)(to:TE)(t:TA):TE:=λZ H Q=>to Z H λx H1=>Hr K T x H1/\t Z H1 λxs H2=>r x xs H2 Q
variable{o e:Expr}{es:List Expr}{to:TE}{t:TA}{name:Str}{apos cD:Pos}{T id:String}{r:V->List V->Hp->VK->Prop}
def Rm(pa:PlainAttrs T)(slot:Slot T name id)(u9:typeOf (.builtin id)=pure (.type "method_descriptor"))(hm:HQ X id r)(ho:PE X o to)(ha:PA X (e::es) t)
  (fj:attributeBase o name X.env (eval o X.env)=eval o X.env:=by rfl)
  (sy:((backTo cD (starEach (e::es) X.env)).all (λx => !x.1)&&(backToKw cD (keywordEach [] X.env)).all (λx=>x.1.isSome) && decide ((e::es).length+([]:List Keyword).length+(if([]:List Keyword).isEmpty then 0 else 1)<30))=true:=by rfl)
  (fm:(apos.endLine == cD.line)=true:=by rfl) (hs:starEach (e::es) X.env=(false,eval e X.env)::starEach es X.env:=by rfl) (km:(backTo cD (starEach es X.env)).any (·.1)=false:=by rfl) :
  PE X (.Call (.Attribute o name apos) (e::es) [] cD) (LQ X.K T r to t):=by
 intro aa s Z H Q I h;refine wpAny_Call_method_late fj sy fm rfl (bM (ho aa s Z H _ I h) λv s1 hh=>?_)
 obtain⟨x,H1,I1,r1,ty,q1⟩:=hh;obtain⟨h1,h2⟩:=QB I1 r1 ty;refine⟨T,id,pa,slot,u9,h1,h2,?_⟩;have hA:=ha cD aa s1 Z H1 _ I1 q1;rw[hs] at hA ⊢;refine Calls.callWith_builtin (by show(false || (backTo cD (starEach es X.env)).any (·.1))=false;rw[km] <;> rfl) (Calls.evalArgs_plain ?_)
 exact bM hA λus s2 ⟨vs,H2,I2,r2,q2⟩=>hm aa s2 Z H2 x vs v us Q I2 r1 r2 q2
end
variable{x:V}{us aE:List ah}{t':Nat}
def Aa(X:Cx)(id:String)(r:V->List V->Hp->VK->Prop):Prop:=
 ∀(aa:List (ai×Obj)) (s:aq) (Z:St) (H:Hp) (x:V) (xs:List V) (v:ah) (us:List ah) (Q:VK),Inv X aa Z H s->RelV x v->Vals xs us->r x xs H Q->
  wpAny (model X.prog X.w) X.A (call (.builtin id) (v::us)) (EP X aa Z Q) X.xe s
def Vals.one(h:Vals [x] us):∃u,us=[u]/\RelV x u:=by
 cases h with
 |cons r t=>
  cases t;exact⟨_,rfl,r⟩
def Vals.two{y:V}(h:Vals [x,y] us):∃u v,us=[u,v]/\RelV x u/\RelV y v:=by
 cases h with
 |cons r t=>
  obtain⟨v,rfl,q⟩:=Vals.one t;exact⟨_,_,rfl,r,q⟩
section
variable{X:Cx}{aa:List (ai×Obj)}{Z:St}{H:Hp}{s:aq}{l b:ai}{xs ys zs:List V}
def Inv.ze{its':List ah}{n:Nat}{f:Array ah->Array ah}(I:Inv X aa Z H s)(hH:H l=some (.lst xs))
  (e:s.heap.get? l=some { cls:=.type "list",data:=.seq aE.toArray n}) (hf:f aE.toArray=its'.toArray) (hv:Vals ys its') (hz:ys.length<=sizeLine) :
  Inv X aa Z (upd H l (.lst ys)) { s with heap:=s.heap.update l (Obj.mapSeq f),toks:=t'}:=by
 have q:=PySem.IsL.update e f;rw[hf] at q;refine I.write (x:=l) (e:=l) (by rw[hH];exact trivial) (.inl rfl) (λb' u hb hu=>(oQ s.heap (Obj.mapSeq f) (Ne.symm hb)).trans hu) ⟨_,q⟩ ?_
 exact⟨hz,its',_,hv,q⟩
def Inv.K8(I:Inv X aa Z H s)(hv:Vals ys aE)(hz:ys.length<=sizeLine):
  Inv X aa Z (upd H s.heap.objs.size (.lst ys)) { s with heap:=s.heap.push { cls:=.type "list",data:=.seq aE.toArray},toks:=t'}:=
 I.laid (λ_ _ q=>cZ _ q) (bZ _) ⟨hz,aE,0,hv,iZ _ rfl⟩
theorem Inv.fresh(I:Inv X aa Z H s):H s.heap.objs.size=none:=I.bG.fresh (bZ _)
def Inv.zf(I:Inv X aa Z H s)(hH:H l=some (.lst xs)):xs.length<=sizeLine/\∃(aE:List ah) (n:Nat),Vals xs aE/\xs.length=aE.length/\s.heap.get? l=some { cls:=.type "list",data:=.seq aE.toArray n}:=by
 obtain⟨z,aE,n,r,e⟩:=I.bG l _ hH;exact⟨z,aE,n,r,r.length,e⟩
end
section
variable{X:Cx}
def Pk:V->List V->Hp->VK->Prop:=λx vs H Q=>∃l xs y,x=.ref l/\vs=[y]/\H l=some (.lst xs)/\xs.length<sizeLine/\Q .aM (upd H l (.lst (xs++[y])))
theorem Uv:Aa X "list.append" Pk:=by
 intro aa s Z H x vs v us Q I rx rv h;obtain⟨l,xs,y,rfl,rfl,hH,hz,q⟩:=h;cases rx;obtain⟨u,rfl,ru⟩:=rv.one;obtain⟨z,aE,n,r,hl,e⟩:=I.zf hH;refine call_meets F.slot_list_append ⟨_,e,rfl⟩ F.entry_list_append (F.args_list_append_2 _ _) (PySem.list_append l aE.toArray n u (by rw[eE];lia)) ⟨e,?_⟩
 refine⟨.aM,_,I.ze (its':=aE++[u]) hH e (by simp) (r.append (.cons ru .nil)) ?_,rfl,q⟩
 rw[dU,ug];lia
end
section
variable{κ:Type}[DecidableEq κ]
def iN.qy{o:aj V}{u:aj ah}(r:iN o u):o.isSome=u.isSome:=by
 cases o with
 |none=>cases u with
  |none=>rfl
  |some _=>exact(show False from r).elim
 |some _=>cases u with
  |none=>exact(show False from r).elim
  |some _=>rfl
end
variable{X:Cx}{pos:Pos}
section
variable{X:Cx}{aa:List (ai×Obj)}{Z:St}{H:Hp}{s:aq}{a:ai}{y v:V}{u r:ah}{o:aj V}{A:cP}{E:ah->aq->Prop}
def Inv.big(I:Inv X aa Z H s):sysModules<s.heap.objs.size:=by
 have h:mainGlobals<s.heap.objs.size:=(I.mod.glob.keeps I.bk).lt;exact Nat.lt_trans (by decide) h
def Jq{h':bT}{t':Nat}{ob:HO}(I:Inv X aa Z H s)(mu:Bl (H a))(hs:Heap.SameBut a s.heap h')(he:∃q,h'.get? a=some q)(new:bI X.prog X.w (upd H a ob) h' a ob):
  Inv X aa Z (upd H a ob) { s with heap:=h',toks:=t'}:=
 I.write (x:=a) (e:=a) mu (.inl rfl) (λb q hb z=>(hs.2 b hb).trans z) he new
end
def F7:List (TE×TE)->St->Hp->(List (V×V)->Hp->Prop)->Prop
 |[],_,H,Q=>Q [] H
 |(tk,tv)::r,Z,H,Q=>tk Z H λx H1=>tv Z H1 λy H2=>F7 r Z H2 λps H3=>Q ((x,y)::ps) H3
abbrev VV:List (V×V)->List (ah×ah)->Prop:=Paired λp q=>RelV p.1 q.1/\RelV p.2 q.2
def Ab(X:Cx)(pos:Pos)(keys:List (aj Expr))(values:List Expr)(vB:List (TE×TE)):Prop:=
 ∀(aa:List (ai×Obj)) (s:aq) (Z:St) (H:Hp) (Q:List (V×V)->Hp->Prop),Inv X aa Z H s->F7 vB Z H Q->
  wpAny (model X.prog X.w) X.A (evalPairs (pairTrees keys values X.env pos)) (λvs s'=>∃ps H',Inv X aa Z H' s'/\VV ps vs/\Q ps H') X.xe s
def vp:Ab X pos [] [] []:=λaa s Z H Q I h=>pairTrees_nil_walk ⟨[],H,I,.nil,h⟩
def sY{k v:Expr}{ks:List (aj Expr)}{vs:List Expr}{tk tv:TE}{vB:List (TE×TE)}(hk:PE X k tk)(hv:PE X v tv)(hr:Ab X pos ks vs vB):
  Ab X pos (some k::ks) (v::vs) ((tk,tv)::vB):=λaa s Z H Q I h=>
 pairTrees_cons_walk (bM (hk aa s Z H _ I h) λu s1 ⟨x,H1,I1,rx,q1⟩=>bM (hv aa s1 Z H1 _ I1 q1) λw2 s2 ⟨y,H2,I2,ry,q2⟩=> bM (hr aa s2 Z H2 _ I2 q2) λws s3 ⟨ps,H3,I3,rel,q3⟩=>⟨(x,y)::ps,H3,I3,.cons ⟨rx,ry⟩ rel,q3⟩)
end L2
namespace MH
open PySem PySem.W PySem.Calls PyProof.Rows
variable{P:Params}{h:bT}{l:OpenLaw}{n:Nat}
def SY:∀(ns:List Int) (vs:List ah),WellAll P h vs (ns.map WData.int)->IntsAre vs ns:=by
 intro ns
 induction ns with
 |nil=>
  intro vs w;rw[Et] at w;cases w;exact .nil
 |cons n ns ih=>
  intro vs w;rw[cU] at w;cases w with
  |cons a b=>
   cases a;exact .cons _ _ (ih _ b)
def Uw(hn:l.most=some n){args:List WData}{vals:List ah}
  (u7:l.row.toRowW.claim.pre args=true) (G2:WellAll P h vals args) :
  ∃a vs ns,vals=[Value.ref a]/\args=[WData.list (ns.map WData.int)]/\h.get? a=some { cls:=.type "list",data:=.seq vs.toArray}/\IntsAre vs ns/\ns.length<=n:=by
 have hsh:WShape.hasAll [] args [.list .int]=true:=(pre_splitW u7).1;have hc:l.pre.holds [] { args:=args}=true:=(pre_splitW u7).2;obtain⟨d,r,rfl,h1,h2⟩:=hasAllW_cons hsh;obtain rfl:=hasAllW_nil h2;obtain⟨xs,rfl,h3⟩:=hasW_list h1;obtain⟨ns,rfl⟩:=items_int h3;have hlen:ns.length<=n:=by
  unfold OpenLaw.pre at hc;have h4:(WTm.not (.lt (.lit (.int (n:Int))) (.len (.arg 0)))).holds [] { args:=[.list (ns.map .int)]}=true:=by
   have h4:=(holds_andW hc).1;rw[hn] at h4;exact h4
  have h5:=condW_of h4 (w_not (w_lt w_lit (w_len_list (w_arg rfl))))
  simp_all
 cases G2 with
 |cons w1 w2=>
  cases w2;cases w1 with
  |list ho jL=>exact⟨_,_,ns,rfl,rfl,ho,SY ns _ jL,hlen⟩
def Ux(l:OpenLaw)(args:List WData):l.row.toRowW.claim.post args (.bool true) args=true:=
 postW_of (r:=l.row.toRowW) (X:=(true == true))
  (show WShape.has [] (.bool true) .bool=true by first|rfl|decide|simp[WShape.has,WShape.arms,WShape.armsAll])
  (show(WTm.eq .res (.lit (.bool true))).value [] { args:=args,res:=some (.bool true),after:=args}=some (.bool (true == true)) from w_eq_bool (w_res rfl) w_lit) rfl
def nj{q:dq}{loose:List Str}{XP:(Str->aj ah)->bT->Prop}{YP:cF->bT->Prop}{d:DefRec}
  (hn:l.most=some n) (CO:d.params.defaults=[])
  (call:∀(w:cF) (s₀ s₁:aq) (mg mb:Str->aj ah) (fa:ai) (o:Obj) (pm cd doc:ah) (a:ai) (vs:List ah) (ns:List Int),Ground q loose [] XP w s₀ mg mb s₁.heap->YP w s₁.heap-> s₁.heap.get? fa=some o->o.data=.func (docDef d.name d.params d.body d.scope pm cd doc)->s₁.heap.CodeRec cd d.name->mg d.name=some (.ref fa)-> s₁.heap.get? a=some { cls:=.type "list",data:=.seq vs.toArray}->IntsAre vs ns->ns.length<=n->s₁.gens=#[]-> codeAny (model l.prog w) callerA (.call (.ref fa) ⟨[.ref a],[]⟩) (λr s'=>r=.ok (.ret (.bool true))/\OldK s₁.heap s'.heap/\s'.os=s₁.os/\AllBare s'.gens) s₁) :
  WalkO q loose XP YP l.row.toRowW d [] (λf vs=>PySem.call f vs):=by
 intro w s₀ s₁ mg mb G Y fa o pm cd doc dV kV ho hd sx hD hmg hg args vals as u7 hlay hrd G2 hlo;obtain rfl:dV=.none:=Dflts.none hD CO;obtain rfl:kV=.none:=Dflts.noKw hD;obtain⟨a,vs,ns,rfl,rfl,yX,hints,hlen⟩:=Uw hn u7 G2;refine enter_call (codeAny_mono (call w s₀ s₁ mg mb fa o pm cd doc a vs ns G Y ho (fd_plain hd) sx hmg yX hints hlen hg) λr s' hq=>?_)
 obtain⟨rfl,h2,h3,h4⟩:=hq;exact⟨.inl ⟨.bool true,.bool true,[],rfl,λ_=>rfl,.bool true,Ux l _,λ_=>⟨List.Pairwise.nil,λ_ hm=>(nomatch hm)⟩⟩,h2,h3,h4⟩
end MH
namespace L2
open PySem PySem.Spec PyProof.Rows
theorem NK:∀{vs:List ah} {ns:List Int},IntsAre vs ns->Vals (ns.map V.int) vs
 |_,_,.nil=>.nil
 |_,_,.cons n t h=>.cons ⟨t,rfl⟩ (NK h)
def xG(H:Hp):Prop:=∀b,H b=none\/∃o xs,H b=some (.Y o (.lst xs))
def VI{P:dq}{w:cF}{K:aJ}{mg mb:Str->aj ah}{CX:tM}{k:Nat}{fa a:ai}{fd:lu}{x:Str}{sp:Sp}{s₁:aq}{vs:List ah}{ns:List Int}
  (KX:K.In s₁.heap) (R9:s₁.heap.Ns mainGlobals mg) (hb:s₁.heap.Ns builtinsNs mb) (hbb:∀x:Str,x≠"__name__"->mb x=bootBuiltins x) (KG:s₁.heap.NoLimit) (hg:s₁.gens=#[])
  (ha:s₁.heap.get? a=some { cls:=.type "list",data:=.seq vs.toArray}) (hi:IntsAre vs ns) (hl:ns.length<=sizeLine) (hr:cC k callerA)
  (F:∀base:bT,K.In base->base.Ns mainGlobals mg->d_ P w K mg base CX k fa fd [x] sp) (CL:∀(s:aq) (u:ah),BindsTo s fd ⟨[u],[]⟩ [(x,u)])
  (wm:∀H:Hp,xG H->cW K H a (ns.map V.int)->sp [.ref a] H (λv _=>v=.bl true) λ_ _ _=>False)
  (Kj:∀H e s',CX [] H s₁ (λ_ _ _=>False) e s'->False) :
  codeAny (model P w) callerA (.call (.ref fa) ⟨[.ref a],[]⟩) (λr s'=>r=.ok (.ret (.bool true))/\OldK s₁.heap s'.heap/\s'.os=s₁.os/\AllBare s'.gens) s₁:=by
 have rv:=NK hi;have K7:=hi.length;have core:∀H:Hp,xG H->cW K H a (ns.map V.int)->i9 P w H s₁.heap->(∀b,H b≠none->b=a)->(H a≠none->K.lookup a=none)->
   codeAny (model P w) callerA (.call (.ref fa) ⟨[.ref a],[]⟩) (λr s'=>r=.ok (.ret (.bool true))/\OldK s₁.heap s'.heap/\s'.os=s₁.os/\AllBare s'.gens) s₁:=by
  intro H hO hS bG hA hK;have o7:∀{b:ai} {o:Obj},s₁.heap.get? b=some o->H b=none->(l9 s₁.heap H).get? b=some o:=λe n=>Vt e n
  have Dq:∀{b:ai} {o:Obj} {es:Array DictEntry} {ep:Nat},s₁.heap.get? b=some o->o.data=.dict es ep->H b=none:=λ{b o es ep} e d=>by
   grind
  have Hb:∀{b:ai} {m:Str->aj ah},s₁.heap.Ns b m->(l9 s₁.heap H).Ns b m:=λ{b m} ⟨o,es,ep,e,d,r⟩=>⟨o,es,ep,o7 e (Dq e d),d,r⟩
  have RV:K.In (l9 s₁.heap H):=λb o e=>o7 (KX b o e) (by
   grind)
  have hM:Mod K mg (l9 s₁.heap H):=⟨RV,Hb R9,⟨mb,Hb hb,hbb⟩,let ⟨mc,h1,h2⟩:=KG;⟨mc,Hb h1,h2⟩⟩
  have e0:og P w K mg (l9 s₁.heap H) callerA [] s₁ H:=⟨rfl,hM,λb o e=>W_ e,Es (Uj _ _),trivial,λb hb=>cz (show b∈([]:List ai) from hb) (by simp),bG,.of_eq hg⟩
  refine codeAny_mono ((F _ RV (Hb R9)).run callerA [] s₁ H ⟨[.ref a],[]⟩ [.ref a] [.ref a] _ _ hr e0 (CL s₁ (.ref a)) (.cons rfl .nil) (wm H hO hS)) λr s' h=>?_
  cases r with
  |error e=>exact(Kj H e s' h).elim
  |ok fl=>
   cases fl with
   |next=>exact False.elim h
   |brk=>exact False.elim h
   |cont=>exact False.elim h
   |ret u=>
    obtain⟨v,H',os,bare,un,KL,r',q⟩:=h;have q':v=.bl true:=q;subst q';obtain rfl:u=Value.bool true:=r';refine⟨rfl,OldK.of_keep λb o e=>?_,os,bare⟩
    cases q:H b with
    |none=>exact un.keep b o e q (by intro z;exact cz (show b∈([]:List ai) from z) (by simp)) (by simp)
    |some u=>
     rcases hO b with z|⟨ob,xs,z⟩
     .rw[q] at z;cases z
     .have z2:=un.kg b ob _ z;obtain⟨e1,_⟩:=bG b _ z;obtain⟨e2,_⟩:=KL b _ z2
      lia
 cases hk:K.lookup a with
 |some o=>
  have e:=KX a o hk;rw[ha] at e;cases e;refine core (λ_=>none) (λ_=>.inl rfl) (.inr ⟨_,vs.toArray,_,hk,rfl,rfl,rfl,by rw[eE,K7];exact hl,by simpa using rv⟩) (λb u z=>by have z':(none:aj HO)=some u:=z;cases z') (λb z=>cz rfl z) λz=>cz rfl z
 |none=>
  refine core (λb=>if b=a then some (.Y { cls:=.type "list",data:=.seq vs.toArray} (.lst (ns.map V.int))) else none) (λb=>?_) (.inl (.inr ⟨{ cls:=.type "list",data:=.seq vs.toArray},bx rfl⟩)) (λb u z=>?_) (λb z=>?_) λ_=>hk
  .by_cases hb:b=a
   .exact .inr ⟨_,_,bx hb⟩
   .exact .inl (bc hb)
  .by_cases hb:b=a
   .have z':=(bx hb).symm.trans z;cases z';subst hb;exact⟨ha,by rw[bw];exact hl,vs,_,rv,ha⟩
   .have z':=(bc hb).symm.trans z;cases z'
  .by_cases hb:b=a
   .exact hb
   .exact cz (bc hb) z
def vI{l:PySem.W.OpenLaw}{n k:Nat}{q:dq}{loose:List Str}{XP:(Str->aj ah)->bT->Prop}{YP:cF->bT->Prop}{d:DefRec}{K:Params->aJ}{CX:cF->tM}{sp:cF->Sp}{x:Str}
  (hn:l.most=some n) (yU:n<=sizeLine) (CO:d.params.defaults=[]) (hr:cC k callerA)
  (hY:∀(w:cF) (h:bT),YP w h->(K w.params).In h)
  (F:∀(w:cF) (mg:Str->aj ah) (fa:ai) (h:bT),(K w.params).In h->h.Ns mainGlobals mg->mg d.name=some (.ref fa)-> ∃fd:lu,(∀(s:aq) (u:ah),BindsTo s fd ⟨[u],[]⟩ [(x,u)])/\ ∀base:bT,(K w.params).In base->base.Ns mainGlobals mg->d_ l.prog w (K w.params) mg base (CX w) k fa fd [x] (sp w))
  (wm:∀(w:cF) (H:Hp) (a:ai) (ns:List Int),ns.length<=n->xG H->cW (K w.params) H a (ns.map V.int)->sp w [.ref a] H (λv _=>v=.bl true) λ_ _ _=>False)
  (Kj:∀(w:cF) (H:Hp) (s:aq) (e:ah) (s':aq),CX w [] H s (λ_ _ _=>False) e s'->False) :
  PySem.W.WalkO q loose XP YP l.row.toRowW d [] (λf vs=>PySem.call f vs):=by
 refine MH.nj hn CO λw s₀ s₁ mg mb fa o pm cd doc a vs ns G Y ho hd sx hmg yX hints hlen hg=>?_
 have KX:=hY w _ Y;obtain⟨fd,hb,hF⟩:=F w mg fa _ KX G.T.g hmg;exact VI KX G.T.g G.T.b G.T.builtins G.T.nolimit hg yX hints (jo hlen yU) hr hF hb (λH hO hS=>wm w H a ns hlen hO hS) λH e s'=>Kj w H s₁ e s'
variable{x qual:Str}{st:Stmt}{f:ai}{H H':Hp}
noncomputable def jt(s:Stmt)(j:Nat):Stmt:=match s with
 |.ClassDef _ _ _ body _ _ _ _ _ _ _=>body.getD j (.Pass ⟨0,0,0,0⟩)
 |_=>.Pass ⟨0,0,0,0⟩
noncomputable def Au(s:Stmt):Arguments:=match s with
 |.FunctionDef _ a _ _ _ _ _ _ _ _=>a
 |_=>{ posonlyargs:=[],args:=[],vararg:=none,kwonlyargs:=[],kw_defaults:=[],kwarg:=none,defaults:=[]}
def x_(s:Stmt):List Stmt:=match s with
 |.FunctionDef _ _ b _ _ _ _ _ _ _=>b
 |_=>[]
noncomputable def qm(s:Stmt):Scope:=match s with
 |.FunctionDef _ _ _ _ _ _ sc _ _ _=>sc
 |_=>{ kind:=.function,names:=[],isGenerator:=false,isCoroutine:=false}
structure tN (K:aJ) (x qual:Str) (st:Stmt) (f:ai) (fd:lu):Prop where
 ex:∃(oc:ah) (od:aj ai) (kV doc pm:ah) (an:aj ai) (gR ct:ah) (pH:Array (aj ah)),
  fd=PySem.W.fnOf x qual (Au st) (x_ st) (qm st) .none kV doc pm an gR ct/\K.lookup f=some ⟨oc,od,.func fd,pH⟩/\PySem.W.codeIn K gR qual=true
 kp:PySem.W.keepIn K (.ref f)=true
section
variable{P:dq}{w:cF}{K:aJ}{mg:Str->aj ah}{base:bT}
def tN.binds{fd:lu}{ps:List Str}(F:tN K x qual st f fd)
  (h:∀(kV doc pm:ah) (an:aj ai) (gR ct:ah) (us:List ah),us.length=ps.length->bindArgs (PySem.W.fnOf x qual (Au st) (x_ st) (qm st) .none kV doc pm an gR ct) ⟨us,[]⟩=pure (ps.zip us)):Binds K fd ps []:=by
 obtain⟨oc,od,kV,doc,pm,an,gR,ct,pH,rfl,lk,sx⟩:=F.ex;exact .all (h kV doc pm an gR ct)
def fun_mk{oc:ah}{od an:aj ai}{pH:Array (aj ah)}{kV doc pm gR ct:ah}(l:K.lookup f=some ⟨oc,od,.func (PySem.W.fnOf x qual (Au st) (x_ st) (qm st) .none kV doc pm an gR ct),pH⟩)
  (c:PySem.W.codeIn K gR qual=true) (k:PySem.W.keepIn K (.ref f)=true):tN K x qual st f (PySem.W.fnOf x qual (Au st) (x_ st) (qm st) .none kV doc pm an gR ct):=⟨⟨oc,od,kV,doc,pm,an,gR,ct,pH,rfl,l,c⟩,k⟩
end
def sJ{A B:Prop}(h:B):if false=true then A else B:=by
 rw[bc tH];exact h
def sL{A B:Prop}(h:A):if true=true then A else B:=by
 rw[bx rfl];exact h
def az(H H':Hp):Prop:=∀b o,H b=some o->H' b=some o
def az.refl(H:Hp):az H H:=λ_ _ h=>h
def az.trans{H1 H2:Hp}(a:az H H1)(b:az H1 H2):az H H2:=λc o h=>b c o (a c o h)
def az.free(e:az H H'){l:ai}(h:H' l=Option.none):H l=Option.none:=by
 cases q:H l with
 |none=>rfl
 |some o=>
  rw[e l o q] at h;cases h
def az.seq{K:aJ}{a:ai}{xs:List V}(e:az H H')(h:cW K H a xs):cW K H' a xs:=by
 rcases h with(h|⟨o,h⟩)|h
 .exact .inl (.inl (e _ _ h))
 .exact .inl (.inr ⟨o,e _ _ h⟩)
 .exact .inr h
end L2
set_option maxHeartbeats 4000000
namespace L2
open PySem PySem.Spec PyProof.Rows
variable{env:Env}{names:List (Str×oR)}{x:Str}{c:ai}{scope:Scope}{X:Cx}
noncomputable def kc(env:Env)(names:List (Str×oR)):List (Str×ai):=((names.filter λy=>y.2 == .free).reverse).map λy=>(y.1,(env.cells.lookup y.1).getD 0)
theorem Na{g:Str->ai}{x:Str}:∀{l:List (Str×oR)},(∃k,(x,k)∈l)->(l.map λy=>(y.1,g y.1)).lookup x=some (g x)
 |[],h=>by obtain⟨k,h⟩:=h;cases h
 |(n,k)::r,h=>by
  show List.lookup x ((n,g n)::_)=_;cases hx:x == n with
  |true=>
   simp_all
  |false=>
   simp only[List.lookup_cons,hx];refine Na (l:=r) ?_
   simp_all
theorem MO{g:Str->ai}{x:Str}{c:ai}:∀{l:List (Str×oR)},(l.map λy=>(y.1,g y.1)).lookup x=some c->c=g x/\∃k,(x,k)∈l
 |[],h=>by cases h
 |(n,k)::r,h=>by
  have h:List.lookup x ((n,g n)::(r.map λy=>(y.1,g y.1)))=some c:=h
  cases hx:x == n with
  |true=>
   simp_all
  |false=>
   simp only[List.lookup_cons,hx] at h;obtain⟨e,k',hk⟩:=MO h;exact⟨e,k',n8 _ hk⟩
def Oq(h:(x,NameKind.free)∈names)(hc:env.cells.lookup x=some c):(kc env names).lookup x=some c:=by
 have:=Na (g:=λn=>(env.cells.lookup n).getD 0) (x:=x) (l:=(names.filter λy=>y.2 == .free).reverse) ⟨.free,by simp[h]⟩
 unfold kc;rw[this,hc];rfl
def Jr(hf:∀y∈names,y.2=.free->∃c,env.cells.lookup y.1=some c)(h:(kc env names).lookup x=some c):env.cells.lookup x=some c:=by
 obtain⟨e,k,hk⟩:=MO (g:=λn=>(env.cells.lookup n).getD 0) h
 grind
theorem Ir{env:Env}:∀(names:List (Str×oR)) (cs:List (Str×ai)),(∀y∈names,y.2=.free->∃c,env.cells.lookup y.1=some c)->
  (forIn names cs (λ(x:Str×oR) (r:List (Str×ai))=>if(x.2 == NameKind.free)=true then(do let a <-cellOf env x.1;pure (ForInStep.yield ((x.1,a)::r))) else(pure (ForInStep.yield r):Sem (ForInStep (List (Str×ai)))))) =
   pure (kc env names++cs)
 |[],cs,_=>by rw[List.forIn_nil];rfl
 |(n,k)::r,cs,h=>by
  rw[List.forIn_cons];cases hk:k == NameKind.free with
  |true=>
   obtain⟨c,hc⟩:=h (n,k) vK (by simpa using hk)
   have nX:env.cells.lookup n=some c:=hc;have e:cellOf env n=pure c:=by unfold cellOf;rw[nX]
   simp only[hk,oS,e,pure_bind];rw[Ir r _ λy hy=>h y (n8 _ hy)]
   congr 1
   unfold kc
   simp_all
  |false=>
   simp only[hk,lK,iC,pure_bind];rw[Ir r _ λy hy=>h y (n8 _ hy)]
   congr 1
   unfold kc;rw[Eu];simp[hk]
def MK(h:∀y∈scope.names,y.2=.free->∃c,env.cells.lookup y.1=some c):closureFor scope env=pure (kc env scope.names):=by
 have:=Ir (env:=env) scope.names [] h;rw[jQ] at this;unfold closureFor;show(forIn scope.names [] _ >>= λr=>pure r)=_
 rw[bind_pure];exact this
theorem MY{env:Env}:∀{names:List (Str×oR)} {x:Str},names.lookup x=some .free->
  (names.map λ(n,k)=>if(k == NameKind.free&&env.scope.kind == .function&&env.kindOf n == some .cell) then(n,NameKind.cell) else(n,k)).lookup x=some .cell\/
  (names.map λ(n,k)=>if(k == NameKind.free&&env.scope.kind == .function&&env.kindOf n == some .cell) then(n,NameKind.cell) else(n,k)).lookup x=some .free
 |[],_,h=>by simp at h
 |(n,k)::r,x,h=>by
  have ih:=@MY env r x
  grind
theorem Iu{env:Env}:∀{names:List (Str×oR)} {x:Str} {q:oR},(q=.cell\/q=.free)->(∀y∈names,y.2≠.cell)->
  (names.map λ(n,k)=>if(k == NameKind.free&&env.scope.kind == .function&&env.kindOf n == some .cell) then(n,NameKind.cell) else(n,k)).lookup x=some q->(x,NameKind.free)∈names
 |[],_,_,_,_,h=>by simp at h
 |(n,k)::r,x,q,hq,hn,h=>by
  have ih:=@Iu env r x q hq λy hy=>hn y (n8 _ hy)
  grind
def fS(X:Cx)(scope:Scope)(M:List Str)(C:ai)(s:aq)(H:Hp)(fp:List ai):Cx:=
 {X with N:=M,s₀:=s,H₀:=H,env:=compEnvC scope (kc X.env scope.names) C X.env,outer:=X.stack,ex:=fp,fn:=λ_=>false,pn:=[],xe:=λ_ _=>False}
noncomputable def kb(k:Nat)(du:List Nat)(Z:St):St:=List.replicate k none++du.map λi=>(Z[i]?).join
def rL(X:Cx)(ifs:List Expr)(t:TT):Prop:=
 ∀(aa:List (ai×Obj)) (s:aq) (Z:St) (H:Hp) (Q:Bool->Hp->Prop),Inv X aa Z H s->t Z H Q->
  wpAny (model X.prog X.w) X.A (forIn ifs true λc r=>if r=true then do let ok <-isTrue c X.env (eval c X.env);pure (ForInStep.yield ok) else pure (ForInStep.yield r)) (TP X aa Z Q) X.xe s
def L4:TT:=λ_ H Q=>Q true H
def Xv:rL X [] L4:=λ_ _ Z H _ I h=>wpAny_tests_nil ⟨H,I,h⟩
def Xw{c:Expr}{t:TT}(hc:PT X c t):rL X [c] t:=λaa s Z H Q I h=>wpAny_tests_one (hc aa s Z H Q I h)
def SU{prog:dq}{w:cF}{A:cP}{R:Result->aq->Prop}{s:aq}{elt target iter:Expr}{ifs:List Expr}{pos:Pos}{it ba:ah}(I:Nat->aq->Prop)
  (turn:∀n s,I n s->wpAny (model prog w) A (pyNext it) (λr s₁=>match r with
   |none=>R (.ok .next) s₁
   |some v=>wpAny (model prog w) A (letOwnedTupleGo target it v) (λ_ s₀=>wpAny (model prog w) A (assign target env v) (λ_ s₂=>
     wpAny (model prog w) A (forIn ifs true λc r=>if r=true then do let ok <-isTrue c env (eval c env);pure (ForInStep.yield ok) else pure (ForInStep.yield r)) (λok s₃=>
      if ok=true then wpAny (model prog w) A (eval elt env) (λx s₄=>
       wpAny (model prog w) A (call (.builtin "list.append") [ba,x]) (λ_ s₅=>∃m,m<n/\I m s₅) (λ_ _=>False) s₄) (λ_ _=>False) s₃
      else ∃m,m<n/\I m s₃) (λ_ _=>False) s₂) (λ_ _=>False) s₀) (λ_ _=>False) s₁) (λ_ _=>False) s)
  (n:Nat) (h:I n s) :
  codeAny (model prog w) A (.compLoop (.ListComp elt [⟨target,iter,ifs,0⟩] scope pos) 0 it ba env) R s:=by
 refine codeAny_loop rfl I (λn s hI=>?_) n h
 show wpAny _ A ((compTurn (.ListComp elt [⟨target,iter,ifs,0⟩] scope pos) 0 it ba env).onRaise (λx=>do noteFrame x env;theTreesLotGoes x)) _ _ s
 refine wpAny_noted ?_;rw[compTurn_list];refine ay (wpAny_standAt (ay (wpAny_mono (turn n s hI) (λr s₁ h₁=>?_) λ_ _ h'=>h'.elim)))
 cases r with
 |none=>exact aR h₁
 |some v=>
  refine ay (wpAny_mono h₁ (λ_ s₀ h₀=>?_) λ_ _ h'=>h'.elim)
  refine ay (wpAny_mono h₀ (λ_ s₂ h₂=>ay (wpAny_mono h₂ (λok s₃ h₃=>?_) λ_ _ h'=>h'.elim)) λ_ _ h'=>h'.elim)
  cases ok with
  |false=>exact aR ⟨rfl,h₃⟩
  |true=>
   exact ay (ay (wpAny_mono h₃ (λx s₄ h₄=>ay (wpAny_mono h₄ (λ_ s₅ h₅=>aR (aR ⟨rfl,h₅⟩)) λ_ _ h'=>h'.elim)) λ_ _ h'=>h'.elim))
variable{H:Hp}{s:aq}{fp:List ai}{wi:TI}
def Inv.Ec{X:Cx}{aa:List (ai×Obj)}{Z:St}{a:ai}{o:HO}(I:Inv X aa Z H s)(hn:H a=none)(hy:X.s₀.heap.objs.size<=a)(hL:a≠X.env.locals)(hC:∀x c,X.env.cells.lookup x=some c->c≠a)
  (hP:∀p∈X.pn++aa,p.1≠a) (new:bI X.prog X.w (upd H a o) s.heap a o):Inv X aa Z (upd H a o) s:=by
 refine⟨I.ok,I.os,I.bare,⟨I.base.keep,I.base.slot,λb ob e n hx=>?_,I.base.there,λb xs e=>?_,λb ob u e=>?_,λb ps e=>?_⟩,I.loc,I.cell,?_,λx c e=>?_,λp hp=>?_,λb u e=>?_,I.len⟩
 .rw[dH (gH (f7 (cQ e) hy))];exact I.base.free b ob e n hx
 .have z:=I.base.k_ b xs e;rw[dH (rP z hn)];exact z
 .have z:=I.base.kg b ob u e;rw[dH (rP z hn)];exact z
 .obtain⟨m,z⟩:=I.base.k9 b ps e;exact⟨m,by rw[dH (rP z hn)];exact z⟩
 .rw[dH (Ne.symm hL)];exact I.free
 .rw[dH (hC x c e)];exact I.eZ x c e
 .obtain⟨e,n,r⟩:=I.pin p hp;exact⟨e,by rw[dH (hP p hp)];exact n,r⟩
 .by_cases hb:b=a
  .grind [aK]
  .rw[dH hb] at e;exact(I.bG b u e).mE (λc v _ q=>q) (λc q=>by rw[dH (rP q hn)];exact q) λc xs q=>by rw[dH (rP q hn)];exact q
def oU(J:It)(g:TG)(tt:TT)(te:TE)(τ₀:St)(H1:Hp)(Fin:List V->Hp->Prop):Prop:=
 ∃(n:Nat) (W:Nat->St->List V->Hp->Prop),W 0 τ₀ [] H1/\∀i τ ba H,i<=n->W i τ ba H->
  (J.stop i H/\Fin ba H)\/(i<n/\J.go i H/\∀x H',J.tL i H x H'->g x τ H' λτ2 H2=>tt τ2 H2 λb H3=>if b=true then te τ2 H3 λv H4=>ba.length<sizeLine/\W (i+1) τ2 (ba++[v]) H4 else W (i+1) τ2 ba H3)
structure eM (X:Cx) (scope:Scope) (M:List Str) (k:Nat) (du:List Nat):Prop where
 kind:scope.kind=.function
 cell:∀y∈scope.names,y.2≠.cell
 free:∀y∈scope.names,y.2=.free->X.env.kindOf y.1=some .cell\/X.env.kindOf y.1=some .free
 names:∀y∈scope.names,y.2=.local -> scope.names.lookup y.1=some .local
 len:M.length=k+du.length
 JW:∀(j i:Nat) (x:Str),du[j]?=some i->M[k+j]?=some x->X.N[i]?=some x/\scope.names.lookup x=some .free
section
variable{X:Cx}{aa:List (ai×Obj)}{Z:St}{tg elt iter:Expr}{ifs:List Expr}{scope:Scope}{pos:Pos}{M:List Str}{k:Nat}{du:List Nat}{g:TG}{tt:TT}{te:TE}
def Inv.iT(I:Inv X aa Z H s)(ok:eM X scope M k du):∀y∈scope.names,y.2=.free->∃c,X.env.cells.lookup y.1=some c:=λy hy e=>I.ok.has y.1 (ok.free y hy e)
def Inv.block{s4:aq}{C D:ai}{oD:Obj}{m:Str->aj ah}(I:Inv X aa Z H s)(ok:eM X scope M k du)(f2:∀b∈fp,i8 X aa H b)(GW:∀b∈fp,∃o,s.heap.get? b=some o/\∀v,o.data≠.cell v)
  (hC:s.heap.objs.size<=C) (CJ:D≠C) (hD:s.heap.objs.size<=D) (old:∀b o,s.heap.get? b=some o->s4.heap.get? b=some o) (os:s4.os=s.os) (gens:s4.gens=s.gens)
  (ns:s4.heap.Ns C m) (KI:s4.heap.get? D=some oD) (Kw:∀v,oD.data≠.cell v):Inv (fS X scope M C s H fp) [(D,oD)] (kb k du Z) H s4:=by
 have hf:=I.iT ok;have fr:∀a,s.heap.objs.size<=a->H a=none:=λa ha=>I.bG.fresh ha
 have nfs:∀b∈kf X.stack,b<s.heap.objs.size:=λb hb=>by
  rcases y0b.mp (I.kE b hb) with e|e
  .rw[e];exact I.lt
  .exact Nat.lt_of_not_le λz=>I.zq z e
 have cl:∀x c,(kc X.env scope.names).lookup x=some c->X.env.cells.lookup x=some c:=λx c e=>Jr hf e
 refine⟨⟨I.ok.mod,ok.kind,I.ok.glob,I.ok.blt,hC,λx y c e1 e2=>I.ok.inj x y c (cl x c e1) (cl y c e2),λx hx=>?_,λx c e _=>?_,I.ok.hd,I.ok.frames,.inl rfl,λb hb=>?_,I.bs,jo I.ok.rY I.sz,λb o e hb=>?_,λb hb z=>?_,I.stack,I.jX⟩,os,by rw[gens];exact I.bare,Un.kept old,⟨m,ns,λi x v h1 h2 h3=>?_⟩,λx c e=>?_,fr C hC,λx c e=>I.eZ x c (cl x c e),λp hp=>?_,I.bG.kept old,?_⟩
 .have hx:(relabel scope X.env).names.lookup x=some .cell\/(relabel scope X.env).names.lookup x=some .free:=hx;have hm:(x,NameKind.free)∈scope.names:=by
   rcases hx with h|h
   .exact Iu (env:=X.env) (.inl rfl) ok.cell h
   .exact Iu (env:=X.env) (.inr rfl) ok.cell h
  obtain⟨c,hc⟩:=hf _ hm rfl;exact⟨c,Oq hm hc⟩
 .cases e
 .obtain⟨f0,f1,f2,f3,f4,f5⟩:=f2 b hb;obtain⟨ob,eb,_⟩:=GW b hb;exact⟨gH (f7 (cQ eb) hC),λx c e=>f4 x c (cl x c e)⟩
 .obtain⟨f0,f1,f2,f3,f4,f5⟩:=f2 b hb;rcases f3 with q|q
  .exact I.ok.oK b o e q
  .exact cz (f7 (cQ e) (jo I.ok.rY q)) (jY _)
 .obtain⟨f0,f1,f2,f3,f4,f5⟩:=f2 b hb;rcases y0b.mp (I.kE b z) with q|q
  .exact f1 q
  .exact f2 q
 .unfold kb at h2;have hk:¬i<k:=λq=>by
   rw[uf (by simpa using q),Mj] at h2
   split at h2 <;> cases h2
  rw[ue (by simpa using hk),pW,f9] at h2
  cases e:du[i - k]? with
  |none=>rw[e] at h2;cases h2
  |some j=>
   rw[e] at h2;have CI:(Z[j]?).join=some v:=Option.some.inj h2;have hj:Z[j]?=some (some v):=by
    cases q:Z[j]? with
    |none=>rw[q] at CI;cases CI
    |some z=>rw[q] at CI;simp at CI;rw[CI]
   have yS:k+(i - k)=i:=by lia
   obtain⟨hN,sC⟩:=ok.JW (i - k) j x e (by rw[yS];exact h1)
   have hm:(x,NameKind.free)∈scope.names:=PySem.mem_of_lookup sC;have hkx:=ok.free _ hm rfl;obtain⟨mX,hnX,hlX⟩:=I.loc;obtain⟨u,ru,lk⟩:=hlX j x v hN hj (by rcases hkx with q|q;exact .inr (.inl q);exact .inr (.inr q))
   refine⟨u,ru,.inr ⟨MY (env:=X.env) sC,?_⟩⟩;rcases lk with⟨q,_⟩|⟨_,c,hc,pA⟩
   .lia
   .exact⟨c,Oq hm hc,pA.keeps old⟩
 .obtain⟨v,z⟩:=I.cell x c (cl x c e);exact⟨v,z.keeps old⟩
 .have e:p=(D,oD):=by simpa[fS] using hp
  subst e;exact⟨KI,fr D hD,CJ,λz=>cz (f7 (nfs D z) hD) (jY _),Kw⟩
 .unfold kb;rw[dU,pW,bw];exact ok.len.symm
def NL{H2:Hp}{s2:aq}{J:It}{it:ai}{tn:Nat->bT->Prop}{RR:ah->ai->Result->aq->Prop}{E:ah->aq->Prop}{Fin:List V->Hp->Prop}(I2:Inv X aa Z H2 s2)(hc:X.calm=true)(ok:eM X scope M k du)
  (T:Turn X.prog X.w X.K tg J fp it tn) (qU:tn 0 s2.heap) (f2:∀b∈fp,i8 X aa H2 b)
  (hg:∀C s H fp,PG (fS X scope M C s H fp) tg g) (ht:∀C s H fp,rL (fS X scope M C s H fp) ifs tt) (he:∀C s H fp,PE (fS X scope M C s H fp) elt te)
  (hW:oU J g tt te (kb k du Z) H2 Fin)
  (hRR:∀D C s' H' ba,Inv X aa Z (upd H' D (.lst ba)) s'->i8 X aa (upd H' D (.lst ba)) C->(∃m,s'.heap.Ns C m)->H' D=none->Fin ba H'->RR (.ref D) C (.ok .next) s') :
  wpAny (model X.prog X.w) X.A (newList []) (λba s₃=>wpAny (model X.prog X.w) X.A (newFunctionEnv scope X.env.globals (kc X.env scope.names) [] X.env.qual none .none (some X.env)) (λCr s₄=> codeAny (model X.prog X.w) X.A (.compStart (.ListComp elt [⟨tg,iter,ifs,0⟩] scope pos) 0 (.ref it) ba { Cr with scope:=relabel scope X.env}) (RR ba Cr.locals) s₄) E s₃) E s2:=by
 refine wpAny_newObj_type (wpAny_newFunctionEnv ok.cell (by intro y hy;simp at hy) (λh₁ hns₁ hsb₁=>?_) ok.kind)
 dsimp only at hns₁ hsb₁ ⊢;generalize Kl:s2.heap.push { cls:=.type "list",dict:=none,data:=.seq ([]:List ah).toArray}=H3 at hns₁ hsb₁ ⊢;have Kk:H3.objs.size=s2.heap.objs.size+1:=by rw[<-Kl,Heap.size_push]
 have CJ:s2.heap.objs.size≠H3.objs.size:=by rw[Kk];exact gH (qH _)
 have below:∀b,b<s2.heap.objs.size->b≠H3.objs.size/\b≠s2.heap.objs.size:=λb hb=>⟨by rw[Kk];exact gH (uh hb),gH hb⟩
 have old:∀b o,s2.heap.get? b=some o->h₁.get? b=some o:=λb o e=>hsb₁.extBut b o (below b (cQ e)).1 (cZ _ (Kl ▸ cZ _ e))
 have uW:h₁.get? s2.heap.objs.size=some { cls:=.type "list",data:=.seq ([]:List ah).toArray 0}:=hsb₁.extBut _ _ CJ (cZ _ (Kl ▸ iZ _ rfl));have GW:=T.obj 0 _ qU;have uV:s2.heap.objs.size<=H3.objs.size:=by rw[Kk];exact tI _
 obtain⟨N,W,w0,turn⟩:=hW;have SH:tn 0 h₁:=T.keep _ _ _ qU λb _ o e=>old b o e
 have loop:∀s₃:aq,s₃={ s2 with heap:=h₁,toks:=s2.toks+([]:List (Str×ah)).length}->
   codeAny (model X.prog X.w) X.A (.compLoop (.ListComp elt [⟨tg,iter,ifs,0⟩] scope pos) 0 (.ref it) (.ref s2.heap.objs.size) (compEnvC scope (kc X.env scope.names) H3.objs.size X.env))
    (RR (.ref s2.heap.objs.size) H3.objs.size) s₃:=by
  rintro s₃ rfl;have I3:Inv (fS X scope M H3.objs.size s2 H2 fp) [(s2.heap.objs.size,{ cls:=.type "list",data:=.seq ([]:List ah).toArray 0})] (kb k du Z) H2 { s2 with heap:=h₁,toks:=s2.toks+([]:List (Str×ah)).length}:=
   I2.block ok f2 GW uV CJ (bZ _) old rfl rfl hns₁ uW (λv z=>by cases z)
  have Kc:∀b∈fp,b≠H3.objs.size/\b≠s2.heap.objs.size:=λb hb=>let ⟨o,e,_⟩:=GW b hb;below b (cQ e)
  have oP:∀{H':Hp} {oD:Obj},(∀b∈fp,H' b=none)->∀b∈fp,i8 (fS X scope M H3.objs.size s2 H2 fp) [(s2.heap.objs.size,oD)] H' b:=λ{H' oD} hn b hb=>by
   obtain⟨f0,f1,f2,f3,f4,f5⟩:=f2 b hb;refine⟨hn b hb,(Kc b hb).1,λz=>?_,.inl hb,λx c e=>f4 x c (Jr (I2.iT ok) e),λp hp z=>?_⟩
   .rcases y0b.mp (I2.kE b z) with q|q
    .exact f1 q
    .exact f2 q
   .have e:p=(s2.heap.objs.size,oD):=by simpa[fS] using hp
    subst e;exact(Kc b hb).2 z.symm
  refine SU (λn s'=>∃(i:Nat) (τ:St) (ba:List V) (us:List ah) (c:Nat) (H':Hp),Vals ba us/\ba.length<=sizeLine/\ Inv (fS X scope M H3.objs.size s2 H2 fp) [(s2.heap.objs.size,{ cls:=.type "list",data:=.seq us.toArray c})] τ H' s'/\tn i s'.heap/\(∀b∈fp,H' b=none)/\n=N - i/\i<=N/\W i τ ba H') ?_ N
   ⟨0,kb k du Z,[],[],0,H2,.nil,kO _,I3,SH,λb hb=>(f2 b hb).1,rfl,kO _,w0⟩
  rintro n s3 ⟨i,τ,ba,us,c,H',rv,hlen,I,st,fr,rfl,hiN,w⟩;have pinD:=(I.pin (s2.heap.objs.size,{ cls:=.type "list",data:=.seq us.toArray c}) (by simp[fS]))
  rcases turn i τ ba H' hiN w with⟨stop,qn⟩|⟨md,go,step⟩
  .refine bM (T.done (fS X scope M H3.objs.size s2 H2 fp) rfl rfl rfl hc i _ s3 τ H' (λ_ _=>False) I (oP fr) st stop) λr s4 ⟨hr,I4⟩=>?_
   subst hr;have sX:=(I4.pin (s2.heap.objs.size,{ cls:=.type "list",data:=.seq us.toArray c}) (by simp[fS]))
   have kJ:∀b∈fp,(b∈X.ex\/X.s₀.heap.objs.size<=b)/\b≠X.env.locals/\(∀x c,X.env.cells.lookup x=some c->c≠b)/\∀p∈X.pn++aa,p.1≠b:=λb hb=>by
    obtain⟨f0,f1,f2,f3,f4,f5⟩:=f2 b hb;exact⟨f3,f1,f4,f5⟩
   have J1:Inv X aa Z H' s4:=I2.wb (ch:=fp) I4.os I4.base I4.bG I4.bare kJ;have young:X.s₀.heap.objs.size<=s2.heap.objs.size:=I2.sz;have apart:∀a,s2.heap.objs.size<=a->a≠X.env.locals/\(∀x c,X.env.cells.lookup x=some c->c≠a)/\∀p∈X.pn++aa,p.1≠a:=λa ha=>
    ⟨xq (f7 I2.lt ha),λx c e z=>by
     obtain⟨v,q⟩:=I2.cell x c e;exact cz (f7 q.lt (by rw[z];exact ha)) (jY _),λp hp z=>cz (f7 (cQ (I2.pin p hp).1) (by rw[z];exact ha)) (jY _)⟩
   have aD:=apart _ (bZ _);have aC:=apart _ uV;have J2:Inv X aa Z (upd H' s2.heap.objs.size (.lst ba)) s4:=J1.Ec sX.2.1 young aD.1 aD.2.1 aD.2.2 ⟨hlen,us,c,rv,sX.1⟩;obtain⟨m,hn,_⟩:=I4.loc;have hCn:H' H3.objs.size=none:=I4.free;refine hRR _ _ s4 H' ba J2 ⟨?_,aC.1,I2.zq uV,.inr (jo young uV),aC.2.1,aC.2.2⟩ ⟨m,hn⟩ sX.2.1 qn;rw[dH (Ne.symm CJ)];exact hCn
  .refine bM (T.item (fS X scope M H3.objs.size s2 H2 fp) rfl rfl rfl hc i _ s3 τ H' (λ_ _=>False) I (oP fr) st go) λr s4 ⟨u,hr,h4⟩=>?_
   subst hr;refine bM h4 λ_ s5 hh=>?_
   obtain⟨x,H5,I5,r5,y5,zP,Ke⟩:=hh;have HI:=I5.pinned (oP Ke) (T.obj _ _ zP);refine bM (hg _ _ _ _ _ s5 τ H5 x u _ HI r5 (step x H5 y5)) λ_ s6 hh=>?_
   obtain⟨τ6,H6,I6,q6⟩:=hh;refine bM (ht _ _ _ _ _ s6 τ6 H6 _ I6 q6) λb s7 hh=>?_
   obtain⟨H7,I7,q7⟩:=hh;have sM:∀{s':aq} {τ':St} {Hn:Hp},Inv (fS X scope M H3.objs.size s2 H2 fp) ([(s2.heap.objs.size,{ cls:=.type "list",data:=.seq us.toArray c})]++B_ fp s5.heap) τ' Hn s'->tn (i+1) s'.heap/\∀b∈fp,Hn b=none:=λ{s' τ' Hn} I'=>by
    refine⟨T.keep _ _ _ zP λb hb o e=>(I'.pin (b,o) (n9 _ (n9 _ (BC hb e)))).1,λb hb=>?_⟩
    obtain⟨o,e,d⟩:=T.obj _ _ zP b hb;exact(I'.pin (b,o) (n9 _ (n9 _ (BC hb e)))).2.1
   cases b with
   |false=>
    rw[bc tH] at q7;show ∃m,m<N - i/\_;obtain⟨st7,fr7⟩:=sM I7;exact⟨N - (i+1),by lia,i+1,τ6,ba,us,c,H7,rv,hlen,I7.fB,st7,fr7,rfl,md,q7⟩
   |true=>
    rw[bx rfl] at q7;show wpAny _ _ (eval elt _) _ _ s7;refine bM (he _ _ _ _ _ s7 τ6 H7 _ I7 q7) λv s8 hh=>?_
    obtain⟨y,H8,I8,r8,hl8,w8⟩:=hh;obtain⟨st8,fr8⟩:=sM I8;have pJ:=(I8.pin (s2.heap.objs.size,{ cls:=.type "list",data:=.seq us.toArray c}) (by simp[fS]))
    have hul:=rv.length;refine append_at (hsz:=by show us.toArray.size<=sizeLine;rw[eE,<-hul];exact hlen) pJ.1 λh9 Sx e9=>?_
    have e9':h9.get? s2.heap.objs.size=some { cls:=.type "list",data:=.seq (us++[v]).toArray (c+1)}:=by rw[e9,List.push_toArray]
    have SR:=I8.fB;have Km:s2.heap.objs.size≠(fS X scope M H3.objs.size s2 H2 fp).env.locals:=pJ.2.2.1;have nx:∀(b:ai),H8 b≠none->b≠s2.heap.objs.size:=λb hb z=>hb (by rw[z];exact pJ.2.1)
    refine⟨N - (i+1),by lia,i+1,τ6,ba++[y],us++[v],c+1,H8,rv.append (.cons r8 .nil),by rw[dU,ug];exact hl8,?_,?_,fr8,rfl,md,w8⟩
    .have I9:Inv (fS X scope M H3.objs.size s2 H2 fp) [] τ6 H8 s8:=SR.jW (λp hp=>cz hp (by simp))
     have SQ:Inv (fS X scope M H3.objs.size s2 H2 fp) [] τ6 H8 { s8 with heap:=h9}:=I9.turned (t':=s8.toks) (λb o hb e=>(Sx.2 b hb).trans e) pJ.2.1 Km (.inr (bZ _))
      (λx cc e z=>by
       obtain⟨v',q⟩:=I2.cell x cc (Jr (I2.iT ok) e);exact cz (f7 q.lt (by rw[z];exact bZ _)) (jY _)) (λp hp=>cz hp (by simp[fS]))
     refine SQ.jW λp hp=>?_
     simp_all
    .exact T.keep _ _ _ st8 λb hb o e=>Sx.extBut b o (Kc b hb).2 e
 exact codeAny_compStart_list (loop _ rfl) (T.self _ 0 _ _ _ SH (loop _ rfl))
def xl(wi:TI)(g:TG)(tt:TT)(te:TE)(k:Nat)(du:List Nat):TE:=λZ H Q=>wi Z H λJ H1=>oU J g tt te (kb k du Z) H1 λba H'=>∀l,H' l=none->Q (.ref l) (upd H' l (.lst ba))
def Xx(hc:X.calm=true)(ok:eM X scope M k du)(hi:PI X tg iter wi)
  (hg:∀C s H fp,PG (fS X scope M C s H fp) tg g) (ht:∀C s H fp,rL (fS X scope M C s H fp) ifs tt) (he:∀C s H fp,PE (fS X scope M C s H fp) elt te)
  (hs:∀x,foldedSetIterable iter X.env x=pure x:=by intro _;rfl):PE X (.ListComp elt [⟨tg,iter,ifs,0⟩] scope pos) (xl wi g tt te k du):=by
 intro aa s Z H Q I h;rw[eval_ListComp];refine wpAny_comprehension_free (use:=none) rfl hs (MK (I.iT ok)) ok.kind ok.names (bM (hi aa s Z H _ I h) λv s1 h1=>bM h1 λG9 s2 h2=>?_)
 obtain⟨it,fp,tn,J,H2,e,I2,T,qU,f2,hW⟩:=h2;subst e;refine NL (RR:=λba C=>compPost (model X.prog X.w) X.A X.xe none (EP X aa Z Q) ba C) I2 hc ok T qU f2 hg ht he hW ?_
 intro D C s' H' ba I' fC ⟨m,hn⟩ hD hq;refine⟨m,hn,λh' sb=>?_⟩
 obtain⟨f0,f1,f2,f3,f4,f5⟩:=fC;exact⟨.ref D,_,I'.turned (t':=s'.toks) (λb o hb e=>(sb.2 b hb).trans e) f0 f1 f3 f4 f5,rfl,hq D hD⟩
def DH(wi:TI)(g:TG)(tt:TT)(te:TE)(k:Nat)(du:List Nat)(i:Nat):TS:=λD Z H=>xl wi g tt te k du Z H λv H'=>D.nx (Z.set i (some v)) H'
def Xy{i:Nat}{x:Str}{px nO:Pos}(hc:X.calm=true)(ok:eM X scope M k du)(hN:X.N.Nodup)(yS:X.N[i]?=some x)(hx:Loc X.env.scope x)(hi:PI X tg iter wi)
  (hg:∀C s H fp,PG (fS X scope M C s H fp) tg g) (ht:∀C s H fp,rL (fS X scope M C s H fp) ifs tt) (he:∀C s H fp,PE (fS X scope M C s H fp) elt te)
  (C0:swapsWith (.ListComp elt [⟨tg,iter,ifs,0⟩] scope pos) (some (.Name x px)) nO.line X.env=pure true)
  (hs:∀x,foldedSetIterable iter X.env x=pure x:=by intro _;rfl) (hf:X.fn x=true\/X.env.scope.names.lookup x=some .local := by first|exact .inl rfl|exact .inr rfl|assumption) :
  PS X (.Assign [.Name x px] (.ListComp elt [⟨tg,iter,ifs,0⟩] scope pos) nO) (DH wi g tt te k du i):=by
 intro aa s Z H D I h;rw[exec_Assign_Name_used _ _ _ _ C0];refine ay (wpAny_standAt (ay ?_));show wpAny _ X.A (do let _ <-comprehension (.ListComp elt [⟨tg,iter,ifs,0⟩] scope pos) scope X.env _ (newList []) false (eval iter X.env) (some (assign (.Name x px) X.env))) _ _ s
 refine ay (wpAny_mono (wpAny_comprehension_free (use:=some (assign (.Name x px) X.env)) (Q:=λ_ s'=>SP X aa D .next s') rfl hs (MK (I.iT ok)) ok.kind ok.names (bM (hi aa s Z H _ I h) λv s1 h1=>bM h1 λG9 s2 h2=>?_)) (λ_ s' hq=>aR (aR hq)) λ_ _ e=>e)
 obtain⟨it,fp,tn,J,H2,e,I2,T,qU,f2,hW⟩:=h2;subst e;refine NL (RR:=λba C=>compPost (model X.prog X.w) X.A X.xe (some (assign (.Name x px) X.env)) (λ_ s'=>SP X aa D .next s') ba C) I2 hc ok T qU f2 hg ht he hW ?_
 intro D' C s' H' ba I' fC ⟨m,hn⟩ hD hq;obtain⟨f0,f1,f2,f3,f4,f5⟩:=fC;show wpAny _ X.A (assign (.Name x px) X.env (.ref D')) _ _ _;refine wpAny_assign_Name (NF I' hN yS hx (v:=.ref D') rfl (λs_ SO hh=>?_) hf)
 obtain⟨a,sb,ha⟩:=hh;have hCa:C≠a:=by
  rcases ha with e|e
  .rw[e];exact f1
  .exact λz=>f4 _ _ e z.symm
 refine⟨m,hn.sameBut sb hCa,λh' sb'=>⟨_,_,SO.turned (t':=s_.toks) (λb o hb e=>(sb'.2 b hb).trans e) f0 f1 f3 f4 f5,hq D' hD⟩⟩
end
variable{w:cF}{tg:Expr}{X:Cx}
def jJ(c:Nat):Str:=⟨#[c]⟩
def EF(x:Str):It:=⟨λi _=>i<x.cps.size,λi H v H'=>H'=H/\∃c,x.cps[i]?=some c/\v=.str (jJ c),λi _=>x.cps.size<=i⟩
def VJ{P:dq}{K:aJ}(it:ai)(x:Str)(t:Tok)(ty:String)(u9:ty="str_ascii_iterator"\/ty="str_iterator"):Turn P w K tg (EF x) [it] it (λi h=>h.IsStrIter it ty x t i) where
 mem:=by simp
 obj:=λi h st b hb=>by
  have e:b=it:=by simpa using hb
  subst e;obtain⟨o,e,c,d⟩:=st
  simp_all
 keep:=λi h h' st k=>by
  obtain⟨o,e,c,d⟩:=st;exact⟨o,k it (by simp) o e,c,d⟩
 item:=by
  intro X hP hw hK hc i aa s Z H E I hf st hg;subst hP hw hK;have hi:i<x.cps.size:=hg;obtain⟨f0,f1,f2,f3,f4,f5⟩:=hf it (by simp)
  have fin:∀h',h'.IsStrIter it ty x t (i+1)->Heap.SameBut it s.heap h'->∃u,some (Value.str ⟨#[x.cps[i]]⟩ s.toks)=some u/\
    wpAny (model X.prog X.w) X.A (letOwnedTupleGo tg (.ref it) u) (λ_ s2=>∃y H',Inv X aa Z H' s2/\RelV y u/\(EF x).tL i H y H'/\s2.heap.IsStrIter it ty x t (i+1)/\∀b∈[it],H' b=none) E { s with heap:=h',toks:=s.toks+1}:=λh' jC sb=>by
   have I1:Inv X aa Z H { s with heap:=h',toks:=s.toks+1}:=I.turned (λb o hb e=>(sb.2 b hb).trans e) f0 f1 f3 f4 f5
   obtain⟨o,e,c,d⟩:=id jC;refine⟨_,rfl,yv (s:={ s with heap:=h',toks:=s.toks+1}) e c d (by rcases u9 with z|z <;> subst z <;> decide) ⟨.str (jJ x.cps[i]),H,I1,⟨_,rfl⟩,⟨rfl,_,by simp[hi],rfl⟩,jC,λb hb=>(hf b hb).1⟩⟩
  rcases u9 with z|z
  .subst z;exact wpAny_pyNext_ascii_item st (c:=x.cps[i]) (by simp[hi]) fin
  .subst z;exact wpAny_pyNext_wide_item st (c:=x.cps[i]) (by simp[hi]) fin
 done:=by
  intro X hP hw hK hc i aa s Z H E I hf st hg;subst hP hw hK;have hi:x.cps.size<=i:=hg;obtain⟨f0,f1,f2,f3,f4,f5⟩:=hf it (by simp)
  rcases u9 with z|z
  .subst z;exact wpAny_pyNext_ascii_end (I.ok.hd hc) st (by simp;lia) λh' eb=>⟨rfl,I.turned (t':=s.toks) (λb o hb e=>eb b o hb e) f0 f1 f3 f4 f5⟩
  .subst z;exact wpAny_pyNext_wide_end (I.ok.hd hc) st (by simp;lia) λh' eb=>⟨rfl,I.turned (t':=s.toks) (λb o hb e=>eb b o hb e) f0 f1 f3 f4 f5⟩
 self:=λ_ _ _ _ _ st h=>by
  rcases u9 with z|z
  .subst z;exact wpAny_pyIter_striter_ascii st h
  .subst z;exact wpAny_pyIter_striter_wide st h
def C5(tl:TE):TI:=λZ H R=>tl Z H λx H1=>∃z,x=.str z/\R (EF z) H1
def Θ{l:Expr}{tl:TE}(hl:PE X l tl):PI X tg l (C5 tl):=by
 intro aa s Z H R I h;refine bM (hl aa s Z H _ I h) λv s1 hh=>?_
 obtain⟨x,H1,I1,r1,q1⟩:=hh;obtain⟨z,e,q⟩:=q1;subst e;obtain⟨t,rfl⟩:=r1;have key:∀ty:String,ty="str_ascii_iterator"\/ty="str_iterator"->HS X aa Z tg R (.ref s1.heap.objs.size) { s1 with heap:=s1.heap.push { cls:=.type ty,data:=.fields #[.str z t,.int 0 0]}}:=λty u9=>by
  refine⟨s1.heap.objs.size,[s1.heap.objs.size],_,_,H1,rfl,I1.kept (t':=s1.toks) λb o e=>cZ _ e,VJ _ z t ty u9,⟨_,iZ _ (by rcases u9 with e|e <;> subst e <;> rfl),rfl,rfl⟩,λb hb=>?_,q⟩
  have e:b=s1.heap.objs.size:=by simpa using hb
  subst e;exact I1.k6 (bZ _) (I1.bG.fresh (bZ _))
 cases ha:z.cps.all (· < 128)
 .exact wpAny_pyIter_wide ha (key _ (.inr rfl))
 .exact wpAny_pyIter_ascii ha (key _ (.inl rfl))
def gA(names outer:List (Str×oR))(N M:List Str)(k:Nat)(du:List Nat):Bool:=
 names.all (λy=>y.2 != .cell)&&(names.all (λy=>y.2 != .free || (outer.lookup y.1 == some .cell || outer.lookup y.1 == some .free))&&(names.all (λy=>y.2 != .local || names.lookup y.1 == some .local) && (M.length == k+du.length&&(List.range du.length).all (λj=>match du[j]?,M[k+j]? with|some i,some x=>N[i]? == some x&&names.lookup x == some .free|_,_=>true))))
def eM.of{scope:Scope}{M:List Str}{k:Nat}{du:List Nat}(outer:List (Str×oR))(N:List Str)(h:gA scope.names outer N M k du=true)(ho:X.env.scope.names=outer:=by rfl)(hN:X.N=N:=by rfl)(hk:scope.kind=.function:=by rfl):eM X scope M k du:=by
 unfold gA at h;simp only[jD,jZ,Bool.or_eq_true,bne_iff_ne,ne_eq,beq_iff_eq] at h;obtain⟨h1,h2,h3,h4,h5⟩:=h;refine⟨hk,h1,λy hy e=>?_,λy hy e=>?_,h4,λj i x e1 e2=>?_⟩
 .rcases h2 y hy with z|z
  .exact cz e z
  .show X.env.scope.names.lookup y.1=_\/X.env.scope.names.lookup y.1=_;rw[ho];exact z
 .rcases h3 y hy with z|z
  .exact cz e z
  .exact z
 .have hj:j<du.length:=(fE.mp e1).1;have:=h5 j (tG.mpr hj);rw[e1,e2] at this;simp only[jD,beq_iff_eq] at this;rw[hN];exact this
section
variable{X:Cx}
def Ξ:ec X (compareOp .Is) (λx y H Q=>∃a b,x=.bl a/\y=.bl b/\Q (.bl (a == b)) H):=by
 intro aa s Z H x y v u Q I rx ry h;obtain⟨a,b,rfl,rfl,q⟩:=h;cases rx;cases ry;exact is_bool (uH I q rfl)
def Xz:ec X (compareOp .IsNot) (λx y H Q=>∃a b,x=.bl a/\y=.bl b/\Q (.bl (a != b)) H):=by
 intro aa s Z H x y v u Q I rx ry h;obtain⟨a,b,rfl,rfl,q⟩:=h;cases rx;cases ry;exact isnot_bool (uH I q rfl)
def B'(K:aJ)(H:Hp):V->String->Prop
 |.aM,n=>n="NoneType"
 |.bl _,n=>n="bool"
 |.int _,n=>n="int"
 |.str _,n=>n="str"
 |.ref a,n=>(n="list"/\∃xs,cW K H a xs)\/(n="tuple"/\∃xs,iE K H a xs)
 |_,_=>False
def qz(k T:String):Bool:=k == T || (k == "bool" && T == "int")
def VL:bS X (.builtin "isinstance") (λxs H Q=>∃x k T,xs=[x,.ty T]/\B' X.K H x k/\(T="int"\/T="str"\/T="bool"\/T="list"\/T="tuple")/\Q (.bl (qz k T)) H):=by
 intro aa s Z H xs us Q I r h;obtain⟨x,k,T,rfl,hk,hT,q⟩:=h;obtain⟨u,w',rfl,rx,ry⟩:=vals2 r;cases ry;have fin:∀b,b=qz k T->EP X aa Z Q (.bool b) s:=λb e=>uH I q e.symm
 have dP:∀b,b=qz k T->EP X aa Z Q (.bool b) { s with toks:=s.toks+1}:=λb e=>uH (I.tok _) q e.symm
 cases x with
 |aM=>
  cases rx;have hk:k="NoneType":=hk;subst hk;rcases hT with rfl|rfl|rfl|rfl|rfl
  .exact IsiPair.NoneType_int (dP _ (by decide))
  .exact IsiPair.NoneType_str (dP _ (by decide))
  .exact IsiPair.NoneType_bool (dP _ (by decide))
  .exact IsiPair.NoneType_list (dP _ (by decide))
  .exact IsiPair.NoneType_tuple (dP _ (by decide))
 |bl b=>
  cases rx;have hk:k="bool":=hk;subst hk;rcases hT with rfl|rfl|rfl|rfl|rfl
  .exact IsiPair.bool_int (fin _ (by decide))
  .exact IsiPair.bool_str (dP _ (by decide))
  .exact IsiPair.bool_bool (fin _ (by decide))
  .exact IsiPair.bool_list (dP _ (by decide))
  .exact IsiPair.bool_tuple (dP _ (by decide))
 |int i=>
  obtain⟨t,rfl⟩:=rx;have hk:k="int":=hk;subst hk;rcases hT with rfl|rfl|rfl|rfl|rfl
  .exact IsiPair.int_int (fin _ (by decide))
  .exact IsiPair.int_str (dP _ (by decide))
  .exact IsiPair.int_bool (dP _ (by decide))
  .exact IsiPair.int_list (dP _ (by decide))
  .exact IsiPair.int_tuple (dP _ (by decide))
 |str z=>
  obtain⟨t,rfl⟩:=rx;have hk:k="str":=hk;subst hk;rcases hT with rfl|rfl|rfl|rfl|rfl
  .exact IsiPair.str_int (dP _ (by decide))
  .exact IsiPair.str_str (fin _ (by decide))
  .exact IsiPair.str_bool (dP _ (by decide))
  .exact IsiPair.str_list (dP _ (by decide))
  .exact IsiPair.str_tuple (dP _ (by decide))
 |ref a=>
  cases rx;rcases hk with⟨hk,ys,hs⟩|⟨hk,ys,hs⟩
  .subst hk;obtain⟨aE,_,⟨o,n,e,hc,_⟩,_⟩:=I.list hs;rcases hT with rfl|rfl|rfl|rfl|rfl
   .exact IsiPair.list_int e hc (dP _ (by decide))
   .exact IsiPair.list_str e hc (dP _ (by decide))
   .exact IsiPair.list_bool e hc (dP _ (by decide))
   .exact IsiPair.list_list e hc (fin _ (by decide))
   .exact IsiPair.list_tuple e hc (dP _ (by decide))
  .subst hk;obtain⟨aE,_,⟨o,e,hc,_⟩,_⟩:=I.tuple hs;rcases hT with rfl|rfl|rfl|rfl|rfl
   .exact IsiPair.tuple_int e hc (dP _ (by decide))
   .exact IsiPair.tuple_str e hc (dP _ (by decide))
   .exact IsiPair.tuple_bool e hc (dP _ (by decide))
   .exact IsiPair.tuple_list e hc (dP _ (by decide))
   .exact IsiPair.tuple_tuple e hc (fin _ (by decide))
 |wa _=>exact False.elim hk
 |AM _=>exact False.elim hk
 |ty _=>exact False.elim hk
def e7n{x:Str}{n:String}{pos:Pos}(hg:Gl X x)(hm:X.mg x=none)(hv:bootBuiltins x=some (.type n))(hn:x≠"__name__":=by decide)(hd:(x == ("__debug__":Str))=false:=by decide):PE X (.Name x pos) (tC (.ty n)):=
 Xa hg hm hv rfl hn hd
def Tn{prog:dq}{A:cP}(aE:List ah)(bs:List Bool)(hv:Vals (bs.map V.bl) aE):TruthOf prog w A (λi v=>aE.toArray[i]?=some v) (λi=>bs.getD i false):=by
 intro i v s Q E hP hQ;have RX:aE[i]?=some v:=by simpa using hP
 have hl:=hv.length;rw[bw] at hl;have hi:i<aE.length:=(fE.mp RX).1;have hb:(bs.map V.bl)[i]?=some (.bl bs[i]):=by simp[show i<bs.length by lia]
 obtain⟨u,hu,ru⟩:=hv.get hb;rw[RX] at hu;cases hu;cases ru;have e:bs.getD i false=bs[i]:=by simp[show i<bs.length by lia]
 have RY:Q (bs.getD i false) s:=hQ;rw[e] at RY;exact wpAny_truthy_bool RY
def Uy(bs:List Bool):(List.range bs.length).all (λi=>bs.getD i false)=bs.all id:=by
 rw[A',jZ,jZ];constructor
 .intro h b hb;obtain⟨i,hi,e⟩:=List.mem_iff_getElem.mp hb
  simp_all
 .intro h i hi;have hi:=tG.mp hi;have:=h bs[i] (Ht hi);simp[hi];exact this
def Uz(hc:X.calm=true):bS X (.builtin "all") (λxs H Q=>∃(a:ai) (bs:List Bool),xs=[.ref a]/\cW X.K H a (bs.map V.bl)/\Q (.bl (bs.all id)) H):=by
 intro aa s Z H xs us Q I r h;obtain⟨a,bs,rfl,hs,q⟩:=h;obtain⟨u,rfl,ru⟩:=vals1 r;cases ru;obtain⟨aE,rv,p,hz⟩:=I.list hs;have hl:=rv.length;rw[bw] at hl;refine call_all_walk (wpAny_pyIter_list p.isList ?_);have gF:a≠s.heap.objs.size:=by obtain⟨o,n,e,_⟩:=p;exact gH (cQ e)
 refine⟨s.heap.objs.size,_,_,aE.toArray.size,_,_,λi=>bs.getD i false,rfl,Walks.list (A:=X.A.in1) (show X.A.in1.handled=none from I.ok.hd hc) _ a gF aE.toArray,⟨⟨_,iZ _ rfl,rfl,rfl⟩,?_⟩,Tn aE bs rv,λh' tk hk=>?_⟩
 .exact p.isList.at λo e=>cZ _ e
 .have e1:aE.toArray.size=bs.length:=by rw[eE,<-hl]
  refine⟨.bl (bs.all id),H,I.kept (h':=h') (t':=tk) (λb o e=>hk b o (λz=>cz (f7 (cQ e) (Es (kH.mp z).symm)) (jY _)) (cZ _ e)),?_,q⟩
  show Value.bool _=Value.bool _;rw[e1,Uy]
end
structure vO (K:aJ) (mg:Str->aj ah) (x:Str) (st:Stmt) (f:ai) (fd:lu) (ps:List Str):Prop where
 fn:tN K x x st f fd
 mg:mg x=some (.ref f)
 bd:Binds K fd ps []
def az.put{H H':Hp}{a:ai}{o:HO}(s:az H H')(h:H' a=none):az H (upd H' a o):=λb u e=>by
 have z:=s b u e;rw[dH (rP z h)];exact z
def rR{H:Hp}{a:ai}{o:HO}(h:H a=none):az H (upd H a o):=(az.refl H).put h
def VM{α:Type}{xs:List α}{k:Int}(d:α)(h0:0<=k)(hk:k<xs.length):eH xs k=some (xs.getD k.toNat d):=by
 have KA:k.toNat<xs.length:=by lia
 have e:xs[k.toNat]?=some (xs.getD k.toNat d):=by simp[KA]
 have z:=uC e
 rwa[show((k.toNat:Nat):Int)=k by lia] at z
def o9:bootBuiltins "list"=some (.type "list"):=by decide +kernel
def rZ:bootBuiltins "len"=some (.builtin "len"):=by decide +kernel
section
variable{X:Cx}
noncomputable def qx(xs:List V)(k:Nat)(y:V):List V:=xs.take k++y::xs.drop k
def To(xs:List V)(k:Nat)(y:V):(qx xs k y).length=xs.length+1:=by
 grind [qx]
def Pl:V->List V->Hp->VK->Prop:=λx vs H Q=>∃l xs i y,x=.ref l/\vs=[.int i,y]/\H l=some (.lst xs)/\0<=i/\i<2^62/\xs.length<sizeLine/\Q .aM (upd H l (.lst (qx xs i.toNat y)))
theorem UA:Aa X "list.insert" Pl:=by
 intro aa s Z H x vs v us Q I rx rv h;obtain⟨l,xs,i,y,rfl,rfl,hH,h0,hi,hz,q⟩:=h;cases rx;obtain⟨u,u',rfl,⟨t,rfl⟩,ru⟩:=rv.two;obtain⟨z,aE,n,r,hl,e⟩:=I.zf hH;have Kx:¬(!Builtin.List.listFitsIndex i)=true:=by
  grind [PySem.Builtin.List.listFitsIndex]
 refine call_meets F.slot_list_insert ⟨_,e,rfl⟩ F.entry_list_insert (F.args_list_insert_3 _ _ _) (PySem.AutoSeq1.list_insert_list_int_val_1 l aE.toArray n i t u' Kx (by rw[eE];lia)) ⟨e,?_⟩
 refine⟨.aM,_,I.ze (its':=aE.take i.toNat++u'::aE.drop i.toNat) hH e ?_ ((r.take i.toNat).append (.cons ru (r.drop i.toNat))) ?_,rfl,q⟩
 .have h1:¬i<0:=by lia
  simp only[h1,iC];apply Array.ext';simp only[Array.toList_append,Array.toList_push,Array.toList_extract,eE];rw[List.extract_eq_drop_take,List.extract_eq_drop_take];have e1:min i.toNat aE.length - 0=min i.toNat aE.length:=by lia
  rw[e1];simp only[List.drop_zero];have e2:aE.take (min i.toNat aE.length)=aE.take i.toNat:=by rw[List.take_eq_take_iff];lia
  rw[e2];by_cases hc:i.toNat<=aE.length
  .rw[Nat.min_eq_left hc,Ew (l:=List.drop i.toNat aE) (by rw[A_];lia)]
   simp
  .have hc:aE.length<=i.toNat:=by lia
   rw[Nat.min_eq_right hc,Hu (bZ _),Hu hc];simp
 .show(qx xs i.toNat y).length<=sizeLine;rw[To];lia
def HJ(a c:Int)(n:Nat):It:=⟨λi _=>i<n,λi H x H'=>H'=H/\x=.int (a+i*c),λi _=>n<=i⟩
def Tp{P:dq}{w:cF}{K:aJ}{tg:Expr}(it:ai)(a c:Int)(n:Nat):Turn P w K tg (HJ a c n) [it] it (λi h=>IsRangeIter h it (a+(i:Nat)*c) ((n:Int) - (i:Nat)) c) where
 mem:=by simp
 obj:=λi h st b hb=>by
  simp_all
 keep:=λi h h' st k=>k it (by simp) _ st
 item:=by
  intro X hP hw hK hc i aa s Z H E I hf st hg;subst hP hw hK;obtain⟨f0,f1,f2,f3,f4,f5⟩:=hf it (by simp)
  have W:=Walks.range (prog:=X.prog) (w:=X.w) (I.ok.hd hc) it a c n;refine W.item i s _ _ hg st λv h' tk hv jC kk=>?_
  obtain⟨t,rfl⟩:=hv;have I1:Inv X aa Z H { s with heap:=h',toks:=tk}:=I.turned (λb o hb e=>kk b o (by simpa using hb) e) f0 f1 f3 f4 f5
  exact⟨_,rfl,yv (s:={ s with heap:=h',toks:=tk}) (n:="range_iterator") jC rfl rfl (by decide) ⟨.int (a+i*c),H,I1,⟨t,rfl⟩,⟨rfl,rfl⟩,jC,λb hb=>(hf b hb).1⟩⟩
 done:=by
  intro X hP hw hK hc i aa s Z H E I hf st hg;subst hP hw hK;obtain⟨f0,f1,f2,f3,f4,f5⟩:=hf it (by simp)
  exact wpAny_pyNext_range_end (I.ok.hd hc) st (by have:n<=i:=hg;lia) λh' eb=>⟨rfl,I.turned (t':=s.toks) (λb o hb e=>eb b o hb e) f0 f1 f3 f4 f5⟩
 self:=λ_ _ _ _ _ st h=>wpAny_pyIter_rangeiter st h
def DF:V->aj Int->aj Int->Hp->VK->Prop:=λx lo hi H Q=>∃z,x=.str z/\z.length<=sizeLine/\Q (.str (Txt.slice z lo hi)) H
theorem zN:rN X DF:=by
 intro aa s Z H x v vl vu lo hi sl Q I rx hs pl pu h;obtain⟨z,rfl,hz,q⟩:=h;obtain⟨t,rfl⟩:=rx;refine⟨"str",_,F.slot_str_getitem.lookup,typeIs_str _ _ _,?_⟩;have fin:∀t' k,EP X aa Z Q (.str (Txt.slice z lo hi) t') { s with toks:=k}:=λt' k=>⟨.str _,H,I.tok _,⟨_,rfl⟩,q⟩
 cases pl with
 |none=>
  cases pu with
  |none=>exact wpAny_getItem_str_slice (l:=none) (u:=none) (st:=none) hs rfl (post_val_or_str ⟨jo (Txt.slice_le z _ _) hz,fin⟩)
  |int j tj=>exact wpAny_getItem_str_slice (l:=none) (u:=some (j,tj)) (st:=none) hs rfl (post_val_or_str ⟨jo (Txt.slice_le z _ _) hz,fin⟩)
 |int i ti=>
  cases pu with
  |none=>exact wpAny_getItem_str_slice (l:=some (i,ti)) (u:=none) (st:=none) hs rfl (post_val_or_str ⟨jo (Txt.slice_le z _ _) hz,fin⟩)
  |int j tj=>exact wpAny_getItem_str_slice (l:=some (i,ti)) (u:=some (j,tj)) (st:=none) hs rfl (post_val_or_str ⟨jo (Txt.slice_le z _ _) hz,fin⟩)
def TL:ec X (binaryOp .Mult) (λx y H Q=>∃z n,x=.str z/\y=.int n/\MulOk z n/\Q (.str (Txt.mul z n)) H):=by
 intro aa s Z H x y v u Q I rx ry h;obtain⟨z,n,rfl,rfl,hm,q⟩:=h;obtain⟨t,rfl⟩:=rx;obtain⟨t',rfl⟩:=ry;exact SB.mul hm λt' k=>⟨.str _,H,I.tok _,⟨_,rfl⟩,q⟩
end
section
variable{X:Cx}{aa:List (ai×Obj)}{Z:St}{H:Hp}{s:aq}
def Vals.at{xs:List V}{us:List ah}(r:Vals xs us){j:Nat}(h:j<us.toArray.size):∃x,xs[j]?=some x/\RelV x us.toArray[j]:=by
 have hl:=r.length;have h':j<us.length:=by simpa using h
 have hx:xs[j]?=some xs[j]:=by simp[show j<xs.length by lia]
 obtain⟨u,hu,ru⟩:=r.get hx
 simp_all
end
section
variable{X:Cx}
def VN(K:aJ)(hK:X.K=K:=by rfl):qh X (zF K):=hK ▸ Xt
def XA(K:aJ)(hK:X.K=K:=by rfl):qh X (zG K):=hK ▸ Δ
def S_(K:aJ)(hK:X.K=K:=by rfl):bS X (.builtin "len") (λxs H Q=>∃p ys,xs=[.ref p]/\(cW K H p ys\/iE K H p ys)/\Q (.int ys.length) H):=hK ▸ Tf
def VO(K:aJ)(hK:X.K=K:=by rfl):rN X (zH K):=hK ▸ Xu
def XB(K:aJ)(hK:X.K=K:=by rfl):rN X (zI K):=hK ▸ Γ
def UB(K:aJ)(hK:X.K=K:=by rfl):bS X (.builtin "isinstance") (λxs H Q=>∃x k T,xs=[x,.ty T]/\B' K H x k/\(T="int"\/T="str"\/T="bool"\/T="list"\/T="tuple")/\Q (.bl (qz k T)) H):=hK ▸ VL
def Ta(K:aJ)(hK:X.K=K:=by rfl):bS X (.type "list") (λxs H Q=>∃p ys,xs=[.ref p]/\(cW K H p ys\/iE K H p ys)/\∀l,H l=none->Q (.ref l) (upd H l (.lst ys))):=hK ▸ Tg
end
end L2
set_option autoImplicit false
namespace L2
open PySem PySem.Spec PyProof.Rows
theorem Fh{α β:Type}{R:α->β->Prop}:∀{l:List α} {m:List β} (i:Nat) {b:β},Paired R l m->m[i]?=some b->∃a,l[i]?=some a/\R a b
 |_,_,_,_,.nil,e=>by simp at e
 |_,_,0,_,.cons r _,e=>by simp at e;subst e;exact⟨_,rfl,r⟩
 |_,_,i+1,_,.cons _ t,e=>by
  obtain⟨a,h1,h2⟩:=Fh i t (by simpa using e)
  simp_all
def Paired.Ef{α β:Type}{R:α->β->Prop}{l:List α}{b:β}{m:List β}(h:Paired R l (b::m)):∃a l',l=a::l'/\R a b/\Paired R l' m:=by
 cases h with
 |cons r t=>exact⟨_,_,rfl,r,t⟩
def BI{α β:Type}{R:α->β->Prop}:∀{l:List α} {m:List β} (i:Nat) {a:α},Paired R l m->l[i]?=some a->∃b,m[i]?=some b/\R a b:=by
 intro l m i a h e
 induction h generalizing i with
 |nil=>simp at e
 |cons r _ ih=>cases i with
  |zero=>simp at e;subst e;exact⟨_,rfl,r⟩
  |succ i=>exact ih i (by simpa using e)
inductive D where
 |aM|bl (b:Bool)|int (i:Int)|str (x:Str)|ty (n:String)|ref (n:Nat)
 |lst (xs:List D)|tup (xs:List D)|aA (kvs:List (TK×D))
mutual
def TK.d:TK->D
 |.inl i=>.int i
 |.inr x=>.str x
 |.tp l=>.tup (TK.dl l)
 |.aM=>.aM
def TK.dl:List TK->List D
 |[]=>[]
 |k::l=>TK.d k::TK.dl l
end
noncomputable def uI:D->aj V
 |.aM=>some .aM
 |.bl b=>some (.bl b)
 |.int i=>some (.int i)
 |.str x=>some (.str x)
 |.ty n=>some (.ty n)
 |_=>none
structure Kn where
 F:Hp
 A:List ai
 T:List ai
inductive ag (K:aJ) (k:Kn):List V->List D->Prop
 |nil:ag K k [] []
 |flat {v:V} {d:D} {vs:List V} {ds:List D}:uI d=some v->ag K k vs ds->ag K k (v::vs) (d::ds)
 |ref {n:Nat} {a:ai} {vs:List V} {ds:List D}:k.A[n]?=some a->ag K k vs ds->ag K k (.ref a::vs) (.ref n::ds)
 |lst {a:ai} {ws vs:List V} {es ds:List D}:cW K k.F a ws->ag K k ws es->ag K k vs ds->ag K k (.ref a::vs) (.lst es::ds)
 |tup {a:ai} {ws vs:List V} {es ds:List D}:iE K k.F a ws->ag K k ws es->ag K k vs ds->ag K k (.ref a::vs) (.tup es::ds)
 |aA {a:ai} {kvs:List (TK×V×V)} {es:List (TK×D)} {ep:Nat} {vs:List V} {ds:List D}:k.F a=some (.dG kvs ep)->kvs.map (·.1)=es.map (·.1)->ag K k (kvs.map (·.2.1)) (es.map (·.1.d))->ag K k (kvs.map (·.2.2)) (es.map (·.2))->ag K k vs ds->ag K k (.ref a::vs) (.aA es::ds)
def az.rd{H H':Hp}{a:ai}{u:HO}(e:az H H')(h:Rd H a u):Rd H' a u:=by
 rcases h with h|⟨o,h⟩
 .exact .inl (e _ _ h)
 .exact .inr ⟨o,e _ _ h⟩
def az.zO{K:aJ}{H H':Hp}{a:ai}{xs:List V}(e:az H H')(h:iE K H a xs):iE K H' a xs:=h.imp e.rd id
def az.LO{K:aJ}{H H':Hp}{a:ai}{xs:List V}(e:az H H')(h:cW K H a xs):cW K H' a xs:=h.imp e.rd id
structure Kn.le (k k':Kn):Prop where
 f:az k.F k'.F
 a:k.A <+: k'.A
def F8{α:Type}{l l':List α}{n:Nat}{x:α}(h:l <+: l')(e:l[n]?=some x):l'[n]?=some x:=by
 obtain⟨t,rfl⟩:=h;rw[uf (fE.mp e).1];exact e
section
variable{K:aJ}{k k':Kn}{v:V}{vs ws:List V}{d:D}{ds es:List D}
def ag.mono(s:k.le k')(h:ag K k vs ds):ag K k' vs ds:=by
 induction h with
 |nil=>exact .nil
 |flat e _ ih=>exact .flat e ih
 |ref e _ ih=>exact .ref (F8 s.a e) ih
 |lst e _ _ i1 i2=>exact .lst (s.f.LO e) i1 i2
 |tup e _ _ i1 i2=>exact .tup (s.f.zO e) i1 i2
 |aA e q _ _ _ i0 i1 i2=>exact .aA (s.f _ _ e) q i0 i1 i2
def ag.length(h:ag K k vs ds):vs.length=ds.length:=by
 induction h with
 |nil=>rfl
 |flat _ _ ih=>exact congrArg _ ih
 |ref _ _ ih=>exact congrArg _ ih
 |lst _ _ _ _ ih=>exact congrArg _ ih
 |tup _ _ _ _ ih=>exact congrArg _ ih
 |aA _ _ _ _ _ _ _ ih=>exact congrArg _ ih
def ag.inv(h:ag K k (v::vs) (d::ds)):ag K k [v] [d]/\ag K k vs ds:=by
 cases h with
 |flat e t=>exact⟨.flat e .nil,t⟩
 |ref e t=>exact⟨.ref e .nil,t⟩
 |lst e i t=>exact⟨.lst e i .nil,t⟩
 |tup e i t=>exact⟨.tup e i .nil,t⟩
 |aA e q j i t=>exact⟨.aA e q j i .nil,t⟩
def ag.cons(h:ag K k [v] [d])(t:ag K k vs ds):ag K k (v::vs) (d::ds):=by
 cases h with
 |flat e _=>exact .flat e t
 |ref e _=>exact .ref e t
 |lst e i _=>exact .lst e i t
 |tup e i _=>exact .tup e i t
 |aA e q j i _=>exact .aA e q j i t
def ag.cw(h:ag K k vs (d::ds)):∃w us,vs=w::us/\ag K k [w] [d]/\ag K k us ds:=by
 cases vs with
 |nil=>have:=h.length;cases this
 |cons w us=>exact⟨w,us,rfl,h.inv⟩
def ag.gz(h:ag K k vs []):vs=[]:=List.eq_nil_of_length_eq_zero h.length
def ag.get{i:Nat}(h:ag K k vs ds)(e:ds[i]?=some d):∃v,vs[i]?=some v/\ag K k [v] [d]:=by
 induction ds generalizing vs i with
 |nil=>cases e
 |cons x ds ih=>
  obtain⟨w,us,rfl,h1,h2⟩:=h.cw;cases i with
  |zero=>cases e;exact⟨w,rfl,h1⟩
  |succ i=>exact ih (vs:=us) (i:=i) h2 e
def ag.append(h:ag K k vs ds)(t:ag K k ws es):ag K k (vs++ws) (ds++es):=by
 induction ds generalizing vs with
 |nil=>rw[h.gz];exact t
 |cons x ds ih=>
  obtain⟨w,us,rfl,h1,h2⟩:=h.cw;exact .cons h1 (ih h2)
def ag.take(n:Nat)(h:ag K k vs ds):ag K k (vs.take n) (ds.take n):=by
 induction n generalizing vs ds with
 |zero=>exact .nil
 |succ n ih=>
  cases ds with
  |nil=>rw[h.gz];exact .nil
  |cons x ds=>
   obtain⟨w,us,rfl,h1,h2⟩:=h.cw;exact .cons h1 (ih h2)
def ag.drop(n:Nat)(h:ag K k vs ds):ag K k (vs.drop n) (ds.drop n):=by
 induction n generalizing vs ds with
 |zero=>exact h
 |succ n ih=>
  cases ds with
  |nil=>rw[h.gz];exact .nil
  |cons x ds=>
   obtain⟨w,us,rfl,h1,h2⟩:=h.cw;exact ih h2
def VP(ns:List Int):ag K k (ns.map V.int) (ns.map D.int):=by
 induction ns with
 |nil=>exact .nil
 |cons n ns ih=>exact .flat rfl ih
inductive R1 (K:aJ) (k:Kn):V->D->Prop
 |flat {v:V} {d:D}:uI d=some v->R1 K k v d
 |ref {n:Nat} {a:ai}:k.A[n]?=some a->R1 K k (.ref a) (.ref n)
 |lst {a:ai} {ws:List V} {es:List D}:cW K k.F a ws->ag K k ws es->R1 K k (.ref a) (.lst es)
 |tup {a:ai} {ws:List V} {es:List D}:iE K k.F a ws->ag K k ws es->R1 K k (.ref a) (.tup es)
 |aA {a:ai} {es:List (TK×V×V)} {kvs:List (TK×D)} {ep:Nat}:k.F a=some (.dG es ep)->es.map (·.1)=kvs.map (·.1)->ag K k (es.map (·.2.1)) (kvs.map (·.1.d))->ag K k (es.map (·.2.2)) (kvs.map (·.2))->R1 K k (.ref a) (.aA kvs)
def ag.one(h:ag K k [v] [d]):R1 K k v d:=by
 cases h with
 |flat q _=>exact .flat q
 |ref q _=>exact .ref q
 |lst q i _=>exact .lst q i
 |tup q i _=>exact .tup q i
 |aA q e i j _=>exact .aA q e i j
def ag.aN{u:V}(h:ag K k [v] [d])(e:uI d=some u):v=u:=by
 cases h.one with
 |flat q=>rw[e] at q;exact(Option.some.inj q).symm
 |_=>cases e
def ag.isRef{n:Nat}(h:ag K k [v] [.ref n]):∃a,v=.ref a/\k.A[n]?=some a:=by
 cases h.one with
 |flat q=>cases q
 |ref e=>exact⟨_,rfl,e⟩
def ag.wz(h:ag K k [v] [.lst es]):∃a ws,v=.ref a/\cW K k.F a ws/\ag K k ws es:=by
 cases h.one with
 |flat q=>cases q
 |lst e i=>exact⟨_,_,rfl,e,i⟩
def ag.isTup(h:ag K k [v] [.tup es]):∃a ws,v=.ref a/\iE K k.F a ws/\ag K k ws es:=by
 cases h.one with
 |flat q=>cases q
 |tup e i=>exact⟨_,_,rfl,e,i⟩
def ag.wy{kvs:List (TK×D)}(h:ag K k [v] [.aA kvs]):∃a es ep,v=.ref a/\k.F a=some (.dG es ep)/\es.map (·.1)=kvs.map (·.1)/\ag K k (es.map (·.2.1)) (kvs.map (·.1.d))/\ag K k (es.map (·.2.2)) (kvs.map (·.2)):=by
 cases h.one with
 |flat q=>cases q
 |aA e q j i=>exact⟨_,_,_,rfl,e,q,j,i⟩
end
end L2
set_option autoImplicit false
namespace L2
open PySem PySem.Spec PyProof.Rows
inductive Bx where
 |lst (xs:List D)|aA (kvs:List (TK×D))
noncomputable def Bx.d:Bx->D
 |.lst xs=>.lst xs
 |.aA kvs=>.aA kvs
inductive Cell where
 |o (c:Bx)|z (c:Bx)|ins (C:ai) (fs:List (Str×D))
structure aV where
 s:List Cell
 r:List Cell
inductive Val where
 |d (x:D)|c (n:Nat)
abbrev Gm:=List (aj Val)
inductive Rv where
 |v (x:Val)|o (c:Bx)
inductive Rs (α:Type) where
 |ok (a:α) (S:aV)|ex (C:ai) (l:aj Int) (S:aV)
abbrev Gx(α:Type):=Gm->aV->aj (Rs α)
def bd{α β:Type}(x:aj (Rs α))(f:α->aV->aj (Rs β)):aj (Rs β):=match x with
 |none=>none
 |some (.ok a S)=>f a S
 |some (.ex C l S)=>some (.ex C l S)
noncomputable def vd:Nat->HO->Bool
 |0,_=>false
 |1,.dG _ _=>true
 |1,_=>false
 |_,_=>true
def dZ(K:aJ)(k:Kn)(H:Hp)(a:ai):Bx->Prop
 |.lst xs=>∃ws,H a=some (.lst ws)/\ag K k ws xs
 |.aA kvs=>∃es ep,H a=some (.dG es ep)/\es.map (·.1)=kvs.map (·.1)/\ag K k (es.map (·.2.1)) (kvs.map (·.1.d))/\ag K k (es.map (·.2.2)) (kvs.map (·.2))
def bA(K:aJ)(k:Kn)(H:Hp)(a:ai):Cell->Prop
 |.o c=>k.F a=none/\dZ K k H a c
 |.z c=>k.F a≠none/\ag K k [.ref a] [c.d]
 |.ins C fs=>k.F a=none/\∃dx gs,H a=some (.ins C dx gs)/\gs.map (·.1)=fs.map (·.1)/\ag K k (gs.map (·.2)) (fs.map (·.2))
structure Lay (K:aJ) (k:Kn) (H:Hp) (as:List ai) (cs:List Cell):Prop where
 ln:as.length=cs.length
 at':∀(n:Nat) (a:ai) (c:Cell),as[n]?=some a->cs[n]?=some c->bA K k H a c
structure cf (K:aJ) (k:Kn) (H:Hp) (S:aV):Prop where
 le:az k.F H
 nd:(k.A++k.T).Nodup
 r:Lay K k H k.A S.r
 s:Lay K k H k.T S.s
structure Up (q:Nat) (k:Kn) (H:Hp) (k':Kn) (H':Hp):Prop where
 f:az k.F k'.F
 a:k.A <+: k'.A
 t:k.T <+: k'.T
 h:∀a o,vd q o=true->H a=some o->H' a=some o
def dc(K:aJ)(k:Kn)(x:V):Val->Prop
 |.d y=>ag K k [x] [y]
 |.c n=>∃a,x=.ref a/\k.T[n]?=some a
structure hZ (K:aJ) (k:Kn) (Z:St) (U:Gm):Prop where
 ln:Z.length=U.length
 at':∀(i:Nat) (v:Val),U[i]?=some (some v)->∃x,Z[i]?=some (some x)/\dc K k x v
def oA(K:aJ)(k:Kn)(H:Hp)(x:V):Rv->Prop
 |.v y=>dc K k x y
 |.o c=>∃a,x=.ref a/\k.F a=none/\a∉k.A++k.T/\dZ K k H a c
section
variable{q:Nat}{K:aJ}{k k' Si:Kn}{F' H H' Bj:Hp}{S S':aV}{Z:St}{U:Gm}{n:Nat}{a:ai}{as:List ai}{cs:List Cell}{c:Cell}{b:Bx}
theorem Kn.le.refl:k.le k:=⟨az.refl _,lh _⟩
def Up.le(u:Up q k H k' H'):k.le k':=⟨u.f,u.a⟩
theorem Up.refl:Up q k H k H:=⟨az.refl _,lh _,lh _,λ_ _ _ h=>h⟩
theorem Up.trans(x:Up q k H k' H')(y:Up q k' H' Si Bj):Up q k H Si Bj:=⟨x.f.trans y.f,x.a.trans y.a,x.t.trans y.t,λa o z h=>y.h a o z (x.h a o z h)⟩
def Up.of{F':Hp}(s:az k.F F')(t:az H H'):Up q k H ⟨F',k.A,k.T⟩ H':=⟨s,lh _,lh _,λa o _ h=>t a o h⟩
def dc.up{x:V}{v:Val}(h:dc K k x v)(u:Up q k H k' H'):dc K k' x v:=by
 cases v with
 |d y=>exact ag.mono u.le h
 |c n=>obtain⟨a,e,z⟩:=h;exact⟨a,e,F8 u.t z⟩
theorem vQ.up{xs:List V}{vs:List Val}(h:Paired (dc K k) xs vs)(u:Up q k H k' H'):Paired (dc K k') xs vs:=Paired.Di h λ_ _ r=>r.up u
theorem hZ.up(h:hZ K k Z U)(u:Up q k H k' H'):hZ K k' Z U:=⟨h.ln,λi v e=>let ⟨x,z,r⟩:=h.at' i v e;⟨x,z,r.up u⟩⟩
def dZ.keep(h:dZ K k H a b)(s:k.le k')(e:∀o,H a=some o->H' a=some o):dZ K k' H' a b:=by
 cases b with
 |lst xs=>obtain⟨ws,z,r⟩:=h;exact⟨ws,e _ z,r.mono s⟩
 |aA kvs=>obtain⟨es,ep,z,q,r,t⟩:=h;exact⟨es,ep,e _ z,q,r.mono s,t.mono s⟩
theorem bA.keep(h:bA K k H a c)(s:k.le k')(e:∀o,H a=some o->H' a=some o)(fr:k.F a=none->k'.F a=none):bA K k' H' a c:=by
 cases c with
 |o b=>exact⟨fr h.1,h.2.keep s e⟩
 |z b=>exact⟨λz=>h.1 (s.f.free z),h.2.mono s⟩
 |ins C fs=>obtain⟨h0,dx,gs,h1,h2,h3⟩:=h;exact⟨fr h0,dx,gs,e _ h1,h2,h3.mono s⟩
def dZ.there(h:dZ K k H a b):H a≠none:=λz=>by
 cases b with
 |lst xs=>obtain⟨_,e,_⟩:=h;rw[e] at z;cases z
 |aA kvs=>obtain⟨_,_,e,_⟩:=h;rw[e] at z;cases z
theorem bA.there(h:bA K k H a c)(le:az k.F H):H a≠none:=by
 cases c with
 |o b=>exact h.2.there
 |z b=>exact λz=>h.1 (le.free z)
 |ins C fs=>obtain⟨_,dx,gs,h1,_⟩:=h;rw[h1];exact λz=>nomatch z
def Lay.get(h:Lay K k H as cs)(e:as[n]?=some a):∃c,cs[n]?=some c/\bA K k H a c:=by
 have hn:n<cs.length:=h.ln ▸ (fE.mp e).1;exact⟨_,iH hn,h.at' n a _ e (iH hn)⟩
def Lay.keep(h:Lay K k H as cs)(f:∀a∈as,∀c,bA K k H a c->bA K k' H' a c):Lay K k' H' as cs:=⟨h.ln,λn a c e1 e2=>f a (qI e1) c (h.at' n a c e1 e2)⟩
def Pm{α:Type}{l:List α}{x y:α}(e:(l++[x])[n]?=some y):l[n]?=some y\/(n=l.length/\y=x):=by
 by_cases h:n<l.length
 .rw[uf h] at e;exact .inl e
 .have h1:=Nat.le_of_not_lt h;rw[ue h1] at e;have h2:n - l.length=0:=Nat.lt_one_iff.mp (fE.mp e).1;rw[h2] at e;cases e;exact .inr ⟨by lia,rfl⟩
def FO{α:Type}{l:List α}{x:α}:(l++[x])[l.length]?=some x:=by rw[ue (bZ _),Mm];rfl
def Lay.push(h:Lay K k H as cs)(hc:bA K k H a c):Lay K k H (as++[a]) (cs++[c]):=by
 refine⟨by rw[dU,dU,h.ln];rfl,λn b d e1 e2=>?_⟩
 rcases Pm e1 with e1|⟨z,rfl⟩ <;> rcases Pm e2 with e2|⟨y,rfl⟩
 .exact h.at' n b d e1 e2
 .exact cz (fE.mp e1).1 (by rw[y,h.ln];exact jY _)
 .exact cz (fE.mp e2).1 (by rw[z,h.ln];exact jY _)
 .exact hc
def Ot{α:Type}{l:List α}{i j:Nat}{x:α}(nd:l.Nodup)(e1:l[i]?=some x)(e2:l[j]?=some x):i=j:=by
 obtain⟨h1,z1⟩:=fE.mp e1;obtain⟨h2,z2⟩:=fE.mp e2;exact(Er nd).mp (z1.trans z2.symm)
def Lay.set(h:Lay K k H as cs)(nd:as.Nodup)(ha:as[n]?=some a)(hc:bA K k' H' a c)(f:∀b∈as,b≠a->∀c,bA K k H b c->bA K k' H' b c):Lay K k' H' as (cs.set n c):=by
 refine⟨by rw[xt];exact h.ln,λj b d e1 e2=>?_⟩
 by_cases e0:n=j
 .subst e0;rw[vL (h.ln ▸ (fE.mp ha).1)] at e2;cases e2;cases ha.symm.trans e1;exact hc
 .rw[A9 e0] at e2;exact f b (qI e1) (λz=>e0 (Ot nd ha (z ▸ e1))) d (h.at' j b d e1 e2)
def Lay.take(h:Lay K k H as cs)(m:Nat):Lay K k H (as.take m) (cs.take m):=by
 refine⟨by rw[xr,xr,h.ln],λj b d e1 e2=>?_⟩
 rw[List.getElem?_take] at e1 e2;split at e1
 .rename_i hj
  rw[bx hj] at e2;exact h.at' j b d e1 e2
 .cases e1
theorem Lay.there(h:Lay K k H as cs)(le:az k.F H):∀a∈as,H a≠none:=λa m=>by
 obtain⟨n,e⟩:=zW.mp m;obtain⟨c,_,hc⟩:=h.get e;exact hc.there le
theorem cf.there(h:cf K k H S):∀a∈k.A++k.T,H a≠none:=λa m=>(dF.mp m).elim (h.r.there h.le a) (h.s.there h.le a)
def cf.fresh(h:cf K k H S)(e:H a=none):k.F a=none/\a∉k.A++k.T:=⟨h.le.free e,λm=>h.there a m e⟩
def cf.new(h:cf K k H S)(s1:az k.F F')(s2:∀a∈k.A++k.T,∀o,H a=some o->H' a=some o)(s3:az F' H')(fr:∀p∈k.A++k.T,k.F p=none->F' p=none):cf K ⟨F',k.A,k.T⟩ H' S:=
 have go:∀a∈k.A++k.T,∀c,bA K k H a c->bA K ⟨F',k.A,k.T⟩ H' a c:=λa m _ q=>q.keep ⟨s1,lh _⟩ (s2 a m) (fr a m)
 ⟨s3,h.nd,h.r.keep λa m=>go a (Ep _ m),h.s.keep λa m=>go a (n9 _ m)⟩
def bA.le(h:bA K k H a c)(s:k.le k')(e:k.F=k'.F):bA K k' H a c:=h.keep s (λ_ z=>z) λz=>by rw[<-e];exact z
def IT{α:Type}{l:List α}{x:α}:l <+: l++[x]:=List.prefix_append _ _
def Φ{α:Type}{l m:List α}{x:α}(h:(l++m).Nodup)(n:x∉l++m):((l++[x])++m).Nodup:=by
 rw[lj];exact(List.perm_middle (l₁:=l) (l₂:=m) (a:=x)).nodup_iff.mpr (tJ.mpr ⟨n,h⟩)
def cf.pushS(h:cf K k H S)(hF:k.F a=none)(hn:a∉k.A++k.T)(hb:dZ K k H a b):cf K ⟨k.F,k.A,k.T++[a]⟩ H ⟨S.s++[.o b],S.r⟩/\∀q,Up q k H ⟨k.F,k.A,k.T++[a]⟩ H:=by
 have go:k.le ⟨k.F,k.A,k.T++[a]⟩:=⟨az.refl _,lh _⟩;refine⟨⟨h.le,?_,h.r.keep λ_ _ _ z=>z.le go rfl,(h.s.push (c:=.o b) ⟨hF,hb⟩).keep λ_ _ _ z=>z.le go rfl⟩,λq=>⟨az.refl _,lh _,IT,λ_ _ _ z=>z⟩⟩
 rw[<-lj];exact lJ.mpr ⟨h.nd,by simp,λx m y m' e=>hn (by rw[kH.mp m'] at e;exact e ▸ m)⟩
def cf.wQ(h:cf K k H S)(hn:a∉k.A++k.T)(hc:bA K k H a c):cf K ⟨k.F,k.A++[a],k.T⟩ H ⟨S.s,S.r++[c]⟩/\∀q,Up q k H ⟨k.F,k.A++[a],k.T⟩ H:=by
 have go:k.le ⟨k.F,k.A++[a],k.T⟩:=⟨az.refl _,IT⟩;exact⟨⟨h.le,Φ h.nd hn,(h.r.push hc).keep λ_ _ _ z=>z.le go rfl,h.s.keep λ_ _ _ z=>z.le go rfl⟩,λq=>⟨az.refl _,IT,lh _,λ_ _ _ z=>z⟩⟩
def lB(H H':Hp)(a:ai):Prop:=∀b,b≠a->H' b=H b
def BN{o:HO}:lB H (upd H a o) a:=λ_ z=>dH z
def cf.chg(h:cf K k H S)(ho:lB H H' a)(hF:k.F a=none)(hq:∀o,H a=some o->vd q o=false):az k.F H'/\Up q k H k H'/\∀b,b≠a->∀c,bA K k H b c->bA K k H' b c:=
 ⟨λb o e=>by rw[ho b λz=>by rw[z,hF] at e;cases e];exact h.le b o e,⟨az.refl _,lh _,lh _,λb o e z=>by
  by_cases y:b=a
  .simp_all
  .rw[ho b y];exact z⟩,λb y c z=>z.keep .refl (λo e=>by rw[ho b y];exact e) id⟩
def cf.DK(h:cf K k H S)(ha:k.A[n]?=some a)(ho:lB H H' a)(hF:k.F a=none)(hq:∀o,H a=some o->vd q o=false)(hc:bA K k H' a c):cf K k H' ⟨S.s,S.r.set n c⟩/\Up q k H k H':=by
 obtain⟨h1,h2,h3⟩:=h.chg ho hF hq;obtain⟨n1,n2,n3⟩:=lJ.mp h.nd;exact⟨⟨h1,h.nd,h.r.set n1 ha hc λb _=>h3 b,h.s.keep λb m=>h3 b λz=>n3 a (qI ha) b m z.symm⟩,h2⟩
def cf.LH(h:cf K k H S)(ha:k.T[n]?=some a)(ho:lB H H' a)(hF:k.F a=none)(hq:∀o,H a=some o->vd q o=false)(hc:bA K k H' a c):cf K k H' ⟨S.s.set n c,S.r⟩/\Up q k H k H':=by
 obtain⟨h1,h2,h3⟩:=h.chg ho hF hq;obtain⟨n1,n2,n3⟩:=lJ.mp h.nd;exact⟨⟨h1,h.nd,h.r.keep λb m=>h3 b λz=>n3 b m a (qI ha) z,h.s.set n2 ha hc λb _=>h3 b⟩,h2⟩
def dZ.Y(h:dZ K k H a b)(le:az k.F H)(hF:k.F a=none):∃o,H a=some o/\az k.F (upd k.F a o)/\az (upd k.F a o) H/\ag K ⟨upd k.F a o,k.A,k.T⟩ [.ref a] [b.d]:=by
 have sm:∀o,az k.F (upd k.F a o):=λo=>rR hF
 have sh:∀o,H a=some o->az (upd k.F a o) H:=λo e p u q=>by
  by_cases z:p=a
  .grind [aK]
  .rw[dH z] at q;exact le p u q
 cases b with
 |lst xs=>
  obtain⟨ws,e,r⟩:=h;exact⟨_,e,sm _,sh _ e,.lst (.inl (.inl aK)) (r.mono ⟨sm _,lh _⟩) .nil⟩
 |aA kvs=>
  obtain⟨es,ep,e,q,r,t⟩:=h;exact⟨_,e,sm _,sh _ e,.aA aK q (r.mono ⟨sm _,lh _⟩) (t.mono ⟨sm _,lh _⟩) .nil⟩
def cf.Kf(h:cf K k H S)(hF:k.F a=none)(hn:a∉k.A++k.T)(hb:dZ K k H a b):∃F',cf K ⟨F',k.A,k.T⟩ H S/\(∀q,Up q k H ⟨F',k.A,k.T⟩ H)/\ag K ⟨F',k.A,k.T⟩ [.ref a] [b.d]:=by
 obtain⟨o,e,s1,s2,rp⟩:=hb.Y h.le hF;exact⟨_,h.new s1 (λ_ _ _ z=>z) s2 λp m z=>by rw[dH (show p≠a from λy=>hn (y ▸ m))];exact z,λq=>.of s1 (az.refl _),rp⟩
def cf.Kg(h:cf K k H S)(ha:k.T[n]?=some a)(hc:S.s[n]?=some (.o b)):∃F',cf K ⟨F',k.A,k.T⟩ H ⟨S.s.set n (.z b),S.r⟩/\(∀q,Up q k H ⟨F',k.A,k.T⟩ H)/\ag K ⟨F',k.A,k.T⟩ [.ref a] [b.d]:=by
 obtain⟨hF,hb⟩:=h.s.at' n a _ ha hc;obtain⟨o,e,s1,s2,rp⟩:=hb.Y h.le hF;obtain⟨n1,n2,n3⟩:=lJ.mp h.nd;have go:∀p,p≠a->∀c,bA K k H p c->bA K ⟨upd k.F a o,k.A,k.T⟩ H p c:=λp y c z=>z.keep ⟨s1,lh _⟩ (λ_ z=>z) λz=>(dH y).trans z
 exact⟨_,⟨s2,h.nd,h.r.keep λp m=>go p λz=>n3 p m a (qI ha) z,h.s.set n2 ha (c:=.z b) ⟨λz=>(nomatch aK.symm.trans z),rp⟩ λp _=>go p⟩,λq=>.of s1 (az.refl _),rp⟩
theorem cf.take(h:cf K k H S)(m:Nat):cf K ⟨k.F,k.A,k.T.take m⟩ H ⟨S.s.take m,S.r⟩:=
 have go:k.le ⟨k.F,k.A,k.T.take m⟩:=⟨az.refl _,lh _⟩
 ⟨h.le,h.nd.sublist ((List.Sublist.refl _).append (List.take_sublist _ _)),h.r.keep λ_ _ _ z=>z.le go rfl,(h.s.take m).keep λ_ _ _ z=>z.le go rfl⟩
def Ou{α:Type}{l l':List α}{m:Nat}(h:l <+: l')(hm:l.length<=m):l <+: l'.take m:=by
 grind
def Up.take(u:Up q k H k' H'){m:Nat}(h:k.T.length<=m):Up q k H ⟨k'.F,k'.A,k'.T.take m⟩ H':=⟨u.f,u.a,Ou u.t h,u.h⟩
end
end L2
set_option autoImplicit false
namespace L2
open PySem PySem.Spec PyProof.Rows
variable{X:Cx}{e:Expr}{t:TE}{t':TT}{v x:V}{k:Kn}{S:aV}{r:R2}{Q:List V->Hp->Prop}{vs:List Val}{ds:List D}{o:List D->aj Rv}
def PE.mono{t':TE}(h:PE X e t)(m:∀Z H Q,t' Z H Q->t Z H Q):PE X e t':=λaa s Z H Q I q=>h aa s Z H Q I (m _ _ _ q)
def PT.mono{t:TT}(h:PT X e t)(m:∀Z H Q,t' Z H Q->t Z H Q):PT X e t':=λaa s Z H Q I q=>h aa s Z H Q I (m _ _ _ q)
def PW.mono{t:TT}(h:PW X e t)(m:∀Z H Q,t' Z H Q->t Z H Q):PW X e t':=λwh aa s Z H Q I q=>h wh aa s Z H Q I (m _ _ _ q)
def PA.mono{e:List Expr}{t t':TA}(h:PA X e t)(m:∀Z H Q,t' Z H Q->t Z H Q):PA X e t':=λpos aa s Z H Q I q=>h pos aa s Z H Q I (m _ _ _ q)
def PS.mono{e:Stmt}{t t':TS}(h:PS X e t)(m:∀D Z H,t' D Z H->t D Z H):PS X e t':=λaa s Z H D I q=>h aa s Z H D I (m _ _ _ q)
def i_.mono{e:List Stmt}{t t':TS}(h:i_ X e t)(m:∀D Z H,t' D Z H->t D Z H):i_ X e t':=λaa s Z H D I q=>h aa s Z H D I (m _ _ _ q)
abbrev XW:=ai->aj ai->St->Hp->Prop
def Bg(F:Hp)(dx:aj ai):aj Int->Prop
 |none=>dx=none
 |some n=>∃d,dx=some d/\F d=some (.xd [("line",.int n)])
abbrev Rp(α β:Type):=Kn->Hp->β->α->Prop
section
variable{α β α' β':Type}(R:Rp α β){R':Rp α' β'}(K:aJ)(W:XW)(q:Nat){Z:St}{H H':Hp}{k k':Kn}{U:Gm}{S:aV}{Q:β->Hp->Prop}{Q':β'->Hp->Prop}
def gL(Z:St)(k:Kn)(H:Hp)(Q:β->Hp->Prop):Rs α->Prop
 |.ok a S=>∀b k' H',Up q k H k' H'->cf K k' H' S->R k' H' b a->Q b H'
 |.ex C l S=>∀dx k' H',Up q k H k' H'->cf K k' H' S->Bg k'.F dx l->W C dx Z H'
def tX(g:Gx α):St->Hp->(β->Hp->Prop)->Prop:=λZ H Q=>∃k U S res,cf K k H S/\hZ K k Z U/\g U S=some res/\gL R K W q Z k H Q res
variable{R K W q}
def gL.up{res:Rs α}(w:gL R K W q Z k H Q res)(u:Up q k H k' H'):gL R K W q Z k' H' Q res:=by
 cases res with
 |ok a S=>exact λb k2 H2 u2 k r=>w b k2 H2 (u.trans u2) k r
 |ex C l S=>exact λdx k2 H2 u2 k r=>w dx k2 H2 (u.trans u2) k r
def AD{x:aj (Rs α)}{f:α->aV->aj (Rs α')}{res:Rs α'}(e:bd x f=some res):(∃a S,x=some (.ok a S)/\f a S=some res)\/∃C l S,x=some (.ex C l S)/\res=.ex C l S:=by
 obtain _|_|_:=x
 .cases e
 .exact .inl ⟨_,_,rfl,e⟩
 .cases e;exact .inr ⟨_,_,_,rfl,rfl⟩
def tX.bd{g:Gx α}{f:α->aV->aj (Rs α')}{res:Rs α'}(ok:cf K k H S)(gk:hZ K k Z U)(e:bd (g U S) f=some res)(w:gL R' K W q Z k H Q' res)
  (h:∀a S1 b k1 H1,cf K k1 H1 S1->hZ K k1 Z U->R k1 H1 b a->f a S1=some res->gL R' K W q Z k1 H1 Q' res->Up q k H k1 H1->Q b H1):tX R K W q g Z H Q:=by
 rcases AD e with⟨a,S1,e1,e2⟩|⟨C,l,S1,e1,rfl⟩
 .exact⟨k,U,S,_,ok,gk,e1,λb k' H' u fZ r=>h a S1 b k' H' fZ (gk.up u) r e2 (w.up u) u⟩
 .exact⟨k,U,S,_,ok,gk,e1,w⟩
def gL.now{a:α}{b:β}(w:gL R K W q Z k H Q (.ok a S))(ok:cf K k H S)(r:R k H b a):Q b H:=w b k H .refl ok r
def oB{g:Gx α}{Q₂:β->Hp->Prop}(h:tX R K W q g Z H Q)(m:∀b H,Q b H->Q₂ b H):tX R K W q g Z H Q₂:=by
 obtain⟨k,U,S,res,ok,gk,e,w⟩:=h;refine⟨k,U,S,res,ok,gk,e,?_⟩;cases res with
 |ok a S=>exact λb k2 H2 u k r=>m _ _ (w b k2 H2 u k r)
 |ex C l S=>exact w
end
abbrev RE(K:aJ):Rp Rv V:=λk H x r=>oA K k H x r
abbrev RA(K:aJ):Rp (List Val) (List V):=λk _ xs vs=>Paired (dc K k) xs vs
abbrev RB:Rp Bool Bool:=λ_ _ b a=>b=a
abbrev GE:=Gx Rv
variable{g f:GE}
abbrev GA:=Gx (List Val)
variable{h:GA}
abbrev GT:=Gx Bool
abbrev tE(K:aJ)(W:XW)(q:Nat)(g:GE):TE:=tX (RE K) K W q g
abbrev gG(K:aJ)(W:XW)(q:Nat)(g:GA):TA:=tX (RA K) K W q g
abbrev tT(K:aJ)(W:XW)(q:Nat)(g:GT):TT:=tX RB K W q g
noncomputable def gC(d:D):GE:=λ_ S=>some (.ok (.v (.d d)) S)
noncomputable def sj(i:Nat):GE:=λU S=>((U[i]?).join).map λv=>.ok (.v v) S
def NM{α:Type}{x:aj (aj α)}{v:α}(h:x.join=some v):x=some (some v):=by
 cases x with
 |none=>cases h
 |some y=>exact congrArg some h
noncomputable def mF:Rv->Val
 |.v x=>x
 |.o c=>.d c.d
noncomputable def hpR(S:aV):Rv->Rs Rv
 |.o c=>.ok (.v (.d (.ref S.r.length))) ⟨S.s,S.r++[.o c]⟩
 |r=>.ok r S
def jw(g:GE):GE:=λU S=>bd (g U S) λr S1=>some (hpR S1 r)
noncomputable def gN:GA:=λ_ S=>some (.ok [] S)
def mJ(g:GE)(h:GA):GA:=λU S=>bd (g U S) λr S1=>bd (h U S1) λvs S2=>some (.ok (mF r::vs) S2)
section
variable{X:Cx}{K:aJ}{W:XW}{q:Nat}{e a b:Expr}{es:List Expr}{lY fb fc:GE}{fs:GA}{ft fu:GT}{pos:Pos}{Z:St}{H:Hp}
def yB{d:D}(h:PE X e (tC v))(hf:uI d=some v:=by rfl):PE X e (tE K W q (gC d)):=h.mono λZ H Q t=>by
 obtain⟨k,U,S,res,ok,gk,e,w⟩:=t;cases e;exact w.now ok (show ag K k [v] [d] from .flat hf .nil)
def Ψ{i:Nat}(h:PE X e (D_ i)):PE X e (tE K W q (sj i)):=h.mono λZ H Q t=>by
 obtain⟨k,U,S,res,ok,gk,e,w⟩:=t;obtain⟨v,q,rfl⟩:=dm.mp e;obtain⟨x,hx,r⟩:=gk.at' i v (NM q);exact⟨x,hx,w.now ok (show oA K k H x (.v v) from r)⟩
def qQ{r:Rv}(ok:cf K k H S)(h:oA K k H x r):∃k',(∀q,Up q k H k' H)/\cf K k' H S/\dc K k' x (mF r):=by
 cases r with
 |v y=>exact⟨k,λ_=>.refl,ok,h⟩
 |o c=>
  obtain⟨p,rfl,hF,hi,hc⟩:=h;obtain⟨F',fZ,u,rp⟩:=ok.Kf hF hi hc;exact⟨_,u,fZ,rp⟩
def uQ(h:PE X e (tE K W q lY)):PE X e (tE K W q (jw lY)):=h.mono λZ H Q t=>by
 obtain⟨k,U,S,res,ok,gk,e,w⟩:=t;refine tX.bd ok gk e w λr S1 x k1 H1 bL g1 r1 e1 w1 _=>?_
 cases r with
 |v y=>cases e1;exact w1.now bL r1
 |o c=>
  cases e1;obtain⟨p,rfl,hF,hi,hc⟩:=r1;obtain⟨cS,u⟩:=bL.wQ hi (c:=.o c) ⟨hF,hc⟩;exact w1 _ _ _ (u q) cS (show ag K _ [.ref p] [.ref S1.r.length] from .ref (by rw[<-bL.r.ln];exact FO) .nil)
def uD(t:gG K W q (mJ g h) Z H Q):tE K W q g Z H λx H1=>gG K W q h Z H1 λxs H2=>Q (x::xs) H2:=by
 obtain⟨k,U,S,res,ok,gk,e,w⟩:=t;refine tX.bd ok gk e w λr S1 x k1 H1 bL g1 r1 e1 w1 _=>?_
 obtain⟨k2,u2,cS,r2⟩:=qQ bL r1;refine tX.bd cS (g1.up (u2 q)) e1 (w1.up (u2 q)) λvs S3 xs k3 H3 jN g3 r3 e3 w3 u3=>?_
 cases e3;exact w3.now jN (.cons (r2.up u3) r3)
def AE(t:gG K W q gN Z H Q):Q [] H:=by
 obtain⟨k,U,S,res,ok,gk,e,w⟩:=t;cases e;exact w.now ok .nil
def yC:PA X [] (gG K W q gN):=mq.mono λZ H Q t=>AE t
def XC(ha:PE X e (tE K W q g))(hr:PA X es (gG K W q h))(hs:starEach (e::es) X.env=(false,eval e X.env)::starEach es X.env):PA X (e::es) (gG K W q (mJ g h)):=(FN ha hr hs).mono λZ H Q t=>uD t
def Top(K:aJ)(k:Kn)(H:Hp)(x:V)(d:D):Prop:=ag K k [x] [d]\/∃p c,x=.ref p/\d=Bx.d c/\dZ K k H p c
noncomputable def Cell.vt:Cell->aj D
 |.o c=>some c.d
 |.z c=>some c.d
 |.ins _ _=>none
def vt(S:aV):Val->aj D
 |.d (.ref n)=>(S.r[n]?).bind Cell.vt
 |.d x=>some x
 |.c n=>(S.s[n]?).bind Cell.vt
def vv(S:aV):List Val->aj (List D)
 |[]=>some []
 |v::vs=>(vt S v).bind λd=>(vv S vs).map λds=>d::ds
def Ov{x:ai}{c:Cell}{d:D}(h:bA K k H x c)(e:c.vt=some d):Top K k H (.ref x) d:=by
 cases c with
 |o b=>cases e;exact .inr ⟨x,b,rfl,rfl,h.2⟩
 |z b=>cases e;exact .inl h.2
 |ins _ _=>cases e
def F9{v:Val}{d:D}(ok:cf K k H S)(h:dc K k x v)(e:vt S v=some d):Top K k H x d:=by
 cases v with
 |d y=>
  cases y with
  |ref n=>
   obtain⟨p,rfl,h1⟩:=ag.isRef h;obtain⟨c,h2,e⟩:=cy.mp e;exact Ov (ok.r.at' n p c h1 h2) e
  |_=>cases e;exact .inl h
 |c n=>
  obtain⟨p,rfl,h1⟩:=h;obtain⟨c,h2,e⟩:=cy.mp e;exact Ov (ok.s.at' n p c h1 h2) e
def Pn{xs:List V}(ok:cf K k H S)(h:Paired (dc K k) xs vs)(e:vv S vs=some ds):Paired (Top K k H) xs ds:=by
 induction h generalizing ds with
 |nil=>cases e;exact .nil
 |cons r _ ih=>
  obtain⟨d,e1,e⟩:=cy.mp e;obtain⟨es,e2,rfl⟩:=dm.mp e;exact .cons (F9 ok r e1) (ih e2)
def SS(K:aJ)(k':Kn)(H H':Hp)(x:V):Rv->Prop
 |.v (.d y)=>ag K k' [x] [y]
 |.o c=>∃p,x=.ref p/\H p=none/\k'.F p=none/\dZ K k' H' p c
 |_=>False
def kT(K:aJ)(k:Kn)(H:Hp)(r:Rv)(Q:VK):Prop:=∀x F' H',az k.F F'->az H H'->az F' H'->(∀p,H p≠none->k.F p=none->F' p=none)->SS K ⟨F',k.A,k.T⟩ H H' x r->Q x H'
def bV(K:aJ)(r:List V->Hp->VK->Prop)(o:List D->aj Rv):Prop:=∀k H xs ds y Q,az k.F H->Paired (Top K k H) xs ds->o ds=some y->kT K k H y Q->r xs H Q
def gO(o:List D->aj Rv)(g:GA):GE:=λU S=>bd (g U S) λvs S1=>(vv S1 vs).bind λds=>(o ds).map λr=>.ok r S1
def kT.fin{y:Rv}{Q:VK}(ok:cf K k H S)(w:gL (RE K) K W q Z k H Q (.ok y S)):kT K k H y Q:=λx F' H' s1 s2 s3 fr nw=>by
 refine w x ⟨F',k.A,k.T⟩ H' (.of s1 s2) (ok.new s1 (λp _ o z=>s2 p o z) s3 λp m=>fr p (ok.there p m)) ?_
 cases y with
 |v z=>
  cases z with
  |d z=>exact nw
  |_=>exact nw.elim
 |o c=>obtain⟨p,e4,e5,e6,e7⟩:=nw;exact⟨p,e4,e6,(ok.fresh e5).2,e7⟩
def tY{r:List V->Hp->VK->Prop}(bG:bV K r o){g:GA}{Q:VK}(t:tE K W q (gO o g) Z H Q):gG K W q g Z H λxs H1=>r xs H1 Q:=by
 obtain⟨k,U,S,res,ok,gk,e,w⟩:=t;refine tX.bd ok gk e w λvs S1 xs k1 H1 bL g1 r1 e1 w1 _=>?_
 obtain⟨ds,e2,e1⟩:=cy.mp e1;obtain⟨y,e3,rfl⟩:=dm.mp e1;exact bG k1 H1 xs ds y Q bL.le (Pn bL r1 e2) e3 (.fin bL w1)
section
variable{k:Kn}{x:V}{Q:VK}
def kT.rep{y:D}(h:kT K k H (.v (.d y)) Q)(le:az k.F H)(r:ag K k [v] [y]):Q v H:=h v k.F H (az.refl _) (az.refl _) le (λ_ _ z=>z) r
theorem kT.flat{y:D}{v:V}(h:kT K k H (.v (.d y)) Q)(le:az k.F H)(e:uI y=some v):Q v H:=h.rep le (.flat e .nil)
def kT.lst{ds:List D}{ws:List V}(h:kT K k H (.o (.lst ds)) Q)(le:az k.F H)(r:ag K k ws ds){l:ai}(hn:H l=none):Q (.ref l) (upd H l (.lst ws)):=
 h _ k.F _ (az.refl _) (rR hn) (le.put hn) (λ_ _ z=>z) ⟨l,rfl,hn,le.free hn,ws,aK,r⟩
def kT.aA{kvs:List (TK×D)}{es:List (TK×V×V)}{ep:Nat}(h:kT K k H (.o (.aA kvs)) Q)(le:az k.F H)(q:es.map (·.1)=kvs.map (·.1))(r:ag K k (es.map (·.2.1)) (kvs.map (·.1.d)))(t:ag K k (es.map (·.2.2)) (kvs.map (·.2))){l:ai}(hn:H l=none):Q (.ref l) (upd H l (.dG es ep)):=
 h _ k.F _ (az.refl _) (rR hn) (le.put hn) (λ_ _ z=>z) ⟨l,rfl,hn,le.free hn,es,ep,aK,q,r,t⟩
theorem kT.tup{ds:List D}{ws:List V}(h:kT K k H (.v (.d (.tup ds))) Q)(le:az k.F H)(r:ag K k ws ds){l:ai}(hn:H l=none):Q (.ref l) (upd H l (.tup ws)):=by
 have hF:=le.free hn;refine h _ (upd k.F l (.tup ws)) _ (rR hF) (rR hn) (λb u z=>?_) (λp z1 z2=>by rw[dH (show p≠l from λz=>z1 (z ▸ hn))];exact z2) (show ag K ⟨upd k.F l (.tup ws),k.A,k.T⟩ [.ref l] [.tup ds] from .tup (.inl (.inl aK)) (r.mono ⟨rR hF,lh _⟩) .nil)
 by_cases q:b=l
 .subst q;rw[aK] at z ⊢;exact z
 .rw[dH q] at z ⊢;exact le b u z
noncomputable abbrev Kn.all(k:Kn)(H:Hp):Kn:=⟨H,k.A,k.T⟩
def ag.all{vs:List V}{ds:List D}(h:ag K k vs ds)(le:az k.F H):ag K (k.all H) vs ds:=h.mono ⟨le,lh _⟩
def Top.rep{d:D}(h:Top K k H x d)(le:az k.F H):ag K (k.all H) [x] [d]:=by
 rcases h with h|⟨p,c,rfl,rfl,h⟩
 .exact h.all le
 .cases c with
  |lst xs=>obtain⟨ws,e,r⟩:=h;exact .lst (.inl (.inl e)) (r.all le) .nil
  |aA kvs=>obtain⟨es,ep,e,q,r,t⟩:=h;exact .aA e q (r.all le) (t.all le) .nil
def Top.flat{d:D}(h:Top K k H x d)(e:uI d=some v):x=v:=by
 rcases h with h|⟨p,c,rfl,rfl,h⟩
 .exact h.aN e
 .cases c <;> cases e
def Top.lst{ds:List D}(h:Top K k H x (.lst ds))(le:az k.F H):∃p ws,x=.ref p/\cW K H p ws/\ag K k ws ds:=by
 rcases h with h|⟨p,c,rfl,e,h⟩
 .obtain⟨p,ws,rfl,q,r⟩:=h.wz;exact⟨p,ws,rfl,le.LO q,r⟩
 .cases c <;> cases e;obtain⟨ws,e,r⟩:=h;exact⟨p,ws,rfl,.inl (.inl e),r⟩
def Top.tup{ds:List D}(h:Top K k H x (.tup ds))(le:az k.F H):∃p ws,x=.ref p/\iE K H p ws/\ag K k ws ds:=by
 rcases h with h|⟨p,c,rfl,e,h⟩
 .obtain⟨p,ws,rfl,q,r⟩:=h.isTup;exact⟨p,ws,rfl,le.zO q,r⟩
 .cases c <;> cases e
def Top.aA{kvs:List (TK×D)}(h:Top K k H x (.aA kvs))(le:az k.F H):∃p es ep,x=.ref p/\H p=some (.dG es ep)/\es.map (·.1)=kvs.map (·.1)/\ag K k (es.map (·.2.1)) (kvs.map (·.1.d))/\ag K k (es.map (·.2.2)) (kvs.map (·.2)):=by
 rcases h with h|⟨p,c,rfl,e,h⟩
 .obtain⟨p,es,ep,rfl,q,r⟩:=h.wy;exact⟨p,es,ep,rfl,le _ _ q,r⟩
 .cases c <;> cases e;obtain⟨es,ep,h⟩:=h;exact⟨p,es,ep,rfl,h⟩
end
def my(r:R2):List V->Hp->VK->Prop:=λxs H Q=>∃x y,xs=[x,y]/\r x y H Q
def Lv(r:V->Hp->VK->Prop):List V->Hp->VK->Prop:=λxs H Q=>∃x,xs=[x]/\r x H Q
abbrev bq(f:GE):GA:=mJ f gN
abbrev cv(f g:GE):GA:=mJ f (mJ g gN)
def Gz{r:V->V->Hp->Prop}(h:gG K W q (cv f g) Z H λxs H1=>∃x y,xs=[x,y]/\r x y H1):tE K W q f Z H λx H1=>tE K W q g Z H1 λy H2=>r x y H2:=
 oB (uD h) λx H1 t=>oB (uD t) λy H2 t=>by
  obtain⟨x',y',e,q⟩:=AE t;cases e;exact q
def J8{r:V->Hp->Prop}(h:gG K W q (bq f) Z H λxs H1=>∃x,xs=[x]/\r x H1):tE K W q f Z H r:=
 oB (uD h) λx H1 t=>by
  obtain⟨x',e,q⟩:=AE t;cases e;exact q
def e7p{op:Operator}(ho:ec X (binaryOp op) r)(ok:bV K (my r) o)(ha:PE X a (tE K W q lY))(hb:PE X b (tE K W q fb)):PE X (.BinOp a op b pos) (tE K W q (gO o (cv lY fb))):=(e7i ho ha hb).mono λ_ _ _ t=>Gz (tY ok t)
def e7q{op:UnaryOp}{r:V->Hp->VK->Prop}(ho:EJ X (unaryOp op) r)(ok:bV K (Lv r) o)(ha:PE X a (tE K W q lY)):PE X (.UnaryOp op a pos) (tE K W q (gO o (bq lY))):=(e7j ho ha).mono λ_ _ _ t=>J8 (tY ok t)
def Ω{op:CmpOp}(ho:ec X (compareOp op) r)(ok:bV K (my r) o)(ha:PE X a (tE K W q lY))(hb:PE X b (tE K W q fb))(hm:behindInMarks op b=false):PE X (.Compare a [op] [b] pos) (tE K W q (gO o (cv lY fb))):=(Xh ho ha hb hm).mono λ_ _ _ t=>Gz (tY ok t)
def e7r(ho:qh X r)(ok:bV K (my r) o)(ha:PE X a (tE K W q lY))(hb:PE X b (tE K W q fb))(hs:Jp b):PE X (.Subscript a b pos) (tE K W q (gO o (cv lY fb))):=(e7m ho ha hb hs).mono λ_ _ _ t=>Gz (tY ok t)
end
noncomputable def Rv.bool:Rv->aj Bool
 |.v (.d (.bl b))=>some b
 |_=>none
def Rv.uM{r:Rv}{b:Bool}(h:r.bool=some b):r=.v (.d (.bl b)):=by
 obtain(d|_)|_:=r
 .cases d <;> cases h;rfl
 all_goals cases h
noncomputable def zU:D->aj Bool
 |.aM=>some false
 |.bl b=>some b
 |.int i=>some (i != 0)
 |.str y=>if y.length<=1000000 then some ((y.length:Int) != 0) else none
 |.lst xs=>some (!xs.isEmpty)
 |.tup xs=>some (!xs.isEmpty)
 |_=>none
noncomputable def gB(g:GE):GT:=λU S=>bd (g U S) λr S1=>r.bool.map λb=>.ok b S1
def cV(g:GE):GT:=λU S=>bd (g U S) λr S1=>((vt S1 (mF r)).bind zU).map λb=>.ok b S1
noncomputable def fP(g:GT):GT:=λU S=>bd (g U S) λb S1=>some (.ok (!b) S1)
noncomputable def CG(c g h:GT):GT:=λU S=>bd (c U S) λb S1=>if b=true then g U S1 else h U S1
noncomputable def fD(b:Bool):GT:=λ_ S=>some (.ok b S)
def cX(g h:GT):GT:=CG g h (fD false)
def jK(g h:GT):GT:=CG g (fD true) h
noncomputable def yM(c:GT)(g h:GE):GE:=λU S=>bd (c U S) λb S1=>if b=true then g U S1 else h U S1
def yL(g h:GE):GE:=yM (gB g) h (gC (.bl false))
section
variable{X:Cx}{K:aJ}{W:XW}{q:Nat}{e a b:Expr}{es rest:List Expr}{f g h:GE}{fs:GA}{ft fu:GT}{pos:Pos}{Z:St}{H:Hp}
def RL{Q:Bool->Hp->Prop}(t:tT K W q (gB f) Z H Q):tE K W q f Z H λx H1=>∃k,x=.bl k/\Q k H1:=by
 obtain⟨k,U,S,res,ok,gk,e,w⟩:=t;refine tX.bd ok gk e w λr S1 x k1 H1 bL g1 r1 e1 w1 _=>?_
 obtain⟨b,e2,rfl⟩:=dm.mp e1;cases Rv.uM e2;exact⟨b,(show ag K k1 [x] [.bl b] from r1).aN rfl,w1.now bL rfl⟩
def XD{d:D}{b:Bool}(le:az k.F H)(h:Top K k H x d)(e:zU d=some b):xK K x H b:=by
 cases d with
 |aM=>cases h.flat rfl;cases e;rfl
 |bl b=>cases h.flat rfl;cases e;rfl
 |int i=>cases h.flat rfl;cases e;rfl
 |str y=>
  cases h.flat rfl;unfold zU at e;dsimp only at e;split at e
  .cases e;exact⟨jo (by assumption) (by decide),rfl⟩
  .cases e
 |lst xs=>
  cases e;obtain⟨p,ws,rfl,h1,h2⟩:=h.lst le;refine .inl ⟨ws,h1,?_⟩;have:=h2.length
  grind
 |tup xs=>
  cases e;obtain⟨p,ws,rfl,h1,h2⟩:=h.tup le;refine .inr (.inl ⟨ws,h1,?_⟩);have:=h2.length
  grind
 |_=>cases e
def γ(hK:X.K=K)(he:PE X a (tE K W q f))(ht:∀whole,isTrue a X.env whole=(do let v <-whole;standAt a.pos;holding [v] (truthy v))):PT X a (tT K W q (cV f)):=(Vz he ht).mono λZ H Q t=>by
 obtain⟨k,U,S,res,ok,gk,e,w⟩:=t;refine tX.bd ok gk e w λr S1 x k1 H1 bL g1 r1 e1 w1 _=>?_
 obtain⟨b,e2,rfl⟩:=dm.mp e1;obtain⟨d,e3,e4⟩:=cy.mp e2;obtain⟨k2,u2,cS,r2⟩:=qQ bL r1;rw[hK];exact⟨b,XD cS.le (F9 cS r2 e3) e4,(w1.up (u2 q)).now cS rfl⟩
def RM(h:PT X a (tu t))(m:∀Z H Q,tE K W q f Z H Q->t Z H Q):PT X a (tT K W q (gB f)):=h.mono λZ H Q q=>m Z H _ (RL q)
def yI(h:PT X a (tT K W q ft)):PT X (.UnaryOp .Not a pos) (tT K W q (fP ft)):=(ZM h).mono λZ H Q t=>by
 obtain⟨k,U,S,res,ok,gk,e,w⟩:=t;refine tX.bd ok gk e w λb S1 x k1 H1 bL g1 r1 e1 w1 _=>?_
 cases e1;cases r1;exact w1.now bL rfl
def Gr{β' α':Type}{R':Rp α' β'}{gx gy:Gx α'}{Q':β'->Hp->Prop}(t:tX R' K W q (λU S=>bd (ft U S) λb S1=>if b=true then gx U S1 else gy U S1) Z H Q'):tT K W q ft Z H λb H1=>if b=true then tX R' K W q gx Z H1 Q' else tX R' K W q gy Z H1 Q':=by
 obtain⟨k,U,S,res,ok,gk,e,w⟩:=t;refine tX.bd ok gk e w λb S1 x k1 H1 bL g1 r1 e1 w1 _=>?_
 cases r1;cases b with
 |true=>exact sL ⟨k1,U,S1,res,bL,g1,e1,w1⟩
 |false=>exact sJ ⟨k1,U,S1,res,bL,g1,e1,w1⟩
def Cq{α β:Type}{R:Rp α β}{c:α}{b:β}{Q:β->Hp->Prop}(t:tX R K W q (λ_ S=>some (.ok c S)) Z H Q)(r:∀k H,R k H b c):Q b H:=by
 obtain⟨k,U,S,res,ok,gk,e,w⟩:=t;cases e;exact w.now ok (r k H)
def Js{c:Bool}{p p' q q':Prop}(h:if c=true then p else q)(h1:p->p')(h2:q->q'):if c=true then p' else q':=by
 lia
def yJ(ha:PT X a (tT K W q ft))(hb:PW X (.BoolOp .And (b::rest) pos) (tT K W q fu)):PW X (.BoolOp .And (a::b::rest) pos) (tT K W q (cX ft fu)):=(ZL ha hb).mono λZ H Q t=>
 oB (Gr t) λc H1 z=>Js z id λz=>Cq z λ_ _=>rfl
def Cz(ha:PT X a (tT K W q ft))(hb:PW X (.BoolOp .Or (b::rest) pos) (tT K W q fu)):PW X (.BoolOp .Or (a::b::rest) pos) (tT K W q (jK ft fu)):=(e7g ha hb).mono λZ H Q t=>
 oB (Gr t) λc H1 z=>Js z (λz=>Cq z λ_ _=>rfl) id
def yD(ha:PE X a (tE K W q f))(hb:PE X (.BoolOp .And (b::rest) pos) (tE K W q g)):PE X (.BoolOp .And (a::b::rest) pos) (tE K W q (yL f g)):=(ZN ha hb).mono λZ H Q t=>
 oB (RL (Gr t)) λx H1 ⟨c,e,z⟩=>⟨c,e,Js z id λz=>Cq z λ_ _=>ag.flat rfl .nil⟩
def Cu{c:Expr}(hc:PT X c (tT K W q ft))(ha:PE X a (tE K W q f))(hb:PE X b (tE K W q g)):PE X (.IfExp c a b pos) (tE K W q (yM ft f g)):=(Vu hc ha hb).mono λZ H Q t=>Gr t
end
noncomputable def oG(S:aV):Val->aj (D×aV)
 |.d x=>some (x,S)
 |.c n=>(S.s[n]?).bind λc=>match c with
  |.o b=>some (b.d,⟨S.s.set n (.z b),S.r⟩)
  |.z b=>some (b.d,S)
  |.ins _ _=>none
def qu:List Val->aV->aj (List D×aV)
 |[],S=>some ([],S)
 |v::vs,S=>(oG S v).bind λp=>(qu vs p.2).map λq=>(p.1::q.1,q.2)
section
variable{K:aJ}{k:Kn}{H:Hp}{S S':aV}
def FQ{v:Val}{d:D}(ok:cf K k H S)(h:dc K k x v)(e:oG S v=some (d,S')):∃k',(∀q,Up q k H k' H)/\cf K k' H S'/\ag K k' [x] [d]:=by
 cases v with
 |d y=>cases e;exact⟨k,λ_=>.refl,ok,h⟩
 |c n=>
  obtain⟨p,rfl,hp⟩:=h;obtain⟨c,h1,e⟩:=cy.mp e;cases c with
  |o b=>
   cases e;obtain⟨F',fZ,u,rp⟩:=ok.Kg hp h1;exact⟨_,u,fZ,rp⟩
  |z b=>cases e;exact⟨k,λ_=>.refl,ok,(ok.s.at' n p _ hp h1).2⟩
  |ins C fs=>cases e
def FR{xs:List V}(ok:cf K k H S)(h:Paired (dc K k) xs vs)(e:qu vs S=some (ds,S')):∃k',(∀q,Up q k H k' H)/\cf K k' H S'/\ag K k' xs ds:=by
 induction vs generalizing xs ds k S with
 |nil=>cases e;cases h;exact⟨k,λ_=>.refl,ok,.nil⟩
 |cons v vs ih=>
  cases h with
  |cons r t=>
   obtain⟨⟨v1,S1⟩,e1,e⟩:=cy.mp e;obtain⟨⟨vs2,S2⟩,e2,e⟩:=dm.mp e;cases e;obtain⟨k1,u1,bL,r1⟩:=FQ ok r e1;obtain⟨k2,u2,cS,r2⟩:=ih bL (vQ.up t (u1 0)) e2;exact⟨k2,λb=>(u1 b).trans (u2 b),cS,.cons (r1.mono (u2 0).le) r2⟩
end
noncomputable def LG(t:Bool)(p:List D×aV):Rs Rv:=.ok (if t=true then .v (.d (.tup p.1)) else .o (.lst p.1)) p.2
def aZ(t:Bool)(g:GA):GE:=λU S=>bd (g U S) λvs S1=>if vs.length<=1000000 then(qu vs S1).map (LG t) else none
section
variable{X:Cx}{K:aJ}{W:XW}{q:Nat}{es:List Expr}{fs:GA}{pos:Pos}{Z:St}{H:Hp}
def ml{n:Nat}(h:n<=1000000):n<=sizeLine:=jo h (by decide)
def QC{t:Bool}{Q:VK}(h:tE K W q (aZ t fs) Z H Q):gG K W q fs Z H λxs H1=>xs.length<=sizeLine/\∀p,H1 p=none->Q (.ref p) (upd H1 p (if t=true then .tup xs else .lst xs)):=by
 obtain⟨k,U,S,res,ok,gk,e,w⟩:=h;refine tX.bd ok gk e w λvs S1 xs k1 H1 bL g1 r1 e1 w1 _=>?_
 split at e1
 .rename_i hl
  refine⟨by rw[Paired.length r1];exact ml hl,λp hp=>?_⟩
  obtain⟨⟨ds,S2⟩,e2,e3⟩:=dm.mp e1;obtain⟨k2,u2,cS,r2⟩:=FR bL r1 e2;have w2:=w1.up (u2 q);cases e3;cases t with
  |false=>exact kT.lst (.fin cS w2) cS.le r2 hp
  |true=>exact kT.tup (.fin cS w2) cS.le r2 hp
 .cases e1
def yF{x1}(h:PA X es (gG K W q fs)):PE X (.Tuple es x1 pos) (tE K W q (aZ true fs)):=(Z8 h).mono λZ H Q t=>QC t
def yE(h:PA X es (gG K W q fs)):PE X (.List es pos) (tE K W q (aZ false fs)):=(Z9 h).mono λZ H Q t=>QC t
end
variable{base:bT}{env:Env}{outer:List Env}{L e C:ai}{dx:aj ai}{n:Nat}{H:Hp}{Q:Unit->aq->Prop}
structure gd (fs ch:List ai) (h h':bT):Prop where
 keep:∀b o,b∉fs->b∉ch->h.get? b=some o->h'.get? b=some o
 slot:∀b o,b∈fs->b∉ch->h.get? b=some o->∃sl,h'.get? b=some { o with slots:=sl}
def iL(n:Nat)(h:bT)(H:Hp)(e C:ai)(dx:aj ai):Prop:=n<=e/\H e=none/\∃oe vs,h.get? e=some oe/\oe.cls=.ref C/\oe.dict=dx/\oe.data=.fields vs/\1<vs.size/\
 (vs[1]?=some .none\/∃T oT ts,vs[1]?=some (.ref T)/\n<=T/\H T=none/\T≠e/\h.get? T=some oT/\oT.data=.fields ts/\ts[3]?=some .none)
def UC(f:Array ah->Array ah)(o:Obj):(Obj.mapFields f o).dict=o.dict:=by obtain⟨c,d,dt,sl⟩:=o;cases dt <;> rfl
section
variable{M:Model}{A:cP}{E:ah->aq->Prop}{s:aq}
def Po{oe:Obj}{vs:Array ah}{head:ah}{had:Bool}
  (sC:A.frames=some (env::outer)) (hl:s.heap.FunFrames base (env::outer)) (hf:env.frame=some L) (he:s.heap.get? e=some oe) (hc:oe.cls=.ref C) (hx:oe.dict=dx) (hd:oe.data=.fields vs) (hsz:1<vs.size) (hn:n<=s.heap.objs.size) (gF:n<=e) (t7:H e=none) (hH:∀a,s.heap.objs.size<=a->H a=none)
  (h:∀h',gd (kf (env::outer)) [e] s.heap h'->iL n h' H e C dx->Q () { s with heap:=h'}) :
  wpAny M A (do let a <-frameOf env;let pl <-entryPlaceOf L had;let b <-EntryCells.newEntry head a .none (rawInt L) .none pl;setField (.ref e) 1 b) (λ_ s'=>wpAny M A (setFlight (.ref e) none) Q E s') E s:=by
 have ene:e∉kf (env::outer):=λm=>by
  obtain⟨_,o,ho,KH⟩:=hl.mem m
  simp_all
 refine ay (wpAny_frameOf_fun sC hl hf λh1 so=>ay (wpAny_entryPlaceOf λpl jU=>?_))
 unfold EntryCells.newEntry newFields;refine ay (wpAny_newObj_type ?_ (jU.sizeOk5 _ _ _ _ _));generalize eN:({ cls:=.type "traceback",dict:=none,data:=.fields ([head,.ref L,.none,rawInt L,.none]++(if pl.isEmpty then List.replicate 6 Value.none else pl)).toArray}:Obj)=oN
 have e1:h1.get? e=some oe:=(so.2.1 e ene).trans he;have e2:(h1.push oN).get? e=some oe:=cZ _ e1;have nT:h1.objs.size≠e:=xq (cQ e1);have fN:oN.data=.fields ([head,.ref L,.none,rawInt L,.none]++(if pl.isEmpty then List.replicate 6 Value.none else pl)).toArray:=by rw[<-eN]
 have lN:3<([head,.ref L,.none,rawInt L,.none]++(if pl.isEmpty then List.replicate 6 Value.none else pl)).toArray.size:=by simp only[eE,dU,kG,Ba];lia
 have dE:=Obj.data_mapFields hd (·.setIfInBounds 1 (Value.ref h1.objs.size))
 have e3:=qJ (Obj.mapFields (·.setIfInBounds 1 (Value.ref h1.objs.size))) e2 (Obj.isFreed_of_fields dE)
 have t3:((h1.push oN).update e (Obj.mapFields (·.setIfInBounds 1 (Value.ref h1.objs.size)))).get? h1.objs.size=some oN:=(oQ _ _ (Ne.symm nT)).trans (iZ h1 (Obj.isFreed_of_fields fN))
 have dT:=Obj.data_mapFields fN (·.setIfInBounds 3 ((none:aj ai).elim Value.none λf=>rawInt f))
 refine wpAny_setField e2 hd hsz ?_;unfold setFlight;refine ay (wpAny_field e3 dE (x:=.ref h1.objs.size) (by simp[hsz]) ?_)
 rw[bx (show(Value.ref h1.objs.size != Value.none)=true by simp)]
 refine wpAny_setField t3 fN lN (h _ ⟨λb o hb nX g=>?_,λb o hb nX g=>?_⟩ ⟨gF,t7,_,_,(oQ _ _ nT).trans e3,(Obj.cls_mapFields _ _).trans hc,(UC _ _).trans hx,dE,by simpa using hsz,.inr ⟨h1.objs.size,_,_,by simp[hsz],by rw[so.1];exact hn,hH _ (by rw[so.1];exact bZ _),nT,qJ _ t3 (Obj.isFreed_of_fields dT),dT,by simp[Array.getElem?_setIfInBounds,lN]⟩⟩)
 .have be:b≠e:=λz=>nX (by simp[z])
  have b1:h1.get? b=some o:=(so.2.1 b hb).trans g;rw[oQ _ _ (xq (cQ b1)),oQ _ _ (Ne.symm be)];exact cZ _ b1
 .have be:b≠e:=λz=>nX (by simp[z])
  obtain⟨sl,b1⟩:=so.2.2 b o g;refine⟨sl,?_⟩;rw[oQ _ _ (xq (cQ b1)),oQ _ _ (Ne.symm be)];exact cZ _ b1
def QD
  (sC:A.frames=some (env::outer)) (hl:s.heap.FunFrames base (env::outer)) (hf:env.frame=some L) (hn:n<=s.heap.objs.size) (hH:∀a,s.heap.objs.size<=a->H a=none) (fl:iL n s.heap H e C dx)
  (h:∀h' ch,(∀b∈ch,n<=b/\H b=none)->gd (kf (env::outer)) ch s.heap h'->iL n h' H e C dx->Q () { s with heap:=h'}):wpAny M A (noteFrame (.ref e) env) (λ_ s'=>wpAny M A (setFlight (.ref e) none) Q E s') E s:=by
 obtain⟨gF,t7,oe,vs,he,hc,hx,hd,hsz,h1⟩:=fl;unfold noteFrame;simp only[hf];rcases h1 with h1|⟨T,oT,ts,h1,G1,GK,GL,hT,CN,h3⟩
 .refine ay (wpAny_field he hd h1 ?_);rw[bc (by decide)]
  exact Po sC hl hf he hc hx hd hsz hn gF t7 hH λh' l f=>h h' [e] (λb m=>by cases kH.1 m;exact⟨gF,t7⟩) l f
 .refine ay (wpAny_field he hd h1 ?_);rw[bx (show(Value.ref T != Value.none)=true by simp)]
  refine ay (wpAny_field hT CN h3 ?_);rw[bc (show ¬(Value.none == rawInt L)=true by simp[rawInt])]
  refine ay (wpAny_setField hT CN (vM.mp h3).1 ?_);have ot:∀b,b≠T->(s.heap.update T (Obj.mapFields (·.setIfInBounds 3 Value.none))).get? b=s.heap.get? b:=λb z=>oQ _ _ (Ne.symm z)
  have nr:∀b o,s.heap.get? b=some o->(∀vs,o.data≠.fields vs)->b≠T:=λb o hb KH z=>by
   simp_all
  refine Po (s:={ s with heap:=s.heap.update T (Obj.mapFields (·.setIfInBounds 3 Value.none))}) sC (hl.of_keeps λb o hb KH=>⟨o,(ot b (nr b o hb KH)).trans hb,rfl⟩) hf ((ot e (Ne.symm GL)).trans he) hc hx hd hsz (by simpa[Heap.size_after_update] using hn) gF t7 (λa z=>hH a (by simpa[Heap.size_after_update] using z)) λh' l f=>h h' [e,T] (λb m=>?_) ⟨λb o hb nX g=>?_,λb o hb nX g=>?_⟩ f
  .simp only[y0b,y1v,or_false] at m;rcases m with rfl|rfl
   .exact⟨gF,t7⟩
   .exact⟨G1,GK⟩
  .simp only[y0b,y1v,or_false,not_or] at nX;exact l.keep b o hb (by simp[nX.1]) ((ot b nX.2).trans g)
  .simp only[y0b,y1v,or_false,not_or] at nX;exact l.slot b o hb (by simp[nX.1]) ((ot b nX.2).trans g)
def XE
  (sC:A.frames=some (env::outer)) (hl:s.heap.FunFrames base (env::outer)) (hf:env.frame=some L) (hn:n<=s.heap.objs.size) (hH:∀a,s.heap.objs.size<=a->H a=none) (fl:iL n s.heap H e C dx)
  (h:∀h' ch,(∀b∈ch,n<=b/\H b=none)->gd (kf (env::outer)) ch s.heap h'->iL n h' H e C dx->Q () { s with heap:=h'}):wpAny M A (leaving env (.ref e)) Q E s:=by
 unfold leaving;exact ay (QD sC hl hf hn hH fl h)
end
variable{n:Nat}{h h':bT}{H:Hp}{e C:ai}{dx:aj ai}{X:Cx}{ch:List ai}{r:Rv}{x:Str}{k:Kn}{Q:VK}
structure EC (P:dq) (w:cF) (outer:List Env) (H:Hp) (s:aq) (H':Hp) (s':aq) (e C:ai) (dx:aj ai):Prop where
 os:s'.os=s.os
 bare:AllBare s'.gens
 un:Un (kf outer) [] H H' s.heap s'.heap
 bG:i9 P w H' s'.heap
 GD:iL s.heap.objs.size s'.heap H' e C dx
def mV(P:dq)(w:cF):tM:=λouter H s E e s'=>∃a C dx H',e=.ref a/\EC P w outer H s H' s' a C dx/\E (.ref C) dx H'
def fM(X:Cx)(W:XW):Prop:=∀(aa:List (ai×Obj)) (Z:St) (H:Hp) (s:aq) (H':Hp) (s':aq) (e C:ai) (dx:aj ai),Inv X aa Z H s->EC X.prog X.w X.stack H s H' s' e C dx->W C dx Z H'->X.xe (.ref e) s'
def iL.mono{n':Nat}(f:iL n h H e C dx)(l:n'<=n):iL n' h H e C dx:=by
 obtain⟨a,b,oe,vs,c1,c2,c3,c4,c5,c6⟩:=f;refine⟨jo l a,b,oe,vs,c1,c2,c3,c4,c5,?_⟩;rcases c6 with c6|⟨T,oT,ts,d1,d2,d3⟩
 .exact .inl c6
 .exact .inr ⟨T,oT,ts,d1,jo l d2,d3⟩
def iL.lt(f:iL n h H e C dx):n<=h.objs.size:=by
 obtain⟨a,b,oe,vs,c1,_⟩:=f;exact Eo (Mn a (cQ c1))
def EC.inv{aa:List (ai×Obj)}{Z:St}{H':Hp}{s s':aq}(c:EC X.prog X.w X.stack H s H' s' e C dx)(I:Inv X aa Z H s):Inv X aa Z H' s':=
 I.wb (ch:=[]) c.os c.un c.bG c.bare λ_ z=>nomatch z
def gd.bG{P:dq}{w:cF}{fs:List ai}(l:gd fs ch h h')(k:i9 P w H h)(hf:∀b∈fs,H b=none)(hc:∀b∈ch,H b=none):i9 P w H h':=λb o q=>
 (k b o q).mE (λc u z g=>l.keep c u (λm=>by
  simp_all) (λm=>by
  simp_all) g) (λ_ z=>z) λ_ _ z=>z
def gd.any{fs:List ai}(l:gd fs ch h h'){b:ai}{o:Obj}(g:h.get? b=some o)(hc:b∉ch):∃sl,h'.get? b=some { o with slots:=sl}:=by
 by_cases m:b∈fs
 .exact l.slot b o m hc g
 .exact⟨o.slots,l.keep b o m hc g⟩
def WF(E:XK):XW:=λC dx _ H'=>E (.ref C) dx H'
section
variable{P:dq}{w:cF}{K:aJ}{mg:Str->aj ah}{base:bT}{N:List Str}{qual:Str}{scope:Scope}{f:ai}{cd:ah}{A:cP}{outer:List Env}{s₀:aq}{H₀:Hp}{E:XK}
def vk:fM (lX (mV P w) P w K mg base N qual scope f cd A outer s₀ H₀ E) (WF E):=by
 intro aa Z H s H' s' e C dx I c q;have I':=c.inv I;have sC:(A.deeper (envOfC qual scope s₀.heap.objs.size f cd)).frames=some (envOfC qual scope s₀.heap.objs.size f cd::outer):=I.ok.frames;have sz:s₀.heap.objs.size<=s.heap.objs.size:=I.sz;refine XE (base:=base) (L:=s₀.heap.objs.size) sC I'.stack rfl c.GD.lt (λa z=>I'.bG.fresh z) c.GD λh' ch kJ lx fl=>⟨e,C,dx,H',rfl,⟨I'.os,I'.bare,?_,lx.bG I'.bG I'.jX λb m=>(kJ b m).2,fl.mono sz⟩,q⟩
 have vg:∀b o,s₀.heap.get? b=some o->b∉ch:=λb o g m=>cz (f7 (cQ g) (jo sz (kJ b m).1)) (jY _)
 have nL:∀b o,s₀.heap.get? b=some o->b∉kf outer->b∉kf (envOfC qual scope s₀.heap.objs.size f cd::outer):=λb o g z m=>by
  rcases y0b.mp (show b∈s₀.heap.objs.size::kf outer from m) with m|m
  .exact cz (m ▸ cQ g) (jY _)
  .exact z m
 have B:Un (kf outer) [] H₀ H' s₀.heap s'.heap:=I'.base;refine⟨λb o g n hb hx=>lx.keep b o (nL b o g hb) (vg b o g) (B.keep b o g n hb hx),λb o g n hb hx=>?_,B.free,λb o g hx=>?_,B.k_,B.kg,B.k9⟩
 .obtain⟨sl,g1⟩:=B.slot b o g n hb hx;obtain⟨LI,g2⟩:=lx.any g1 (vg b o g);exact⟨LI,g2⟩
 .obtain⟨o',g1⟩:=B.there b o g hx;obtain⟨sl,g2⟩:=lx.any g1 (vg b o g);exact⟨_,g2⟩
def Dw:PassesOwn (model P w) (A.deeper (envOfC qual scope s₀.heap.objs.size f cd)) (envOfC qual scope s₀.heap.objs.size f cd) (lX (mV P w) P w K mg base N qual scope f cd A outer s₀ H₀ E).xe:=PassesOwn.leaving
end
def EW(W:XW):St->XK:=λZ c dx H'=>∃C,c=.ref C/\W C dx Z H'
def pI{W:XW}(h:fM X W):yp (mV X.prog X.w) X (EW W):=λaa Z H s e s' I h'=>by
 obtain⟨a,C,dx,H',rfl,c,C',hc,q⟩:=h';cases hc;exact h aa Z H s H' s' a C dx I c q
abbrev GM:=List Val->aV->aj (Rs Rv)
def tO(K:aJ)(q n:Nat)(m:GM):Sp:=λxs H Q E=>xs.length=n/\∃k vs S res,cf K k H S/\Paired (dc K k) xs vs/\m vs S=some res/\gL (RE K) K (WF E) q [] k H Q res
def jr(m:GM)(n:Nat):Prop:=∀vs S res,m vs S=some res->vs.length=n
noncomputable def av(m:GM)(g:GA):GE:=λU S=>bd (g U S) m
noncomputable def Rv.ref:Rv->aj Nat
 |.v (.d (.ref n))=>some n
 |_=>none
def Cell.jx(C:ai)(m:Str):Cell->Bool
 |.ins C' fs=>C' == C&&(fs.lookup m).isNone
 |_=>false
noncomputable def aW(C:ai)(x:Str)(m:GM)(f:GE)(g:GA):GE:=λU S=>bd (f U S) λr S1=>r.ref.bind λn=>if(S1.r[n]?).any (Cell.jx C x)=true then bd (g U S1) λvs S2=>m (.d (.ref n)::vs) S2 else none
noncomputable def Rv.wB:Rv->Bool
 |.v (.d .aM)=>true
 |_=>false
def Rv.sH(h:r.wB=true):r=.v (.d .aM):=by
 obtain(d|_)|_:=r
 .cases d <;> cases h;rfl
 all_goals cases h
noncomputable def si(C:ai)(m:GM)(g:GA):GE:=λU S=>bd (g U S) λvs S1=>bd (m (.d (.ref S1.r.length)::vs) ⟨S1.s,S1.r++[.ins C []]⟩) λr S2=>if r.wB=true then some (.ok (.v (.d (.ref S1.r.length))) S2) else none
def any_some{α:Type}{x:aj α}{p:α->Bool}(h:x.any p=true):∃c,x=some c/\p c=true:=by
 cases x with
 |none=>cases h
 |some c=>exact⟨c,rfl,h⟩
def Rv.mB(h:r.ref=some n):r=.v (.d (.ref n)):=by
 unfold Rv.ref at h;split at h
 .cases h;rfl
 .cases h
def UD{fs:List (Str×D)}{gs:List (Str×V)}(h:gs.map (·.1)=fs.map (·.1))(e:fs.lookup x=none):gs.lookup x=none:=by
 induction fs generalizing gs with
 |nil=>cases gs with
  |nil=>rfl
  |cons _ _=>cases h
 |cons p fs ih=>
  obtain⟨y,d⟩:=p;cases gs with
  |nil=>cases h
  |cons r gs=>
   grind
section
variable{X:Cx}{K:aJ}{W:XW}{Z:St}{H:Hp}{q n:Nat}{m:GM}{g:GA}{f:GE}
def gL.wf{res:Rs Rv}(w:gL (RE K) K W q Z k H Q res):gL (RE K) K (WF (EW W Z)) q [] k H Q res:=by
 cases res with
 |ok a S=>exact w
 |ex C l S=>exact λdx k' H' u k r=>⟨C,rfl,w dx k' H' u k r⟩
def XF(hm:jr m n)(t:tE K W q (av m g) Z H Q):gG K W q g Z H λxs H1=>tO K q n m (xs++[]) H1 Q (EW W Z):=by
 obtain⟨k,U,S,res,ok,gk,e,w⟩:=t;refine tX.bd ok gk e w λvs S1 xs k1 H1 bL g1 r1 e1 w1 _=>?_
 rw[jQ];exact⟨(Paired.length r1).trans (hm _ _ _ e1),k1,vs,S1,res,bL,r1,e1,w1.wf⟩
def Ca{S:aV}{fs:List (Str×D)}{x:V}(ok:cf K k H S)(r:ag K k [x] [.ref n])(hn:S.r[n]?=some (.ins C fs)):∃a dx gs,x=.ref a/\k.A[n]?=some a/\k.F a=none/\H a=some (.ins C dx gs)/\gs.map (·.1)=fs.map (·.1)/\ag K k (gs.map (·.2)) (fs.map (·.2)):=by
 obtain⟨a,rfl,h1⟩:=r.isRef;obtain⟨h0,dx,gs,h2,h3,h4⟩:=ok.r.at' n a _ h1 hn;exact⟨a,dx,gs,rfl,h1,h0,h2,h3,h4⟩
def Pp(hm:jr m n)(t:tE K W q (aW C x m f g) Z H Q):tq C x (tO K q n m) [] (EW W) (tE K W q f) (gG K W q g) Z H Q:=by
 obtain⟨k,U,S,res,ok,gk,e,w⟩:=t;refine tX.bd ok gk e w λr S1 y k1 H1 bL g1 r1 e1 w1 _=>?_
 obtain⟨j,e2,e3⟩:=cy.mp e1;clear e1;cases Rv.mB e2;split at e3
 .rename_i hi
  obtain⟨c,h1,h2⟩:=any_some hi;cases c with
  |ins C' fs=>
   obtain⟨h3,h4⟩:=zX.mp h2;cases(beq_iff_eq.mp h3);obtain⟨a,dx,gs,q1,q2,q3,q4,q5,q6⟩:=Ca bL r1 h1;refine⟨a,dx,gs,q1,q4,UD q5 (Option.isNone_iff_eq_none.mp h4),?_⟩;refine tX.bd bL g1 e3 w1 λvs S2 xs k2 H2 cS g2 r2 e2 w2 u2=>?_
   rw[jQ];have r3:Paired (dc K k2) (y::xs) (.d (.ref j)::vs):=.cons (dc.up (v:=.d (.ref j)) r1 u2) r2;exact⟨(Paired.length r3).trans (hm _ _ _ e2),k2,_,S2,res,cS,r3,e2,w2.wf⟩
  |_=>cases h2
 .cases e3
def XG(hm:jr m n)(t:tE K W q (si C m g) Z H Q):xm C (tO K q n m) [] (EW W) (gG K W q g) Z H Q:=by
 obtain⟨k,U,S,res,ok,gk,e,w⟩:=t;refine tX.bd ok gk e w λvs S1 xs k1 H1 bL g1 r1 e1 w1 _=>?_
 intro x dx hx hdx ne;rw[jQ];have sm:az H1 (upd (upd H1 dx (.own x)) x (.ins C dx [])):=(rR hdx).put (by rw[dH (Ne.symm ne)];exact hx)
 obtain⟨fx,nx⟩:=bL.fresh hx;have cS:cf K k1 _ S1:=bL.new (az.refl _) (λa _ o z=>sm a o z) (bL.le.trans sm) λ_ _ z=>z
 obtain⟨jN,u3⟩:=cS.wQ nx (c:=.ins C []) ⟨fx,dx,[],aK,rfl,.nil⟩;have h3:ag K ⟨k1.F,k1.A++[x],k1.T⟩ [.ref x] [.ref S1.r.length]:=.ref (by rw[<-bL.r.ln];exact FO) .nil
 have u4:Up q k1 H1 ⟨k1.F,k1.A++[x],k1.T⟩ (upd (upd H1 dx (.own x)) x (.ins C dx [])):=(Up.of (az.refl _) sm).trans (u3 q);have r3:Paired (dc K ⟨k1.F,k1.A++[x],k1.T⟩) (.ref x::xs) (.d (.ref S1.r.length)::vs):=.cons h3 (vQ.up r1 u4);rcases AD e1 with⟨r,S2,e2,e1⟩|⟨C',l,S2,e2,rfl⟩
 .refine⟨(Paired.length r3).trans (hm _ _ _ e2),_,_,_,_,jN,r3,e2,λv k' H' u fZ r'=>?_⟩
  split at e1
  .rename_i hr
   cases e1;cases Rv.sH hr;exact⟨(show ag K k' [v] [.aM] from r').aN rfl,w1 (.ref x) k' H' (u4.trans u) fZ (ag.mono u.le h3)⟩
  .cases e1
 .exact⟨(Paired.length r3).trans (hm _ _ _ e2),_,_,_,_,jN,r3,e2,λex k' H' u fZ r'=>⟨C',rfl,w1 ex k' H' (u4.trans u) fZ r'⟩⟩
end
end L2
set_option autoImplicit false
namespace L2
open PySem PySem.Spec PyProof.Rows
variable{p i:Nat}{P:St->Hp->Prop}{H:Hp}{Z:St}{ts:tP}
inductive Fr where
 |nx (U:Gm) (S:aV)|bk (U:Gm) (S:aV)|ct (U:Gm) (S:aV)|rt (r:Rv) (S:aV)|ex (C:ai) (l:aj Int) (U:Gm) (S:aV)
abbrev GS:=Gm->aV->aj Fr
section
variable(K:aJ)(W:XW)(q:Nat){D:Ends}{k k':Kn}{H H':Hp}{Z:St}{U:Gm}{S:aV}{fr:Fr}
def cb(k:Kn)(H:Hp)(P:St->Hp->Prop)(U:Gm)(S:aV):Prop:=∀Z' k' H',Up q k H k' H'->cf K k' H' S->hZ K k' Z' U->P Z' H'
def Done(D:Ends)(k:Kn)(H:Hp):Fr->Prop
 |.nx U S=>cb K q k H D.nx U S
 |.bk U S=>cb K q k H D.bk U S
 |.ct U S=>cb K q k H D.ct U S
 |.rt r S=>∀v k' H',Up q k H k' H'->cf K k' H' S->oA K k' H' v r->D.rt v H'
 |.ex C l U S=>∀dx Z' k' H',Up q k H k' H'->cf K k' H' S->hZ K k' Z' U->Bg k'.F dx l->W C dx Z' H'
def tS(f:GS):TS:=λD Z H=>∃k U S fr,cf K k H S/\hZ K k Z U/\f U S=some fr/\Done K W q D k H fr
variable{K W q}
def IU{q:Nat}{o:HO}(h:p<=q)(e:vd p o=true):vd q o=true:=by
 match p,q with
 |0,_=>cases e
 |1,0=>lia
 |1,1=>exact e
 |1,n+2=>rfl
 |n+2,0=>lia
 |n+2,1=>lia
 |n+2,m+2=>rfl
def Up.weak(u:Up q k H k' H')(h:p<=q):Up p k H k' H':=⟨u.f,u.a,u.t,λa o z e=>u.h a o (IU h z) e⟩
def cb.up(w:cb K q k H P U S)(u:Up q k H k' H'):cb K q k' H' P U S:=λZ' k2 H2 u2 ok g=>w Z' k2 H2 (u.trans u2) ok g
def cb.now(w:cb K q k H P U S)(ok:cf K k H S)(g:hZ K k Z U):P Z H:=w Z k H .refl ok g
theorem Done.up(w:Done K W q D k H fr)(u:Up q k H k' H'):Done K W q D k' H' fr:=by
 cases fr with
 |nx U S=>exact cb.up w u
 |bk U S=>exact cb.up w u
 |ct U S=>exact cb.up w u
 |rt r S=>exact λv k2 H2 u2 k r=>w v k2 H2 (u.trans u2) k r
 |ex C l U S=>exact λdx Z' k2 H2 u2 k g r=>w dx Z' k2 H2 (u.trans u2) k g r
theorem Done.weak{p:Nat}(w:Done K W q D k H fr)(h:q<=p):Done K W p D k H fr:=by
 cases fr with
 |nx U S=>exact λZ' k2 H2 u=>w Z' k2 H2 (u.weak h)
 |bk U S=>exact λZ' k2 H2 u=>w Z' k2 H2 (u.weak h)
 |ct U S=>exact λZ' k2 H2 u=>w Z' k2 H2 (u.weak h)
 |rt r S=>exact λv k2 H2 u=>w v k2 H2 (u.weak h)
 |ex C l U S=>exact λdx Z' k2 H2 u=>w dx Z' k2 H2 (u.weak h)
def kY{α:Type}(U:Gm)(x:aj (Rs α))(f:α->aV->aj Fr):aj Fr:=match x with
 |none=>none
 |some (.ok a S)=>f a S
 |some (.ex C l S)=>some (.ex C l U S)
def Pq{α:Type}{x:aj (Rs α)}{f:α->aV->aj Fr}(e:kY U x f=some fr):(∃a S,x=some (.ok a S)/\f a S=some fr)\/∃C l S,x=some (.ex C l S)/\fr=.ex C l U S:=by
 obtain _|_|_:=x
 .cases e
 .exact .inl ⟨_,_,rfl,e⟩
 .cases e;exact .inr ⟨_,_,_,rfl,rfl⟩
def tS.Cn{α β:Type}{R:Rp α β}{g:Gx α}{f:α->aV->aj Fr}{Q:β->Hp->Prop}(ok:cf K k H S)(gk:hZ K k Z U)(e:kY U (g U S) f=some fr)(w:Done K W q D k H fr)
  (h:∀a S1 b k1 H1,cf K k1 H1 S1->hZ K k1 Z U->R k1 H1 b a->f a S1=some fr->Done K W q D k1 H1 fr->Up q k H k1 H1->Q b H1):tX R K W q g Z H Q:=by
 rcases Pq e with⟨a,S1,e1,e⟩|⟨C,l,S1,e1,rfl⟩
 .exact⟨k,U,S,_,ok,gk,e1,λb k' H' u fZ r=>h a S1 b k' H' fZ (gk.up u) r e (w.up u) u⟩
 .exact⟨k,U,S,_,ok,gk,e1,λdx k' H' u fZ r=>w dx Z k' H' u fZ (gk.up u) r⟩
def tS.bd{α β:Type}{R:Rp α β}{g:Gx α}{f:α->aV->aj Fr}{Q:β->Hp->Prop}(ok:cf K k H S)(gk:hZ K k Z U)(e:kY U (g U S) f=some fr)(w:Done K W q D k H fr)
  (h:∀a S1 b k1 H1,cf K k1 H1 S1->hZ K k1 Z U->R k1 H1 b a->f a S1=some fr->Done K W q D k1 H1 fr->Q b H1):tX R K W q g Z H Q:=tS.Cn ok gk e w λa S1 b k1 H1 h1 h2 h3 h4 h5 _=>h a S1 b k1 H1 h1 h2 h3 h4 h5
end
def ny:GS:=λU S=>some (.nx U S)
noncomputable def eG(f g:GS):GS:=λU S=>(f U S).bind λr=>match r with
 |.nx U S=>g U S
 |r=>some r
noncomputable def aB(g:GE):GS:=λU S=>kY U (g U S) λr S1=>some (.rt r S1)
noncomputable def gY(c:GT)(f g:GS):GS:=λU S=>kY U (c U S) λb S1=>if b=true then f U S1 else g U S1
noncomputable def dr(g:GE):GS:=λU S=>kY U (g U S) λ_ S1=>some (.nx U S1)
def asg(mu:Bool)(S:aV):Rv->Val×aV
 |.o c=>if mu=true then(.c S.s.length,⟨S.s++[.o c],S.r⟩) else(.d c.d,S)
 |.v x=>(x,S)
def au(i:Nat)(mu:Bool)(g:GE):GS:=λU S=>kY U (g U S) λr S1=>if i<U.length then some (.nx (U.set i (some (asg mu S1 r).1)) (asg mu S1 r).2) else none
section
variable{X:Cx}{K:aJ}{W:XW}{q:Nat}{st:Stmt}{rest sa sb:List Stmt}{e c:Expr}{f g:GS}{lY:GE}{ft:GT}{pos:Pos}
def yG:i_ X [] (tS K W q ny):=pK.mono λD Z H t=>by
 obtain⟨k,U,S,fr,ok,gk,e,w⟩:=t;cases e;exact cb.now w ok gk
def uT(h1:PS X st (tS K W q f))(h2:i_ X rest (tS K W q g)):i_ X (st::rest) (tS K W q (eG f g)):=(Vv h1 h2).mono λD Z H t=>by
 obtain⟨k,U,S,fr,ok,gk,e,w⟩:=t;obtain⟨r,e1,e⟩:=cy.mp e;refine⟨k,U,S,r,ok,gk,e1,?_⟩;cases r with
 |nx U1 S1=>exact λZ' k' H' u fZ g'=>⟨k',U1,S1,fr,fZ,g',e,w.up u⟩
 |bk U1 S1=>cases e;exact w
 |ct U1 S1=>cases e;exact w
 |rt r S1=>cases e;exact w
 |ex C l U1 S1=>cases e;exact w
def yH(h:PE X e (tE K W q lY)):PS X (.Return (some e) pos) (tS K W q (aB lY)):=(ZO h).mono λD Z H t=>by
 obtain⟨k,U,S,fr,ok,gk,e,w⟩:=t;refine tS.bd ok gk e w λr S1 v k1 H1 bL g1 r1 e1 w1=>?_
 cases e1;exact w1 v k1 H1 .refl bL r1
def Cv(hc:PT X c (tT K W q ft))(ha:i_ X sa (tS K W q f))(hb:i_ X sb (tS K W q g)):PS X (.If c sa sb pos) (tS K W q (gY ft f g)):=(e7h hc ha hb).mono λD Z H t=>by
 obtain⟨k,U,S,fr,ok,gk,e,w⟩:=t;refine tS.bd ok gk e w λb S1 v k1 H1 bL g1 r1 e1 w1=>?_
 cases r1;cases b with
 |true=>exact sL ⟨k1,U,S1,fr,bL,g1,e1,w1⟩
 |false=>exact sJ ⟨k1,U,S1,fr,bL,g1,e1,w1⟩
def XH(he:PE X e (tE K W q lY))(hs:swapsWith e none pos.line X.env=pure false):PS X (.Expr e pos) (tS K W q (dr lY)):=(Xc he hs).mono λD Z H t=>by
 obtain⟨k,U,S,fr,ok,gk,e,w⟩:=t;refine tS.bd ok gk e w λr S1 v k1 H1 bL g1 r1 e1 w1=>?_
 cases e1;exact cb.now w1 bL g1
def δ{mu:Bool}{k:Kn}{S:aV}{x:V}{r:Rv}(ok:cf K k H S)(h:oA K k H x r):∃k',(∀q,Up q k H k' H)/\cf K k' H (asg mu S r).2/\dc K k' x (asg mu S r).1:=by
 cases r with
 |v y=>exact qQ ok h
 |o c=>
  cases mu with
  |false=>exact qQ (r:=.o c) ok h
  |true=>
   obtain⟨p,rfl,hF,hi,hc⟩:=h;obtain⟨bL,u⟩:=ok.pushS hF hi hc;exact⟨_,u,bL,p,rfl,by rw[<-ok.s.ln];exact FO⟩
def hZ.set{k:Kn}{Z:St}{U:Gm}{i:Nat}{x:V}{v:Val}(g:hZ K k Z U)(r:dc K k x v)(hi:i<U.length):hZ K k (Z.set i (some x)) (U.set i (some v)):=by
 refine⟨by rw[xt,xt,g.ln],λj w e=>?_⟩
 by_cases z:i=j
 .subst z;rw[vL hi] at e;cases e;exact⟨x,vL (g.ln ▸ hi),r⟩
 .rw[A9 z] at e ⊢;exact g.at' j w e
def QE{mu:Bool}{D:Ends}(t:tS K W q (au i mu lY) D Z H):tE K W q lY Z H λv H1=>D.nx (Z.set i (some v)) H1:=by
 obtain⟨k,U,S,fr,ok,gk,e,w⟩:=t;refine tS.bd ok gk e w λr S1 v k1 H1 bL g1 r1 e1 w1=>?_
 split at e1
 .cases e1;obtain⟨k2,u,cS,r2⟩:=δ (mu:=mu) bL r1;exact cb.now (cb.up w1 (u q)) cS ((g1.up (u q)).set r2 (by assumption))
 .cases e1
def ε{mu:Bool}{x:Str}{pos':Pos}(hN:X.N.Nodup)(hi:X.N[i]?=some x)(hx:Loc X.env.scope x)(he:PE X e (tE K W q lY))(hs:swapsWith e (some (.Name x pos')) pos.line X.env=pure false)(hf:X.fn x=true\/X.env.scope.names.lookup x=some .local):
  PS X (.Assign [.Name x pos'] e pos) (tS K W q (au i mu lY)):=(ZS hN hi hx he hs hf).mono λD Z H t=>QE t
def c_(c:GT)(f:GS):Nat->GS
 |0=>λ_ _=>none
 |n+1=>λU S=>kY U (c U S) λb S1=>if b=true then(f U S1).bind λr=>match r with
   |.nx U2 S2=>c_ c f n U2 S2
   |.ct U2 S2=>c_ c f n U2 S2
   |.bk U2 S2=>some (.nx U2 S2)
   |r=>some r
  else some (.nx U S1)
def r9(n:Nat)(hp:PassesOwn (model X.prog X.w) X.A X.env X.xe)(hc:PT X c (tT K W q ft))(hb:i_ X sa (tS K W q f)):PS X (.While c sa [] pos) (tS K W q (c_ ft f n)):=(Vw hp hc hb).mono λD Z H t=>by
 obtain⟨k,U,S,fr,ok,gk,e,w⟩:=t;refine⟨λn Z H=>∃k U S,cf K k H S/\hZ K k Z U/\c_ ft f n U S=some fr/\Done K W q D k H fr,⟨n,k,U,S,ok,gk,e,w⟩,?_⟩
 clear ok gk e w;rintro n Z H ⟨k,U,S,ok,gk,e,w⟩;cases n with
 |zero=>cases e
 |succ n=>
  refine tS.bd ok gk e w λb S1 v k1 H1 bL g1 r1 e1 w1=>?_
  cases r1;cases b with
  |false=>cases e1;exact sJ (cb.now w1 bL g1)
  |true=>
   refine sL ⟨λZ' H'=>∃k U S,cf K k H' S/\hZ K k Z' U/\c_ ft f n U S=some fr/\Done K W q D k H' fr,λZ' H' h=>⟨n,qH _,h⟩,?_⟩
   obtain⟨r,e2,e3⟩:=cy.mp (show((f U S1).bind _)=some fr from e1);refine⟨k1,U,S1,r,bL,g1,e2,?_⟩;cases r with
   |nx U2 S2=>exact λZ' k' H' u fZ g'=>⟨k',U2,S2,fZ,g',e3,w1.up u⟩
   |ct U2 S2=>exact λZ' k' H' u fZ g'=>⟨k',U2,S2,fZ,g',e3,w1.up u⟩
   |bk U2 S2=>cases e3;exact w1
   |rt r S2=>cases e3;exact w1
   |ex C l U2 S2=>cases e3;exact w1
end
abbrev GG:=D->Gm->aj Gm
variable{gs:List GG}
noncomputable def ae(i:Nat):GG:=λd U=>if i<U.length then some (U.set i (some (.d d))) else none
noncomputable def pz:List GG->List D->Gm->aj Gm
 |[],[],U=>some U
 |g::gs,d::ds,U=>(g d U).bind λU1=>pz gs ds U1
 |_,_,_=>none
def a_(gs:List GG):GG:=λd U=>match d with
 |.tup ds=>pz gs ds U
 |_=>none
section
variable{K:aJ}
def j_(K:aJ)(t:TG)(g:GG):Prop:=
 ∀(k:Kn) (H:Hp) (Z:St) (U U1:Gm) (x:V) (d:D) (Q:St->Hp->Prop),az k.F H->hZ K k Z U->ag K k [x] [d]->g d U=some U1->(∀Z',hZ K k Z' U1->Q Z' H)->t x Z H Q
def oX(K:aJ)(t:tP)(gs:List GG):Prop:=
 ∀(k:Kn) (H:Hp) (Z:St) (U U1:Gm) (xs:List V) (ds:List D) (Q:St->Hp->Prop),az k.F H->hZ K k Z U->ag K k xs ds->pz gs ds U=some U1->(∀Z',hZ K k Z' U1->Q Z' H)->t xs Z H Q
def vy:j_ K (pj i) (ae i):=by
 intro k H Z U U1 x v Q le gk r e w;unfold ae at e;split at e
 .cases e;exact w _ (gk.set (v:=.d v) r (by assumption))
 .cases e
def vA:oX K CF []:=by
 intro k H Z U U1 xs vs Q le gk r e w;cases vs with
 |nil=>cases e;exact⟨r.gz,w Z gk⟩
 |cons _ _=>cases e
def tD{t:TG}{g:GG}(h1:j_ K t g)(h2:oX K ts gs):oX K (we t ts) (g::gs):=by
 intro k H Z U U1 xs vs Q le gk r e w;cases vs with
 |nil=>cases e
 |cons d ds=>
  obtain⟨U2,e1,e2⟩:=cy.mp e;obtain⟨x,xs,rfl,r1,r2⟩:=r.cw;exact⟨_,_,rfl,h1 k H Z U U2 _ _ _ le gk r1 e1 λZ1 g1=>h2 k H Z1 U2 U1 _ _ Q le g1 r2 e2 w⟩
def UE:∀{gs:List GG} {vs:List D} {U U1:Gm},pz gs vs U=some U1->vs.length=gs.length:=by
 intro gs
 induction gs with
 |nil=>intro vs U U1 e;cases vs with
  |nil=>rfl
  |cons _ _=>cases e
 |cons g gs ih=>intro vs U U1 e;cases vs with
  |nil=>cases e
  |cons v vs=>obtain⟨U2,_,e2⟩:=cy.mp e;exact congrArg (·+1) (ih e2)
def zS{n:Nat}(h:oX K ts gs)(hn:n=gs.length):j_ K (yN K n ts) (a_ gs):=by
 intro k H Z U U1 x d Q le gk r e w;cases d with
 |tup es=>
  obtain⟨a,ws,rfl,sq,rp⟩:=r.isTup;exact⟨a,ws,rfl,le.zO sq,by rw[hn,<-UE e,rp.length],h k H Z U U1 _ _ Q le gk rp e w⟩
 |_=>cases e
end
def gD(g:GE):Gx D:=λU S=>bd (g U S) λr S1=>(oG S1 (mF r)).map λp=>.ok p.1 p.2
abbrev RD(K:aJ):Rp D V:=λk _ x d=>ag K k [x] [d]
section
variable{X:Cx}{K:aJ}{W:XW}{q:Nat}{g:GE}{gg:GG}{t:TG}{e tg:Expr}{pos:Pos}
def L3{Q:VK}(t:tX (RD K) K W q (gD g) Z H Q):tE K W q g Z H Q:=by
 obtain⟨k,U,S,res,ok,gk,e,w⟩:=t;refine tX.bd ok gk e w λr S1 x k1 H1 bL g1 r1 e1 w1 _=>?_
 obtain⟨p,e2,rfl⟩:=dm.mp e1;obtain⟨k2,u2,cS,r2⟩:=qQ bL r1;obtain⟨k3,u3,jN,r3⟩:=FQ cS r2 e2;exact((w1.up (u2 q)).up (u3 q)).now jN r3
end
variable{N:List Str}{n p:Nat}{m:GS}
def aV.cut(S:aV)(b:Nat):aV:=⟨S.s.take b,S.r⟩
def Cm:Cell->aj Rv
 |.o x=>some (.o x)
 |.z x=>some (.v (.d x.d))
 |_=>none
def back(b:Nat)(S:aV):Rv->aj Rv
 |.v (.c n)=>if n<b then some (.v (.c n)) else(S.s[n]?).bind Cm
 |r=>some r
def leave(b:Nat):Fr->aj (Rs Rv)
 |.nx _ S=>some (.ok (.v (.d .aM)) (S.cut b))
 |.rt r S=>(back b S r).map λr'=>.ok r' (S.cut b)
 |.ex C l _ S=>some (.ex C l (S.cut b))
 |_=>none
def runM(p n:Nat)(m:GS):GM:=λvs S=>if vs.length=p then(m (vs.map some++List.replicate (n - vs.length) none) S).bind (leave S.s.length) else none
section
variable{K:aJ}{k k':Kn}{H H':Hp}{S:aV}{q b:Nat}
def XI{v:V}{r r':Rv}(ok:cf K k H S)(h:oA K k H v r)(e:back b S r=some r'):oA K ⟨k.F,k.A,k.T.take b⟩ H v r':=by
 have go:k.le ⟨k.F,k.A,k.T.take b⟩:=⟨az.refl _,lh _⟩;cases r with
 |o c=>
  cases e;obtain⟨a,e1,e2,e3,e4⟩:=h;exact⟨a,e1,e2,λm=>e3 ((dF.mp m).elim (Ep _) λm=>n9 _ (List.mem_of_mem_take m)),e4.keep go λ_ z=>z⟩
 |v x=>
  cases x with
  |d y=>cases e;exact ag.mono go h
  |c n=>
   obtain⟨a,e1,e2⟩:=h;unfold back at e;dsimp only at e;split at e
   .rename_i hn
    cases e;exact⟨a,e1,by rw[List.getElem?_take,bx hn];exact e2⟩
   .rename_i hn
    obtain⟨c,h1,h2⟩:=cy.mp e;have h3:=ok.s.at' n a c e2 h1;cases c with
    |ins _ _=>cases h2
    |z x=>cases h2;rw[e1];exact ag.mono go h3.2
    |o x=>
     cases h2;obtain⟨n1,n2,n3⟩:=lJ.mp ok.nd;refine⟨a,e1,h3.1,λm=>?_,h3.2.keep go λ_ z=>z⟩
     rcases dF.mp m with m|m
     .exact n3 a m a (qI e2) rfl
     .obtain⟨j,hj⟩:=zW.mp m;rw[List.getElem?_take] at hj;split at hj
      .rename_i GX
       have:=Ot n2 hj e2;lia
      .cases hj
def UG{xs:List V}{vs:List Val}(h:Paired (dc K k) xs vs)(hn:N.length=n):hZ K k (start N xs) (vs.map some++List.replicate (n - vs.length) none):=by
 have hl:=Paired.length h;refine⟨by unfold start;simp[hl,hn],λi v e=>?_⟩
 by_cases hi:i<vs.length
 .rw[uf (by rw[bw];exact hi),f9] at e
  obtain⟨w,e1,e2⟩:=dm.mp e;cases e2;obtain⟨x,h1,h2⟩:=Fh i h e1;refine⟨x,?_,h2⟩;unfold start;rw[uf (by rw[bw,hl];exact hi),f9,h1]
  rfl
 .rw[ue (by rw[bw];lia),Mj] at e
  split at e <;> cases e
end
section
variable{P:dq}{w:cF}{K:aJ}{mg:Str->aj ah}{base:bT}
def ζ{x qual:Str}{st:Stmt}{f:ai}{fd:lu}{ps:List Str}{k q:Nat}(F:tN K x qual st f fd)(S:iM N ps (qm st))(hp:ps.length=p)(hn:N.length=n)
  (sr:∀(gR:ah) (A:cP) (outer:List Env) (s:aq) (H:Hp) (E:XK),cC k (A.deeper (envOfC qual (qm st) s.heap.objs.size f gR))->i_ (lX (mV P w) P w K mg base N qual (qm st) f gR A outer s H E) (x_ st) (tS K (WF E) q m)) :
  d_ P w K mg base (mV P w) (k+1) f fd ps (tO K q p (runM p n m)):=by
 obtain⟨oc,od,kV,doc,pm,an,gR,ct,pH,rfl,lk,sx⟩:=F.ex;refine e7l lk sx S (λvs H Q E h=>h.1.trans hp.symm) λA outer s H xs Q E hr wm=>⟨_,sr gR A outer s H E hr,?_⟩
 obtain⟨hl,k,vs,S,res,ok,rp,e,w⟩:=wm;unfold runM at e;split at e
 .obtain⟨fr,e1,e2⟩:=cy.mp e;refine⟨k,_,S,fr,ok,UG rp hn,e1,?_⟩;have lb:k.T.length<=S.s.length:=Es ok.s.ln;cases fr with
  |nx U S'=>
   cases e2;exact λZ' k' H' u fZ g'=>w .aM _ H' (u.take lb) (fZ.take _) (show ag K _ [.aM] [.aM] from .flat rfl .nil)
  |bk U S'=>cases e2
  |ct U S'=>cases e2
  |rt r S'=>
   obtain⟨r',e3,rfl⟩:=dm.mp e2;exact λv k' H' u fZ r1=>w v _ H' (u.take lb) (fZ.take _) (XI fZ r1 e3)
  |ex C l U S'=>
   cases e2;exact λdx Z' k' H' u fZ g' el=>w dx _ H' (u.take lb) (fZ.take _) el
 .cases e
def qE:jr (runM p n m) p:=λvs S res e=>by
 unfold runM at e;split at e
 .assumption
 .cases e
end
section
variable{prog:dq}{w:cF}{A:cP}{E:ah->aq->Prop}{h:bT}{g:Array GenState}{d:Drawn}{t:Nat}{os:OsState}
variable{nm q:Str}{C N:ai}{bs bm yx:List ah}{hdct:Bool}{sn:List Str}{sub:List ah}{ab:Bool}{col:aj Bool}{dd:aj ai}{k0 k1 k2 k3 k5:aj ah}{B Bn newId Sq mf Sh:String}{O5:List ah}
def Eb(Fn:ExcBaseFacts Bn newId Sh O5)(GI:yx.contains (.type Bn)=true)(F:ExcBaseFacts B Sq mf yx)(T:OwnTail h yx bm){mN:Str->aj ah}{rest:List ah}{Q:Fin->aq->Prop}
  (hC:h.get? C=some (excClassObj nm q C N bs bm hdct sn sub ab col dd k0 k1 k2 k3 k5 newId)) (hn:h.Ns N mN) (sE:rest.length<=sizeLine)
  (hq:∀i,i=(mN "__init__").getD (.builtin mf)->wpAny (model prog w) A (bindSpecial i (.ref (h.objs.size+1))) (λp s'=>wpAny (model prog w) A (call p.1 (p.2++rest)) (λr s_=>r=.none/\Q (.done (.ret (.ref (h.objs.size+1)))) s_) E s') E ⟨((h.push { cls:=.type "tuple",data:=.seq rest.toArray}).push { cls:=.ref C,data:=.fields #[.ref h.objs.size,.none,.none,.none,.bool false,.none]}),g,d,t,os⟩) :
  wpAny (model prog w) A (Builtin.«type.__call__» ⟨.ref C::rest,[]⟩) Q E ⟨h,g,d,t,os⟩:=by
 repeat (first|with_reducible refine wpAny_loadPart_at hC ?_|with_reducible refine wpAny_madeBy_exc hC ?_|wp_step)
 refine codeAny_call_builtin_code (Code.quiet_builtin _ Fn.quiet) (wpAny_check_new_subU Fn GI T hC (codeAny_exc_new_subU Fn GI F T hC ?_ sE));show wpAny _ _ _ _ _ _;have st:∀b o,h.get? b=some o->((h.push { cls:=.type "tuple",data:=.seq rest.toArray}).push { cls:=.ref C,data:=.fields #[.ref h.objs.size,.none,.none,.none,.bool false,.none]}).get? b=some o:=λb o e=>cZ _ (cZ _ e)
 have hC₁:=st _ _ hC;have yR:((h.push { cls:=.type "tuple",data:=.seq rest.toArray}).push { cls:=.ref C,data:=.fields #[.ref h.objs.size,.none,.none,.none,.bool false,.none]}).get? (h.objs.size+1)=some { cls:=.ref C,data:=.fields #[.ref h.objs.size,.none,.none,.none,.bool false,.none]}:=by heap_get
 have hcC:(Value.ref C::bm).contains (.ref C)=true:=by simp
 unfold isInstance
 repeat (first|with_reducible refine wpAny_loadPart_at yR ?_|(with_reducible refine wpAny_isSubtype_exc hC₁ ?_;rw[hcC])|wp_step)
 show wpAny _ _ (typeLookup (.ref C) _) _ _ _;refine wpAny_typeLookup_tail hC₁ (hn.keeps st) (T.keeps st) F.mroIs F.init.lookup ?_;cases hv:mN "__init__" with
 |none=>
  refine jq (ay (wpAny_mono (hq _ (by rw[hv];rfl)) (λp s' z=>ay (wpAny_mono z (λr s_ y=>?_) λ_ _ y=>y)) λ_ _ y=>y))
  obtain⟨rfl,y⟩:=y
  wp_walk
  exact y
 |some v=>
  refine jq (ay (wpAny_mono (hq _ (by rw[hv];rfl)) (λp s' z=>ay (wpAny_mono z (λr s_ y=>?_) λ_ _ y=>y)) λ_ _ y=>y))
  obtain⟨rfl,y⟩:=y
  wp_walk
  exact y
def VQ(Fn:ExcBaseFacts Bn newId Sh O5)(GI:yx.contains (.type Bn)=true)(F:ExcBaseFacts B Sq mf yx)(T:OwnTail h yx bm){mN:Str->aj ah}{rest:List ah}{Q:ah->aq->Prop}
  (hC:h.get? C=some (excClassObj nm q C N bs bm hdct sn sub ab col dd k0 k1 k2 k3 k5 newId)) (hn:h.Ns N mN) (sE:rest.length<=sizeLine)
  (hq:∀i,i=(mN "__init__").getD (.builtin mf)->wpAny (model prog w) (A.under (.builtin "type.__call__" ⟨.ref C::rest,[]⟩)) (bindSpecial i (.ref (h.objs.size+1))) (λp s'=>wpAny (model prog w) (A.under (.builtin "type.__call__" ⟨.ref C::rest,[]⟩)) (call p.1 (p.2++rest)) (λr s_=>r=.none/\Q (.ref (h.objs.size+1)) s_) E s') E ⟨((h.push { cls:=.type "tuple",data:=.seq rest.toArray}).push { cls:=.ref C,data:=.fields #[.ref h.objs.size,.none,.none,.none,.bool false,.none]}),g,d,t,os⟩) :
  wpAny (model prog w) A (call (.ref C) rest) Q E ⟨h,g,d,t,os⟩:=by
 have f1:=tc_lookup;have f2:=tc_bind (.ref C);have hT:(⟨h,g,d,t,os⟩:aq).TypeIs (.ref C) "type":=⟨_,hC,rfl⟩;refine wpAny_call (codeAny_of_tree (show wpAny _ _ (callAny (.ref C) _) _ _ _ from ?_))
 repeat (any_goals (first|assumption|with_reducible refine wpAny_loadPart_at hC ?_|wp_step))
 exact⟨rfl,codeAny_call_builtin_at (Code.quiet_builtin _ (by decide +kernel)) entry_typeCall (wpAny_check_type_call_sub hC (Eb Fn GI F T hC hn sE λi e=>hq i e))⟩
end
end L2
namespace L2
open PySem PySem.Spec PySem.W PySem.Calls PyProof.Rows
noncomputable def sd(C t:ai)(d:aj ai):Obj:={ cls:=.ref C,dict:=d,data:=.fields #[.ref t,.none,.none,.none,.bool false,.none]}
section
variable{prog:dq}{w:cF}{A:cP}{E:ah->aq->Prop}{h:bT}{g:Array GenState}{d:Drawn}{tt:Nat}{os:OsState}{x t:ai}
variable{nm q:Str}{C N:ai}{bs bm yx:List ah}{hdct:Bool}{sn:List Str}{sub:List ah}{ab:Bool}{col:aj Bool}{dd:aj ai}{k0 k1 k2 k3 k5:aj ah}{newId:String}
def Ek{u:ah}{Q:ah->aq->Prop}(T:OwnTail h [.type "ValueError",.type "Exception",.type "BaseException",.type "object"] bm)(hC:h.get? C=some (excClassObj nm q C N bs bm hdct sn sub ab col dd k0 k1 k2 k3 k5 newId))(hx:h.get? x=some (sd C t none))
  (hq:∀h',h'.get? x=some (sd C h.objs.size none)->(∀b o,b≠x->h.get? b=some o->h'.get? b=some o)->Q .none ⟨h',g,d,tt,os⟩) :
  wpAny (model prog w) A (call (.builtin "ValueError.__init__") [.ref x,u]) Q E ⟨h,g,d,tt,os⟩:=by
 have FB:=F.excBase_ValueError;have t_:h.get? x=some { cls:=.ref C,data:=.fields #[.ref t,.none,.none,.none,.bool false,.none]}:=hx;refine wpAny_call (codeAny_call_builtin FB.init.plain FB.initEntry (wpAny_check_init_subU FB T hC t_ rfl ?_))
 wp_walk
 refine hq _ ?_ λb o n e=>?_
 .rw[qJ _ (cZ _ t_) rfl];rfl
 .rw[oQ _ _ (Ne.symm n)];exact cZ _ e
end
noncomputable abbrev qR:List ah:=[.type "ValueError",.type "Exception",.type "BaseException",.type "object"]
def f_(K:fX)(C:ai)(bm:List ah)(G6:aj ah):Prop:=∃nm q N bs sn sub ab col dd k0 k1 k2 k3 k5 on A2 es ep A3,
 K.lookup C=some (excClassObj nm q C N bs bm true sn sub ab col dd k0 k1 k2 k3 k5 "ValueError.__new__")/\K.lookup N=some ⟨on,A2,.dict es ep,A3⟩/\StrKeys es/\nsFind es "__init__"=G6
section
variable{K:fX}{C C' B0 a:ai}{bm JD:List ah}{i i':aj ah}{l:aj Int}
theorem f_.cls(G:f_ K C bm i):∃cd,clsIn K C=some cd/\cd.mro=.ref C::bm/\cd.hasDict=true/\typeIn K (.ref C)=some (.type "type"):=by
 obtain⟨nm,q,N,bs,sn,sub,ab,col,dd,k0,k1,k2,k3,k5,on,A2,es,ep,A3,g1,g2,g3,g4⟩:=G;exact⟨_,by unfold clsIn;rw[g1],rfl,rfl,by show(K.lookup C).map (·.cls)=_;rw[g1];rfl⟩
def f_.sub(G:f_ K C bm i)(b:ah):subIn K (.ref C) b=some ((Value.ref C::bm).contains b):=by
 obtain⟨cd,c1,c2,c3,c4⟩:=G.cls;show mroIn K C b=_;unfold mroIn;rw[c1,zY,c2];rfl
def f_.exm{C C':ai}{bm JD:List ah}{i i':aj ah}(G:f_ K C bm i)(G':f_ K C' JD i')(h:(Value.ref C'::JD).contains (.type "BaseException")=true):exmOne K (.ref C) (.ref C')=some ((Value.ref C::bm).contains (.ref C')):=by
 obtain⟨cd,c1,c2,c3,c4⟩:=G'.cls;unfold exmOne;rw[G'.sub,h,bx (by decide)]
 unfold kitCls;dsimp only;rw[bx (by rw[c1,c4];rfl)]
 exact G.sub _
end
section
variable{X:Cx}{aa:List (ai×Obj)}{Z:St}{H:Hp}{s:aq}{C B0:ai}{R:ah->aq->Prop}
def VR{u:ah}(G:f_ X.K C (.ref B0::qR) none)(G0:f_ X.K B0 qR none)(I:Inv X aa Z H s)(h:∀h' t,(∀b o,s.heap.get? b=some o->h'.get? b=some o)->h'.get? (s.heap.objs.size+1)=some (sd C t none)->R (.ref (s.heap.objs.size+1)) { s with heap:=h'}):
  wpAny (model X.prog X.w) X.A (call (.ref C) [u]) R X.xe s:=by
 obtain⟨hh,g,d,tt,os⟩:=s;have KX:X.K.In hh:=I.jV;obtain⟨nm,q,N,bs,sn,sub,ab,col,dd,k0,k1,k2,k3,k5,on,A2,es,ep,A3,g1,g2,g3,g4⟩:=G;obtain⟨nm',q',N',bs',sn',sub',ab',col',dd',k0',k1',k2',k3',k5',on',odn',es',lF,sln',g1',g2',g3',g4'⟩:=G0;have FB:=F.excBase_ValueError;have T:OwnTail hh qR (.ref B0::qR):=.own (KX _ _ g1') (mA:=λn=>nsFind es' n) ⟨_,_,_,KX _ _ g2',rfl,g3',λ_=>rfl⟩ g4' .base
 refine VQ FB rfl FB T (KX _ _ g1) (mN:=λn=>nsFind es n) ⟨_,_,_,KX _ _ g2,rfl,g3,λ_=>rfl⟩ (by rw[sizeLine_eq];exact(by decide:1<=16777216)) λi ei=>?_
 rw[g4] at ei;subst ei;have st:∀b o,hh.get? b=some o->((hh.push { cls:=.type "tuple",data:=.seq [u].toArray}).push { cls:=.ref C,data:=.fields #[.ref hh.objs.size,.none,.none,.none,.bool false,.none]}).get? b=some o:=λb o e=>cZ _ (cZ _ e)
 have yR:((hh.push { cls:=.type "tuple",data:=.seq [u].toArray}).push { cls:=.ref C,data:=.fields #[.ref hh.objs.size,.none,.none,.none,.bool false,.none]}).get? (hh.objs.size+1)=some (sd C hh.objs.size none):=by unfold sd;heap_get
 refine wpAny_of_eq (FB.init.bind _) (Ek (T.keeps st) (st _ _ (KX _ _ g1)) yR λh' e1 e2=>?_)
 exact⟨rfl,h h' _ (λb o z=>e2 b o (gH (uh (cQ z))) (st b o z)) e1⟩
end
noncomputable abbrev Cx.eL(X:Cx)(pn:List (ai×Obj))(E:ah->aq->Prop):Cx:={ X with pn:=pn,xe:=E}
noncomputable abbrev Cx.eK(X:Cx)(e:ah):Cx:={ X with A:=X.A.mark (some e),calm:=false,xe:=λ_ _=>False}
structure Bp (X:Cx) (aa:List (ai×Obj)) (n:Nat):Prop where
 s:X.s₀.heap.objs.size<=n
 l:X.env.locals<n
 c:∀x c,X.env.cells.lookup x=some c->c<n
 p:∀q∈X.pn++aa,q.1<n
section
variable{X:Cx}{aa nF:List (ai×Obj)}{pn:List (ai×Obj)}{Z:St}{H:Hp}{s:aq}{E:ah->aq->Prop}{n:Nat}{ch:List ai}{h':bT}
def Cx.Ok.eL(ok:X.Ok):(X.eL pn E).Ok:=⟨ok.mod,ok.kind,ok.glob,ok.blt,ok.above,ok.inj,ok.has,ok.yy,ok.hd,ok.frames,ok.A5,ok.GC,ok.bs,ok.rY,ok.oK,ok.qt,ok.iP,ok.uU⟩
def Cx.Ok.eU(ok:(X.eL pn E).Ok):X.Ok:=⟨ok.mod,ok.kind,ok.glob,ok.blt,ok.above,ok.inj,ok.has,ok.yy,ok.hd,ok.frames,ok.A5,ok.GC,ok.bs,ok.rY,ok.oK,ok.qt,ok.iP,ok.uU⟩
theorem Inv.eL(I:Inv X aa Z H s):Inv (X.eL (X.pn++aa) E) [] Z H s:=⟨I.ok.eL,I.os,I.bare,I.base,I.loc,I.cell,I.free,I.eZ,λp hp=>I.pin p (by rw[jQ] at hp;exact hp),I.bG,I.len⟩
theorem Inv.eU(I:Inv (X.eL (X.pn++aa) E) nF Z H s):Inv X aa Z H s:=⟨I.ok.eU,I.os,I.bare,I.base,I.loc,I.cell,I.free,I.eZ,λp hp=>I.pin p (Ep _ hp),I.bG,I.len⟩
def Inv.eK{e:ah}(I:Inv X aa Z H s):Inv (X.eK e) aa Z H s:=
 ⟨⟨I.ok.mod,I.ok.kind,I.ok.glob,I.ok.blt,I.ok.above,I.ok.inj,I.ok.has,I.ok.yy,λz=>(nomatch z),I.ok.frames,I.ok.A5,I.ok.GC,I.ok.bs,I.ok.rY,I.ok.oK,I.ok.qt,I.ok.iP,I.ok.uU⟩,I.os,I.bare,I.base,I.loc,I.cell,I.free,I.eZ,I.pin,I.bG,I.len⟩
def Inv.fq{e:ah}(I:Inv (X.eK e) aa Z H s)(hd:X.calm=true->X.A.handled=none):Inv X aa Z H s:=
 ⟨⟨I.ok.mod,I.ok.kind,I.ok.glob,I.ok.blt,I.ok.above,I.ok.inj,I.ok.has,I.ok.yy,hd,I.ok.frames,I.ok.A5,I.ok.GC,I.ok.bs,I.ok.rY,I.ok.oK,I.ok.qt,I.ok.iP,I.ok.uU⟩,I.os,I.bare,I.base,I.loc,I.cell,I.free,I.eZ,I.pin,I.bG,I.len⟩
def Inv.SM(I:Inv X aa Z H s):Bp X aa s.heap.objs.size:=⟨I.sz,I.lt,λx c e=>by obtain⟨v,o,ho,_⟩:=I.cell x c e;exact cQ ho,λq hq=>cQ (I.pin q hq).1⟩
def Bp.far(y:Bp X aa n){b:ai}(h:n<=b):(b∈X.ex\/X.s₀.heap.objs.size<=b)/\b≠X.env.locals/\(∀x c,X.env.cells.lookup x=some c->c≠b)/\∀p∈X.pn++aa,p.1≠b:=
 ⟨.inr (jo y.s h),λz=>cz (f7 y.l h) (z ▸ jY _),λx c e z=>cz (f7 (y.c x c e) h) (z ▸ jY _),λp hp z=>cz (f7 (y.p p hp) h) (z ▸ jY _)⟩
def gd.un{fs:List ai}{h:bT}(l:gd fs ch h h'):Un fs ch H H h h':=
 ⟨λb o g _ hb hx=>l.keep b o hb hx g,λb o g _ hb hx=>l.slot b o hb hx g,λ_ _ _ n _=>n,λb o g hx=>let ⟨_,g2⟩:=l.any g hx;⟨_,g2⟩,λ_ _ q=>q,λ_ _ _ q=>q,λ_ ps q=>⟨#[],by rw[q];simp⟩⟩
def Inv.left{t':Nat}(I:Inv X aa Z H s)(y:Bp X aa n)(l:gd (kf X.stack) ch s.heap h')(kJ:∀b∈ch,n<=b/\H b=none):Inv X aa Z H { s with heap:=h',toks:=t'}:=
 I.call (g':=s.gens) (d':=s.drawn) (ch:=ch) l.un (l.bG I.bG I.jX λb m=>(kJ b m).2) I.bare λb m=>y.far (kJ b m).1
def VS{M:Model}{A:cP}{e C:ai}{dx:aj ai}{Q:Unit->aq->Prop}(fl:iL n s.heap H e C dx)(h:∀h' ch,(∀b∈ch,n<=b/\H b=none)->gd (kf X.stack) ch s.heap h'->iL n h' H e C dx->Q () { s with heap:=h'}):wpAny M A (setFlight (.ref e) none) Q E s:=by
 obtain⟨gF,t7,oe,vs,he,hc,hx,hd,hsz,h1⟩:=fl;unfold setFlight;rcases h1 with h1|⟨T,oT,ts,h1,G1,GK,GL,hT,CN,h3⟩
 .refine ay (wpAny_field he hd h1 ?_);rw[bc (by decide)]
  exact aR (h s.heap [] (λ_ z=>nomatch z) ⟨λ_ _ _ _ g=>g,λ_ o _ _ g=>⟨o.slots,g⟩⟩ ⟨gF,t7,oe,vs,he,hc,hx,hd,hsz,.inl h1⟩)
 .refine ay (wpAny_field he hd h1 ?_);rw[bx (show(Value.ref T != Value.none)=true by simp)]
  have l3:3<ts.size:=(vM.mp h3).1;have dT:=Obj.data_mapFields CN (·.setIfInBounds 3 ((none:aj ai).elim Value.none λf=>rawInt f))
  refine wpAny_setField hT CN l3 (h _ [T] (λb m=>by cases kH.1 m;exact⟨G1,GK⟩) ⟨λb o _ hb g=>(oQ _ _ (by simpa using Ne.symm (by simpa using hb:b≠T))).trans g,λb o _ hb g=>⟨o.slots,(oQ _ _ (by simpa using Ne.symm (by simpa using hb:b≠T))).trans g⟩⟩ ⟨gF,t7,oe,vs,(oQ _ _ GL).trans he,hc,hx,hd,hsz,.inr ⟨T,_,_,h1,G1,GK,GL,qJ _ hT (Obj.isFreed_of_fields dT),dT,by simp[Array.getElem?_setIfInBounds,l3]⟩⟩)
end
end L2
namespace L2
open PySem PySem.Spec PyProof.Rows
variable{P:dq}{w:cF}{K:aJ}{tg l:Expr}{X:Cx}{ta:TA}{p pos:Pos}{Q:aj ah->aq->Prop}{n t' x1:Nat}{ob:Obj}{L:List ai}{elts:List Expr}{it:ai}
def rJ(K:aJ)(a:ai)(n:Nat):It:=
 ⟨λi H=>i<n/\∃xs,cW K H a xs/\xs.length=n,λi H x H'=>H'=H/\∀xs,cW K H a xs->xs[n - 1 - i]?=some x,λi H=>n<=i⟩
def VT(a it:ai)(n:Nat):Turn P w K tg (rJ K a n) [it] it (λi h=>i<=n/\h.IsRevIter it a ((n:Int) - 1 - i)) where
 mem:=by simp
 obj:=λi h st b hb=>by
  have e:b=it:=by simpa using hb
  subst e;obtain⟨_,o,e,c,d⟩:=st
  simp_all
 keep:=λi h h' st k=>⟨st.1,st.2.at λo e=>k it (by simp) o e⟩
 item:=by
  intro X hP hw hK hc i aa s Z H E I hf st hg;subst hP hw hK;obtain⟨hi,xs,hq,hx⟩:=hg;obtain⟨aE,rv,p,hz⟩:=I.list hq;have t_:xs[n - 1 - i]?=some xs[n - 1 - i]:=iH (by lia)
  obtain⟨u,hu,ru⟩:=rv.get t_;obtain⟨f0,f1,f2,f3,f4,f5⟩:=hf it (by simp)
  have qU:s.heap.IsRevIter it a (((n - 1 - i:Nat):Int)):=by
   lia
  refine wpAny_pyNext_rev_item qU p.isList (x:=u) (by simpa using hu) λh' jC sb=>?_
  have I1:Inv X aa Z H { s with heap:=h'}:=I.turned (t':=s.toks) (λb o hb e=>(sb.2 b hb).trans e) f0 f1 f3 f4 f5
  obtain⟨o,e,c,d⟩:=id jC;refine⟨u,rfl,yv (s:={ s with heap:=h'}) e c d (by decide) ⟨_,H,I1,ru,⟨rfl,λys hy=>by rw[I.kx hy hq];exact t_⟩,⟨by lia,?_⟩,λb hb=>(hf b hb).1⟩⟩
  grind
 done:=by
  intro X hP hw hK hc i aa s Z H E I hf st hg;subst hP hw hK;obtain⟨f0,f1,f2,f3,f4,f5⟩:=hf it (by simp)
  have hg:n<=i:=hg;have qU:s.heap.IsRevIter it a (-1):=by
   grind
  exact wpAny_pyNext_rev_end (I.ok.hd hc) qU λh' eb=>⟨rfl,I.turned (t':=s.toks) (λb o hb e=>eb b o hb e) f0 f1 f3 f4 f5⟩
 self:=λ_ _ _ _ _ st h=>wpAny_pyIter_revIter st.2 h
def C4(K:aJ)(ta:TA):TI:=λZ H R=>ta Z H λvs H1=>∃a xs,vs=[.ref a]/\cW K H1 a xs/\R (rJ K a xs.length) H1
def η(hg:Gl X "reversed")(hm:X.mg "reversed"=none)(ha:PA X [l] ta)(hs:starEach [l] X.env=[(false,eval l X.env)]:=by rfl):PI X tg (.Call (.Name "reversed" p) [l] [] pos) (C4 X.K ta):=by
 intro aa s Z H R I h;refine Call_ (tR I hg hm boot_reversed (PyProof.Rows.callWith_type1 (bM (ha pos aa s Z H _ I h) λus s1 hh=>?_) hs rfl))
 obtain⟨vs,H1,I1,r1,q1⟩:=hh;obtain⟨a,xs,e,hq,q⟩:=q1;subst e;cases r1 with
 |cons r rr=>
  cases rr;cases r;obtain⟨aE,rv,pl,hz⟩:=I1.list hq;have hl:=rv.length;refine call_reversed_list pl.isList ?_;have st:(s1.heap.push (revObj a ((aE.toArray.size:Int) - 1))).IsRevIter s1.heap.objs.size a ((aE.toArray.size:Int) - 1):=⟨_,iZ _ rfl,rfl,rfl⟩;refine wpAny_pyIter_revIter st ?_;refine⟨s1.heap.objs.size,[s1.heap.objs.size],_,_,H1,rfl,I1.kept (t':=s1.toks) λb o e=>cZ _ e,VT a _ xs.length,⟨kO _,?_⟩,λb hb=>?_,q⟩
  .simp_all
  .have e:b=s1.heap.objs.size:=by simpa using hb
   subst e;exact I1.k6 (bZ _) (I1.bG.fresh (bZ _))
section
variable{X:Cx}{aa:List (ai×Obj)}{Z:St}{H:Hp}{A:cP}{E:ah->aq->Prop}{s:aq}{d it:ai}{es:List (TK×V×V)}{ep i:Nat}
theorem Ow{Q:ah->aq->Prop}(I:Inv X aa Z H s)(hd:H d=some (.dG es ep))
  (hQ:Q (.ref s.heap.objs.size) { s with heap:=s.heap.push { cls:=.type "dict_keyiterator",data:=.fields #[.ref d,.int 0 0,.int es.length 0,.int ep 0]}}):wpAny (model X.prog X.w) A (pyIter (.ref d)) Q E s:=by
 obtain⟨_,z,ob,xs,g1,g5,g2,g3,g4⟩:=(show bI X.prog X.w H s.heap d (.dG es ep) from I.bG d _ hd);have hT:s.TypeIs (.ref d) "dict":=⟨ob,g1,g5.1⟩;have hl:xs.size=es.length:=by have:=Paired.length g3;simpa using this.symm
 refine wpAny_pyIter_slot hT F.slot_dict_iter (wpAny_call_entry F.slot_dict_iter hT F.entry_dict_iter ?_ (F.args_dict_iter_1 _));unfold Builtin.«dict.__iter__»;refine ay ?_;unfold Builtin.Dict.dictSlotNone;refine ay (wpAny_notOrdered_dict hT (show wpAny _ _ (pure (Value.ref d)) _ _ s from aR (show wpAny _ _ (Builtin.Dict.showsAll d >>= _) _ _ s from ?_)));unfold Builtin.Dict.showsAll;rw[bc (by rw[z];exact tH)]
 refine ay (aR (ay (wpAny_dictEntries g1 g2 (ay (wpAny_dictEpoch g1 g2 ?_)))));refine ay (wpAny_newObj_type (aR ⟨_,rfl,"dict_keyiterator",_,⟨_,iZ _ rfl,rfl⟩,F.slot_dict_keyiterator_next.lookup,?_⟩));simpa[rawInt,hl] using hQ
theorem Np{xs:Array DictEntry}(g1:s.heap.get? d=some ob)(g2:ob.data=.dict xs ep)(hl:xs.size=n)(hit:s.heap.IsKeyIter it d i n ep)(lt':i<xs.size)
  (hQ:∀h',h'.IsKeyIter it d (i+1) n ep->Heap.SameBut it s.heap h'->Q (some xs[i].key) { s with heap:=h'}):wpAny (model P w) A (pyNext (.ref it)) Q E s:=by
 obtain⟨o,k1,k2,k3⟩:=id hit;unfold pyNext;refine ay (wpAny_attempt (wpAny_callSpecial?_slot (name:=Str.ofString "__next__") hit.typeIs F.slot_dict_keyiterator_next (wpAny_call_entry F.slot_dict_keyiterator_next hit.typeIs F.entry_dict_keyiterator_next (ay (aR (ay (ay ?_)))) (F.args_dict_keyiterator_next_1 _))))
 (first|refine ay (wpAny_typeNameOfWhole_keyiter hit.typeIs (aR ?_))|refine ay (wpAny_typeNameOf_keyiter hit.typeIs (aR ?_)));refine ay (wpAny_fieldsOf k1 k3 ?_)
 have zx:Builtin.Dict_items.ownsTuple "dict_keyiterator"=false:=by decide
 rw[zx]
 (show wpAny _ _ (if(Value.ref d == Value.none)=true then _ else _) _ _ s);rw[bc (show ¬((Value.ref d == Value.none)=true) from tH)]
 refine ay (aR (ay (wpAny_dictEntries g1 g2 ?_)));rw[bc (by rw[hl];simp)]
 refine ay (aR (ay (wpAny_dictEpoch g1 g2 ?_)));rw[bc (by simp)]
 refine aR ?_;dsimp only;rw[bc (show ¬((i:Int)<0) by lia),Ml,qV lt']
 refine ay ?_
 (first|refine ay (wpAny_typeNameOfWhole_keyiter hit.typeIs (aR ?_))|refine ay (wpAny_typeNameOf_keyiter hit.typeIs (aR ?_)));refine ay (wpAny_isOneOf_keyiter hit.typeIs ?_)
 (show wpAny _ _ (setField (.ref it) 1 (rawInt ((i:Int)+1)) >>= _) _ _ s);refine ay (wpAny_setField k1 k3 (by simp) ?_)
 have CS:(s.heap.update it (Obj.mapFields (·.setIfInBounds 1 (rawInt ((i:Int)+1))))).IsKeyIter it d (i+1) n ep:=
  ⟨_,qJ _ k1 (Obj.isFreed_of_fields (Obj.data_mapFields k3 _)),(Obj.cls_mapFields ..).trans k2,by rw[Obj.data_mapFields k3];simp[rawInt]⟩
 refine ay (jq (ay (wpAny_isOneOf_keyiter (s:={ s with heap:=s.heap.update it (Obj.mapFields (·.setIfInBounds 1 (rawInt ((i:Int)+1))))}) CS.typeIs ?_)))
 show wpAny _ _ (pure xs[i].key) _ _ _;exact aR (aR ⟨_,rfl,aR (hQ _ CS (Heap.SameBut.update ..))⟩)
def TM(I:Inv X aa Z H s)(hd:H d=some (.dG es ep))(hit:s.heap.IsKeyIter it d i es.length ep){e:TK×V×V}(hx:es[i]?=some e)
  (hQ:∀key h',RelV e.2.1 key->h'.IsKeyIter it d (i+1) es.length ep->Heap.SameBut it s.heap h'->Q (some key) { s with heap:=h'}):wpAny (model X.prog X.w) A (pyNext (.ref it)) Q E s:=by
 obtain⟨_,z,ob,xs,g1,g5,g2,g3,g4⟩:=(show bI X.prog X.w H s.heap d (.dG es ep) from I.bG d _ hd);have hl:xs.size=es.length:=by have:=Paired.length g3;simpa using this.symm
 obtain⟨x,x1,x2⟩:=BI i g3 hx;have lt':i<xs.size:=by
  grind
 have ex:xs[i]=x:=by
  have:xs[i]?=some x:=by rw[<-ui];exact x1
  rw[qV lt'] at this;exact Option.some.inj this
 exact Np g1 g2 hl hit lt' λh' wD sb=>hQ _ h' (by rw[ex];exact x2.2.1) wD sb
theorem NN{xs:Array DictEntry}(hh:A.handled=none)(g1:s.heap.get? d=some ob)(g2:ob.data=.dict xs ep)(hl:xs.size=n)(hit:s.heap.IsKeyIter it d i n ep)(hx:n<=i)
  (hQ:∀h',Heap.ExtBut it s.heap h'->Q none { s with heap:=h'}):wpAny (model P w) A (pyNext (.ref it)) Q E s:=by
 obtain⟨o,k1,k2,k3⟩:=id hit;unfold pyNext;refine ay (wpAny_attempt (wpAny_callSpecial?_slot (name:=Str.ofString "__next__") hit.typeIs F.slot_dict_keyiterator_next (wpAny_call_entry F.slot_dict_keyiterator_next hit.typeIs F.entry_dict_keyiterator_next (ay (aR (ay (ay ?_)))) (F.args_dict_keyiterator_next_1 _))))
 (first|refine ay (wpAny_typeNameOfWhole_keyiter hit.typeIs (aR ?_))|refine ay (wpAny_typeNameOf_keyiter hit.typeIs (aR ?_)));refine ay (wpAny_fieldsOf k1 k3 ?_)
 have zx:Builtin.Dict_items.ownsTuple "dict_keyiterator"=false:=by decide
 rw[zx]
 (show wpAny _ _ (if(Value.ref d == Value.none)=true then _ else _) _ _ s);rw[bc (show ¬((Value.ref d == Value.none)=true) from tH)]
 refine ay (aR (ay (wpAny_dictEntries g1 g2 ?_)));rw[bc (by rw[hl];simp)]
 refine ay (aR (ay (wpAny_dictEpoch g1 g2 ?_)));rw[bc (by simp)]
 refine aR ?_;have hge:xs.size<=i:=by lia
 dsimp only;rw[bc (show ¬((i:Int)<0) by lia),Ml,Array.getElem?_eq_none hge]
 refine ay ?_
 (first|refine ay (wpAny_typeNameOfWhole_keyiter hit.typeIs (aR ?_))|refine ay (wpAny_typeNameOf_keyiter hit.typeIs (aR ?_)));(show wpAny _ _ (setField (.ref it) 0 .none >>= _) _ _ s);refine ay (wpAny_setField k1 k3 (by simp) ?_)
 (show wpAny _ _ (newExc (.type "StopIteration") [] >>= _) _ _ _);refine ay ?_
 simp only[newExc,newTuple];refine ay (wpAny_newObj_type (ay (m:=firstArgMember _ _) (wpAny_of_eq (a:=Value.none) (by first|rfl|(simp only[firstArgMember];rfl)) (wpAny_newObj_type ?_ (by size_fits)))) (by size_fits))
 refine ay (wpAny_handled ?_);rw[show A.in1.handled=none from hh]
 (refine ay (aR (wpAny_throw ?_)));refine ay (wpAny_isInstance (T:="StopIteration") (b:=true) ⟨_,iZ _ rfl,rfl⟩ isSubtype_stop ?_)
 exact aR (hQ _ (((Heap.SameBut.update ..).extBut.push _).push _))
def UH(hh:A.handled=none)(I:Inv X aa Z H s)(hd:H d=some (.dG es ep))(hit:s.heap.IsKeyIter it d i es.length ep)(hx:es.length<=i)
  (hQ:∀h',Heap.ExtBut it s.heap h'->Q none { s with heap:=h'}):wpAny (model X.prog X.w) A (pyNext (.ref it)) Q E s:=by
 obtain⟨_,z,ob,xs,g1,g5,g2,g3,g4⟩:=(show bI X.prog X.w H s.heap d (.dG es ep) from I.bG d _ hd);exact NN hh g1 g2 (by have:=Paired.length g3;simpa using this.symm) hit hx hQ
end
def HK(a:ai)(n ep:Nat):It:=
 ⟨λi H=>∃es,H a=some (.dG es ep)/\es.length=n/\i<n,λi H x H'=>H'=H/\∀es,H a=some (.dG es ep)->∃e,es[i]?=some e/\e.2.1=x,λi H=>∃es,H a=some (.dG es ep)/\es.length=n/\n<=i⟩
def UI(a it:ai)(n ep:Nat):Turn P w K tg (HK a n ep) [it] it (λi h=>h.IsKeyIter it a i n ep) where
 mem:=by simp
 obj:=λi h st b hb=>by
  have e:b=it:=by simpa using hb
  subst e;obtain⟨o,e,c,d⟩:=st
  simp_all
 keep:=λi h h' st k=>st.at λo e=>k it (by simp) o e
 item:=by
  intro X hP hw hK hc i aa s Z H E I hf st hg;subst hP hw hK;obtain⟨es,hd,hl,hi⟩:=hg;subst hl;obtain⟨f0,f1,f2,f3,f4,f5⟩:=hf it (by simp)
  refine TM I hd st (e:=es[i]) (iH hi) λkey h' rk jC sb=>?_
  have I1:Inv X aa Z H { s with heap:=h'}:=I.turned (t':=s.toks) (λb o hb e=>(sb.2 b hb).trans e) f0 f1 f3 f4 f5
  obtain⟨o,e,c,d⟩:=id jC;refine⟨key,rfl,yv (s:={ s with heap:=h'}) e c d (by decide) ⟨es[i].2.1,H,I1,rk,⟨rfl,λys hy=>?_⟩,jC,λb hb=>(hf b hb).1⟩⟩
  simp_all
 done:=by
  intro X hP hw hK hc i aa s Z H E I hf st hg;subst hP hw hK;obtain⟨es,hd,hl,hi⟩:=hg;subst hl;obtain⟨f0,f1,f2,f3,f4,f5⟩:=hf it (by simp)
  exact UH (I.ok.hd hc) I hd st hi λh' eb=>⟨rfl,I.turned (t':=s.toks) (λb o hb e=>eb b o hb e) f0 f1 f3 f4 f5⟩
 self:=λ_ _ _ _ _ st h=>wpAny_pyIter_keyiter st h
def wo(tl:TE):TI:=λZ H R=>tl Z H λx H1=>∃a es ep,x=.ref a/\H1 a=some (.dG es ep)/\R (HK a es.length ep) H1
def XJ{tl:TE}(hl:PE X l tl):PI X tg l (wo tl):=by
 intro aa s Z H R I h;refine bM (hl aa s Z H _ I h) λv s1 hh=>?_
 obtain⟨x,H1,I1,r1,q1⟩:=hh;obtain⟨a,es,ep,e,hd,q⟩:=q1;subst e;cases r1;refine Ow I1 hd ?_;refine⟨s1.heap.objs.size,[s1.heap.objs.size],_,_,H1,rfl,I1.kept (t':=s1.toks) λb o e=>cZ _ e,UI a _ _ _,⟨_,iZ _ rfl,rfl,rfl⟩,λb hb=>?_,q⟩
 have e:b=s1.heap.objs.size:=by simpa using hb
 subst e;exact I1.k6 (bZ _) (I1.bG.fresh (bZ _))
def JX{w1 w2:TI}(h1:PI X tg l w1)(h2:PI X tg l w2):PI X tg l (λZ H R=>w1 Z H R\/w2 Z H R):=by
 intro aa s Z H R I h;rcases h with h|h
 .exact h1 aa s Z H R I h
 .exact h2 aa s Z H R I h
open PySem PySem.Spec PyProof.Rows
section
variable{X:Cx}{aa:List (ai×Obj)}{Z:List (aj V)}{H:Hp}{s:aq}{h':bT}
def Inv.vE{T:ai}{o:HO}(I:Inv X aa Z H s)(k:∀b ob,b∉L->s.heap.get? b=some ob->h'.get? b=some ob)(hL:∀b∈L,i8 X aa H b)(hT:s.heap.objs.size<=T)
  (new:bI X.prog X.w (upd H T o) h' T o):Inv X aa Z (upd H T o) { s with heap:=h',toks:=t'}:=by
 have hn:H T=none:=I.bG.fresh hT;have nL:∀b u,H b=some u->b∉L:=λb u e z=>by rw[(hL b z).1] at e;cases e
 have nT:∀b u,H b=some u->b≠T:=λb u e z=>by rw[z,hn] at e;cases e
 refine I.step (g':=s.gens) (d':=s.drawn) (ch:=L) (λb hb=>?_) (λb ob _ _ hc e _=>k b ob hc e) (λb ob _ _ hc e _=>⟨ob.slots,k b ob hc e⟩) (λb ob _ e n=>?_)
  (λb ob hc e=>⟨ob,k b ob hc e⟩) (λb xs e=>?_) (λb ob u e=>?_) (λb ps e=>⟨#[],?_⟩) (λm hm=>?_) (λb u e=>?_) I.bare
 .obtain⟨f0,f1,f2,f3,f4,f5⟩:=hL b hb;exact⟨f3,f1,f4,f5⟩
 .rw[dH (λz=>by subst z;exact cz (f7 (cQ e) hT) (jY _))];exact n
 .rw[dH (nT b _ e)];exact e
 .rw[dH (nT b _ e)];exact e
 .rw[dH (nT b _ e),e];simp
 .obtain⟨ob,es,ep,ho,r⟩:=hm;exact⟨ob,es,ep,k _ ob (λz=>(hL _ z).2.1 rfl) ho,r⟩
 .by_cases hb:b=T
  .grind [aK]
  .rw[dH hb] at e;refine(I.bG b u e).mE (λc v hc q=>k c v ?_ q) (λc q=>by rw[dH (nT c _ q)];exact q) λc xs q=>by rw[dH (nT c _ q)];exact q
   grind
def Inv.Ed(I:Inv X aa Z H s)(k:∀b ob,b∉L->s.heap.get? b=some ob->h'.get? b=some ob)(hL:∀b∈L,i8 X aa H b):Inv X aa Z H { s with heap:=h',toks:=t'}:=by
 have nL:∀b u,H b=some u->b∉L:=λb u e z=>by rw[(hL b z).1] at e;cases e
 refine I.step (g':=s.gens) (d':=s.drawn) (ch:=L) (λb hb=>?_) (λb ob _ _ hc e _=>k b ob hc e) (λb ob _ _ hc e _=>⟨ob.slots,k b ob hc e⟩) (λb ob _ e n=>n)
  (λb ob hc e=>⟨ob,k b ob hc e⟩) (λb xs e=>e) (λb ob u e=>e) (λb ps e=>⟨#[],by rw[e];simp⟩) (λm hm=>?_) (λb u e=>?_) I.bare
 .obtain⟨f0,f1,f2,f3,f4,f5⟩:=hL b hb;exact⟨f3,f1,f4,f5⟩
 .obtain⟨ob,es,ep,ho,r⟩:=hm;exact⟨ob,es,ep,k _ ob (λz=>(hL _ z).2.1 rfl) ho,r⟩
 .refine(I.bG b u e).mE (λc v hc q=>k c v ?_ q) (λc q=>q) λc xs q=>q
  grind
end
def z_(Src:Hp->Prop)(n:Nat)(val:Nat->List V->Prop):It:=
 ⟨λi H=>i<n/\Src H,λi H x H'=>∃p ws,x=.ref p/\H p=none/\val i ws/\H'=upd H p (.tup ws),λi H=>n<=i/\Src H⟩
def NO{FP wr:List ai}{Src:Hp->Prop}{val:Nat->List V->Prop}{tn:Nat->bT->Prop}(mem:it∈FP)(sub:∀b∈wr,b∈FP)
  (obj:∀i h,tn i h->∀b∈FP,∃o,h.get? b=some o/\∀v,o.data≠.cell v) (keep:∀i h h',tn i h->(∀b∈FP,∀o,h.get? b=some o->h'.get? b=some o)->tn i h')
  (hW:∀(X:Cx),X.prog=P->X.w=w->X.K=K->X.calm=true->∀(aa:List (ai×Obj)) (s:aq) (Z:St) (H:Hp),Inv X aa Z H s->Src H->∃(Kd:List ai) (Pt:Nat->Array ah->Prop) (St:Nat->bT->Prop) (HN:Nat->ai->bT->Prop),WalksT P w X.A it Kd wr n Pt St HN/\(∀i,tn i s.heap->St i s.heap)/\(∀i h,St i h->tn i h)/\∀i vals,Pt i vals->∃ws,val i ws/\Vals ws vals.toList/\ws.length<=10)
  (self:∀(A:cP) (i:Nat) (s:aq) (Q:ah->aq->Prop) (E:ah->aq->Prop),tn i s.heap->Q (.ref it) s->wpAny (model P w) A (pyIter (.ref it)) Q E s) :
  Turn P w K (.Tuple elts x1 pos) (z_ Src n val) FP it (λi h=>i<=n/\tn i h) where
 mem:=mem
 obj:=λi h st=>obj i h st.2
 keep:=λi h h' st k=>⟨st.1,keep i h h' st.2 k⟩
 item:=by
  intro X hP hw hK hc i aa s Z H E I hf st hg;obtain⟨Kd,Pt,St,HN,W,toSt,Dt,pv⟩:=hW X hP hw hK hc aa s Z H I hg.2;subst hP hw hK;refine W.item i s _ E hg.1 (toSt i st.2) λT vals h1 tk hPt hsz Kq CK hk1=>?_
  refine⟨.ref T,rfl,W.go elts x1 pos i T _ _ E CK λh2 hSt R6=>?_⟩
  obtain⟨ws,hv,rv,G2⟩:=pv i vals hPt;have Kp:IsTup h2 T vals:=by
   obtain⟨o,e,c⟩:=Kq;exact⟨o,R6 T o (W.apart i T h1 CK) e,c⟩
  have hn:H T=none:=I.bG.fresh hsz;have I2:Inv X aa Z (upd H T (.tup ws)) { s with heap:=h2,toks:=tk}:=I.vE (L:=wr) (λb ob hb e=>R6 b ob hb (hk1 b ob hb e)) (λb hb=>hf b (sub b hb)) hsz ⟨by rw[sizeLine_eq];lia,vals.toList,rv,by simpa using Kp⟩
  refine⟨.ref T,_,I2,rfl,⟨T,ws,rfl,hn,hv,rfl⟩,⟨by have:=hg.1;lia,Dt _ _ hSt⟩,λb hb=>?_⟩
  have hb0:=(hf b hb).1;rw[dH]
  .exact hb0
  .intro z;subst z;obtain⟨o,e,_⟩:=obj i s.heap st.2 b hb;exact cz (f7 (cQ e) hsz) (jY _)
 done:=by
  intro X hP hw hK hc i aa s Z H E I hf st hg;obtain⟨Kd,Pt,St,HN,W,toSt,Dt,pv⟩:=hW X hP hw hK hc aa s Z H I hg.2;subst hP hw hK;have ei:i=n:=by have:=hg.1;have:=st.1;lia
  subst ei;exact W.done s _ E (toSt i st.2) λh2 tk hk=>⟨rfl,I.Ed (L:=wr) (λb ob hb e=>hk b ob hb e) λb hb=>hf b (sub b hb)⟩
 self:=λA i s Q E st h=>self A i s Q E st.2 h
theorem VU{h:bT}{a l:ai}{i:Nat}(p:h.IsListIter a l i):∃o,h.get? a=some o/\∀v,o.data≠.cell v:=by
 obtain⟨o,e,_,d⟩:=p
 simp_all
def Eg(xs:List V)(i:Nat)(ws:List V):Prop:=∃x,xs[i]?=some x/\ws=[.int i,x]
def UJ{e l:ai}(n1:e≠it)(n2:l≠e)(n3:l≠it)(xs:List V):
  Turn P w K (.Tuple elts x1 pos) (z_ (λH=>cW K H l xs) xs.length (Eg xs)) [e,it] e (λi h=>i<=xs.length/\((∃old,IsEnum h e it (i:Int) old)/\h.IsListIter it l i)):=by
 refine NO (FP:=[e,it]) (wr:=[e,it]) (by simp) (λb hb=>hb) (λi h st b hb=>?_) (λi h h' st k=>?_) (λX hP hw hK hc aa s Z H I hS=>?_) (λA i s Q E st h=>?_)
 .grind [VU]
 .obtain⟨⟨old,s1⟩,s2⟩:=st;exact⟨⟨old,k e (by simp) _ s1⟩,s2.at λo q=>k it (by simp) o q⟩
 .subst hP hw hK;obtain⟨vb,LA,p1,_⟩:=I.list hS;have e1:=LA.length;have W:=WalksT.enumerate (prog:=X.prog) (w:=X.w) (A:=X.A) (I.ok.hd hc) e it l n1 n2 n3 vb.toArray;rw[show vb.toArray.size=xs.length by rw[eE,<-e1]] at W
  refine⟨_,_,_,_,W,λi st=>?_,λi h st=>?_,λi vals hp=>?_⟩
  .exact⟨st.1,st.2,p1.isList⟩
  .simp_all
  .obtain⟨t,u,hu,rfl⟩:=hp;have hu:vb[i]?=some u:=by simpa using hu
   have R4:i<xs.length:=by have:=(fE.mp hu).1;lia
   obtain⟨u',sF,ru⟩:=LA.get (iH R4);rw[hu] at sF;cases sF;exact⟨[.int i,xs[i]],⟨_,iH R4,rfl⟩,.cons ⟨t,rfl⟩ (.cons ru .nil),by show 2<=10;decide⟩
 .obtain⟨old,s1⟩:=st.1;exact wpAny_pyIter_enum s1 h
def wq(K:aJ)(ta:TA):TI:=λZ H R=>ta Z H λvs H1=>∃a xs,vs=[.ref a]/\cW K H1 a xs/\R (z_ (λH=>cW K H a xs) xs.length (Eg xs)) H1
def XM{fV:Pos}{a:Expr}(hg:Gl X "enumerate")(hm:X.mg "enumerate"=none)(ha:PA X [a] ta)(hs:starEach [a] X.env=[(false,eval a X.env)]:=by rfl):
  PI X (.Tuple elts x1 fV) (.Call (.Name "enumerate" p) [a] [] pos) (wq X.K ta):=by
 intro aa s Z H R I h;refine Call_ (tR I hg hm PyProof.Rows.Boot.enumerate (PyProof.Rows.callWith_type1 (bM (ha pos aa s Z H _ I h) λus s1 hh=>?_) hs rfl))
 obtain⟨vs,H1,I1,r1,q1⟩:=hh;obtain⟨l1,xs,e,hq1,q⟩:=q1;subst e;cases r1 with
 |cons r rr=>
  cases rr;cases r;obtain⟨vb,LA,p1,_⟩:=I1.list hq1;refine call_enumerate_list p1.isList λh' z1 z2 z3 z4=>?_
  have L1:l1<s1.heap.objs.size:=by obtain⟨o,n,e,_⟩:=p1;exact cQ e
  refine wpAny_pyIter_enum z1 ?_;refine⟨s1.heap.objs.size+1,[s1.heap.objs.size+1,s1.heap.objs.size],_,_,H1,rfl,I1.kept (t':=s1.toks) z4,UJ (e:=s1.heap.objs.size+1) (it:=s1.heap.objs.size) (l:=l1) (xq (by lia)) (gH (f7 L1 (Hv _ _))) (gH L1) xs,⟨kO _,⟨_,z1⟩,z2⟩,λb hb=>?_,q⟩
  simp only[y0b,y1v,or_false] at hb;have mQ:s1.heap.objs.size<=b:=by rcases hb with rfl|rfl <;> lia
  exact I1.k6 mQ (I1.bG.fresh mQ)
noncomputable def gp(i j:Int):Nat:=((j - i+1) / 2).toNat
def MT(i j:Int):Builtin.Range.rangeSize i j 2=(gp i j:Nat):=by
 grind [PySem.Builtin.Range.rangeSize,gp]
def UK{i j:Int}(h1:-(2^20)<=i)(h2:i<2^20)(h3:-(2^20)<=j)(h4:j<2^20):Builtin.Range.small i j 2=true:=by
 have:=MT i j;unfold gp at this;unfold Builtin.Range.small;rw[this];simp only[Builtin.Range.rangeFitsLong,jD,Bool.or_eq_true,decide_eq_true_eq,beq_iff_eq,show(2:Int) > 0 by decide,oS]
 lia
section
variable{X:Cx}{pos p:Pos}{tg a b c:Expr}
def wx(ta:TA):TI:=λZ H R=>ta Z H λvs H1=>∃i j:Int,vs=[.int i,.int j,.int 2]/\(-(2^20)<=i/\i<2^20 /\ -(2^20)<=j/\j<2^20)/\R (HJ i 2 (gp i j)) H1
def UL(hg:Gl X "range")(hm:X.mg "range"=none)(ha:PA X [a,b,c] ta)(hs:starEach [a,b,c] X.env=[(false,eval a X.env),(false,eval b X.env),(false,eval c X.env)]:=by rfl)
  (qS:starEach [b,c] X.env=[(false,eval b X.env),(false,eval c X.env)]:=by rfl):PI X tg (.Call (.Name "range" p) [a,b,c] [] pos) (wx ta):=by
 intro aa s Z H R I h;refine Call_ (tR I hg hm boot_range (PyProof.Rows.callWith_type1 (bM (ha pos aa s Z H _ I h) λus s1 ⟨vs,H1,I1,r1,q1⟩=>?_) (by rw[hs,qS]) (by rw[qS];rfl)))
 obtain⟨i,j,e,⟨q1,q2,q3,q4⟩,q⟩:=q1;subst e;cases r1 with
 |cons r rr=>
  cases rr with
  |cons r' rr=>
   cases rr with
   |cons r'' rr=>
    cases rr;obtain⟨t,rfl⟩:=r;obtain⟨t',rfl⟩:=r';obtain⟨A7,rfl⟩:=r'';refine call_range_3 (by decide) ?_ (Or.inl (PyProof.noPylong_small (by lia)))
    refine wpAny_pyIter_range (IsRange.new ..) (UK q1 q2 q3 q4) ?_;have I2:Inv X aa Z H1 { s1 with heap:=s1.heap.push { cls:=.type "range",data:=.fields #[.int i t,.int j t',.int 2 A7]}}:=I1.kept (t':=s1.toks) λb o e=>cZ _ e
    refine⟨(s1.heap.push { cls:=.type "range",data:=.fields #[.int i t,.int j t',.int 2 A7]}).objs.size,[(s1.heap.push { cls:=.type "range",data:=.fields #[.int i t,.int j t',.int 2 A7]}).objs.size],_,_,H1,rfl,I2.kept (t':=s1.toks) λb o e=>cZ _ e,Tp _ i 2 (gp i j),?_,λb hb=>?_,q⟩
    .have e1:i+((0:Nat):Int)*2=i:=by simp
     have e2:((gp i j:Nat):Int) - ((0:Nat):Int)=Builtin.Range.rangeSize i j 2:=by rw[MT];lia
     show IsRangeIter _ _ (i+((0:Nat):Int)*2) (((gp i j:Nat):Int) - ((0:Nat):Int)) 2;rw[e1,e2];exact iZ _ rfl
    .have e:b=(s1.heap.push { cls:=.type "range",data:=.fields #[.int i t,.int j t',.int 2 A7]}).objs.size:=by simpa using hb
     subst e;exact I2.k6 (bZ _) (I2.bG.fresh (bZ _))
end
end L2
set_option autoImplicit false
namespace L2
open PySem PySem.Spec PyProof.Rows
variable{a:ai}{c lo i j:Int}{k:Kn}{q:Nat}{H H':Hp}
def Kept(q:Nat)(H H':Hp):Prop:=∀a o,vd q o=true->H a=some o->H' a=some o
def jH(K:aJ)(k:Kn)(H:Hp)(q:Nat)(x:V):D->Prop
 |.lst ds=>∃a ws,x=.ref a/\ag K k ws ds/\∀H',az k.F H'->Kept q H H'->cW K H' a ws
 |.tup ds=>∃a ws,x=.ref a/\ag K k ws ds/\∀H',az k.F H'->Kept q H H'->iE K H' a ws
 |.aA kvs=>∃a es ep,x=.ref a/\es.map (·.1)=kvs.map (·.1)/\ag K k (es.map (·.2.1)) (kvs.map (·.1.d))/\ag K k (es.map (·.2.2)) (kvs.map (·.2))/\∀H',az k.F H'->Kept q H H'->H' a=some (.dG es ep)
 |.str z=>x=.str z
 |_=>True
noncomputable def Bx.lv:Bx->Nat
 |.lst _=>2
 |.aA _=>1
noncomputable def sD:Cell->aj (Nat×D)
 |.o b=>some (b.lv,b.d)
 |.z b=>some (0,b.d)
 |.ins _ _=>none
def CW(fz:Bool)(S:aV):Rv->aj (Rs (Nat×D))
 |.o c=>some (.ok (0,c.d) S)
 |.v (.d (.ref n))=>(S.r[n]?).bind λc=>(sD c).map λp=>.ok p S
 |.v (.d x)=>some (.ok (0,x) S)
 |.v (.c n)=>if fz=true then(oG S (.c n)).map λp=>.ok (0,p.1) p.2 else(S.s[n]?).bind λc=>(sD c).map λp=>.ok p S
def wg(fz:Bool)(g:GE):Gx (Nat×D):=λU S=>bd (g U S) (λr S1=>CW fz S1 r)
abbrev RH(K:aJ)(q:Nat):Rp (Nat×D) V:=λk H x p=>jH K k H (max q p.1) x p.2
section
variable{X:Cx}{K:aJ}{W:XW}{q:Nat}{k:Kn}{H:Hp}{x:V}{d:D}{g:GE}{Z:St}
def Fy(h:ag K k [x] [d]):jH K k H q x d:=by
 cases d with
 |lst ds=>obtain⟨a,ws,rfl,h1,h2⟩:=h.wz;exact⟨a,ws,rfl,h2,λH' s _=>s.LO h1⟩
 |tup ds=>obtain⟨a,ws,rfl,h1,h2⟩:=h.isTup;exact⟨a,ws,rfl,h2,λH' s _=>s.zO h1⟩
 |aA kvs=>obtain⟨a,es,ep,rfl,h1,h2,h3,h4⟩:=h.wy;exact⟨a,es,ep,rfl,h2,h3,h4,λH' s _=>s _ _ h1⟩
 |str z=>exact h.aN rfl
 |_=>exact tK
def K4{o:HO}:vd (max q 2) o=true:=IU (p:=2) (Nat.le_max_right _ _) rfl
def XN{b:Bx}(h:dZ K k H a b):jH K k H (max q b.lv) (.ref a) b.d:=by
 cases b with
 |lst xs=>obtain⟨ws,h1,h2⟩:=h;exact⟨a,ws,rfl,h2,λH' _ c=>.inl (.inl (c _ _ K4 h1))⟩
 |aA kvs=>obtain⟨es,ep,h1,h2,h3,h4⟩:=h;exact⟨a,es,ep,rfl,h2,h3,h4,λH' _ c=>c _ _ (IU (p:=1) (Nat.le_max_right _ _) rfl) h1⟩
def NP{c:Cell}{p:Nat×D}(h:bA K k H a c)(e:sD c=some p):jH K k H (max q p.1) (.ref a) p.2:=by
 cases c with
 |o b=>cases e;exact XN h.2
 |z b=>cases e;exact Fy h.2
 |ins _ _=>cases e
def Pu{fz:Bool}{Q:VK}(t:tX (RH K q) K W q (wg fz g) Z H Q):tE K W q g Z H Q:=by
 obtain⟨k,U,S,res,ok,gk,e,w⟩:=t;refine tX.bd ok gk e w λr S1 x k1 H1 bL g1 r1 e1 w1 _=>?_
 cases r with
 |o c=>
  cases e1;obtain⟨k2,u2,cS,r2⟩:=qQ bL r1;exact(w1.up (u2 q)).now cS (Fy r2)
 |v y=>
  cases y with
  |d y=>
   cases y with
   |ref n=>
    obtain⟨c,h1,e2⟩:=cy.mp e1;obtain⟨p,h2,rfl⟩:=dm.mp e2;obtain⟨a,rfl,h3⟩:=ag.isRef r1;exact w1.now bL (NP (bL.r.at' n a c h3 h1) h2)
   |_=>cases e1;exact w1.now bL (Fy r1)
  |c n=>
   cases fz with
   |true=>
    obtain⟨p,h1,rfl⟩:=dm.mp (show(oG S1 (.c n)).map _=some res from e1);obtain⟨k2,u2,cS,r2⟩:=FQ (v:=.c n) bL r1 h1;exact(w1.up (u2 q)).now cS (Fy r2)
   |false=>
    obtain⟨c,h1,e2⟩:=cy.mp (show(S1.s[n]?).bind _=some res from e1);obtain⟨p,h2,rfl⟩:=dm.mp e2;obtain⟨a,rfl,h3⟩:=r1;exact w1.now bL (NP (bL.s.at' n a c h3 h1) h2)
end
structure ic (K:aJ) (k1:Kn) (H1:Hp) (q:Nat) (J:It) (ds:List D):Prop where
 go:∀i k H,k1.le k->az k.F H->Kept q H1 H->i<ds.length->J.go i H
 stop:∀i k H,k1.le k->az k.F H->Kept q H1 H->ds.length<=i->J.stop i H
 tL:∀i k H x H',k1.le k->az k.F H->Kept q H1 H->J.tL i H x H'->∀d,ds[i]?=some d->∃F',az k.F F'/\az H H'/\az F' H'/\(∀p,H p≠none->k.F p=none->F' p=none)/\ag K ⟨F',k.A,k.T⟩ [x] [d]
abbrev RI(K:aJ)(q:Nat):Rp (Nat×List D) It:=λk H J p=>ic K k H (max q p.1) J p.2
section
variable{K:aJ}{k1:Kn}{H1:Hp}{q n:Nat}{ds:List D}{J:It}{a:ai}{ws xs:List V}
def ic.old(hn:ds.length=n)(h1:∀i H,az k1.F H->Kept q H1 H->i<n->J.go i H)(h2:∀i H,az k1.F H->Kept q H1 H->n<=i->J.stop i H)(h3:∀i H x H' d,az k1.F H->Kept q H1 H->J.tL i H x H'->ds[i]?=some d->H'=H/\ag K k1 [x] [d]):ic K k1 H1 q J ds where
 go:=λi k H l s c hi=>h1 i H (l.f.trans s) c (hn ▸ hi)
 stop:=λi k H l s c hi=>h2 i H (l.f.trans s) c (hn ▸ hi)
 tL:=λi k H x H' l s c y d hd=>by
  obtain⟨rfl,r⟩:=h3 i H x H' d (l.f.trans s) c y hd;exact⟨k.F,az.refl _,az.refl _,s,λ_ _ z=>z,r.mono l⟩
def ic.Dp{Src:Hp->Prop}{val:Nat->List V->Prop}{f:Nat->List D}(hs:∀H,az k1.F H->Kept q H1 H->Src H)(hv:∀i us,i<n->val i us->ag K k1 us (f i)):ic K k1 H1 q (z_ Src n val) ((List.range n).map λi=>.tup (f i)) where
 go:=λi k H l s c hi=>⟨by simpa using hi,hs H (l.f.trans s) c⟩
 stop:=λi k H l s c hi=>⟨by simpa using hi,hs H (l.f.trans s) c⟩
 tL:=λi k H x H' l s c y d hd=>by
  obtain⟨p,us,rfl,hp,hw,rfl⟩:=y;have hi:i<n:=by have:=(fE.mp hd).1;simpa using this
  rw[f9,zZ hi] at hd;cases hd;have hF:=s.free hp;refine⟨upd k.F p (.tup us),rR hF,rR hp,λb u z=>?_,λb z1 z2=>?_,.tup (.inl (.inl aK)) ((hv i us hi hw).mono ⟨l.f.trans (rR hF),l.a⟩) .nil⟩
  .by_cases z3:b=p
   .subst z3;rw[aK] at z ⊢;exact z
   .rw[dH z3] at z ⊢;exact s b u z
  grind [dH]
def XO(h:∀H',az k1.F H'->Kept q H1 H'->cW K H' a ws)(r:ag K k1 ws ds):ic K k1 H1 q (HL K a) ds:=
 .old r.length.symm (λi H s c hi=>⟨ws,ws[i],h H s c,iH _⟩) (λi H s c hi=>⟨ws,h H s c,hi⟩) λi H x H' d s c y hd=>by
  obtain⟨rfl,y⟩:=y;obtain⟨v,h1,h2⟩:=r.get hd
  simp_all
def θ(h:∀H',az k1.F H'->Kept q H1 H'->iE K H' a ws)(r:ag K k1 ws ds):ic K k1 H1 q (HM K a) ds:=
 .old r.length.symm (λi H s c hi=>⟨ws,ws[i],h H s c,iH _⟩) (λi H s c hi=>⟨ws,h H s c,hi⟩) λi H x H' d s c y hd=>by
  obtain⟨rfl,y⟩:=y;obtain⟨v,h1,h2⟩:=r.get hd
  simp_all
def ι(h:∀H',az k1.F H'->Kept q H1 H'->cW K H' a ws)(r:ag K k1 ws ds):ic K k1 H1 q (rJ K a ws.length) ds.reverse:=
 .old (by rw[List.length_reverse,r.length]) (λi H s c hi=>⟨hi,ws,h H s c,rfl⟩) (λi H s c hi=>hi) λi H x H' d s c y hd=>by
  obtain⟨rfl,y⟩:=y;have hi:=(fE.mp hd).1;rw[List.length_reverse] at hi;rw[List.getElem?_reverse hi,<-r.length] at hd;obtain⟨v,h1,h2⟩:=r.get hd
  simp_all
def XQ{es:List (TK×V×V)}{ep:Nat}(h:∀H',az k1.F H'->Kept q H1 H'->H' a=some (.dG es ep))(r:ag K k1 (es.map (·.2.1)) ds):ic K k1 H1 q (HK a es.length ep) ds:=
 .old (by rw[<-r.length,bw]) (λi H s c hi=>⟨es,h H s c,rfl,hi⟩) (λi H s c hi=>⟨es,h H s c,rfl,hi⟩) λi H x H' d s c y hd=>by
  obtain⟨rfl,y⟩:=y;obtain⟨v,h1,h2⟩:=r.get hd;rw[f9] at h1;obtain⟨e,h3,rfl⟩:=dm.mp h1;obtain⟨e',h4,rfl⟩:=y es (h _ s c);cases h3.symm.trans h4;exact⟨rfl,h2⟩
def μ{z:Str}:ic K k1 H1 q (EF z) (z.cps.toList.map λc=>.str (jJ c)):=
 .old (by rw[bw,zV]) (λi H s _ hi=>hi) (λi H s _ hi=>hi) λi H x H' d s _ y hd=>by
  obtain⟨rfl,c,h1,rfl⟩:=y;rw[f9,ui,h1] at hd;cases hd;exact⟨rfl,.flat rfl .nil⟩
def mC(lo c:Int)(n:Nat):List D:=(List.range n).map λ(i:Nat)=>D.int (lo+(i:Int)*c)
def XR:ic K k1 H1 q (HJ lo c n) (mC lo c n):=
 .old (by unfold mC;rw[bw,xu]) (λi H s _ hi=>hi) (λi H s _ hi=>hi) λi H x H' d s _ y hd=>by
  obtain⟨rfl,rfl⟩:=y;have hi:=(fE.mp hd).1;unfold mC at hi hd;rw[bw,xu] at hi;rw[f9,zZ hi] at hd;cases hd;exact⟨rfl,.flat rfl .nil⟩
def iY(lo:Int)(n:Nat):List D:=(List.range n).map λ(i:Nat)=>D.int (lo+(i:Int))
theorem ν:ic K k1 H1 q (EE lo n) (iY lo n):=
 .old (by unfold iY;rw[bw,xu]) (λi H s _ hi=>hi) (λi H s _ hi=>hi) λi H x H' d s _ y hd=>by
  obtain⟨rfl,rfl⟩:=y;have hi:=(fE.mp hd).1;unfold iY at hi hd;rw[bw,xu] at hi;rw[f9,zZ hi] at hd;cases hd;exact⟨rfl,.flat rfl .nil⟩
end
abbrev lU:=Gx (Nat×List D)
def bu(fz:Bool)(o:D->aj (List D))(g:GE):lU:=λU S=>bd (wg fz g U S) λp S1=>(o p.2).map λds=>.ok (p.1,ds) S1
noncomputable def dY:D->aj (List D)
 |.lst ds=>some ds
 |.tup ds=>some ds
 |.aA kvs=>some (kvs.map (·.1.d))
 |.str z=>some (z.cps.toList.map λc=>.str (jJ c))
 |_=>none
noncomputable def zJ:D->aj (List D)
 |.lst ds=>some ds.reverse
 |_=>none
def eY(ds:List D):List D:=(List.range ds.length).map λi=>.tup [.int (i:Nat),(ds[i]?).getD .aM]
def J9:D->aj (List D)
 |.lst ds=>some (eY ds)
 |_=>none
noncomputable def iV:Val->aj Int
 |.d (.int i)=>some i
 |_=>none
def Gs{v:Val}(h:iV v=some i):v=.d (.int i):=by
 cases v with
 |d x=>cases x <;> cases h;rfl
 |c n=>cases h
def oO:List Val->aj (List D)
 |[a]=>(iV a).bind λj=>if Nat.ble j.natAbs 1000000000000=true then some (iY 0 j.toNat) else none
 |_=>none
def zK:List Val->aj (List D)
 |[a,b,c]=>(iV a).bind λi=>(iV b).bind λj=>(iV c).bind λc=>if c=2/\(Nat.ble i.natAbs 1000000&&Nat.ble j.natAbs 1000000)=true then some (mC i 2 (gp i j)) else none
 |_=>none
noncomputable def kh(o:List Val->aj (List D))(g:GA):lU:=λU S=>bd (g U S) λvs S1=>(o vs).map λds=>.ok (0,ds) S1
section
variable{X:Cx}{K:aJ}{W:XW}{q:Nat}{g:GE}{ga:GA}{fz:Bool}{Z:St}{H:Hp}{R:It->Hp->Prop}
def Fi{o:D->aj (List D)}(t:tX (RI K q) K W q (bu fz o g) Z H R):(∀Q:VK,tE K W q g Z H Q)\/∃d ds n,o d=some ds/\∀Q:VK,(∀k1 H1 x,az k1.F H1->jH K k1 H1 n x d->(∀J,ic K k1 H1 n J ds->R J H1)->Q x H1)->tE K W q g Z H Q:=by
 obtain⟨k,U,S,res,ok,gk,e,w⟩:=t;rcases AD e with⟨⟨n,d⟩,S1,e1,e2⟩|⟨C,l,S1,e1,rfl⟩
 .obtain⟨ds,e3,rfl⟩:=dm.mp e2;exact .inr ⟨d,ds,max q n,e3,λQ h=>Pu ⟨k,U,S,_,ok,gk,e1,λx k1 H1 u bL r=>h k1 H1 x bL.le r λJ j=>w J k1 H1 u bL j⟩⟩
 .exact .inl λQ=>Pu ⟨k,U,S,_,ok,gk,e1,w⟩
def jH.now{x:V}{P:Hp->Prop}{n:Nat}(h:∀H',az k.F H'->Kept n H H'->P H')(le:az k.F H):P H:=h H le λ_ _ _ z=>z
def C3(K:aJ)(te:TE):TI:=λZ H R=>wt K te Z H R\/C6 K te Z H R\/wo te Z H R\/C5 te Z H R
def ξ{tg l:Expr}{te:TE}(h:PE X l te):PI X tg l (C3 X.K te):=JX (Xf h) (JX (ZU h) (JX (XJ h) (Θ h)))
def ο(t:tX (RI K q) K W q (bu fz dY g) Z H R):C3 K (tE K W q g) Z H R:=by
 rcases Fi t with h|⟨d,ds,n,e,h⟩
 .exact .inl (h _)
 .cases d with
  |lst _=>
   cases e;refine .inl (h _ λk1 H1 x le hd j=>?_)
   obtain⟨a,ws,rfl,q2,q1⟩:=hd;exact⟨a,rfl,⟨ws,jH.now (x:=.aM) q1 le⟩,j _ (XO q1 q2)⟩
  |tup _=>
   cases e;refine .inr (.inl (h _ λk1 H1 x le hd j=>?_))
   obtain⟨a,ws,rfl,q2,q1⟩:=hd;exact⟨a,rfl,⟨ws,jH.now (x:=.aM) q1 le⟩,j _ (θ q1 q2)⟩
  |aA kvs=>
   cases e;refine .inr (.inr (.inl (h _ λk1 H1 x le hd j=>?_)))
   obtain⟨a,es,ep,rfl,q2,q3,q4,q1⟩:=hd;exact⟨a,es,ep,rfl,jH.now (x:=.aM) q1 le,j _ (XQ q1 q3)⟩
  |str z=>
   cases e;exact .inr (.inr (.inr (h _ λk1 H1 x le hd j=>⟨z,hd,j _ μ⟩)))
  |_=>cases e
def XS(t:tX (RI K q) K W q (bu fz zJ g) Z H R):C4 K (tm (tE K W q g) vx) Z H R:=by
 rcases Fi t with h|⟨d,ds,n,e,h⟩
 .exact h _
 .cases d with
  |lst _=>
   cases e;refine h _ λk1 H1 x le hd j=>?_
   obtain⟨a,ws,rfl,q2,q1⟩:=hd;exact⟨a,ws,rfl,jH.now (x:=.aM) q1 le,j _ (ι q1 q2)⟩
  |_=>cases e
def π(t:tX (RI K q) K W q (bu fz J9 g) Z H R):wq K (tm (tE K W q g) vx) Z H R:=by
 rcases Fi t with h|⟨d,ds,n,e,h⟩
 .exact h _
 .cases d with
  |lst es=>
   cases e;refine h _ λk1 H1 x le hd j=>?_
   obtain⟨a,ws,rfl,q2,q1⟩:=hd;refine⟨a,ws,rfl,jH.now (x:=.aM) q1 le,j _ ?_⟩;unfold eY;rw[<-q2.length];refine .Dp q1 λi us hi hv=>?_
   obtain⟨x,h1,rfl⟩:=hv;obtain⟨d,hd⟩:∃d,es[i]?=some d:=⟨es[i]'(by rw[<-q2.length];exact hi),iH _⟩
   obtain⟨v,h3,h4⟩:=q2.get hd;cases h1.symm.trans h3;rw[hd];exact .flat rfl h4
  |_=>cases e
theorem rep1{xs:List V}(h:Paired (dc K k) xs [.d (.int j)]):xs=[.int j]:=by
 cases h with
 |cons r t=>cases t;rw[(show ag K k [_] [_] from r).aN rfl]
def rep2{xs:List V}(h:Paired (dc K k) xs [.d (.int i),.d (.int j)]):xs=[.int i,.int j]:=by
 cases h with
 |cons r t=>rw[(show ag K k [_] [_] from r).aN rfl,rep1 t]
def rep3{xs:List V}(h:Paired (dc K k) xs [.d (.int i),.d (.int j),.d (.int c)]):xs=[.int i,.int j,.int c]:=by
 cases h with
 |cons r t=>rw[(show ag K k [_] [_] from r).aN rfl,rep2 t]
def NQ{o:List Val->aj (List D)}{Q:List V->Hp->Prop}(t:tX (RI K q) K W q (kh o ga) Z H R)(h:∀vs ds k1 H1 xs,o vs=some ds->(∀J,ic K k1 H1 (max q 0) J ds->R J H1)->Paired (dc K k1) xs vs->Q xs H1):gG K W q ga Z H Q:=by
 obtain⟨k,U,S,res,ok,gk,e,w⟩:=t;rcases AD e with⟨vs,S1,e1,e2⟩|⟨C,l,S1,e1,rfl⟩
 .obtain⟨ds,e3,rfl⟩:=dm.mp e2;exact⟨k,U,S,_,ok,gk,e1,λxs k1 H1 u bL r=>h vs ds k1 H1 xs e3 (λJ j=>w J k1 H1 u bL j) r⟩
 .exact⟨k,U,S,_,ok,gk,e1,w⟩
def XT(t:tX (RI K q) K W q (kh oO ga) Z H R):wu (gG K W q ga) Z H R:=NQ t λvs ds k1 H1 xs e j r=>by
 obtain _|⟨v,_|_⟩:=vs
 .cases e
 .obtain⟨i,e1,e2⟩:=cy.mp e;clear e;cases Gs e1;split at e2
  .rename_i h
   have h:=z5 h
   grind [rep1,ν]
  .cases e2
 .cases e
def XU(t:tX (RI K q) K W q (kh zK ga) Z H R):wx (gG K W q ga) Z H R:=NQ t λvs ds k1 H1 xs e j r=>by
 obtain _|⟨a,_|⟨b,_|⟨c,_|_⟩⟩⟩:=vs <;> try cases e
 .obtain⟨_,e1,e4⟩:=cy.mp e;obtain⟨_,e2,e5⟩:=cy.mp e4;obtain⟨_,e3,e6⟩:=cy.mp e5;clear e e4 e5;cases Gs e1;cases Gs e2;cases Gs e3;split at e6
  .rename_i h
   obtain⟨rfl,h⟩:=h;obtain⟨h1,h2⟩:=zX.mp h;have h1:=z5 h1;have h2:=z5 h2;cases e6;exact⟨_,_,rep3 r,⟨by lia,by lia,by lia,by lia⟩,j _ XR⟩
  .cases e6
end
def aL(g:GG)(f:GS):List D->GS
 |[]=>λU S=>some (.nx U S)
 |d::ds=>λU S=>(g d U).bind λU1=>(f U1 S).bind λr=>match r with
   |.nx U2 S2=>aL g f ds U2 S2
   |.ct U2 S2=>aL g f ds U2 S2
   |.bk U2 S2=>some (.nx U2 S2)
   |r=>some r
noncomputable def bN(q:Nat)(src:lU)(g:GG)(f:Nat->GS):GS:=λU S=>kY U (src U S) λp S1=>aL g (f (max q p.1)) p.2 U S1
def Up.kept{k':Kn}(u:Up q k H k' H'):Kept q H H':=u.h
def Kept.refl:Kept q H H:=λ_ _ _ z=>z
def Kept.trans{Bj:Hp}(a:Kept q H H')(b:Kept q H' Bj):Kept q H Bj:=λx o z h=>b x o z (a x o z h)
theorem Kept.same(a:az H H'):Kept q H H':=λx o _ h=>a x o h
section
variable{X:Cx}{K:aJ}{W:XW}{q:Nat}{tg iter:Expr}{body:List Stmt}{wi:TI}{t:TG}{gg:GG}{f:Nat->GS}{src:lU}{pos:Pos}
def ρ(hp:PassesOwn (model X.prog X.w) X.A X.env X.xe)(hc:X.calm=true)(hi:PI X tg iter wi)(qw:∀Z H R,tX (RI K q) K W q src Z H R->wi Z H R)(hg:PG X tg t)(ht:j_ K t gg)(hb:∀n,i_ X body (tS K W n (f n)))(hs:∀x,foldedSetIterable iter X.env x=pure x):
  PS X (.For tg iter body [] pos) (tS K W q (bN q src gg f)):=by
 intro aa s Z H De I t;obtain⟨k,U,S,fr,ok,gk,e,w⟩:=t;rcases Pq e with⟨⟨n,ds⟩,S1,e1,e⟩|⟨C,l,S1,e1,rfl⟩
 .
  refine Qz hp hc hi hg (hb (max q n)) hs aa s Z H De I (qw _ _ _ ⟨k,U,S,_,ok,gk,e1,λJ k1 H1 u1 bL r1=>?_⟩)
  have w1:=(w.up u1).weak (Nat.le_max_left q n);have g1:=gk.up u1;clear w gk ok e1 u1;refine⟨λi m Z H=>m=ds.length - i/\i<=ds.length/\∃k U S,cf K k H S/\hZ K k Z U/\k1.le k/\Kept (max q n) H1 H/\aL gg (f (max q n)) (ds.drop i) U S=some fr/\Done K W (max q n) De k H fr,⟨_,rfl,kO _,k1,U,S1,bL,g1,.refl,.refl,e,w1⟩,?_⟩
  rintro i m Z H ⟨rfl,hi,k,U,S,ok,gk,l,c,e,w⟩;rcases Nat.lt_or_ge i ds.length with h|h
  .rw[Mo h] at e;refine .inr ⟨r1.go i k H l ok.le c h,λZ' H'=>∃k U S,cf K k H' S/\hZ K k Z' U/\k1.le k/\Kept (max q n) H1 H'/\aL gg (f (max q n)) (ds.drop (i+1)) U S=some fr/\Done K W (max q n) De k H' fr,λZ' H' z=>⟨_,by lia,rfl,h,z⟩,λx H' y=>?_⟩
   obtain⟨F',s1,s2,s3,s4,rp⟩:=r1.tL i k H x H' l ok.le c y _ (iH h);have u:Up (max q n) k H ⟨F',k.A,k.T⟩ H':=.of s1 s2;obtain⟨U1,e1,e2⟩:=cy.mp e;obtain⟨r,e3,e4⟩:=cy.mp e2;have fZ:cf K ⟨F',k.A,k.T⟩ H' S:=ok.new s1 (λp _ o z=>s2 p o z) s3 λp m=>s4 p (ok.there p m)
   have l':k1.le ⟨F',k.A,k.T⟩:=⟨l.f.trans s1,l.a⟩;refine ht _ H' Z U U1 x ds[i] _ s3 (gk.up u) rp e1 λZ1 g1=>⟨_,U1,S,r,fZ,g1,e3,?_⟩
   have w':=w.up u;have c':Kept (max q n) H1 H':=c.trans (.same s2);cases r with
   |nx U2 S2=>exact λZ' k2 H2 u2 cS g2=>⟨k2,U2,S2,cS,g2,⟨l'.f.trans u2.f,l'.a.trans u2.a⟩,c'.trans u2.kept,e4,w'.up u2⟩
   |ct U2 S2=>exact λZ' k2 H2 u2 cS g2=>⟨k2,U2,S2,cS,g2,⟨l'.f.trans u2.f,l'.a.trans u2.a⟩,c'.trans u2.kept,e4,w'.up u2⟩
   |bk U2 S2=>cases e4;exact w'
   |rt r S2=>cases e4;exact w'
   |ex C l U2 S2=>cases e4;exact w'
  .rw[Hu h] at e;cases e;exact .inl ⟨r1.stop i k H l ok.le c h,cb.now w ok gk⟩
 .exact Qz hp hc hi hg (hb q) hs aa s Z H De I (qw _ _ _ ⟨k,U,S,_,ok,gk,e1,λdx k' H' u fZ r=>w dx Z k' H' u fZ (gk.up u) r⟩)
end
end L2
set_option autoImplicit false
namespace L2
open PySem PySem.Spec PyProof.Rows
variable{ds:List D}{U:Gm}{Z:St}
def tZ{α β:Type}(x:aj (Rs α))(f:α->aV->aj (Rs β)):aj (Rs β):=match x with
 |some (.ok a S)=>f a S
 |_=>none
def W0:XW:=λ_ _ _ _=>False
def bh(gg:GG)(tt:GT)(te:GE):List D->Gm->aV->List D->aj (Rs (List D))
 |[],_,S,ba=>some (.ok ba S)
 |d::ds,U,S,ba=>(gg d U).bind λU1=>tZ (tt U1 S) λb S1=>if b=true then tZ (gD te U1 S1) λx S2=>if ba.length<1000000 then bh gg tt te ds U1 S2 (ba++[x]) else none else bh gg tt te ds U1 S1 ba
def uO(n:Nat)(du:List Nat)(U:Gm):Gm:=List.replicate n none++du.map λi=>(U[i]?).join
def bO(q:Nat)(src:lU)(gg:GG)(tt:Nat->GT)(te:Nat->GE)(n:Nat)(du:List Nat):GE:=λU S=>bd (src U S) λp S1=>bd (bh gg (tt (max q p.1)) (te (max q p.1)) p.2 (uO n du U) S1 []) λds S2=>some (.ok (.o (.lst ds)) S2)
section
variable{X:Cx}{K:aJ}{W:XW}{q:Nat}{tg iter elt:Expr}{ifs:List Expr}{scope:Scope}{wi:TI}{t:TG}{gg:GG}{tt:Nat->GT}{te:Nat->GE}{src:lU}{pos:Pos}{M:List Str}{n:Nat}{du:List Nat}
def FT{α β:Type}{x:aj (Rs α)}{f:α->aV->aj (Rs β)}{res:Rs β}(e:tZ x f=some res):∃a S,x=some (.ok a S)/\f a S=some res:=by
 unfold tZ at e;split at e
 .exact⟨_,_,rfl,e⟩
 .cases e
def VW{gg:GG}{tt:GT}{te:GE}{S:aV}{ba:List D}{res:Rs (List D)}(e:bh gg tt te ds U S ba=some res):∃l S',res=.ok l S':=by
 induction ds generalizing U S ba with
 |nil=>cases e;exact⟨_,_,rfl⟩
 |cons d ds ih=>
  obtain⟨U1,_,e⟩:=cy.mp e;obtain⟨b,S1,_,e⟩:=FT e;cases b with
  |false=>exact ih e
  |true=>
   obtain⟨x,S2,_,e⟩:=FT (show tZ _ _=some res from e);split at e
   .exact ih e
   .cases e
def XX{k:Kn}(g:hZ K k Z U):hZ K k (kb n du Z) (uO n du U):=by
 refine⟨by unfold kb uO;rw[dU,dU,bw,bw,pW,pW],λi v e=>?_⟩
 unfold uO at e;unfold kb;by_cases hi:i<n
 .rw[uf (by rw[pW];exact hi),Mj,bx hi] at e;cases e
 .have hi:=Nat.le_of_not_lt hi;rw[ue (by rw[pW];exact hi),pW,f9] at e ⊢
  obtain⟨j,h1,h2⟩:=dm.mp e;obtain⟨x,h3,h4⟩:=g.at' j v (NM h2)
  simp_all
def σ{J:It}{k1:Kn}{H1:Hp}{m:Nat}{out:List D}{S1 S2:aV}{τ:St}{gt:GT}{ge:GE}{gL:List V->Hp->Prop}(ht:j_ K t gg)(r1:ic K k1 H1 m J ds)(bL:cf K k1 H1 S1)(g1:hZ K k1 τ U)(e:bh gg gt ge ds U S1 []=some (.ok out S2))
  (w:∀k H vs,Up m k1 H1 k H->cf K k H S2->ag K k vs out->gL vs H):oU J t (tT K W0 m gt) (tE K W0 m ge) τ H1 gL:=by
 refine⟨ds.length,λi τ vs H=>i<=ds.length/\∃k U S ba,cf K k H S/\hZ K k τ U/\ag K k vs ba/\Up m k1 H1 k H/\bh gg gt ge (ds.drop i) U S ba=some (.ok out S2),⟨kO _,k1,U,S1,[],bL,g1,.nil,.refl,e⟩,?_⟩
 rintro i τ vs H hi ⟨_,k,U,S,ba,ok,gk,rv,u,e⟩;rcases Nat.lt_or_ge i ds.length with h|h
 .rw[Mo h] at e;refine .inr ⟨h,r1.go i k H u.le ok.le u.kept h,λx H' y=>?_⟩
  obtain⟨F',s1,s2,s3,s4,rp⟩:=r1.tL i k H x H' u.le ok.le u.kept y _ (iH h);have u2:Up m k H ⟨F',k.A,k.T⟩ H':=.of s1 s2;have fZ:cf K ⟨F',k.A,k.T⟩ H' S:=ok.new s1 (λp _ o z=>s2 p o z) s3 λp m=>s4 p (ok.there p m)
  obtain⟨U1,e1,e2⟩:=cy.mp e;refine ht _ H' τ U U1 x ds[i] _ s3 (gk.up u2) rp e1 λτ1 g1=>?_
  obtain⟨b,S3,e3,e4⟩:=FT e2;refine⟨_,U1,S,_,fZ,g1,e3,λb' k3 H3 u3 jN r3=>?_⟩
  cases r3;have u4:=(u.trans u2).trans u3;cases b with
  |false=>exact sJ ⟨h,k3,U1,S3,ba,jN,g1.up u3,rv.mono (u2.trans u3).le,u4,e4⟩
  |true=>
   obtain⟨y,S4,e5,e6⟩:=FT (show tZ _ _=some _ from e4);refine sL (L3 ⟨_,U1,S3,_,jN,g1.up u3,e5,λv k5 H5 u5 mm r5=>?_⟩)
   split at e6
   .rename_i hl
    refine⟨f7 (by rw[rv.length];exact hl) (by decide),h,k5,U1,S4,ba++[y],mm,(g1.up u3).up u5,(rv.mono ((u2.trans u3).trans u5).le).append r5,u4.trans u5,e6⟩
   .cases e6
 .rw[Hu h] at e;cases e;exact .inl ⟨r1.stop i k H u.le ok.le u.kept h,w k H vs u ok rv⟩
def Pw{H:Hp}{Q:VK}(ht:j_ K t gg)(h:tE K W q (bO q src gg tt te n du) Z H Q):∃m,tX (RI K q) K W q src Z H λJ H1=>oU J t (tT K W0 m (tt m)) (tE K W0 m (te m)) (kb n du Z) H1 λba H'=>∀l,H' l=none->Q (.ref l) (upd H' l (.lst ba)):=by
 obtain⟨k,U,S,res,ok,gk,e,w⟩:=h;rcases AD e with⟨⟨m,ds⟩,S1,e1,e2⟩|⟨C,l,S1,e1,rfl⟩
 .refine⟨max q m,k,U,S,_,ok,gk,e1,λJ k1 H1 u1 bL r1=>?_⟩
  rcases AD e2 with⟨out,S2,e3,e4⟩|⟨C,l,S2,e3,rfl⟩
  .cases e4;refine σ ht r1 bL (XX (gk.up u1)) e3 λk2 H2 vs u2 cS rv l hl=>?_
   exact kT.lst (.fin cS ((w.up u1).up (u2.weak (Nat.le_max_left q m)))) cS.le rv hl
  .obtain⟨_,_,z⟩:=VW e3;cases z
 .exact⟨0,k,U,S,_,ok,gk,e1,w⟩
def XY(hc:X.calm=true)(ok:eM X scope M n du)(hi:PI X tg iter wi)(qw:∀Z H R,tX (RI K q) K W q src Z H R->wi Z H R)(ht:j_ K t gg)
  (hg:∀C s H fp,PG (fS X scope M C s H fp) tg t) (hT:∀m C s H fp,rL (fS X scope M C s H fp) ifs (tT K W0 m (tt m))) (hE:∀m C s H fp,PE (fS X scope M C s H fp) elt (tE K W0 m (te m)))
  (hs:∀x,foldedSetIterable iter X.env x=pure x):PE X (.ListComp elt [⟨tg,iter,ifs,0⟩] scope pos) (tE K W q (bO q src gg tt te n du)):=λaa s Z H Q I h=>by
 obtain⟨m,h⟩:=Pw ht h;exact Xx hc ok hi hg (hT m) (hE m) hs aa s Z H Q I (qw _ _ _ h)
def XZ{mu:Bool}{i:Nat}{x:Str}{px nO:Pos}(hc:X.calm=true)(ok:eM X scope M n du)(hN:X.N.Nodup)(yS:X.N[i]?=some x)(hx:Loc X.env.scope x)(hi:PI X tg iter wi)(qw:∀Z H R,tX (RI K q) K W q src Z H R->wi Z H R)(ht:j_ K t gg)
  (hg:∀C s H fp,PG (fS X scope M C s H fp) tg t) (hT:∀m C s H fp,rL (fS X scope M C s H fp) ifs (tT K W0 m (tt m))) (hE:∀m C s H fp,PE (fS X scope M C s H fp) elt (tE K W0 m (te m)))
  (C0:swapsWith (.ListComp elt [⟨tg,iter,ifs,0⟩] scope pos) (some (.Name x px)) nO.line X.env=pure true) (hs:∀x,foldedSetIterable iter X.env x=pure x) (hf:X.fn x=true\/X.env.scope.names.lookup x=some .local) :
  PS X (.Assign [.Name x px] (.ListComp elt [⟨tg,iter,ifs,0⟩] scope pos) nO) (tS K W q (au i mu (bO q src gg tt te n du))):=λaa s Z H D I h=>by
 obtain⟨m,h⟩:=Pw ht (QE h);exact Xy hc ok hN yS hx hi hg (hT m) (hE m) C0 hs hf aa s Z H D I (qw _ _ _ h)
end
end L2
namespace L2
open PySem PySem.Spec PySem.W PySem.Calls PyProof.Rows
variable{hs:List ExceptHandler}
noncomputable def nU(C:ai)(fe:GE):GS:=λU S=>kY U (fe U S) λ_ S1=>some (.ex C none U S1)
section
variable{X:Cx}{K:fX}{W:XW}{q:Nat}{C B0:ai}{x:Str}{p cp pos:Pos}{e:Expr}{fe:GE}
def VX(G:f_ K C (.ref B0::qR) none)(G0:f_ K B0 qR none)(hk:keepIn K (.ref C)=true)(hm:X.mg x=some (.ref C))(hp:fM X W)(he:PE X e (tE K W q fe))(hc:X.calm=true)(hg:Gl X x)(k7:(x == ("__debug__":Str))=false)
  (ko:starEach [e] X.env=(false,eval e X.env)::starEach [] X.env) (hK:X.K=K):PS X (.Raise (some (.Call (.Name x p) [e] [] cp)) none pos) (tS K W q (nU C fe)):=by
 subst hK;intro aa s Z H D I t;have t1:tE X.K W q fe Z H λ_ H1=>W C none Z H1:=by
  obtain⟨k,U,S,fr,ok,gk,e,w⟩:=t;refine tS.bd ok gk e w λr S1 v k1 H1 bL g1 r1 e1 w1=>?_
  cases e1;exact w1 none Z k1 H1 .refl bL g1 rfl
 obtain⟨nm,qq,N,bs,sn,sub,ab,col,dd,k0,k1,k2,k3,k5,on,A2,es,ep,A3,g1,g2,g3,g4⟩:=id G;rw[arm_exec_Raise];show wpAny _ _ (do standAt pos;raiseStmt X.env (some (do let v <-eval (.Call (.Name x p) [e] [] cp) X.env;standAt pos;pure v)) none) _ _ _
 refine ay (wpAny_standAt (wpAny_raiseStmt_made_sub (C:=C) (nm:=nm) (q:=qq) (N:=N) (bs:=bs) (bm:=.ref B0::qR) (hdct:=true) (sn:=sn) (sub:=sub) (ab:=ab) (col:=col) (dd:=dd) (k0:=k0) (k1:=k1) (k2:=k2) (k3:=k3) (k5:=k5) (newId:="ValueError.__new__") rfl (I.ok.hd hc) (ay (bM ?_ λv s3 h3=>ay (wpAny_standAt (aR h3))))))
 refine wpAny_Call_Name_kw (As I hg hm ?_ k7);have jU:(backTo cp (starEach [] X.env)).any (·.1)=false:=rfl
 refine PySem.W.callWith_K (h₀:=X.base) I.ok.mod.AY hk (bM ((FN he mq ko) cp aa s Z H (λvs H1=>vs.length=1/\W C none Z H1) I (oB t1 λ_ H1 h=>⟨rfl,h⟩)) λus s1 hh=>?_) ko jU
 obtain⟨vs,H1,I1,r,hl,pp⟩:=hh;refine⟨I1.jV,?_⟩;obtain⟨u,rfl⟩:∃u,us=[u]:=by
  have l:=r.length;rw[hl] at l;cases us with
  |nil=>cases l
  |cons u us=>cases us with
   |nil=>exact⟨u,rfl⟩
   |cons _ _=>cases l
 refine VR G G0 I1 λh' t kp g=>⟨_,t,rfl,kp _ _ (I1.jV _ _ g1),g,?_⟩
 exact hp aa Z H1 s1 H1 _ _ C none I1 ⟨rfl,I1.bare,Un.kept kp,I1.bG.kept kp,tI _,I1.bG.fresh (tI _),_,_,g,rfl,rfl,rfl,by show 1<6;decide,.inl rfl⟩ pp
end
abbrev GH:=(ai->aj Bool)×GS
variable{gs:List GH}
noncomputable def Dr:Fr->aj Fr
 |.ex _ _ _ _=>none
 |r=>some r
def vC:List GH->ai->GS
 |[],_=>λ_ _=>none
 |h::hs,C=>λU S=>(h.1 C).bind λb=>if b=true then(h.2 U S).bind Dr else vC hs C U S
def sk(f:GS)(hs:List GH):GS:=λU S=>(f U S).bind λr=>match r with
 |.ex C _ U1 S1=>vC hs C U1 S1
 |r=>some r
section
variable{X:Cx}{K:fX}{W:XW}{q:Nat}
theorem SP.fq{aa:List (ai×Obj)}{D:Ends}{f:Flow}{s':aq}{e:ah}(h:SP (X.eK e) aa D f s')(hd:X.calm=true->X.A.handled=none):SP X aa D f s':=by
 cases f with
 |next=>obtain⟨Z',H',I,q⟩:=h;exact⟨Z',H',I.fq hd,q⟩
 |brk=>obtain⟨Z',H',I,q⟩:=h;exact⟨Z',H',I.fq hd,q⟩
 |cont=>obtain⟨Z',H',I,q⟩:=h;exact⟨Z',H',I.fq hd,q⟩
 |ret u=>obtain⟨v,Z',H',I,r,q⟩:=h;exact⟨v,Z',H',I.fq hd,r,q⟩
def Done.Dr{D:Ends}{k:Kn}{H:Hp}{r fr:Fr}(w:Done K W q D k H fr)(e:L2.Dr r=some fr):Done K W0 q D k H r:=by
 cases r with
 |ex _ _ _ _=>cases e
 |_=>cases e;exact w
def HB(X:Cx)(K:fX)(W:XW)(q:Nat)(hs:List ExceptHandler)(gs:List GH):Prop:=∀(aa:List (ai×Obj)) (Z:St) (H:Hp) (s:aq) (D:Ends) (e C:ai) (dx:aj ai) (k:Kn) (U:Gm) (S:aV) (fr:Fr) (n:Nat),Inv X aa Z H s->Bp X aa n->iL n s.heap H e C dx->cf K k H S->hZ K k Z U->vC gs C U S=some fr->Done K W q D k H fr->
 wpAny (model X.prog X.w) X.A (handleBy (.ref e) X.env hs) (SP X aa D) X.xe s
def υ:HB X K W q [] []:=λ_ _ _ _ _ _ _ _ _ _ _ _ _ _ _ _ _ _ e _=>nomatch e
def X0{x:Str}{np hp:Pos}{b0:Stmt}{nP:List Stmt}{wh:ai->aj Bool}{g:GS}{Cc:ai}(hm:X.mg x=some (.ref Cc))(hw:∀C b,wh C=some b->exmOne K (.ref C) (.ref Cc)=some b)(hS:∀e,i_ (X.eK e) (b0::nP) (tS K W0 q g))(rest:HB X K W q hs gs)(hg:Gl X x)(k7:(x == ("__debug__":Str))=false)(hK:X.K=K):
  HB X K W q (.ExceptHandler (some (.Name x np)) none (b0::nP) hp::hs) ((wh,g)::gs):=by
 subst hK;intro aa Z H s D e C dx k U S fr n I y f ok gk ee w;obtain⟨bb,q1,ee⟩:=cy.mp ee;dsimp only at q1 ee;refine wpAny_handleBy_cons (codeAny_handlers_test (As (I.eK (e:=.ref e)) hg hm ?_ k7)) (by intro q;cases q)
 obtain⟨gF,t7,oe,vs,he,hc,hr⟩:=id f;have LT:Looks (model X.prog X.w) s.heap (typeOf (.ref e)) (.ref C):=by
  rw[<-hc];exact(Looks.ld he).andThen .now
 refine(exm_one I.jV LT (hw C bb q1)).here ?_;cases bb with
 |true=>
  obtain⟨r,e2,e3⟩:=cy.mp (show(g U S).bind L2.Dr=some fr from ee);refine codeAny_handlers_suite (VS (X:=X) f λh' ch kJ lx f2=>?_)
  have I2:Inv X aa Z H { s with heap:=h',toks:=s.toks}:=I.left y lx kJ;refine wpAny_mono (hS (.ref e) aa _ Z H D I2.eK ⟨k,U,S,r,ok,gk,e2,w.Dr e3⟩) (λfl s2 q=>?_) λ_ _ z=>z.elim
  exact q.fq I.ok.hd
 |false=>exact rest aa Z H s D e C dx k U S fr n I y f ok gk ee w
theorem SP.eU{aa:List (ai×Obj)}{E:ah->aq->Prop}{D:Ends}{f:Flow}{s':aq}(h:SP (X.eL (X.pn++aa) E) [] D f s'):SP X aa D f s':=by
 cases f with
 |next=>obtain⟨Z',H',I,q⟩:=h;exact⟨Z',H',I.eU,q⟩
 |brk=>obtain⟨Z',H',I,q⟩:=h;exact⟨Z',H',I.eU,q⟩
 |cont=>obtain⟨Z',H',I,q⟩:=h;exact⟨Z',H',I.eU,q⟩
 |ret u=>obtain⟨v,Z',H',I,r,q⟩:=h;exact⟨v,Z',H',I.eU,r,q⟩
def χ{body:List Stmt}{h0:ExceptHandler}{f:GS}{pos:Pos}(hb:∀(pn:List (ai×Obj)) (E:ah->aq->Prop) (W:XW),fM (X.eL pn E) W->i_ (X.eL pn E) body (tS K W q f))(hh:HB X K W q (h0::hs) gs)(ko:X.stack=X.env::X.outer)(hf:X.env.frame=some X.env.locals):
  PS X (.Try body (h0::hs) [] [] pos) (tS K W q (sk f gs)):=by
 intro aa s Z H D I t;obtain⟨k,U,S,fr,ok,gk,e,w⟩:=t;obtain⟨r1,e1,e⟩:=cy.mp e;refine wpAny_Try_except ?_;have hp:fM (X.eL (X.pn++aa) λe s₁=>wpAny (model X.prog X.w) X.A (noteFrame e X.env) (λ_ s₂=>wpAny (model X.prog X.w) X.A (setFlight e none) (λ_ s₃=>wpAny (model X.prog X.w) X.A (handleBy e X.env (h0::hs)) (SP X aa D) X.xe s₃) X.xe s₂) X.xe s₁)
   (λC dx Z' H'=>∃k' U1 S1 fr,cf K k' H' S1/\hZ K k' Z' U1/\vC gs C U1 S1=some fr/\Done K W q D k' H' fr):=by
  intro nF Z' H1 s1 H' s' e C dx I1 c q;obtain⟨k',U2,S2,fr2,cS,gk2,e2,w2⟩:=q;have I':Inv X aa Z' H' s':=(c.inv I1).eU;have J:Inv X aa Z' H1 s1:=I1.eU;refine QD (base:=X.base) (n:=s1.heap.objs.size) (by rw[<-ko];exact I.ok.frames) (by rw[<-ko];exact I'.stack) hf c.GD.lt (λa z=>I'.bG.fresh z) c.GD λh' ch kJ lx fl=>?_
  rw[<-ko] at lx;have I3:Inv X aa Z' H' { s' with heap:=h',toks:=s'.toks}:=I'.left J.SM lx kJ;exact hh aa Z' H' _ D e C dx k' U2 S2 fr2 _ I3 J.SM fl cS gk2 e2 w2
 refine wpAny_mono (hb _ _ _ hp [] s Z H D I.eL ⟨k,U,S,r1,ok,gk,e1,?_⟩) (λff s1 z=>?_) λe s1 z=>z
 .cases r1 with
  |ex C l U1 S1=>exact λdx Z' k' H' u fZ g' el=>⟨k',U1,S1,fr,fZ,g',e,w.up u⟩
  |_=>cases e;exact w
 .have z:=z.eU;cases ff with
  |next=>
   obtain⟨Z',H',J,r⟩:=z;exact pK aa s1 Z' H' D J r
  |brk=>exact z
  |cont=>exact z
  |ret u=>exact z
end
end L2
namespace L2
open PySem PySem.Spec PyProof.Rows
variable{K:aJ}{es:List D}{j n:Nat}
abbrev bf(K:aJ)(H:Hp):List V->List D->Prop:=ag K ⟨H,[],[]⟩
def ag.Hs{H H1:Hp}{vs:List V}{ds:List D}(h:ag K ⟨H,[],[]⟩ vs ds)(s:az H H1):ag K ⟨H1,[],[]⟩ vs ds:=ag.mono (k:=⟨H,[],[]⟩) ⟨s,lh ([]:List ai)⟩ h
section
variable{X:Cx}
mutual
def eQ:D->D->Bool
 |.lst xs,.lst ys=>dO xs ys
 |.tup xs,.tup ys=>dO xs ys
 |.aM,.aM=>true
 |.bl a,.bl b=>a == b
 |.bl a,.int b=>(if a then 1 else 0) == b
 |.int a,.bl b=>a == (if b then 1 else 0)
 |.int a,.int b=>a == b
 |.str a,.str b=>a == b
 |_,_=>false
def dO:List D->List D->Bool
 |[],[]=>true
 |x::xs,y::ys=>eQ x y&&dO xs ys
 |_,_=>false
end
noncomputable def dX:Nat->D->Bool
 |n+1,.lst xs=>xs.all (dX n)
 |n+1,.tup xs=>xs.all (dX n)
 |_,.aM=>true
 |_,.bl _=>true
 |_,.int _=>true
 |_,.str _=>true
 |_,_=>false
theorem BO:∀{xs ys:List D},xs.length≠ys.length->dO xs ys=false
 |[],[],h=>cz rfl h
 |[],_::_,_=>rfl
 |_::_,[],_=>rfl
 |x::xs,y::ys,h=>by show(eQ x y&&dO xs ys)=false;rw[BO (by simpa using h),Hw]
theorem BP:∀{xs ys:List D} (n:Nat),xs.length=n->ys.length=n->dO xs ys=(List.range n).all λj=>eQ (xs.getD j .aM) (ys.getD j .aM)
 |[],[],0,_,_=>rfl
 |x::xs,y::ys,n+1,h1,h2=>by
  show(eQ x y&&dO xs ys)=_;rw[BP n (by simpa using h1) (by simpa using h2),List.range_succ_eq_map,qW,Bb]
  rfl
 |[],_,_+1,h,_=>by simp at h
 |_::_,[],_+1,_,h=>by simp at h
 |_::_,_,0,h,_=>by simp at h
 |[],_::_,0,_,h=>by simp at h
variable{aa:List (ai×Obj)}{Z:St}{H:Hp}{s:aq}
def v3{F:Hp}{ws:List V}(r:bf K F ws es){aE:List ah}(rv:Vals ws aE)(h:j<aE.toArray.size):∃x,RelV x aE.toArray[j]/\bf K F [x] [es.getD j .aM]/\j<es.length:=by
 obtain⟨x,hx,rx⟩:=rv.at h;have hl:=r.length;have hj:j<es.length:=by
  grind
 obtain⟨y,hy,ry⟩:=r.get (i:=j) (d:=es[j]) (by simp[hj])
 rw[hx] at hy;cases hy;refine⟨x,rx,?_,hj⟩;rw[show es.getD j .aM=es[j] by simp[hj]]
 exact ry
def vX{p:D->Bool}(h:es.all p=true)(hj:j<es.length):p (es.getD j .aM)=true:=by
 simp_all
inductive xI (K:aJ) (H:Hp) (s:aq):ah->D->Prop
 |none:xI K H s .none .aM
 |bool (b:Bool):xI K H s (.bool b) (.bl b)
 |int (i:Int) (t:Tok):xI K H s (.int i t) (.int i)
 |str (x:Str) (t:Tok):xI K H s (.str x t) (.str x)
 |list {a:ai} {aE:List ah} {ws:List V} {es:List D}:s.heap.IsList a aE.toArray->Vals ws aE->bf K H ws es->xI K H s (.ref a) (.lst es)
 |tuple {a:ai} {aE:List ah} {ws:List V} {es:List D}:s.heap.IsTuple a aE.toArray->Vals ws aE->bf K H ws es->xI K H s (.ref a) (.tup es)
def F_(I:Inv X aa Z H s){x:V}{u:ah}{d:D}(r:bf X.K H [x] [d])(ru:RelV x u)(ok:dX n d=true):xI X.K H s u d:=by
 cases r.one with
 |lst q i=>
  cases ru;obtain⟨aE,rv,pl,_⟩:=I.list q;exact .list pl.isList rv i
 |tup q i=>
  cases ru;obtain⟨aE,rv,pl,_⟩:=I.tuple q;exact .tuple pl rv i
 |aA _ _ _ _=>cases n <;> cases ok
 |ref _=>cases n <;> cases ok
 |flat q=>
  cases d with
  |aM=>cases q;cases ru;exact .none
  |bl b=>cases q;cases ru;exact .bool b
  |int i=>cases q;obtain⟨t,rfl⟩:=ru;exact .int i t
  |str z=>cases q;obtain⟨t,rfl⟩:=ru;exact .str z t
  |ty _=>cases n <;> cases ok
  |lst _=>cases q
  |tup _=>cases q
  |aA _=>cases q
  |ref _=>cases q
def yb(h:dX n (.lst es)=true):∃m,n=m+1/\es.all (dX m)=true:=by
 cases n with
 |zero=>cases h
 |succ n=>exact⟨n,rfl,h⟩
def yd(h:dX n (.tup es)=true):∃m,n=m+1/\es.all (dX m)=true:=by
 cases n with
 |zero=>cases h
 |succ n=>exact⟨n,rfl,h⟩
def NR(h:∀d∈es,eQ d d=true):dO es es=true:=by
 induction es with
 |nil=>rfl
 |cons d es ih=>show(eQ d d&&dO es es)=true;rw[h d (by simp),ih λd m=>h d (by simp[m])];rfl
theorem IV:∀(n:Nat) {d:D},dX n d=true->eQ d d=true:=by
 intro n
 induction n with
 |zero=>intro d h;cases d <;> first|(cases h;done)|exact rfl|exact fG _
 |succ n ih=>
  intro d h;cases d with
  |lst es=>exact NR λd m=>ih (jZ.mp h d m)
  |tup es=>exact NR λd m=>ih (jZ.mp h d m)
  |aA _=>cases h
  |ref _=>cases h
  |ty _=>cases h
  |_=>first|exact rfl|exact fG _
def Th{xs ys:List D}(hl:xs.length=ys.length)(h:∀j,j<xs.length->xs.getD j .aM=ys.getD j .aM):xs=ys:=by
 apply List.ext_getElem hl;intro j h1 h2;have:=h j h1;simpa[h1,h2] using this
noncomputable def L6:V->D
 |.bl b=>.bl b
 |.int i=>.int i
 |.str x=>.str x
 |.ty n=>.ty n
 |_=>.aM
def NS{d:D}{v:V}(h:uI d=some v):d=L6 v:=by cases d <;> cases h <;> rfl
def Ao{d:D}{a:ai}(h:uI d=some (.ref a)):False:=by cases d <;> cases h
theorem FU(I:Inv X aa Z H s):∀(n m:Nat) {x:V} {d e:D},bf X.K H [x] [d]->bf X.K H [x] [e]->dX n d=true->dX m e=true->d=e:=by
 intro n
 induction n using Nat.strongRecOn with
 |ind n ih=>
 intro m x d e rd re od oe;have go:∀{ws:List V} {es jT:List D} {n' m':Nat},n'<n->bf X.K H ws es->bf X.K H ws jT->es.all (dX n')=true->jT.all (dX m')=true->es=jT:=by
  intro ws es jT n' m' hn r1 r2 o1 o2;have l1:=r1.length;have l2:=r2.length;refine Th (by lia) λj hj=>?_
  have GX:j<jT.length:=by lia
  obtain⟨v,g1,g2⟩:=r1.get (i:=j) (d:=es[j]) (by simp[hj])
  obtain⟨v',p1,p2⟩:=r2.get (i:=j) (d:=jT[j]) (by simp[GX])
  rw[g1] at p1;cases p1;rw[show es.getD j .aM=es[j] by simp[hj],show jT.getD j .aM=jT[j] by simp[GX]]
  exact ih n' hn m' g2 p2 (jZ.mp o1 _ (Ht hj)) (jZ.mp o2 _ (Ht GX))
 cases rd.one with
 |flat q=>
  cases re.one with
  |flat q'=>
   rw[NS q,NS q']
  |lst _ _=>exact(Ao q).elim
  |tup _ _=>exact(Ao q).elim
  |aA _ _ _ _=>exact(Ao q).elim
  |ref _=>exact(Ao q).elim
 |lst q i=>
  obtain⟨n',rfl,sS⟩:=yb od;cases re.one with
  |flat q'=>exact(Ao q').elim
  |lst q' i'=>
   obtain⟨m',rfl,sT⟩:=yb oe;cases I.kx q q';rw[go (qH _) i i' sS sT]
  |tup q' i'=>
   obtain⟨_,_,p1,_⟩:=I.list q;obtain⟨_,_,p2,_⟩:=I.tuple q';exact cz rfl (SeqAt.ne_of_list_tuple p1.isList p2)
  |aA _ _ _ _=>cases m <;> cases oe
  |ref _=>cases m <;> cases oe
 |tup q i=>
  obtain⟨n',rfl,sS⟩:=yd od;cases re.one with
  |flat q'=>exact(Ao q').elim
  |tup q' i'=>
   obtain⟨m',rfl,sT⟩:=yd oe;cases I.lI q q';rw[go (qH _) i i' sS sT]
  |lst q' i'=>
   obtain⟨_,_,p1,_⟩:=I.list q';obtain⟨_,_,p2,_⟩:=I.tuple q;exact cz rfl (SeqAt.ne_of_list_tuple p1.isList p2)
  |aA _ _ _ _=>cases m <;> cases oe
  |ref _=>cases m <;> cases oe
 |aA _ _ _ _=>cases n <;> cases od
 |ref _=>cases n <;> cases od
def AF(I:Inv X aa Z H s):∀(n m:Nat) {A:cP} {x y:V} {u v:ah} {d e:D},bf X.K H [x] [d]->bf X.K H [y] [e]->dX n d=true->dX m e=true->RelV x u->RelV y v->A.units+n<cLine->
  SeqAt.EqAt A s u v (eQ d e)/\SeqAt.RcAt A s u v (eQ d e):=by
 intro n
 induction n using Nat.strongRecOn with
 |ind n ih=>
 intro m A x y u v d e rd re od oe ru rv hu;have cR:A.units<cLine:=by lia
 have s1:=F_ I rd ru od;have s2:=F_ I re rv oe;cases s1 with
 |none=>
  cases s2 with
  |none=>
   exact⟨SeqAt.EqAt.same _,SeqAt.RcAt.none_none⟩
  |bool a2=>
   exact⟨SeqAt.EqAt.none_bool a2,SeqAt.RcAt.none_bool a2⟩
  |int a2 t2=>
   exact⟨SeqAt.EqAt.none_int a2 t2,SeqAt.RcAt.none_int a2 t2⟩
  |str a2 t2=>
   exact⟨SeqAt.EqAt.none_str a2 t2,SeqAt.RcAt.none_str a2 t2⟩
  |list l2 v2 r2=>
   exact⟨SeqAt.EqAt.none_list l2 cR,SeqAt.RcAt.none_list l2 cR⟩
  |tuple l2 v2 r2=>
   exact⟨SeqAt.EqAt.none_tuple l2 cR,SeqAt.RcAt.none_tuple l2 cR⟩
 |bool a1=>
  cases s2 with
  |none=>
   exact⟨SeqAt.EqAt.bool_none a1,SeqAt.RcAt.bool_none a1⟩
  |bool a2=>
   exact⟨SeqAt.EqAt.bool_bool a1 a2,SeqAt.RcAt.bool_bool a1 a2⟩
  |int a2 t2=>
   exact⟨SeqAt.EqAt.bool_int a1 a2 t2,SeqAt.RcAt.bool_int a1 a2 t2⟩
  |str a2 t2=>
   exact⟨SeqAt.EqAt.bool_str a1 a2 t2,SeqAt.RcAt.bool_str a1 a2 t2⟩
  |list l2 v2 r2=>
   exact⟨SeqAt.EqAt.bool_list a1 l2 cR,SeqAt.RcAt.bool_list a1 l2 cR⟩
  |tuple l2 v2 r2=>
   exact⟨SeqAt.EqAt.bool_tuple a1 l2 cR,SeqAt.RcAt.bool_tuple a1 l2 cR⟩
 |int a1 t1=>
  cases s2 with
  |none=>
   exact⟨SeqAt.EqAt.int_none a1 t1,SeqAt.RcAt.int_none a1 t1⟩
  |bool a2=>
   exact⟨SeqAt.EqAt.int_bool a1 t1 a2,SeqAt.RcAt.int_bool a1 t1 a2⟩
  |int a2 t2=>
   exact⟨SeqAt.EqAt.int_int a1 t1 a2 t2,SeqAt.RcAt.int_int a1 t1 a2 t2⟩
  |str a2 t2=>
   exact⟨SeqAt.EqAt.int_str a1 t1 a2 t2,SeqAt.RcAt.int_str a1 t1 a2 t2⟩
  |list l2 v2 r2=>
   exact⟨SeqAt.EqAt.int_list a1 t1 l2 cR,SeqAt.RcAt.int_list a1 t1 l2 cR⟩
  |tuple l2 v2 r2=>
   exact⟨SeqAt.EqAt.int_tuple a1 t1 l2 cR,SeqAt.RcAt.int_tuple a1 t1 l2 cR⟩
 |str a1 t1=>
  cases s2 with
  |none=>
   exact⟨SeqAt.EqAt.str_none a1 t1,SeqAt.RcAt.str_none a1 t1⟩
  |bool a2=>
   exact⟨SeqAt.EqAt.str_bool a1 t1 a2,SeqAt.RcAt.str_bool a1 t1 a2⟩
  |int a2 t2=>
   exact⟨SeqAt.EqAt.str_int a1 t1 a2 t2,SeqAt.RcAt.str_int a1 t1 a2 t2⟩
  |str a2 t2=>
   exact⟨SeqAt.EqAt.str_str a1 t1 a2 t2,SeqAt.RcAt.str_str a1 t1 a2 t2⟩
  |list l2 v2 r2=>
   exact⟨SeqAt.EqAt.str_list a1 t1 l2 cR,SeqAt.RcAt.str_list a1 t1 l2 cR⟩
  |tuple l2 v2 r2=>
   exact⟨SeqAt.EqAt.str_tuple a1 t1 l2 cR,SeqAt.RcAt.str_tuple a1 t1 l2 cR⟩
 |@list a aE ws es l1 v1 r1=>
  cases s2 with
  |none=>
   exact⟨SeqAt.EqAt.list_none l1 cR,SeqAt.RcAt.list_none l1 cR⟩
  |bool a2=>
   exact⟨SeqAt.EqAt.list_bool a2 l1 cR,SeqAt.RcAt.list_bool a2 l1 cR⟩
  |int a2 t2=>
   exact⟨SeqAt.EqAt.list_int a2 t2 l1 cR,SeqAt.RcAt.list_int a2 t2 l1 cR⟩
  |str a2 t2=>
   exact⟨SeqAt.EqAt.list_str a2 t2 l1 cR,SeqAt.RcAt.list_str a2 t2 l1 cR⟩
  |@list b iU Ei jT l2 v2 r2=>
   obtain⟨n',rfl,sS⟩:=yb od;obtain⟨m',rfl,sT⟩:=yb oe;have la:=v1.length;have lb:=v2.length;have K5:=r1.length;have K6:=r2.length;have rc:SeqAt.RcAt A s (.ref a) (.ref b) (eQ (.lst es) (.lst jT)):=by
    show SeqAt.RcAt A s _ _ (dO es jT);by_cases hl:es.length=jT.length
    .rw[BP aE.toArray.size (by simp only[eE];lia) (by simp only[eE];lia)]
     refine SeqAt.RcAt.lists (A:=A) l1 l2 (by simp only[eE];lia) cR λj h1 h2=>?_
     obtain⟨x1,q1,q2,q3⟩:=v3 r1 v1 h1;obtain⟨y1,p1,p2,p3⟩:=v3 r2 v2 h2;exact(ih n' (qH _) m' q2 p2 (vX sS q3) (vX sT p3) q1 p1 (by show A.units+1+n'<cLine;lia)).1
    grind [BO,PySem.SeqAt.RcAt.lists_lengths]
   grind [RelV.inj,FU,IV,PySem.SeqAt.EqAt.same,PySem.SeqAt.EqAt.of_refs]
  |tuple l2 v2 r2=>
   exact⟨SeqAt.EqAt.list_tuple l1 l2 cR,SeqAt.RcAt.list_tuple l1 l2 cR⟩
 |@tuple a aE ws es l1 v1 r1=>
  cases s2 with
  |none=>
   exact⟨SeqAt.EqAt.tuple_none l1 cR,SeqAt.RcAt.tuple_none l1 cR⟩
  |bool a2=>
   exact⟨SeqAt.EqAt.tuple_bool a2 l1 cR,SeqAt.RcAt.tuple_bool a2 l1 cR⟩
  |int a2 t2=>
   exact⟨SeqAt.EqAt.tuple_int a2 t2 l1 cR,SeqAt.RcAt.tuple_int a2 t2 l1 cR⟩
  |str a2 t2=>
   exact⟨SeqAt.EqAt.tuple_str a2 t2 l1 cR,SeqAt.RcAt.tuple_str a2 t2 l1 cR⟩
  |list l2 v2 r2=>
   exact⟨SeqAt.EqAt.tuple_list l1 l2 cR,SeqAt.RcAt.tuple_list l1 l2 cR⟩
  |@tuple b iU Ei jT l2 v2 r2=>
   obtain⟨n',rfl,sS⟩:=yd od;obtain⟨m',rfl,sT⟩:=yd oe;have la:=v1.length;have lb:=v2.length;have K5:=r1.length;have K6:=r2.length;have rc:SeqAt.RcAt A s (.ref a) (.ref b) (eQ (.tup es) (.tup jT)):=by
    have z:=SeqAt.RcAt.tuples (A:=A) (e:=λj=>eQ (es.getD j .aM) (jT.getD j .aM)) l1 l2 cR λj h1 h2=>by
     obtain⟨x1,q1,q2,q3⟩:=v3 r1 v1 h1;obtain⟨y1,p1,p2,p3⟩:=v3 r2 v2 h2;exact(ih n' (qH _) m' q2 p2 (vX sS q3) (vX sT p3) q1 p1 (by show A.units+1+n'<cLine;lia)).1
    show SeqAt.RcAt A s _ _ (dO es jT);by_cases hl:es.length=jT.length
    .rw[BP aE.toArray.size (by simp only[eE];lia) (by simp only[eE];lia)]
     have e1:iU.toArray.size=aE.toArray.size:=by simp only[eE];lia
     rw[e1,Nat.min_self,fG,Mp] at z;exact z
    .rw[BO hl];have e1:(aE.toArray.size == iU.toArray.size)=false:=by rw[pX];simp only[eE];lia
     rw[e1,Hw] at z;exact z
   grind [RelV.inj,FU,IV,PySem.SeqAt.EqAt.same,PySem.SeqAt.EqAt.of_refs]
end
mutual
theorem FV:∀k j:TK,eQ k.d j.d=decide (k=j)
 |.inl a,.inl b=>by show(a == b)=_;rw[A'];simp
 |.inr a,.inr b=>by show(a == b)=_;rw[A'];simp
 |.tp l,.tp m=>by show dO (TK.dl l) (TK.dl m)=_;rw[nt l m,A'];simp
 |.inl _,.inr _=>rfl
 |.inl _,.tp _=>rfl
 |.inr _,.inl _=>rfl
 |.inr _,.tp _=>rfl
 |.tp _,.inl _=>rfl
 |.tp _,.inr _=>rfl
 |.aM,.aM=>rfl
 |.aM,.inl _=>rfl
 |.aM,.inr _=>rfl
 |.aM,.tp _=>rfl
 |.inl _,.aM=>rfl
 |.inr _,.aM=>rfl
 |.tp _,.aM=>rfl
theorem nt:∀l m:List TK,dO (TK.dl l) (TK.dl m)=decide (l=m)
 |[],[]=>rfl
 |a::l,b::m=>by show(eQ a.d b.d&&dO (TK.dl l) (TK.dl m))=_;rw[FV a b,nt l m,A'];simp
 |[],_::_=>rfl
 |_::_,[]=>rfl
end
theorem AG:∀l:List TK,TK.dl l=l.map TK.d
 |[]=>by simp[TK.dl]
 |a::l=>by simp[TK.dl,AG l]
theorem uE:∀(n:Nat) {k:TK},k.ok n=true->dX n k.d=true
 |n,.inl i,_=>by cases n <;> rfl
 |n,.inr i,_=>by cases n <;> rfl
 |n,.aM,_=>by cases n <;> rfl
 |0,.tp l,h=>by simp[TK.ok] at h
 |n+1,.tp l,h=>by
  show(TK.dl l).all (dX n)=true;rw[AG,Bb];refine jZ.mpr λa m=>?_
  exact uE n (jZ.mp (by simpa only[TK.ok] using h) a m)
def UM{α:Type}{M:Model}{A:cP}{E:ah->aq->Prop}{s:aq}{c:Prop}[Decidable c]{a b:Sem α}{Q:α->aq->Prop}(h1:wpAny M A a Q E s)(h2:wpAny M A b Q E s):wpAny M A (if c then a else b) Q E s:=by
 split
 .exact h1
 .exact h2
theorem MZ(w:cF):∀l m:List TK,TK.eJ w (l++m)=TK.eJ w l++TK.eJ w m
 |[],m=>by simp[TK.eJ]
 |a::l,m=>by simp[TK.eJ,MZ w l m]
section
variable{X:Cx}{aa:List (ai×Obj)}{Z:St}{H:Hp}
def Px{A:cP}{E:ah->aq->Prop}{s:aq}{y:V}{u:ah}{i:Int}{Q:Int->aq->Prop}(r:bf X.K H [y] [TK.d (.inl i)])(ru:RelV y u)(h:∀t,Q (TK.hash X.w (.inl i)) { s with toks:=t}):wpAny (model X.prog X.w) A (pyHash u) Q E s:=by
 cases(show y=.int i from ag.aN r rfl);obtain⟨t,rfl⟩:=ru;exact wpAny_pyHash_int (by simpa only[TK.hash] using h _)
def Py{A:cP}{E:ah->aq->Prop}{s:aq}{y:V}{u:ah}{i:Str}{Q:Int->aq->Prop}(r:bf X.K H [y] [TK.d (.inr i)])(ru:RelV y u)(h:∀t,Q (TK.hash X.w (.inr i)) { s with toks:=t}):wpAny (model X.prog X.w) A (pyHash u) Q E s:=by
 cases(show y=.str i from ag.aN r rfl);obtain⟨t,rfl⟩:=ru;exact wpAny_pyHash_str (by simpa only[TK.hash] using h _)
theorem Pz{A:cP}{E:ah->aq->Prop}{s:aq}{y:V}{u:ah}{Q:Int->aq->Prop}(r:bf X.K H [y] [TK.d .aM])(ru:RelV y u)(h:∀t,Q (TK.hash X.w .aM) { s with toks:=t}):wpAny (model X.prog X.w) A (pyHash u) Q E s:=by
 cases(show y=.aM from ag.aN r rfl);cases ru;have hT:s.TypeIs .none "NoneType":=rfl;unfold pyHash;have hv:[Value.none].any Value.onHeap=false:=rfl;refine ay ?_;rw[cRoomFor,bc (by rw[hv];exact tH)];refine aR ?_
 refine ay (wpAny_specialOf hT F.slot_NoneType_hash.lookup ?_);show wpAny _ _ (if(some (Value.builtin "NoneType.__hash__") == some Value.none)=true then _ else _) Q E s
 rw[bc (by rw[beq_builtin_none];exact tH)]
 refine ay (wpAny_specialOf hT F.slot_NoneType_hash.lookup ?_);show wpAny _ _ (callSpecialIfBoundUnlessNone? .none "__hash__" _ >>= _) Q E s;refine ay (wpAny_callSpecialIfBoundUnlessNone?_slot hT F.slot_NoneType_hash (wpAny_call_entry F.slot_NoneType_hash hT F.entry_NoneType_hash (show wpAny _ _ (do ret (<-mkInt 4238894112)) _ _ s from wpAny_ret_mkInt ?_) (F.args_NoneType_hash_1 _)))
 refine aR ?_
 grind [TK.hash]
theorem IW:∀(n:Nat) {A:cP} {E:ah->aq->Prop} {s:aq} {y:V} {u:ah} {k:TK} {Q:Int->aq->Prop},Inv X aa Z H s->bf X.K H [y] [k.d]->k.ok n=true->RelV y u->A.units+n<cLine->
  (∀t,Q (k.hash X.w) { s with toks:=t})->wpAny (model X.prog X.w) A (pyHash u) Q E s:=by
 intro n
 induction n with
 |zero=>
  intro A E s y u k Q I r ok ru hu h;cases k with
  |tp l=>simp[TK.ok] at ok
  |inl i=>exact Px r ru h
  |inr x=>exact Py r ru h
  |aM=>exact Pz r ru h
 |succ n ih=>
  intro A E s y u k Q I r ok ru hu h;cases k with
  |inl i=>exact Px r ru h
  |inr x=>exact Py r ru h
  |aM=>exact Pz r ru h
  |tp l=>
   obtain⟨a,ws,rfl,q,i⟩:=ag.isTup r;cases ru;obtain⟨aE,rv,pl,_⟩:=I.tuple q;have hT:s.TypeIs (.ref a) "tuple":=pl.typeIs;obtain⟨o,g1,g2,nn,g3⟩:=pl;have ok:l.all (TK.ok n)=true:=by simpa only[TK.ok] using ok
   show wpAny _ _ (pyHashByItsType (.ref a)) Q E s;unfold pyHashByItsType;refine ay (wpAny_cRoomFor_or (.inr (by lia)) (ay (wpAny_specialOf hT F.slot_tuple_hash.lookup ?_)))
   dsimp only;rw[bc (by rw[beq_builtin_none];exact tH)]
   refine ay (wpAny_specialOf hT F.slot_tuple_hash.lookup (ay ?_));refine wpAny_callSpecialIfBoundUnlessNone?_slot hT F.slot_tuple_hash (wpAny_call_entry F.slot_tuple_hash hT F.entry_tuple_hash ?_ (F.args_tuple_hash_1 _));show wpAny _ _ (Builtin.Tuple.tupleItemsOf (.ref a) >>= λz=>_) _ _ s
   refine ay (wpAny_tupleItemsOf g1 g3 (ay ?_));rw[<-Mq];refine wpAny_forIn_list _ (λrest (b:Array Int) s'=>∃done left wl t,l=done++left/\bf X.K H wl (TK.dl left)/\Vals wl rest/\b.toList=TK.eJ X.w done/\s'={ s with toks:=t}) _ ?_ ?_ _ _ ⟨[],l,ws,s.toks,rfl,i,rv,by simp[TK.eJ],rfl⟩
   .rintro x rest b s' ⟨done,left,wl,t,e,r',v',hb,rfl⟩;obtain⟨w1,wl,rfl,LB,v'⟩:=Paired.Ef v';cases left with
    |nil=>have:=r'.length;simp[TK.dl] at this
    |cons k1 left=>
     simp only[TK.dl] at r';have bL:k1.ok n=true:=jZ.mp ok k1 (by rw[e];simp)
     have fin:∀t',∃wc wI SK A7,l=wc++wI/\bf X.K H SK (TK.dl wI)/\Vals SK rest/\(b.push (k1.hash X.w)).toList=TK.eJ X.w wc/\({ s with toks:=t'}:aq)={ s with toks:=A7}:=
      λt'=>⟨done++[k1],left,wl,t',by simp[e],r'.inv.2,v',by rw[MZ,<-hb];simp[TK.eJ],rfl⟩
     exact ay (ih (I.tok t) r'.inv.1 bL LB (by show A.units+1+n<cLine;lia) λt'=>by
      first
       |exact aR (fin t')
       |exact ay (aR (aR (fin t'))))
   .rintro b s' ⟨done,left,wl,t,e,r',v',hb,rfl⟩;cases v';have hl:left=[]:=by
     cases left with
     |nil=>rfl
     |cons _ _=>have:=r'.length;simp[TK.dl] at this
    subst hl;rw[jQ] at e;subst e;show wpAny _ _ (retInt (Builtin.Tuple.tupleHashOf b.toList)) _ _ _;rw[hb];refine wpAny_ret_mkInt ?_;have h':∀t,Q (reduceHash (Builtin.Tuple.tupleHashOf (TK.eJ X.w l))) { s with toks:=t}:=λt=>by simpa only[TK.hash] using h t
    unfold reduceHash at h';show wpAny _ _ (if(decide (-(2:Int)^63<=Builtin.Tuple.tupleHashOf (TK.eJ X.w l))&&decide (Builtin.Tuple.tupleHashOf (TK.eJ X.w l)<2^63))=true then _ else _) Q E _
    split
    .rename_i hc
     rw[bx hc] at h';exact aR (h' _)
    .rename_i hc
     rw[bc hc] at h';exact ay (wpAny_rule (aR (h' _)))
theorem Fj:∀(n:Nat) {A:cP} {E:ah->aq->Prop} {s:aq} {y:V} {u:ah} {k:TK} {Q:Bool->aq->Prop},Inv X aa Z H s->bf X.K H [y] [k.d]->k.ok n=true->RelV y u->Q true s->
  wpAny (model X.prog X.w) A (eqIsQuiet n u) Q E s:=by
 intro n
 induction n with
 |zero=>
  intro A E s y u k Q I r ok ru h;cases k with
  |tp l=>simp[TK.ok] at ok
  |inl i=>cases(show _=.int i from ag.aN r rfl);obtain⟨t,rfl⟩:=ru;rw[eqIsQuiet_byValue 0 rfl];exact aR h
  |inr i=>cases(show _=.str i from ag.aN r rfl);obtain⟨t,rfl⟩:=ru;rw[eqIsQuiet_byValue 0 rfl];exact aR h
  |aM=>cases(show _=.aM from ag.aN r rfl);cases ru;rw[eqIsQuiet_byValue 0 rfl];exact aR h
 |succ n ih=>
  intro A E s y u k Q I r ok ru h;cases k with
  |inl i=>cases(show _=.int i from ag.aN r rfl);obtain⟨t,rfl⟩:=ru;rw[eqIsQuiet_byValue (n+1) rfl];exact aR h
  |inr i=>cases(show _=.str i from ag.aN r rfl);obtain⟨t,rfl⟩:=ru;rw[eqIsQuiet_byValue (n+1) rfl];exact aR h
  |aM=>cases(show _=.aM from ag.aN r rfl);cases ru;rw[eqIsQuiet_byValue (n+1) rfl];exact aR h
  |tp l=>
   obtain⟨a,ws,rfl,q,i⟩:=ag.isTup r;cases ru;obtain⟨aE,rv,pl,_⟩:=I.tuple q;have hT:s.TypeIs (.ref a) "tuple":=pl.typeIs;obtain⟨o,g1,g2,nn,g3⟩:=pl;have ok:l.all (TK.ok n)=true:=by simpa only[TK.ok] using ok
   unfold eqIsQuiet;refine ay (wpAny_specialOf hT F.slot_tuple_eq.lookup (ay (wpAny_isInstance hT isSubtype_tuple_tuple ?_)));simp only[hV,lK,iC];refine ay (wpAny_seqItems g1 g3 (ay ?_));show wpAny _ _ (forIn aE.toArray _ _) _ _ s;rw[<-Mq];refine wpAny_forIn_list _ (λrest r s'=>r.1=none/\s'=s/\∃left wl,bf X.K H wl (TK.dl left)/\Vals wl rest/\∀x∈left,x.ok n=true) _ ?_ ?_ _ _ ⟨rfl,rfl,l,ws,i,rv,λx m=>jZ.mp ok x m⟩
   .rintro v rest r s' ⟨hr,rfl,left,wl,r',v',hk⟩;obtain⟨w1,wl,rfl,LB,v'⟩:=Paired.Ef v';cases left with
    |nil=>have:=r'.length;simp[TK.dl] at this
    |cons k1 left=>
     simp only[TK.dl] at r';refine ay (ih I r'.inv.1 (hk k1 (by simp)) LB ?_)
     simp only[hV,lK,iC];exact aR ⟨rfl,rfl,left,wl,r'.inv.2,v',λx m=>hk x (by simp[m])⟩
   .rintro⟨r1,r2⟩ s' ⟨hr,rfl,_⟩;cases(show r1=none from hr);exact aR h
structure Bf (X:Cx) (A:cP) (E:ah->aq->Prop) (s:aq) (xs:Array DictEntry) (es:List (TK×V×V)) (k:TK) (u:ah):Prop where
 ent:∀(j:Nat) (x:DictEntry),xs[j]?=some x->∃e,es[j]?=some e/\i4 X.w e x/\(∀(R:Bool->aq->Prop),R (decide (e.1=k)) s->wpAny (model X.prog X.w) A (eqBool x.key u) R E s)/\
  ∀(R:Bool->aq->Prop),R true s->wpAny (model X.prog X.w) A (eqIsQuiet 8 x.key) R E s
 ents:∀(j:Nat) (e:TK×V×V),es[j]?=some e->∃x:DictEntry,xs[j]?=some x/\i4 X.w e x
 uniq:∀(i j:Nat) (e f:TK×V×V),es[i]?=some e->es[j]?=some f->e.1=k->f.1=k->i=j
def ψ{A:cP}{E:ah->aq->Prop}{s:aq}{xs:Array DictEntry}{es:List (TK×V×V)}{k:TK}{y:V}{u:ah}(I:Inv X aa Z H s)(g3:Paired (i4 X.w) es xs.toList)(g4:(es.map (·.1)).Nodup)
  (rk:bf X.K H (es.map (·.2.1)) (es.map (·.1.d))) (ry:bf X.K H [y] [k.d]) (ok:k.ok 8=true) (ru:RelV y u) (hu:A.units+8<cLine):Bf X A E s xs es k u where
 ent:=λj x hx=>by
  obtain⟨e,e1,e2⟩:=Fh j g3 (by rw[ui];exact hx)
  obtain⟨v,v1,v2⟩:=rk.get (i:=j) (d:=e.1.d) (by rw[f9,e1];rfl)
  rw[f9,e1] at v1;cases v1;refine⟨e,e1,e2,λR hR=>?_,λR hR=>Fj 8 I v2 e2.2.2.2 e2.2.1 hR⟩
  refine(AF I 8 8 v2 ry (uE 8 e2.2.2.2) (uE 8 ok) e2.2.1 ru hu).1 X.prog X.w E R ?_;rw[FV];exact hR
 ents:=λj e he=>by
  obtain⟨x,x1,x2⟩:=BI j g3 he
  simp_all
 uniq:=λi j e f he hf ek fk=>by
  have hi:(es.map (·.1))[i]?=some k:=by rw[f9,he,<-ek];rfl
  have hj:(es.map (·.1))[j]?=some k:=by rw[f9,hf,<-fk];rfl
  exact(List.getElem?_inj (fE.mp hi).1 g4).mp (hi.trans hj.symm)
section
variable{A:cP}{E:ah->aq->Prop}{s:aq}{d:ai}{o:Obj}{xs:Array DictEntry}{ep:Nat}{es:List (TK×V×V)}{k:TK}{u:ah}{Q:aj Nat->aq->Prop}
noncomputable abbrev nG(xs:Array DictEntry)(h:Int):List Nat:=placesWithHash xs.size (λi=>xs[i]?.map (·.hash)) h
def mr{h:Int}{i:Nat}:i∈nG xs h↔∃x,xs[i]?=some x/\x.hash=h:=by
 unfold nG placesWithHash;rw[pV,tG];constructor
 .rintro⟨h1,h2⟩;refine⟨xs[i],qV h1,?_⟩;dsimp only at h2;rw[qV h1] at h2;simpa using h2
 .rintro⟨x,h1,h2⟩;refine⟨(vM.mp h1).1,?_⟩;dsimp only;rw[h1,Ey,h2];simp
def UN{h:Int}:(nG xs h).Nodup:=List.Nodup.sublist Ez Mr
def Bf.nG(D:Bf X A E s xs es k u){j:Nat}{e:TK×V×V}(he:es[j]?=some e)(ek:e.1=k):j∈nG xs (k.hash X.w):=by
 obtain⟨x,x1,x2⟩:=D.ents j e he;exact mr.mpr ⟨x,x1,by rw[x2.1,ek]⟩
def UO(D:Bf X A E s xs es k u)(g1:s.heap.get? d=some o)(g2:o.data=.dict xs ep)
  (q0:(∀(j:Nat) (e:TK×V×V),es[j]?=some e->e.1≠k)->Q none s) (q1:∀(j:Nat) (e:TK×V×V),es[j]?=some e->e.1=k->Q (some j) s) :
  wpAny (model X.prog X.w) A (dictWalkPlain d u (k.hash X.w) xs (nG xs (k.hash X.w))) Q E s:=by
 unfold dictWalkPlain;refine ay (wpAny_forIn_list _ (λrest b s'=>s'=s/\b=(none,())/\∃done,nG xs (k.hash X.w)=done++rest/\∀j e,j∈done->es[j]?=some e->e.1≠k) _ ?_ ?_ _ _ ⟨rfl,rfl,[],rfl,λ_ _ m=>by cases m⟩)
 .rintro i rest b s' ⟨rfl,rfl,done,hd,t9⟩;obtain⟨x,x1,x2⟩:=mr.mp (show i∈nG xs (k.hash X.w) by rw[hd];simp)
  obtain⟨e,e1,e2,eq,_⟩:=D.ent i x x1;simp only[x1];rw[bx (by rw[x2];simp)]
  refine ay (wpAny_dictEpoch g1 g2 (ay (eq _ (ay (wpAny_dictEpoch g1 g2 ?_)))));rw[bc (by simp)]
  by_cases ek:e.1=k
  .rw[qX ek];exact ay (wpAny_rule (aR (aR (q1 i e e1 ek))))
  .rw[qK ek];refine ay (wpAny_rule (aR ⟨rfl,rfl,done++[i],by simp[hd],λj f m hf=>?_⟩))
   rcases dF.mp m with m|m
   .exact t9 j f m hf
   .simp at m;subst m;rw[e1] at hf;cases hf;exact ek
 .rintro b s' ⟨rfl,rfl,done,hd,t9⟩;refine aR (q0 λj e he ek=>t9 j e ?_ he ek)
  have:=D.nG he ek
  simp_all
def idv(u:ah):ah:=u
def VY(D:Bf X A E s xs es k u)(g1:s.heap.get? d=some o)(g2:o.data=.dict xs ep)(hq:∀(R:Bool->aq->Prop),R true s->wpAny (model X.prog X.w) A (eqIsQuiet 8 u) R E s)
  (hs:∀z t,u=.str z t->k=.inr z) (ko:∀(j:Nat) (x:DictEntry) (e:TK×V×V) z t,xs[j]?=some x->es[j]?=some e->x.key=.str z t->e.1=.inr z) (hh:∀a (j:Nat) (x:DictEntry) (e:TK×V×V),u=.ref a->xs[j]?=some x->es[j]?=some e->x.key=u->e.1=k)
  (q0:(∀(j:Nat) (e:TK×V×V),es[j]?=some e->e.1≠k)->Q none s) (q1:∀(j:Nat) (e:TK×V×V),es[j]?=some e->e.1=k->Q (some j) s) :
  wpAny (model X.prog X.w) A (dictFind d u (k.hash X.w)) Q E s:=by
 have walk:=UO D g1 g2 q0 q1;have stored:∀v∈(nG xs (k.hash X.w)).filterMap (λi=>xs[i]?.map (·.key)),∀(R:Bool->aq->Prop),R true s->wpAny (model X.prog X.w) A (eqIsQuiet 8 v) R E s:=by
  intro v hv R hR;obtain⟨i,_,hi⟩:=mT.mp hv;cases hx:xs[i]? with
  |none=>rw[hx] at hi;cases hi
  |some x=>
   rw[hx] at hi;obtain rfl:x.key=v:=by simpa using hi
   obtain⟨e,_,_,_,h⟩:=D.ent i x hx;exact h R hR
 have tell:∀(R:Bool->aq->Prop),R false s->wpAny (model X.prog X.w) A (tableMayTell u ((nG xs (k.hash X.w)).filterMap λi=>xs[i]?.map (·.key))) R E s:=by
  intro R hR;unfold tableMayTell;split
  .exact aR hR
  .refine ay (hq _ ?_);simp only[hV,lK,iC];refine ay (wpAny_forIn_list _ (λrest r s'=>s'=s/\r=(none,())/\∀v∈rest,∀(R:Bool->aq->Prop),R true s->wpAny (model X.prog X.w) A (eqIsQuiet 8 v) R E s) _ ?_ ?_ _ _ ⟨rfl,rfl,stored⟩)
   .rintro x rest r s' ⟨rfl,rfl,hr⟩;refine ay (hr x (by simp) _ ?_)
    simp only[hV,lK,iC];exact aR ⟨rfl,rfl,λv hv=>hr v (by simp[hv])⟩
   .rintro r s' ⟨rfl,rfl,_⟩;exact aR hR
 have tell2:∀(R:Bool->aq->Prop),R false s->wpAny (model X.prog X.w) A (if((nG xs (k.hash X.w)).filterMap (λi=>xs[i]?.map (·.key)) == [u])=true then pure false else tableMayTell u ((nG xs (k.hash X.w)).filterMap λi=>xs[i]?.map (·.key))) R E s:=by
  intro R hR;split
  .exact aR hR
  .exact tell R hR
 have fin:∀(i:Nat) (x:DictEntry) (e:TK×V×V),xs[i]?=some x->es[i]?=some e->i4 X.w e x->(x.hash == k.hash X.w)=false->e.1≠k:=λi x e _ _ he hf ek=>by
  rw[he.1,ek] at hf;simp at hf
 unfold dictFind
 (try with_reducible refine jq ?_);refine ay (wpAny_dictEntries g1 g2 ?_)
 dsimp only;by_cases jL:((u::(nG xs (k.hash X.w)).filterMap λi=>xs[i]?.map (·.key)).all carriedByValue)=true
 .rw[bx jL];split;next=>
   rename Str=>z
   split;next KP=>
    unfold foundByValue;cases hf:xs.findIdx? (λe=>e.key.isStr z) with
    |none=>
     refine aR (q0 λj e he ek=>?_)
     obtain⟨x,x1,x2⟩:=D.ents j e he;have n1:=Array.findIdx?_eq_none_iff.mp hf x (Array.mem_of_getElem? x1);have e2:=x2.2.1;have n2:isExactStrKey x.key=true:=by
      have h:=Array.all_eq_true.mp KP j (vM.mp x1).1;rw[(vM.mp x1).2] at h;exact h
     cases hk:x.key with
     |str z2 t2=>
      have e3:=ko j x e z2 t2 x1 he hk;rw[ek,hs z _ rfl] at e3;cases e3;rw[hk] at n1;simp[Value.isStr] at n1
     |_=>rw[hk] at n2;cases n2
    |some i=>
     obtain⟨md,hi,_⟩:=Array.findIdx?_eq_some_iff_getElem.mp hf;obtain⟨e,e1,e2,eq,_⟩:=D.ent i xs[i] (qV md);have ek:e.1=k:=by
      cases hk:xs[i].key with
      |str z2 t2=>
       rw[hk] at hi;have:z2=z:=by simpa[Value.isStr] using hi
       subst this;rw[ko i _ e z2 t2 (qV md) e1 hk,hs z2 _ rfl]
      |_=>rw[hk] at hi;simp[Value.isStr] at hi
     simp only[qV md];refine ay (wpAny_dictEpoch g1 g2 (ay (eq _ (ay (wpAny_dictEpoch g1 g2 ?_)))));rw[bc (by simp),qX ek]
     exact ay (wpAny_rule (aR (q1 i e e1 ek)))
   next=>exact walk
  next=>exact walk
 .rw[bc jL];have Ds:∀z t,u=.str z t->¬(xs.all λe=>isExactStrKey e.key)=true:=by
   intro z t hu hx;refine jL (jZ.mpr λv hv=>?_)
   rcases y0b.mp hv with rfl|hv
   .rw[hu];rfl
   .obtain⟨i,_,hi⟩:=mT.mp hv;cases ua:xs[i]? with
    |none=>rw[ua] at hi;cases hi
    |some x=>
     rw[ua] at hi;obtain rfl:x.key=v:=by simpa using hi
     have h:=Array.all_eq_true.mp hx i (vM.mp ua).1;rw[(vM.mp ua).2] at h;cases hk:x.key with
     |str _ _=>rfl
     |_=>rw[hk] at h;cases h
  have wJ:∀a,u=.ref a->¬(xs.any λe=>e.key == u&&e.hash != k.hash X.w)=true:=by
   intro a hu hx;rw[Array.any_eq_true] at hx;obtain⟨i,hi,hc⟩:=hx;rw[jD,beq_iff_eq,bne_iff_ne] at hc;obtain⟨e,e1,e2,_⟩:=D.ent i xs[i] (qV hi);have:=hh a i _ e hu (qV hi) e1 hc.1;exact hc.2 (by rw[e2.1,this])
  have Ky:u=idv u:=rfl;refine(λ(key:?P)=>?main) ?k
  case main=>
   rw(occs:=.pos [1]) [Ky];split
   .rename_i hz
    rw[bc (Ds _ _ hz)];rw(occs:=.pos [1]) [Ky];split
    .rename_i ha
     rw[bc (wJ _ ha)];exact key
    .exact key
   .rw(occs:=.pos [1]) [Ky];split
    .rename_i ha
     rw[bc (wJ _ ha)];exact key
    .exact key
  refine(λ(qA:?P2)=>?Dh) ?k2
  case Dh=>
   refine UM ?_ ?_
   .refine ay (aR ?_);exact qA
   .refine ay (tell _ ?_);exact qA
  all_goals (
   show wpAny _ _ (if(false&&_)=true then _ else _) _ _ _
   rw[bc (by rw[Bool.false_and];exact tH)]
   refine ay (wpAny_forIn_list _ (λrest b s'=>s'=s/\∃hit done,b=(none,hit)/\nG xs (k.hash X.w)=done++rest/\((hit=none/\∀(j:Nat) (e:TK×V×V),j∈done->es[j]?=some e->e.1≠k)\/∃(j:Nat) (e:TK×V×V),hit=some j/\j∈done/\es[j]?=some e/\e.1=k)) _ ?_ ?_ _ _
    ⟨rfl,none,[],rfl,rfl,.inl ⟨rfl,λ_ _ m=>by cases m⟩⟩)
   .rintro i rest b s' ⟨rfl,hit,done,rfl,hd,hH⟩;obtain⟨x,x1,x2⟩:=mr.mp (show i∈nG xs (k.hash X.w) by rw[hd];simp)
    obtain⟨e,e1,e2,eq,_⟩:=D.ent i x x1;have hni:i∉done:=λm=>by
     have:=UN (xs:=xs) (h:=k.hash X.w);rw[hd] at this;exact(lJ.mp this).2.2 i m i (by simp) rfl
    simp only[x1];rw[bx (by rw[x2];simp)]
    refine ay (wpAny_dictEpoch g1 g2 (ay (eq _ (ay (wpAny_dictEpoch g1 g2 ?_)))));rw[bc (by simp)]
    by_cases ek:e.1=k
    .rw[qX ek];rcases hH with⟨rfl,t9⟩|⟨j,f,rfl,jd,jf,fk⟩
     .first|rw[bx rfl]|skip
      simp only[z6,lK,iC];first|refine ay (aR ?_)|skip
      refine ay (wpAny_rule ?_);split
      .exact aR (aR (q1 i e e1 ek))
      .exact aR ⟨rfl,some i,done++[i],rfl,by simp[hd],.inr ⟨i,e,rfl,by simp,e1,ek⟩⟩
     .exact cz (D.uniq i j e f e1 jf ek fk) λz=>hni (by rw[z];exact jd)
    .rw[qK ek];have nx:(hit=none/\∀(j:Nat) (e:TK×V×V),j∈done++[i]->es[j]?=some e->e.1≠k)\/∃(j:Nat) (e:TK×V×V),hit=some j/\j∈done++[i]/\es[j]?=some e/\e.1=k:=by
      rcases hH with⟨h0,t9⟩|⟨j,f,h0,jd,jf,fk⟩
      .refine .inl ⟨h0,λj f m hf=>?_⟩
       rcases dF.mp m with m|m
       .exact t9 j f m hf
       .simp at m;subst m;rw[e1] at hf;cases hf;exact ek
      .exact .inr ⟨j,f,h0,by simp[jd],jf,fk⟩
     simp only[lK,iC];refine ay (wpAny_rule ?_);first|rw[bc (by simp)]|skip
     first
      |exact aR ⟨rfl,hit,done++[i],rfl,by simp[hd],nx⟩
      |exact ay (aR (aR ⟨rfl,hit,done++[i],rfl,by simp[hd],nx⟩))
   .rintro b s' ⟨rfl,hit,done,rfl,hd,hH⟩;rcases hH with⟨rfl,t9⟩|⟨j,f,rfl,jd,jf,fk⟩
    .refine aR (q0 λj e he ek=>t9 j e ?_ he ek)
     have:=D.nG he ek;rw[hd] at this;simpa using this
    .exact aR (q1 j f jf fk))
end
end
variable{k:TK}{y:V}{o:aj V}{Q:ah->aq->Prop}{H':Hp}
noncomputable def jP(es:List (TK×V×V))(k:TK):aj V:=(es.find? λe=>decide (e.1=k)).map (·.2.2)
noncomputable def dQ:List (TK×V×V)->TK->V->V->List (TK×V×V)
 |[],k,y,v=>[(k,y,v)]
 |e::es,k,y,v=>if e.1=k then(e.1,e.2.1,v)::es else e::dQ es k y v
noncomputable def qC(es:List (TK×V×V))(k:TK)(ep:Nat):Nat:=if(es.any λe=>decide (e.1=k))=true then ep else ep+1
def ig(K:aJ)(H:Hp)(a:ai)(y:V)(r:aj V):Prop:=∃es ep k,H a=some (.dG es ep)/\bf K H (es.map (·.2.1)) (es.map (·.1.d))/\bf K H [y] [k.d]/\k.ok 8=true/\r=jP es k
def xO(K:aJ)(H:Hp)(a:ai)(y v:V)(H':Hp):Prop:=∃es ep k,H a=some (.dG es ep)/\bf K H (es.map (·.2.1)) (es.map (·.1.d))/\bf K H [y] [k.d]/\k.ok 8=true/\es.length<sizeLine/\H'=upd H a (.dG (dQ es k y v) (qC es k ep))
def X1{j:TK}(e:k.d=j.d)(h:k.ok 8=true):k=j:=by
 have h1:=FV k j;rw[<-e,IV 8 (uE 8 h)] at h1
 lia
section
variable{X:Cx}{aa:List (ai×Obj)}{Z:St}{H:Hp}
def PB{z:Str}{t:Tok}(r:bf X.K H [y] [k.d])(ru:RelV y (.str z t)):k=.inr z:=by
 cases k with
 |inl i=>cases(show _=.int i from ag.aN r rfl);obtain⟨t,e⟩:=ru;cases e
 |inr i=>cases(show _=.str i from ag.aN r rfl);obtain⟨t,e⟩:=ru;cases e;rfl
 |tp l=>simp only[TK.d] at r;cases r with|flat q _=>cases q|tup q _ _=>cases ru
 |aM=>cases(show _=.aM from ag.aN r rfl);cases ru
def PC{a:ai}(ru:RelV y (.ref a)):y=.ref a:=by
 cases y with
 |ref b=>cases ru;rfl
 |aM=>cases ru
 |bl _=>cases ru
 |ty _=>cases ru
 |_=>obtain⟨t,e⟩:=ru;cases e
section
variable{A:cP}{E:ah->aq->Prop}{s:aq}{d:ai}{es:List (TK×V×V)}{k:TK}{y v:V}{u r:ah}
def QF{o:Obj}{xs:Array DictEntry}{ep:Nat}{Q:aj Nat->aq->Prop}(I:Inv X aa Z H s)(g1:s.heap.get? d=some o)(g2:o.data=.dict xs ep)(g3:Paired (i4 X.w) es xs.toList)(g4:(es.map (·.1)).Nodup)
  (rk:bf X.K H (es.map (·.2.1)) (es.map (·.1.d))) (ry:bf X.K H [y] [k.d]) (ok:k.ok 8=true) (ru:RelV y u) (hu:A.units+8<cLine)
  (q0:(∀(j:Nat) (e:TK×V×V),es[j]?=some e->e.1≠k)->Q none s) (q1:∀(j:Nat) (e:TK×V×V),es[j]?=some e->e.1=k->Q (some j) s):wpAny (model X.prog X.w) A (dictFind d u (k.hash X.w)) Q E s:=by
 have at':∀(j:Nat) (x:DictEntry) (e:TK×V×V),xs[j]?=some x->es[j]?=some e->i4 X.w e x/\bf X.K H [e.2.1] [e.1.d]:=by
  intro j x e hx he;obtain⟨e',e1,e2⟩:=Fh j g3 (by rw[ui];exact hx)
  rw[he] at e1;cases e1;obtain⟨v,v1,v2⟩:=rk.get (i:=j) (d:=e.1.d) (by rw[f9,he];rfl)
  simp_all
 refine VY (ψ I g3 g4 rk ry ok ru hu) g1 g2 (λR hR=>Fj 8 I ry ok ru hR) (λz t e=>PB ry (by rw[<-e];exact ru)) (λj x e z t hx he hk=>?_) (λa j x e sF hx he hk=>?_) q0 q1
 .obtain⟨g,r'⟩:=at' j x e hx he;exact PB r' (by rw[<-hk];exact g.2.1)
 .obtain⟨g,r'⟩:=at' j x e hx he;have h1:=g.2.1;rw[hk,sF] at h1;rw[sF] at ru;rw[PC h1] at r';rw[PC ru] at ry;exact X1 (FU I 8 8 r' ry (uE 8 g.2.2.2) (uE 8 ok)) g.2.2.2
def UP(h:∀(j:Nat) (e:TK×V×V),es[j]?=some e->e.1≠k):jP es k=none:=by
 unfold jP;rw[Ms.mpr λe m z=>?_,Option.map_none]
 obtain⟨j,hj⟩:=zW.mp m;exact h j e hj (xx z)
def UQ(hn:(es.map (·.1)).Nodup){j:Nat}{e:TK×V×V}(he:es[j]?=some e)(ek:e.1=k):jP es k=some e.2.2:=by
 induction es generalizing j with
 |nil=>simp at he
 |cons x es ih=>
  rw[cU,tJ] at hn;unfold jP;rw[Bc];cases j with
  |zero=>
   simp only[List.getElem?_cons_zero,Option.some.injEq] at he;subst he;rw[qX ek];rfl
  |succ j=>
   simp only[List.getElem?_cons_succ] at he;have ne:¬x.1=k:=λz=>hn.1 (by rw[z,<-ek];exact eW.mpr ⟨e,qI he,rfl⟩)
   rw[qK ne];exact ih hn.2 he
def IJ{Q:aj ah->aq->Prop}(hu:A.units+8<cLine)(I:Inv X aa Z H s)(g:ig X.K H d y o)(ru:RelV y u)(h:∀w t,iN o w->Q w { s with toks:=t}):
  wpAny (model X.prog X.w) A (dictGet d u) Q E s:=by
 obtain⟨es,ep,k,hd,rk,ry,ok,rfl⟩:=g;obtain⟨_,_,ob,xs,g1,_,g2,g3,g4⟩:=(show bI X.prog X.w H s.heap d (.dG es ep) from I.bG d _ hd);unfold dictGet
 (try with_reducible refine jq ?_);refine ay (IW 8 I ry ok ru hu λt=>ay (QF (I.tok t) g1 g2 g3 g4 rk ry ok ru hu (λq0=>?_) (λj e he ek=>?_)))
 .exact aR (h none t (by rw[UP q0];exact tK))
 .obtain⟨x,x1,x2⟩:=BI j g3 he;refine ay (wpAny_dictEntries (s:={ s with toks:=t}) g1 g2 (aR ?_));rw[<-ui,x1];exact h (some x.val) t (by rw[UQ g4 he ek];exact x2.2.2.1)
def ig.ty(I:Inv X aa Z H s)(g:ig X.K H d y o):s.TypeIs (.ref d) "dict"/\(d == sysModules)=false:=by
 obtain⟨es,ep,k,hd,_⟩:=g;obtain⟨_,z,ob,xs,g1,g5,_⟩:=(show bI X.prog X.w H s.heap d (.dG es ep) from I.bG d _ hd);exact⟨⟨ob,g1,g5.1⟩,z⟩
def NT(hu:A.units+9<cLine)(I:Inv X aa Z H s)(g:ig X.K H d y (some v))(ru:RelV y u)(h:∀w' s',Inv X aa Z H s'->RelV v w'->Q w' s'):wpAny (model X.prog X.w) A (getItem (.ref d) u) Q E s:=by
 have hT:=(g.ty I).1;unfold getItem
 (try with_reducible refine jq ?_);refine ay (wpAny_sequenceKey hT (by decide) (ay (wpAny_callSpecial?_slot (name:=Str.ofString "__getitem__") hT slot_dict_getitem (wpAny_call_entry slot_dict_getitem hT entry_dict_getitem ?_ (args_dict_getitem _ _)))))
 show wpAny _ _ (dictGet d u >>= _) _ _ s;refine ay (IJ (by show A.units+1+8<cLine;lia) I g ru λw t mD=>?_)
 obtain⟨w',rfl,r'⟩:=iN.some_of mD;exact aR ⟨w',rfl,aR (h w' _ (I.tok t) r')⟩
def b2i{Q:Bool->aq->Prop}(hu:A.units+9<cLine)(I:Inv X aa Z H s)(g:ig X.K H d y o)(ru:RelV y u)(h:∀s',Inv X aa Z H s'->Q o.isSome s'):wpAny (model X.prog X.w) A (contains (.ref d) u) Q E s:=by
 obtain⟨hT,hd⟩:=g.ty I;unfold contains
 (try with_reducible refine jq ?_);refine ay (wpAny_specialOf hT slot_dict_contains.lookup ?_)
 dsimp only;rw[bc (by rw[beq_builtin_none];exact tH)]
 refine ay (wpAny_callSpecialUnlessNone?_slot (name:=Str.ofString "__contains__") hT slot_dict_contains (wpAny_call_entry slot_dict_contains hT entry_dict_contains ?_ (args_dict_contains _ _)));show wpAny _ _ (dictGet d u >>= _) _ _ s;refine ay (IJ (by show A.units+1+8<cLine;lia) I g ru λw t mD=>?_)
 have e:=mD.qy;cases w with
 |some w=>
  show wpAny _ _ (ret (.bool true)) _ _ _;refine aR ⟨_,rfl,wpAny_truthy_bool ?_⟩;have:=h _ (I.tok t)
  simp_all
 |none=>
  show wpAny _ _ (Builtin.Dict.pendingKey? d u >>= _) _ _ _;refine ay (wpAny_pendingKey_other hd (aR ⟨_,rfl,wpAny_truthy_bool ?_⟩));have:=h _ (I.tok t)
  simp_all
def Mg(hu:A.units+9<cLine)(I:Inv X aa Z H s)(g:ig X.K H d y o)(ru:RelV y u)(h:∀s',Inv X aa Z H s'->Q (.bool o.isSome) s'):wpAny (model X.prog X.w) A (compareOp .In u (.ref d)) Q E s:=
 ay (b2i hu I g ru λs' I'=>aR (h s' I'))
def X2(hu:A.units+9<cLine)(I:Inv X aa Z H s)(g:ig X.K H d y o)(ru:RelV y u)(h:∀s',Inv X aa Z H s'->Q (.bool (!o.isSome)) s'):wpAny (model X.prog X.w) A (compareOp .NotIn u (.ref d)) Q E s:=
 ay (b2i hu I g ru λs' I'=>aR (h s' I'))
theorem E2(k:TK)(y v:V):∀es:List (TK×V×V),(dQ es k y v).length<=es.length+1
 |[]=>by simp[dQ]
 |e::es=>by
  unfold dQ;have:=E2 k y v es;split <;> simp <;> lia
theorem Ox:∀{es:List (TK×V×V)},(∀(j:Nat) (e:TK×V×V),es[j]?=some e->e.1≠k)->dQ es k y v=es++[(k,y,v)]
 |[],_=>rfl
 |e::es,h=>by
  unfold dQ;rw[bc (h 0 e rfl),Ox λj x hx=>h (j+1) x (by simpa using hx)]
  rfl
def X3{w:cF}{xs:List DictEntry}(g3:Paired (i4 w) es xs)(ry:RelV y u)(rv:RelV v r)(ok:k.ok 8=true):Paired (i4 w) (es++[(k,y,v)]) (xs++[⟨k.hash w,u,r⟩]):=by
 induction g3 with
 |nil=>exact .cons ⟨rfl,ry,rv,ok⟩ .nil
 |cons a _ ih=>exact .cons a ih
theorem PD{w:cF}:∀{es:List (TK×V×V)} {xs:List DictEntry} {j:Nat} {e:TK×V×V},Paired (i4 w) es xs->(es.map (·.1)).Nodup->es[j]?=some e->e.1=k->RelV v r->
  Paired (i4 w) (dQ es k y v) (xs.modify j λx=>{ x with val:=r})/\(dQ es k y v).map (·.1)=es.map (·.1)
 |_,_,_,_,.nil,_,he,_,_=>by simp at he
 |_::es,_::xs,0,e,.cons a t,hn,he,ek,rv=>by
  simp only[List.getElem?_cons_zero,Option.some.injEq] at he;subst he;unfold dQ;rw[bx ek];exact⟨.cons ⟨a.1,a.2.1,rv,a.2.2.2⟩ t,rfl⟩
 |x::es,_::xs,j+1,e,.cons a t,hn,he,ek,rv=>by
  simp only[List.getElem?_cons_succ] at he;rw[cU,tJ] at hn;have ne:¬x.1=k:=λz=>hn.1 (by rw[z,<-ek];exact eW.mpr ⟨e,qI he,rfl⟩)
  unfold dQ;rw[bc ne];have ih:=PD t hn.2 he ek rv;exact⟨.cons a ih.1,by rw[cU,cU,ih.2]⟩
def IK{Q:Unit->aq->Prop}(hu:A.units+8<cLine)(I:Inv X aa Z H s)(g:xO X.K H d y v H')(ru:RelV y u)(rv:RelV v r)(h:∀s',Inv X aa Z H' s'->Q () s'):
  wpAny (model X.prog X.w) A (dictSet d u r) Q E s:=by
 obtain⟨es,ep,k,hd,rk,ry,ok,hl,rfl⟩:=g;obtain⟨_,z,ob,xs,g1,g5,g2,g3,g4⟩:=(show bI X.prog X.w H s.heap d (.dG es ep) from I.bG d _ hd);have hz:xs.size<=sizeLine:=by have:=Paired.length g3;simp at this;lia
 have GY:(dQ es k y v).length<=sizeLine:=by have:=E2 k y v es;lia
 unfold dictSet
 (try with_reducible refine jq ?_);refine ay (IW 8 I ry ok ru hu λt=>?_)
 unfold dictSetHashed
 (try with_reducible refine jq ?_);refine ay (QF (I.tok t) g1 g2 g3 g4 rk ry ok ru hu (λq0=>?_) (λj e he ek=>?_))
 .have RO:dQ es k y v=es++[(k,y,v)]:=Ox q0;have J_:qC es k ep=ep+1:=bc (by
   rw[Mt];rintro⟨e,m,q⟩;obtain⟨j,hj⟩:=zW.mp m;exact q0 j e hj (xx q))
  rw[J_] at h;refine ay (wpAny_rule (wpAny_updateDictKeys (hz:=hz) (s:={ s with toks:=t}) g1 g2 (h _ ?_)));refine Jq (I.tok t) (by rw[hd];exact tK) (Heap.SameBut.update ..) ⟨_,qJ _ g1 (Obj.isFreed_of_dict (Obj.data_mapDictKeys g2 _))⟩ ⟨GY,z,_,_,qJ _ g1 (Obj.isFreed_of_dict (Obj.data_mapDictKeys g2 _)),g5.mapDictKeys _,Obj.data_mapDictKeys g2 _,?_,?_⟩
  .rw[RO,Array.toList_push];exact X3 g3 ru rv ok
  .rw[RO,fR,lJ];refine⟨g4,by simp,λa m b m' e=>?_⟩
   simp at m';subst m';obtain⟨x,mx,rfl⟩:=eW.mp m;obtain⟨j,hj⟩:=zW.mp mx;exact q0 j x hj e
 .have em:=PD (y:=y) g3 g4 he ek rv;have J_:qC es k ep=ep:=bx (Mt.mpr ⟨e,qI he,qX ek⟩);rw[J_] at h;refine ay (wpAny_rule (ay (wpAny_updateDict (s:={ s with toks:=t}) g1 g2 (wpAny_point (h _ ?_)))));refine Jq (I.tok t) (by rw[hd];exact tK) (Heap.SameBut.update ..) ⟨_,qJ _ g1 (Obj.isFreed_of_dict (Obj.data_mapDict g2 _))⟩ ⟨GY,z,_,_,qJ _ g1 (Obj.isFreed_of_dict (Obj.data_mapDict g2 _)),g5.mapDict _,Obj.data_mapDict g2 _,?_,?_⟩
  all_goals simp_all
def UR{Q:Unit->aq->Prop}(hu:A.units+9<cLine)(I:Inv X aa Z H s)(g:xO X.K H d y v H')(ru:RelV y u)(rv:RelV v r)(h:∀s',Inv X aa Z H' s'->Q () s'):
  wpAny (model X.prog X.w) A (setItem (.ref d) u r) Q E s:=by
 have hT:s.TypeIs (.ref d) "dict":=by
  obtain⟨es,ep,k,hd,rk,ry,ok,_⟩:=g;exact(ig.ty I ⟨es,ep,k,hd,rk,ry,ok,rfl⟩).1
 unfold setItem
 (try with_reducible refine jq ?_);refine ay (wpAny_sequenceKey hT (by decide) (ay (wpAny_callSpecial?_slot (name:=Str.ofString "__setitem__") hT slot_dict_setitem (wpAny_call_entry slot_dict_setitem hT entry_dict_setitem ?_ (args_dict_setitem _ _ _)))))
 show wpAny _ _ (Builtin.Dict.notOrdered "__setitem__" ⟨[.ref d,u,r],[]⟩ >>= _) _ _ s;refine ay (wpAny_notOrdered_dict hT ?_);show wpAny _ _ (dictSet d u r >>= λz=>_) _ _ s
 exact ay (IK (by show A.units+1+8<cLine;lia) I g ru rv λs' I'=>aR ⟨.none,rfl,aR (h s' I')⟩)
def ω(hu:A.units+9<cLine)(I:Inv X aa Z H s)(g:ig X.K H d y o)(ru:RelV y u)(h:∀w' s',Inv X aa Z H s'->RelV (o.getD .aM) w'->Q w' s'):
  wpAny (model X.prog X.w) A (call (.builtin "dict.get") [.ref d,u]) Q E s:=by
 obtain⟨hT,hd⟩:=g.ty I;refine wpAny_call_entry PySem.F.slot_dict_get hT PySem.F.entry_dict_get ?_ (PySem.F.args_dict_get_2 _ _);show wpAny _ _ (dictGet d u >>= _) _ _ s;refine ay (IJ (by show A.units+1+8<cLine;lia) I g ru λw t mD=>?_)
 cases o with
 |none=>
  cases w with
  |none=>
   show wpAny _ _ (Builtin.Dict.missed d u >>= _) _ _ _;exact ay (wpAny_missed_other hd (aR ⟨.none,rfl,h .none _ (I.tok t) rfl⟩))
  |some w=>exact mD.elim
 |some v'=>
  cases w with
  |none=>exact mD.elim
  |some w=>exact aR ⟨w,rfl,h w _ (I.tok t) mD⟩
end
end
section
variable{X:Cx}
def sZ(K:aJ):R2:=λx y H Q=>∃l b xs zs,x=.ref l/\y=.ref b/\cW K H l xs/\cW K H b zs/\xs.length+zs.length<=sizeLine/\∀p,H p=none->Q (.ref p) (upd H p (.lst (xs++zs)))
def X4:ec X (binaryOp .Add) (sZ X.K):=by
 intro aa s Z H x y v u Q I rx ry h;obtain⟨l,b,xs,zs,rfl,rfl,hH,hB,hz,q⟩:=h;cases rx;cases ry;obtain⟨aE,r,pl,_⟩:=I.list hH;obtain⟨iU,r2,Lr,_⟩:=I.list hB;have hl:=r.length;have GY:=r2.length;obtain⟨⟨cls,dd,data,sl⟩,ho,hc,n,hd⟩:=id pl.isList;obtain⟨⟨cls2,Zx,data2,Hi⟩,R_,sv,n2,hd2⟩:=id Lr.isList;simp only at hc hd sv hd2;subst hc hd sv hd2;have ea:aE.toArray++iU.toArray=(aE++iU).toArray:=by simp
 refine concat_meets ⟨_,ho,rfl⟩ ⟨_,R_,rfl⟩ noFill_list_add seq_list_add PySem.F.slot_list_add PySem.F.entry_list_add (PySem.F.args_list_add_2 _ _) (list_addW l b aE.toArray iU.toArray n n2 dd Zx sl Hi (by simp only[eE];lia)) ⟨ho,R_,?_⟩
 rw[ea];exact⟨.ref _,_,I.K8 (t':=s.toks) (r.append r2) (by rw[dU];lia),rfl,q _ I.fresh⟩
def VZ(K:aJ)(hK:X.K=K:=by rfl):ec X (binaryOp .Add) (sZ K):=hK ▸ X4
end
variable{n:Nat}
instance (z:Str) (n:Int):Decidable (MulOk z n):=by unfold MulOk;infer_instance
abbrev rd(x:D):Rv:=.v (.d x)
section
variable{K:aJ}{k:Kn}{H:Hp}{x:V}{xs:List V}{d e:D}{vs:List V}{ds:List D}
def ag.uc(h:ag K k vs ds)(ok:ds.all (dX n)=true):ag K ⟨k.F,[],[]⟩ vs ds:=by
 induction h generalizing n with
 |nil=>exact .nil
 |flat e _ ih=>rw[qW,jD] at ok;exact .flat e (ih ok.2)
 |ref _ _ _=>rw[qW,jD] at ok;obtain⟨ok,_⟩:=ok;cases n <;> cases ok
 |lst e _ _ i1 i2=>
  rw[qW,jD] at ok;obtain⟨m,rfl,o⟩:=yb ok.1;exact .lst e (i1 o) (i2 ok.2)
 |tup e _ _ i1 i2=>
  rw[qW,jD] at ok;obtain⟨m,rfl,o⟩:=yd ok.1;exact .tup e (i1 o) (i2 ok.2)
 |aA _ _ _ _ _ _ _ _=>rw[qW,jD] at ok;obtain⟨ok,_⟩:=ok;cases n <;> cases ok
theorem Top.uc{n:Nat}(h:Top K k H x d)(le:az k.F H)(ok:dX n d=true):bf K H [x] [d]:=ag.uc (k:=k.all H) (n:=n) (h.rep le) (by rw[qW,ok];rfl)
def Top.Lg(r:ag K k vs ds)(le:az k.F H)(ok:ds.all (dX n)=true):bf K H vs ds:=ag.uc (k:=k.all H) (n:=n) (r.all le) ok
mutual
theorem sN:∀{v:V} (j:TK),ag K k [v] [j.d]->ag K ⟨k.F,[],[]⟩ [v] [j.d]
 |_,.inl i,h=>by simp only[TK.d] at h ⊢;rw[h.aN rfl];exact .flat rfl .nil
 |_,.inr x,h=>by simp only[TK.d] at h ⊢;rw[h.aN rfl];exact .flat rfl .nil
 |_,.aM,h=>by simp only[TK.d] at h ⊢;rw[h.aN rfl];exact .flat rfl .nil
 |_,.tp l,h=>by
  simp only[TK.d] at h ⊢;obtain⟨a,ws,rfl,q,r⟩:=h.isTup;exact .tup q (sO l r) .nil
theorem sO:∀{vs:List V} (l:List TK),ag K k vs (TK.dl l)->ag K ⟨k.F,[],[]⟩ vs (TK.dl l)
 |_,[],h=>by simp only[TK.dl] at h ⊢;rw[h.gz];exact .nil
 |_,j::l,h=>by
  simp only[TK.dl] at h ⊢;obtain⟨w,us,rfl,h1,h2⟩:=h.cw;exact .cons (sN j h1) (sO l h2)
end
def PF{es:List (TK×V×V)}{kvs:List (TK×D)}(q:es.map (·.1)=kvs.map (·.1))(r:ag K k (es.map (·.2.1)) (kvs.map (·.1.d)))(le:az k.F H):bf K H (es.map (·.2.1)) (es.map (·.1.d)):=by
 have e1:kvs.map (·.1.d)=TK.dl (kvs.map (·.1)):=by rw[AG,fL];rfl
 have e2:es.map (·.1.d)=TK.dl (es.map (·.1)):=by rw[AG,fL];rfl
 rw[e1,<-q] at r;rw[e2];exact sO (k:=k.all H) _ (r.all le)
def PH(h:Paired (Top K k H) xs [d]):∃x,xs=[x]/\Top K k H x d:=by
 cases h with
 |cons r t=>cases t;exact⟨_,rfl,r⟩
def X5(h:Paired (Top K k H) xs [d,e]):∃x y,xs=[x,y]/\Top K k H x d/\Top K k H y e:=by
 cases h with
 |cons r t=>obtain⟨y,rfl,r'⟩:=PH t;exact⟨_,_,rfl,r,r'⟩
end
noncomputable def o1(f:D->aj Rv):List D->aj Rv
 |[a]=>f a
 |_=>none
noncomputable def o2(f:D->D->aj Rv):List D->aj Rv
 |[a,b]=>f a b
 |_=>none
section
variable{X:Cx}{K:aJ}
def qT{r:List V->Hp->VK->Prop}{f:D->aj Rv}(h:∀k H x a y Q,az k.F H->Top K k H x a->f a=some y->kT K k H y Q->r [x] H Q):bV K r (o1 f):=λk H xs ds y Q le t e res=>by
 unfold o1 at e;split at e
 .obtain⟨x,rfl,t1⟩:=PH t;exact h k H x _ y Q le t1 e res
 .cases e
def vi{r:List V->Hp->VK->Prop}{f:D->D->aj Rv}(h:∀k H x z a b y Q,az k.F H->Top K k H x a->Top K k H z b->f a b=some y->kT K k H y Q->r [x,z] H Q):bV K r (o2 f):=λk H xs ds y Q le t e res=>by
 unfold o2 at e;split at e
 .obtain⟨x,z,rfl,t1,t2⟩:=X5 t;exact h k H x z _ _ y Q le t1 t2 e res
 .cases e
def wK{r:R2}{f:D->D->aj Rv}(h:∀k H x z a b y Q,az k.F H->Top K k H x a->Top K k H z b->f a b=some y->kT K k H y Q->r x z H Q):bV K (my r) (o2 f):=vi λk H x z a b y Q le t1 t2 e res=>⟨x,z,rfl,h k H x z a b y Q le t1 t2 e res⟩
noncomputable def yk:D->D->aj Rv
 |.int i,.int j=>some (rd (.int (i+j)))
 |.str x,.str y=>if x.length+y.length<=1000000 then some (rd (.str (x++y))) else none
 |.lst xs,.lst ys=>if xs.length+ys.length<=1000000 then some (.o (.lst (xs++ys))) else none
 |_,_=>none
def wU(K:aJ):R2:=λx y H Q=>pM (λi j=>.int (i+j)) x y H Q\/(∃i j,x=.str i/\y=.str j/\i.length+j.length<=sizeLine/\Q (.str (i++j)) H)\/sZ K x y H Q
def X6(K:aJ)(hK:X.K=K):ec X (binaryOp .Add) (wU K):=zu.or (oM.or (VZ K hK))
def e2p:bV K (my (wU K)) (o2 yk):=wK λk H x z a b y Q le t1 t2 e res=>by
 cases a with
 |int _=>cases b with
  |int _=>cases e;cases t1.flat rfl;cases t2.flat rfl;exact .inl ⟨_,_,rfl,rfl,res.flat le rfl⟩
  |_=>cases e
 |str _=>cases b with
  |str _=>
   have e:(if _ then _ else _)=_:=e
   split at e
   .cases e;cases t1.flat rfl;cases t2.flat rfl;exact .inr (.inl ⟨_,_,rfl,rfl,ml (by assumption),res.flat le rfl⟩)
   .cases e
  |_=>cases e
 |lst _=>cases b with
  |lst _=>
   have e:(if _ then _ else _)=_:=e
   split at e
   .cases e;obtain⟨a1,ws1,rfl,s1,r1⟩:=t1.lst le;obtain⟨a2,Ei,rfl,s2,r2⟩:=t2.lst le;exact .inr (.inr ⟨a1,a2,ws1,Ei,rfl,rfl,s1,s2,ml (by rw[r1.length,r2.length];assumption),λp hp=>res.lst le (r1.append r2) hp⟩)
   .cases e
  |_=>cases e
 |_=>cases e
noncomputable def eR(C:Int->Int->Bool)(f:Int->Int->D):D->D->aj Rv
 |.int i,.int j=>if C i j=true then some (rd (f i j)) else none
 |_,_=>none
def Cb{r:R2}{C:Int->Int->Bool}{f:Int->Int->D}{g:Int->Int->V}(hf:∀i j,uI (f i j)=some (g i j))(hr:∀i j H Q,C i j=true->Q (g i j) H->r (.int i) (.int j) H Q):bV K (my r) (o2 (eR C f)):=wK λk H x z a b y Q le t1 t2 e res=>by
 unfold eR at e;split at e
 .split at e
  .cases e;cases t1.flat rfl;cases t2.flat rfl;exact hr _ _ _ _ (by assumption) (res.flat le (hf _ _))
  .cases e
 .cases e
noncomputable abbrev ud:Int->Int->Bool:=λ_ _=>true
def e2q:bV K (my (pM λi j=>.int (i - j))) (o2 (eR ud λi j=>.int (i - j))):=Cb (λ_ _=>rfl) λ_ _ _ _ _ q=>⟨_,_,rfl,rfl,q⟩
def X7:bV K (my (rI xy λi j=>.int (i / j))) (o2 (eR (λ_ j=>decide (0<j/\j<1073741824)) λi j=>.int (i / j))):=Cb (λ_ _=>rfl) λi j _ _ c q=>⟨_,_,rfl,rfl,show xy i j from xx (p:=0<j/\j<1073741824) c,q⟩
def e2r:bV K (my (rI (λ_ j=>0<j) λi j=>.int (i%j))) (o2 (eR (λ_ j=>decide (0<j)) λi j=>.int (i%j))):=Cb (λ_ _=>rfl) λ_ _ _ _ c q=>⟨_,_,rfl,rfl,xx c,q⟩
def e2s:bV K (my (rI xA λi j=>.int (i^j.toNat))) (o2 (eR (λi j=>decide (0<=j/\j<=1000000/\i.natAbs<2^64)) λi j=>.int (i^j.toNat))):=Cb (λ_ _=>rfl) λi j _ _ c q=>⟨_,_,rfl,rfl,show xA i j from xx (p:=0<=j/\j<=1000000/\i.natAbs<2^64) c,q⟩
def JG{f:Int->Int->Bool}:bV K (my (pM λi j=>.bl (f i j))) (o2 (eR ud λi j=>.bl (f i j))):=Cb (λ_ _=>rfl) λ_ _ _ _ _ q=>⟨_,_,rfl,rfl,q⟩
noncomputable def ve:D->D->aj Rv
 |.int i,.int j=>if(-(2^64)<i/\i<2^64)\/(-(2^64)<j/\j<2^64) then some (rd (.int (i*j))) else none
 |.str z,.int j=>if MulOk z j then some (rd (.str (Txt.mul z j))) else none
 |_,_=>none
def w6:R2:=λx y H Q=>rI uk (λi j=>.int (i*j)) x y H Q\/∃z n,x=.str z/\y=.int n/\MulOk z n/\Q (.str (Txt.mul z n)) H
def X8:ec X (binaryOp .Mult) w6:=zw.or TL
def e2t:bV K (my w6) (o2 ve):=wK λk H x z a b y Q le t1 t2 e res=>by
 unfold ve at e;split at e
 .split at e
  .cases e;cases t1.flat rfl;cases t2.flat rfl;exact .inl ⟨_,_,rfl,rfl,by assumption,res.flat le rfl⟩
  .cases e
 .split at e
  .cases e;cases t1.flat rfl;cases t2.flat rfl;exact .inr ⟨_,_,rfl,rfl,by assumption,res.flat le rfl⟩
  lia
 lia
noncomputable def vh:D->aj Rv
 |.int i=>some (rd (.int (-i)))
 |_=>none
def e2u:bV K (Lv (rU λi=>.int (-i))) (o1 vh):=qT λk H x a y Q le t e res=>by
 unfold vh at e;split at e
 .cases e;cases t.flat rfl;exact⟨_,rfl,_,rfl,res.flat le rfl⟩
 .cases e
end
section
variable{X:Cx}{aa:List (ai×Obj)}{s:aq}{Z:St}{H:Hp}
def e2v(I:Inv X aa Z H s){n m:Nat}{A:cP}{x y:V}{u v:ah}{d e:D}(rd:bf X.K H [x] [d])(re:bf X.K H [y] [e])(od:dX n d=true)(oe:dX m e=true)(ru:RelV x u)(rv:RelV y v)(hu:A.units+n<cLine):SeqAt.RcNeAt A s u v (!eQ d e):=by
 have cR:A.units<cLine:=by lia
 have s1:=F_ I rd ru od;have s2:=F_ I re rv oe;cases s1 with
 |none=>
  cases s2 with
  |none=>
   exact SeqAt.RcNeAt.none_none
  |bool a2=>
   exact SeqAt.RcNeAt.none_bool a2
  |int a2 t2=>
   exact SeqAt.RcNeAt.none_int a2 t2
  |str a2 t2=>
   exact SeqAt.RcNeAt.none_str a2 t2
  |list l2 v2 r2=>
   exact SeqAt.RcNeAt.none_list l2 cR
  |tuple l2 v2 r2=>
   exact SeqAt.RcNeAt.none_tuple l2 cR
 |bool a1=>
  cases s2 with
  |none=>
   exact SeqAt.RcNeAt.bool_none a1
  |bool a2=>
   exact SeqAt.RcNeAt.bool_bool a1 a2
  |int a2 t2=>
   exact SeqAt.RcNeAt.bool_int a1 a2 t2
  |str a2 t2=>
   exact SeqAt.RcNeAt.bool_str a1 a2 t2
  |list l2 v2 r2=>
   exact SeqAt.RcNeAt.bool_list a1 l2 cR
  |tuple l2 v2 r2=>
   exact SeqAt.RcNeAt.bool_tuple a1 l2 cR
 |int a1 t1=>
  cases s2 with
  |none=>
   exact SeqAt.RcNeAt.int_none a1 t1
  |bool a2=>
   exact SeqAt.RcNeAt.int_bool a1 t1 a2
  |int a2 t2=>
   exact SeqAt.RcNeAt.int_int a1 t1 a2 t2
  |str a2 t2=>
   exact SeqAt.RcNeAt.int_str a1 t1 a2 t2
  |list l2 v2 r2=>
   exact SeqAt.RcNeAt.int_list a1 t1 l2 cR
  |tuple l2 v2 r2=>
   exact SeqAt.RcNeAt.int_tuple a1 t1 l2 cR
 |str a1 t1=>
  cases s2 with
  |none=>
   exact SeqAt.RcNeAt.str_none a1 t1
  |bool a2=>
   exact SeqAt.RcNeAt.str_bool a1 t1 a2
  |int a2 t2=>
   exact SeqAt.RcNeAt.str_int a1 t1 a2 t2
  |str a2 t2=>
   exact SeqAt.RcNeAt.str_str a1 t1 a2 t2
  |list l2 v2 r2=>
   exact SeqAt.RcNeAt.str_list a1 t1 l2 cR
  |tuple l2 v2 r2=>
   exact SeqAt.RcNeAt.str_tuple a1 t1 l2 cR
 |@list a aE ws es l1 v1 r1=>
  cases s2 with
  |none=>
   exact SeqAt.RcNeAt.list_none l1 cR
  |bool a2=>
   exact SeqAt.RcNeAt.list_bool a2 l1 cR
  |int a2 t2=>
   exact SeqAt.RcNeAt.list_int a2 t2 l1 cR
  |str a2 t2=>
   exact SeqAt.RcNeAt.list_str a2 t2 l1 cR
  |@list b iU Ei jT l2 v2 r2=>
   obtain⟨n',rfl,sS⟩:=yb od;obtain⟨m',rfl,sT⟩:=yb oe;have la:=v1.length;have lb:=v2.length;have K5:=r1.length;have K6:=r2.length;show SeqAt.RcNeAt A s _ _ (!dO es jT);by_cases hl:es.length=jT.length
   .rw[BP aE.toArray.size (by simp only[eE];lia) (by simp only[eE];lia)]
    refine SeqAt.RcNeAt.lists (A:=A) l1 l2 (by simp only[eE];lia) cR λj h1 h2=>?_
    obtain⟨x1,q1,q2,q3⟩:=v3 r1 v1 h1;obtain⟨y1,p1,p2,p3⟩:=v3 r2 v2 h2;exact(AF I n' m' q2 p2 (vX sS q3) (vX sT p3) q1 p1 (by show A.units+1+n'<cLine;lia)).1
   grind [BO,PySem.SeqAt.RcNeAt.lists_lengths]
  |tuple l2 v2 r2=>
   exact SeqAt.RcNeAt.list_tuple l1 l2 cR
 |@tuple a aE ws es l1 v1 r1=>
  cases s2 with
  |none=>
   exact SeqAt.RcNeAt.tuple_none l1 cR
  |bool a2=>
   exact SeqAt.RcNeAt.tuple_bool a2 l1 cR
  |int a2 t2=>
   exact SeqAt.RcNeAt.tuple_int a2 t2 l1 cR
  |str a2 t2=>
   exact SeqAt.RcNeAt.tuple_str a2 t2 l1 cR
  |list l2 v2 r2=>
   exact SeqAt.RcNeAt.tuple_list l1 l2 cR
  |@tuple b iU Ei jT l2 v2 r2=>
   obtain⟨n',rfl,sS⟩:=yd od;obtain⟨m',rfl,sT⟩:=yd oe;have la:=v1.length;have lb:=v2.length;have K5:=r1.length;have K6:=r2.length;have z:=SeqAt.RcNeAt.tuples (A:=A) (e:=λj=>eQ (es.getD j .aM) (jT.getD j .aM)) l1 l2 cR λj h1 h2=>by
    obtain⟨x1,q1,q2,q3⟩:=v3 r1 v1 h1;obtain⟨y1,p1,p2,p3⟩:=v3 r2 v2 h2;exact(AF I n' m' q2 p2 (vX sS q3) (vX sT p3) q1 p1 (by show A.units+1+n'<cLine;lia)).1
   show SeqAt.RcNeAt A s _ _ (!dO es jT);by_cases hl:es.length=jT.length
   .rw[BP aE.toArray.size (by simp only[eE];lia) (by simp only[eE];lia)]
    have e1:iU.toArray.size=aE.toArray.size:=by simp only[eE];lia
    rw[e1,Nat.min_self,fG,Mp] at z;exact z
   .rw[BO hl];have e1:(aE.toArray.size == iU.toArray.size)=false:=by rw[pX];simp only[eE];lia
    rw[e1,Hw] at z;exact z
end
section
variable{X:Cx}{K:aJ}
def DD(K:aJ):R2:=λx y H Q=>∃d e,bf K H [x] [d]/\bf K H [y] [e]/\dX 40 d=true/\dX 40 e=true/\Q (.bl (!eQ d e)) H
def e2w(K:aJ)(hu:X.A.units+40<cLine)(hK:X.K=K:=by rfl):ec X (compareOp .NotEq) (DD K):=by
 subst hK;intro aa s Z H x y v u Q I rx ry h;obtain⟨d,e,r1,r2,o1,o2,q⟩:=h;exact(e2v I r1 r2 o1 o2 rx ry hu) X.prog X.w _ _ ⟨.bl _,H,I,rfl,q⟩
end
end L2
namespace L2
open PySem PySem.Spec PySem.W PySem.Calls PyProof.Rows
variable{P:dq}{w:cF}{o:Expr}{to:TE}{apos cD pos:Pos}{elts:List Expr}{x1:Nat}
def ie(es:List (TK×V×V)):Prop:=∀e∈es,∃x,e.1=.inr x/\e.2.1=.str x
def X9{es:List (TK×V×V)}{xs:List DictEntry}(p:Paired (i4 w) es xs)(h:ie es):∃kvs:List (Str×ah),(∀x∈xs,∃k,(strKind P w).is k x.key=true/\x.hash=(strKind P w).hash k)/\Pairs (strKind P w) xs kvs/\kvs.map (λp=>TK.inr p.1)=es.map (·.1)/\Vals (es.map (·.2.2)) (kvs.map (·.2)):=by
 induction p with
 |nil=>exact⟨[],by simp,.nil,rfl,.nil⟩
 |@cons e x es xs r t ih=>
  obtain⟨kvs,h1,h2,h3,h4⟩:=ih λe m=>h e (n8 _ m)
  obtain⟨z,e1,e2⟩:=h e (vK ..);obtain⟨r1,r2,r3,r4⟩:=r;rw[e2] at r2;obtain⟨t',r2⟩:=r2;have hk:(strKind P w).is z x.key=true:=by rw[r2];show Value.isStrOf z (.str z t')=true;simp[Value.isStrOf]
  refine⟨(z,x.val)::kvs,λy m=>?_,.cons hk rfl h2,by rw[cU,cU,h3,e1],.cons r3 h4⟩
  rcases y0b.mp m with rfl|m
  .exact⟨z,hk,by rw[r1,e1];rfl⟩
  .exact h1 y m
section
variable{X:Cx}{aa:List (ai×Obj)}{Z:St}{H:Hp}{s:aq}{d:ai}{es:List (TK×V×V)}{ep:Nat}
def ye(I:Inv X aa Z H s)(hd:H d=some (.dG es ep))(ht:ie es):∃kvs,s.heap.DictAt (strKind X.prog X.w) d kvs ep/\Vals (es.map (·.2.2)) (kvs.map (·.2))/\kvs.map (λp=>TK.inr p.1)=es.map (·.1)/\kvs.length<=sizeLine/\(d == sysModules)=false:=by
 obtain⟨hz,lo,ob,xs,g1,g5,g2,g3,g4⟩:=(show bI X.prog X.w H s.heap d (.dG es ep) from I.bG d _ hd);obtain⟨kvs,h1,h2,h3,h4⟩:=X9 (P:=X.prog) g3 ht;refine⟨kvs,⟨ob,xs,g1,g5,g2,λx m=>h1 x (Mi.mpr m),h2,?_⟩,h4,h3,?_,lo⟩
 all_goals grind [List.length_map]
def FW(I:Inv X aa Z H s)(hd:H d=some (.dG es ep)):s.TypeIs (.ref d) "dict"/\∀a,Value.ref d=.ref a->∃ob,s.heap.get? a=some ob/\ob.dict=none:=
 QB (x:=.ref d) I rfl (.inr (.inr (.inl ⟨rfl,.inr (.inr ⟨es,ep,hd⟩)⟩)))
def TN{ys:List V}{kvs:List (Str×ah)}{ba:Array ah}(rv:Vals ys (kvs.map (·.2)))(h:ItemsOf (λi v=>∃k,kvs[i]?=some (k,v)) ba kvs.length):Vals ys ba.toList:=by
 have e:ba.toList=kvs.map (·.2):=by
  apply Mu;intro i;by_cases hi:i<ba.toList.length
  .have CQ:i<ba.size:=by simpa using hi
   obtain⟨k,hk⟩:=h.2 i ba[i] (qV CQ)
   simp_all
  .rw[z7 (by lia),z7 (by rw[bw];have:=h.1;simp at hi;lia)]
 rw[e];exact rv
def e2x(to:TE):TE:=λZ H Q=>to Z H λx H1=>∃d es ep,x=.ref d/\H1 d=some (.dG es ep)/\ie es/\∀q,H1 q=none->Q (.ref q) (upd H1 q (.lst (es.map (·.2.2))))
def V0{p:Pos}(uZ:Gl X "list")(yT:X.mg "list"=none)(ho:PE X o to)(hc:X.calm=true)
  (hs:starEach [.Call (.Attribute o "values" apos) [] [] cD] X.env=[(false,eval (.Call (.Attribute o "values" apos) [] [] cD) X.env)]:=by rfl)
  (fj:attributeBase o "values" X.env (eval o X.env)=eval o X.env:=by rfl) (fm:(apos.endLine == cD.line)=true:=by rfl):PE X (.Call (.Name "list" p) [.Call (.Attribute o "values" apos) [] [] cD] [] pos) (e2x to):=by
 intro aa s Z H Q I h;refine Call_ (tR I uZ yT o9 (PyProof.Rows.callWith_type1 ?_ hs rfl));rw[hs];show wpAny _ _ (spliced ((false,eval (.Call (.Attribute o "values" apos) [] [] cD) X.env)::[])) _ _ s;refine Calls.spliced_cons (wpAny_Call_method0_late fj fm (bM (ho aa s Z H _ I h) λv s1 hh=>?_))
 obtain⟨x,H1,I1,r1,d,es,ep,rfl,hd,ht,q⟩:=hh;cases r1;obtain⟨t1,t2⟩:=FW I1 hd;obtain⟨kvs,D1,D2,D3,D4,lo⟩:=ye I1 hd ht;refine⟨"dict","dict.values",PySem.F.plainAttrs_dict,PySem.F.slot_dict_values,PySem.F.type_dict_values,t1,t2,Calls.callWith_builtin rfl (PySem.evalArgs_none ?_)⟩;refine call_meetsIn PySem.F.slot_dict_values t1 PySem.F.entry_dict_values (PySem.F.args_dict_values_1 _) (meets_dict_values (strKind X.prog X.w) d lo) ⟨⟨kvs,D1.dictOf⟩,?_⟩;refine Calls.spliced_nil ?_;refine kdl_call (kdl_values (knd:=strKind X.prog X.w) (r:=s1.heap.objs.size) (d:=d) (kvs:=kvs) (ep:=ep)) (I1.ok.hd hc) ⟨⟨_,iZ _ rfl,rfl,rfl⟩,D1.push _⟩ D4 λh' tk ba c kp hg hi=>?_
 have sz:(s1.heap.push { cls:=.type "dict_values",data:=.fields #[.ref d]}).objs.size=s1.heap.objs.size+1:=by simp[Heap.push]
 rw[show({ s1 with heap:=s1.heap.push { cls:=.type "dict_values",data:=.fields #[.ref d]}}:aq).heap.objs.size=s1.heap.objs.size+1 from sz] at hg ⊢;have rv:=TN D2 hi;refine⟨.ref (s1.heap.objs.size+1),_,I1.laid (t':=tk) (λb o e=>kp b o (cZ _ e)) (tI _) (show bI X.prog X.w _ h' _ (.lst (es.map (·.2.2))) from⟨?_,ba.toList,c,rv,by simpa using hg⟩),rfl,q _ (I1.bG.fresh (tI _))⟩
 grind [List.length_map]
noncomputable def wC:TK->Bool
 |.inr _=>true
 |_=>false
theorem QG{K:fX}{F:Kn}:∀{ws:List (TK×V×V)} {ks:List TK},ws.map (·.1)=ks->ag K F (ws.map (·.2.1)) (ks.map (·.d))->ks.all wC=true->ie ws
 |[],_,_,_,_=>λe m=>nomatch m
 |w::ws,[],e,_,_=>by cases e
 |w::ws,k::ks,e,r,a=>by
  rw[cU,List.cons.injEq] at e;obtain⟨e1,e2⟩:=e;rw[qW,jD] at a;rw[cU,cU] at r;intro y m;rcases y0b.mp m with rfl|m
  .cases k with
   |inr x=>
    refine⟨x,e1,?_⟩;have:=r.inv.1;obtain⟨y1,y2,y3⟩:=y;dsimp only at this ⊢;exact this.aN rfl
   |inl _=>cases a.1
   |tp _=>cases a.1
   |aM=>cases a.1
  .exact QG e2 r.inv.2 a.2 y m
end
def SW:entryFor table "dict_itemiterator.__iter__"=some Builtin.«dict_keyiterator.__iter__»:=
 entryFor_alias (id':="dict_keyiterator.__iter__") (by kernel_rfl) rfl (by decide +kernel) (by kernel_rfl)
section
variable{prog:dq}{w:cF}{A:cP}{E:ah->aq->Prop}{s:aq}{it d:ai}{kvs:List (Str×ah)}{ep:Nat}
def M0{i n ep:Nat}{ok ov:ah}{Q:ah->aq->Prop}(hit:IsItemIter s.heap it d i n ep ok ov)(h:Q (.ref it) s):wpAny (model prog w) A (pyIter (.ref it)) Q E s:=by
 have hT:s.TypeIs (.ref it) "dict_itemiterator":=⟨_,hit,rfl⟩;refine wpAny_pyIter_slot hT PySem.F.slot_dict_itemiterator_iter (wpAny_call_entry PySem.F.slot_dict_itemiterator_iter hT SW ?_ (PySem.F.args_dict_itemiterator_iter_1 _));show wpAny _ _ (ret (.ref it)) _ _ s;exact aR ⟨_,rfl,"dict_itemiterator",_,hT,PySem.F.slot_dict_itemiterator_next.lookup,h⟩
def Tq(hh:A.handled=none)(it d:ai)(gF:d≠it)(kvs:List (Str×ah))(ep:Nat):
  WalksT prog w A it [it,d] [it] kvs.length (λi vals=>∃k x key,kvs[i]?=some (k,x)/\(PySem.strKind prog w).is k key=true/\vals=#[key,x])
   (λi h=>(∃ok ov,IsItemIter h it d i kvs.length ep ok ov)/\h.DictAt (PySem.strKind prog w) d kvs ep)
   (λi T h=>(∃ok ov,IsItemIterOut h it d (i+1) kvs.length ep ok ov T)/\T≠it/\h.DictAt (PySem.strKind prog w) d kvs ep) where
 sub:=λb hb=>by simp at hb;simp[hb]
 frame:=λi h h' ⟨⟨ok,ov,a⟩,b⟩ k=>⟨⟨ok,ov,k it (by simp) _ a⟩,b.at' λo e=>k d (by simp) o e⟩
 item:=λi s Q E hi ⟨⟨ok,ov,a⟩,b⟩ hQ=>by
  obtain⟨⟨k,x⟩,hx⟩:∃p,kvs[i]?=some p:=⟨kvs[i],by simp[hi]⟩
  have lt:it<s.heap.objs.size:=cQ a;refine wpAny_pyNext_items_item a b hx λkey h' hk o1 o2 o3 kp=>?_
  exact hQ s.heap.objs.size #[key,x] h' s.toks ⟨k,x,key,hx,hk,rfl⟩ (bZ _) ⟨_,o2,rfl,_,rfl⟩ ⟨⟨_,_,o1⟩,xq lt,b.at' λo e=>kp d o gF e⟩ λb o hb e=>kp b o (λz=>hb (by simp[z])) e
 go:=λelts k pos i T s Q E ⟨⟨ok,ov,a⟩,b,c⟩ hQ=>wpAny_letOwnedTupleGo_items a λh' a' sb=>hQ h' ⟨⟨ok,ov,a'⟩,c.at' λo e=>(sb.2 d gF).trans e⟩ λb o hb e=>(sb.2 b (λz=>hb (by simp[z]))).trans e
 apart:=λi T h ⟨_,b,_⟩=>by simpa using b
 done:=λs Q E ⟨⟨ok,ov,a⟩,b⟩ hQ=>wpAny_pyNext_items_end hh a b (by simp) λh' eb=>hQ h' s.toks λb o hb e=>eb b o (λz=>hb (by simp[z])) e
 self:=λi s Q E ⟨⟨ok,ov,a⟩,_⟩ hQ=>M0 a hQ
end
def Eh(es:List (TK×V×V))(i:Nat)(ws:List V):Prop:=∃e,es[i]?=some e/\ws=[e.2.1,e.2.2]
def TQ{K:fX}{it d:ai}(gF:d≠it)(es:List (TK×V×V))(ep:Nat):
  Turn P w K (.Tuple elts x1 pos) (z_ (λH=>H d=some (.dG es ep)/\ie es) es.length (Eh es)) [it] it (λi h=>i<=es.length/\∃ok ov,IsItemIter h it d i es.length ep ok ov):=by
 refine NO (FP:=[it]) (wr:=[it]) (by simp) (λb hb=>hb) (λi h st b hb=>?_) (λi h h' st k=>?_) (λX hP hw hK hc aa s Z H I hS=>?_) (λA i s Q E st h=>?_)
 .grind
 .obtain⟨ok,ov,a⟩:=st;exact⟨ok,ov,k it (by simp) _ a⟩
 .subst hP hw hK;obtain⟨kvs,D1,D2,D3,D4,lo⟩:=ye I hS.1 hS.2;have l1:kvs.length=es.length:=by have:=congrArg List.length D3;simpa using this
  have W:=Tq (prog:=X.prog) (w:=X.w) (A:=X.A) (I.ok.hd hc) it d gF kvs ep;rw[l1] at W;refine⟨_,_,_,_,W,λi st=>⟨st,D1⟩,λi h st=>st.1,λi vals hp=>?_⟩
  obtain⟨k,x,key,k1,k2,rfl⟩:=hp;have hi:i<es.length:=by have:=(fE.mp k1).1;lia
  have e3:es[i]?=some es[i]:=iH hi;refine⟨[es[i].2.1,es[i].2.2],⟨_,e3,rfl⟩,.cons ?_ (.cons ?_ .nil),by show 2<=10;decide⟩
  .obtain⟨z,z1,z2⟩:=hS.2 es[i] (Ht hi);have k3:(kvs.map (λp=>TK.inr p.1))[i]?=(es.map (·.1))[i]?:=by rw[D3]
   rw[f9,f9,k1,e3] at k3;have k4:TK.inr k=es[i].1:=Option.some.inj k3;rw[z1] at k4;cases k4;rw[z2];exact Value.isStrOf_shape k2
  .obtain⟨u,u1,u2⟩:=D2.get (i:=i) (x:=es[i].2.2) (by rw[f9,e3];rfl)
   rw[f9,k1] at u1;cases u1;exact u2
 .obtain⟨ok,ov,a⟩:=st;exact M0 a h
def QH(to:TE):TI:=λZ H R=>to Z H λx H1=>∃d es ep,x=.ref d/\H1 d=some (.dG es ep)/\ie es/\R (z_ (λH=>H d=some (.dG es ep)/\ie es) es.length (Eh es)) H1
section
variable{X:Cx}{K:fX}
def V1{fV:Pos}(ho:PE X o to)(fj:attributeBase o "items" X.env (eval o X.env)=eval o X.env:=by rfl)(fm:(apos.endLine == cD.line)=true:=by rfl):
  PI X (.Tuple elts x1 fV) (.Call (.Attribute o "items" apos) [] [] cD) (QH to):=by
 intro aa s Z H R I h;refine wpAny_Call_method0_late fj fm (bM (ho aa s Z H _ I h) λv s1 hh=>?_)
 obtain⟨x,H1,I1,r1,d,es,ep,rfl,hd,ht,q⟩:=hh;cases r1;obtain⟨t1,t2⟩:=FW I1 hd;obtain⟨kvs,D1,D2,D3,D4,lo⟩:=ye I1 hd ht;have l1:kvs.length=es.length:=by have:=congrArg List.length D3;simpa using this
 have ld:d<s1.heap.objs.size:=D1.lt_size;refine⟨"dict","dict.items",PySem.F.plainAttrs_dict,PySem.F.slot_dict_items,PySem.F.type_dict_items,t1,t2,Calls.callWith_builtin rfl (PySem.evalArgs_none ?_)⟩;refine call_meetsIn PySem.F.slot_dict_items t1 PySem.F.entry_dict_items (PySem.F.args_dict_items_1 _) (meets_dict_items (PySem.strKind X.prog X.w) d lo) ⟨⟨kvs,D1.dictOf⟩,?_⟩;refine wpAny_pyIter_items (knd:=PySem.strKind X.prog X.w) (v:=s1.heap.objs.size) (d:=d) (kvs:=kvs) (ep:=ep) ⟨_,iZ _ rfl,rfl,rfl⟩ (D1.push _) ?_;have sz:(s1.heap.push { cls:=.type "dict_items",data:=.fields #[.ref d]}).objs.size=s1.heap.objs.size+1:=by simp[Heap.push]
 have hg:=iZ (s1.heap.push { cls:=.type "dict_items",data:=.fields #[.ref d]}) (o:={ cls:=.type "dict_itemiterator",data:=.fields #[.none,.bool false,.ref d,.int 0 0,.int kvs.length 0,.int ep 0,.none,.none]}) rfl;rw[l1] at hg ⊢;refine⟨(s1.heap.push { cls:=.type "dict_items",data:=.fields #[.ref d]}).objs.size,[(s1.heap.push { cls:=.type "dict_items",data:=.fields #[.ref d]}).objs.size],_,_,H1,rfl,I1.kept (t':=s1.toks) λb o e=>cZ _ (cZ _ e),TQ (it:=(s1.heap.push { cls:=.type "dict_items",data:=.fields #[.ref d]}).objs.size) (d:=d) (by rw[sz];exact gH (uh ld)) es ep,⟨kO _,.none,.none,hg⟩,λb hb=>?_,q⟩
 cases kH.mp hb;have mQ:s1.heap.objs.size<=(s1.heap.push { cls:=.type "dict_items",data:=.fields #[.ref d]}).objs.size:=by rw[sz];exact tI _
 exact I1.k6 mQ (I1.bG.fresh mQ)
end
end L2
namespace L2
open PySem PySem.Spec PyProof.Rows
section
variable{X:Cx}{K:aJ}
def Dy(K:aJ):R2:=λx y H Q=>∃d e,bf K H [x] [d]/\bf K H [y] [e]/\dX 40 d=true/\dX 40 e=true/\Q (.bl (eQ d e)) H
def e2y(K:aJ)(hu:X.A.units+40<cLine)(hK:X.K=K:=by rfl):ec X (compareOp .Eq) (Dy K):=by
 subst hK;intro aa s Z H x y v u Q I rx ry h;obtain⟨d,e,r1,r2,o1,o2,q⟩:=h;exact(AF I 40 40 r1 r2 o1 o2 rx ry hu).2 X.prog X.w _ _ ⟨.bl _,H,I,rfl,q⟩
open Classical in
noncomputable def nY (K:aJ) (H:Hp) (dx:D) (u:ah):Bool:=decide (∃x d,RelV x u/\bf K H [x] [d]/\dX 40 d=true/\eQ d dx=true)
open Classical in
def QI{aa:List (ai×Obj)}{s:aq}{Z:St}{H:Hp}(I:Inv X aa Z H s){dx d:D}{x:V}{u:ah}(rx:RelV x u)(r:bf X.K H [x] [d])(ok:dX 40 d=true):nY X.K H dx u=eQ d dx:=by
 unfold nY;rw[A',y9a];constructor
 .rintro⟨x',d',rx',r',fZ,e⟩;have:=RelV.inj rx rx';subst this;rw[FU I 40 40 r r' ok fZ];exact e
 .exact λe=>⟨x,d,rx,r,ok,e⟩
def Ga{aa:List (ai×Obj)}{s:aq}{Z:St}{H:Hp}(I:Inv X aa Z H s){dx:D}{ws:List V}{aE:List ah}{ds:List D}(t:Vals ws aE)(rp:bf X.K H ws ds)(ok:ds.all (dX 40)=true):aE.any (nY X.K H dx)=ds.any λd=>eQ d dx:=by
 induction t generalizing ds with
 |nil=>
  cases ds with
  |nil=>rfl
  |cons _ _=>have:=rp.length;simp at this
 |cons r t ih=>
  cases ds with
  |nil=>have:=rp.length;simp at this
  |cons d ds=>
   rw[qW,jD] at ok;rw[List.any_cons,List.any_cons,QI I r rp.inv.1 ok.1,ih rp.inv.2 ok.2]
def Gb{aa:List (ai×Obj)}{s:aq}{Z:St}{H:Hp}(I:Inv X aa Z H s){dx:D}{y:V}{v:ah}{A:cP}(rv:RelV y v)(ry:bf X.K H [y] [dx])(oy:dX 40 dx=true)(hu:A.units+40<cLine):
  ∀{ws:List V} {aE:List ah} {ds:List D},Vals ws aE->bf X.K H ws ds->ds.all (dX 40)=true->∀u∈aE,SeqAt.EqAt A s u v (nY X.K H dx u):=by
 intro ws aE ds t
 induction t generalizing ds with
 |nil=>intro _ _ u m;cases m
 |cons r t ih=>
  intro rp ok u' m;cases ds with
  |nil=>have:=rp.length;simp at this
  |cons d ds=>
   rw[qW,jD] at ok;rcases y0b.mp m with rfl|m
   .rw[QI I r rp.inv.1 ok.1];exact(AF I 40 40 rp.inv.1 ry ok.1 oy r rv hu).1
   .exact ih rp.inv.2 ok.2 u' m
noncomputable def zM:D->aj (List D)
 |.lst ds=>some ds
 |.tup ds=>some ds
 |_=>none
def zD(K:aJ)(neg:Bool):R2:=λx y H Q=>
 (∃d e ds,bf K H [x] [d]/\bf K H [y] [e]/\zM e=some ds/\dX 40 d=true/\ds.all (dX 40)=true/\Q (.bl (if neg then !ds.any λz=>eQ z d else ds.any λz=>eQ z d)) H)\/
 (∃i j,x=.str i/\y=.str j/\Q (.bl (if neg then !(!(Builtin.Str.occurrences j i 0 j.length 1).isEmpty) else !(Builtin.Str.occurrences j i 0 j.length 1).isEmpty)) H)\/
 ∃a o,y=.ref a/\ig K H a x o/\Q (.bl (if neg then !o.isSome else o.isSome)) H
def e2z(K:aJ)(hu:X.A.units+41<cLine)(hK:X.K=K:=by rfl):ec X (compareOp .In) (zD K false):=by
 subst hK;intro aa s Z H x y v u Q I rx ry h;rcases h with⟨d,e,ds,r1,r2,es,o1,o2,q⟩|⟨i,j,rfl,rfl,q⟩|⟨a,o,rfl,g,q⟩
 .have sF:X.A.in1.units+40<cLine:=by show X.A.units+1+40<cLine;lia
  cases r2.one with
  |flat z=>cases e <;> first|(cases z;done)|cases es
  |lst sq i=>
   cases es;cases ry;obtain⟨aE,r,pl,hz⟩:=I.list sq;refine SeqAt.in_listAt (nY X.K H d) pl.isList (λw hw=>Gb I rx r1 o1 sF r i o2 w (by simpa using hw)) ⟨.bl _,H,I,rfl,?_⟩
   rw[show aE.toArray.any (nY X.K H d)=aE.any (nY X.K H d) by simp,Ga I r i o2]
   exact q
  |tup sq i=>
   cases es;cases ry;obtain⟨aE,r,pl,hz⟩:=I.tuple sq;refine SeqAt.in_tupleAt (nY X.K H d) pl (λw hw=>Gb I rx r1 o1 sF r i o2 w (by simpa using hw)) ⟨.bl _,H,I,rfl,?_⟩
   rw[show aE.toArray.any (nY X.K H d)=aE.any (nY X.K H d) by simp,Ga I r i o2]
   exact q
  |aA _ _ _ _=>cases es
  |ref _=>cases es
 .exact Uo aa s Z H _ _ v u Q I rx ry ⟨i,j,rfl,rfl,q⟩
 .cases ry;exact Mg (by lia) I g rx λs3 I3=>⟨.bl o.isSome,H,I3,rfl,q⟩
def US(K:aJ)(hu:X.A.units+41<cLine)(hK:X.K=K:=by rfl):ec X (compareOp .NotIn) (zD K true):=by
 subst hK;intro aa s Z H x y v u Q I rx ry h;rcases h with⟨d,e,ds,r1,r2,es,o1,o2,q⟩|⟨i,j,rfl,rfl,q⟩|⟨a,o,rfl,g,q⟩
 .have sF:X.A.in1.units+40<cLine:=by show X.A.units+1+40<cLine;lia
  cases r2.one with
  |flat z=>cases e <;> first|(cases z;done)|cases es
  |lst sq i=>
   cases es;cases ry;obtain⟨aE,r,pl,hz⟩:=I.list sq;refine SeqAt.notIn_listAt (nY X.K H d) pl.isList (λw hw=>Gb I rx r1 o1 sF r i o2 w (by simpa using hw)) ⟨.bl _,H,I,rfl,?_⟩
   rw[show aE.toArray.any (nY X.K H d)=aE.any (nY X.K H d) by simp,Ga I r i o2]
   exact q
  |tup sq i=>
   cases es;cases ry;obtain⟨aE,r,pl,hz⟩:=I.tuple sq;refine SeqAt.notIn_tupleAt (nY X.K H d) pl (λw hw=>Gb I rx r1 o1 sF r i o2 w (by simpa using hw)) ⟨.bl _,H,I,rfl,?_⟩
   rw[show aE.toArray.any (nY X.K H d)=aE.any (nY X.K H d) by simp,Ga I r i o2]
   exact q
  |aA _ _ _ _=>cases es
  |ref _=>cases es
 .exact Td aa s Z H _ _ v u Q I rx ry ⟨i,j,rfl,rfl,q⟩
 .cases ry;exact X2 (by lia) I g rx λs3 I3=>⟨.bl (!o.isSome),H,I3,rfl,q⟩
def wd(ne:Bool)(a b:D):aj Rv:=if(dX 40 a&&dX 40 b)=true then some (rd (.bl (if ne=true then !eQ a b else eQ a b))) else none
def e7s:bV K (my (Dy K)) (o2 (wd false)):=wK λk H x z a b y Q le t1 t2 e res=>by
 unfold wd at e;split at e
 .rename_i h
  obtain⟨h1,h2⟩:=zX.mp h;cases e;exact⟨_,_,t1.uc le h1,t2.uc le h2,h1,h2,res.flat le rfl⟩
 .cases e
def e7t:bV K (my (DD K)) (o2 (wd true)):=wK λk H x z a b y Q le t1 t2 e res=>by
 unfold wd at e;split at e
 .rename_i h
  obtain⟨h1,h2⟩:=zX.mp h;cases e;exact⟨_,_,t1.uc le h1,t2.uc le h2,h1,h2,res.flat le rfl⟩
 .cases e
mutual
def qF:D->aj TK
 |.int i=>some (.inl i)
 |.str x=>some (.inr x)
 |.aM=>some .aM
 |.tup l=>(jO l).map .tp
 |_=>none
def jO:List D->aj (List TK)
 |[]=>some []
 |d::l=>(qF d).bind λk=>(jO l).map λks=>k::ks
end
def jM:D->aj TK
 |.int i=>some (.inl i)
 |.str x=>some (.inr x)
 |.aM=>some .aM
 |.tup l=>(jO l).bind λks=>if TK.ok 8 (.tp ks)=true then some (.tp ks) else none
 |_=>none
mutual
theorem e7u:∀{d:D} {k:TK},qF d=some k->k.d=d
 |.int i,k,e=>by simp only[qF] at e;cases e;simp[TK.d]
 |.str i,k,e=>by simp only[qF] at e;cases e;simp[TK.d]
 |.tup l,k,e=>by
  simp only[qF] at e;obtain⟨ks,h1,rfl⟩:=dm.mp e;simp only[TK.d];rw[mG h1]
 |.aM,k,e=>by simp only[qF] at e;cases e;simp[TK.d]
 |.ref _,k,e=>by simp[qF] at e
 |.bl _,k,e=>by simp[qF] at e
 |.ty _,k,e=>by simp[qF] at e
 |.lst _,k,e=>by simp[qF] at e
 |.aA _,k,e=>by simp[qF] at e
theorem mG:∀{l:List D} {ks:List TK},jO l=some ks->TK.dl ks=l
 |[],ks,e=>by simp only[jO] at e;cases e;simp[TK.dl]
 |d::l,ks,e=>by
  simp only[jO] at e;obtain⟨k,h1,e⟩:=cy.mp e;obtain⟨wH,h2,rfl⟩:=dm.mp e;simp only[TK.dl];rw[e7u h1,mG h2]
end
def Av{d:D}{k:TK}(e:jM d=some k):k.d=d/\k.ok 8=true:=by
 cases d with
 |int i=>cases e;exact⟨by simp[TK.d],rfl⟩
 |str i=>cases e;exact⟨by simp[TK.d],rfl⟩
 |aM=>cases e;exact⟨by simp[TK.d],rfl⟩
 |tup l=>
  simp only[jM] at e;obtain⟨ks,h1,e⟩:=cy.mp e
  grind [TK.d,mG]
 |_=>cases e
def aQ(kvs:List (TK×D))(k:TK):aj D:=(kvs.find? λkv=>decide (kv.1=k)).map (·.2)
theorem Jt{F:Kn}{k:TK}:∀{ws:List (TK×V×V)} {kvs:List (TK×D)},ws.map (·.1)=kvs.map (·.1)->ag K F (ws.map (·.2.2)) (kvs.map (·.2))->(jP ws k=none/\aQ kvs k=none)\/∃v d,jP ws k=some v/\aQ kvs k=some d/\ag K F [v] [d]
 |[],[],_,_=>.inl ⟨rfl,rfl⟩
 |w::ws,p::kvs,h,r=>by
  rw[cU,cU] at h;injection h with h1 h2;unfold jP aQ;rw[Bc,Bc,h1];by_cases e:p.1=k
  .rw[qX e];exact .inr ⟨w.2.2,p.2,rfl,rfl,r.inv.1⟩
  .rw[qK e];exact Jt h2 r.inv.2
 |[],_::_,h,_=>by simp at h
 |_::_,[],h,_=>by simp at h
def vJ{k:Kn}{H:Hp}{x y:V}{kvs:List (TK×D)}{d:D}{j:TK}(le:az k.F H)(t1:Top K k H x (.aA kvs))(t2:Top K k H y d)(hk:jM d=some j):∃a o,x=.ref a/\ig K H a y o/\((o=none/\aQ kvs j=none)\/∃v e,o=some v/\aQ kvs j=some e/\ag K k [v] [e]):=by
 obtain⟨a,es,ep,rfl,h1,h2,h3,h4⟩:=t1.aA le;obtain⟨k1,k2⟩:=Av hk;refine⟨a,jP es j,rfl,⟨es,ep,j,h1,PF h2 h3 le,?_,k2,rfl⟩,Jt h2 h4⟩;have:=t2.rep le;rw[<-k1] at this;exact sN (k:=k.all H) j this
def AW(neg:Bool)(a b:D):aj Rv:=match b with
 |.aA kvs=>(jM a).map λj=>rd (.bl (if neg=true then !(aQ kvs j).isSome else(aQ kvs j).isSome))
 |.str j=>(match a with
  |.str i=>some (rd (.bl (if neg=true then !(!(Builtin.Str.occurrences j i 0 j.length 1).isEmpty) else !(Builtin.Str.occurrences j i 0 j.length 1).isEmpty)))
  |_=>none)
 |e=>(zM e).bind λds=>if(dX 40 a&&ds.all (dX 40))=true then some (rd (.bl (if neg=true then !ds.any λz=>eQ z a else ds.any λz=>eQ z a))) else none
def X_{k:Kn}{H:Hp}{x:V}{e:D}{ds:List D}(le:az k.F H)(t:Top K k H x e)(h:zM e=some ds)(ok:ds.all (dX 40)=true):bf K H [x] [e]:=by
 cases e with
 |lst _=>cases h;obtain⟨p,ws,rfl,q,r⟩:=t.lst le;exact .lst q (Top.Lg r le ok) .nil
 |tup _=>cases h;obtain⟨p,ws,rfl,q,r⟩:=t.tup le;exact .tup q (Top.Lg r le ok) .nil
 |_=>cases h
def Rn(neg:Bool):bV K (my (zD K neg)) (o2 (AW neg)):=wK λk H x z a b y Q le t1 t2 e res=>by
 unfold AW at e;split at e
 .obtain⟨j,hj,rfl⟩:=dm.mp e;obtain⟨p,o,rfl,g,h⟩:=vJ le t2 t1 hj;refine .inr (.inr ⟨p,o,rfl,g,?_⟩);have z:=res.flat le rfl;rcases h with⟨rfl,h⟩|⟨v,e,rfl,h,_⟩ <;> rw[h] at z <;> exact z
 .split at e
  .cases e;cases t1.flat rfl;cases t2.flat rfl;exact .inr (.inl ⟨_,_,rfl,rfl,res.flat le rfl⟩)
  .cases e
 .obtain⟨ds,h1,e⟩:=cy.mp e;split at e
  .rename_i h
   obtain⟨h2,h3⟩:=zX.mp h;cases e;exact .inl ⟨_,_,ds,t1.uc le h2,X_ le t2 h1 h3,h1,h2,h3,res.flat le rfl⟩
  .cases e
def zE(neg:Bool):R2:=λx y H Q=>(y=.aM/\Q (.bl (if neg then !decide (x=.aM) else decide (x=.aM))) H)\/∃a b,x=.bl a/\y=.bl b/\Q (.bl (if neg then a != b else a == b)) H
def e3b:ec X (compareOp .Is) (zE false):=zv.or Ξ
def Ya:ec X (compareOp .IsNot) (zE true):=vj.or Xz
noncomputable def sR:D->Bool
 |.aM=>true
 |_=>false
def AX(neg:Bool)(a b:D):aj Rv:=match b with
 |.aM=>some (rd (.bl (if neg=true then !sR a else sR a)))
 |.bl b=>(match a with
  |.bl a=>some (rd (.bl (if neg=true then a != b else a == b)))
  |_=>none)
 |_=>none
def V2{k:Kn}{H:Hp}{x:V}{d:D}(h:Top K k H x d):decide (x=.aM)=sR d:=by
 rcases h with h|⟨p,c,rfl,rfl,h⟩
 .cases h.one with
  |flat q=>cases d <;> cases q <;> rfl
  |_=>rfl
 .cases c <;> rfl
def Ro(neg:Bool):bV K (my (zE neg)) (o2 (AX neg)):=wK λk H x z a b y Q le t1 t2 e res=>by
 unfold AX at e;split at e
 .cases e;cases t2.flat rfl;refine .inl ⟨rfl,?_⟩;rw[V2 t1];exact res.flat le rfl
 .split at e
  .cases e;cases t1.flat rfl;cases t2.flat rfl;exact .inr ⟨_,_,rfl,rfl,res.flat le rfl⟩
  .cases e
 .cases e
def DA(K:aJ):R2:=λx y H Q=>zF K x y H Q\/zG K x y H Q\/DB x y H Q\/∃a v,x=.ref a/\ig K H a y (some v)/\Q v H
def Yb(hu:X.A.units+9<cLine):qh X (λx y H Q=>∃a v,x=.ref a/\ig X.K H a y (some v)/\Q v H):=by
 intro value slice aa s Z H x y v u Q I rx ry h hs;obtain⟨a,w,rfl,g,q⟩:=h;cases rx;exact tail_any (g.ty I).1 PySem.F.slot_dict_getitem.lookup (NT hu I g ry λw' s3 I3 mD=>⟨w,H,I3,mD,q⟩) hs
def KY(K:aJ)(hu:X.A.units+41<cLine)(hK:X.K=K):qh X (DA K):=by
 subst hK;exact(VN X.K rfl).or ((XA X.K rfl).or (y7.or (Yb (by lia))))
noncomputable def intD:D->aj Int
 |.int k=>some k
 |_=>none
def FX{i:D}{k:Int}(h:intD i=some k):i=.int k:=by
 cases i with
 |int _=>cases h;rfl
 |_=>cases h
def PK{F:Kn}{ws:List V}{ds:List D}{i:Int}{d:D}(r:ag K F ws ds)(e:eH ds i=some d):∃v,eH ws i=some v/\ag K F [v] [d]:=by
 unfold eH at e ⊢;rw[r.length];cases q:vc ds.length i with
 |none=>rw[q] at e;cases e
 |some j=>
  rw[q] at e;exact r.get e
def G_(a i:D):aj Rv:=match a with
 |.lst ds=>(intD i).bind λk=>(eH ds k).map rd
 |.tup ds=>(intD i).bind λk=>(eH ds k).map rd
 |.str z=>(intD i).bind λk=>if z.length<=1000000 then(eH z.cps.toList k).map λc=>rd (.str ⟨#[c]⟩) else none
 |.aA kvs=>(jM i).bind λj=>(aQ kvs j).map rd
 |_=>none
def e7v:bV K (my (DA K)) (o2 G_):=wK λk H x z a b y Q le t1 t2 e res=>by
 unfold G_ at e;split at e
 .obtain⟨i,hi,e⟩:=cy.mp e;cases FX hi;cases t2.flat rfl;obtain⟨d,h1,rfl⟩:=dm.mp e;obtain⟨p,ws,rfl,q,r⟩:=t1.lst le;obtain⟨v,h2,h3⟩:=PK r h1;exact .inl ⟨p,ws,i,v,rfl,rfl,q,h2,res.rep le h3⟩
 .obtain⟨i,hi,e⟩:=cy.mp e;cases FX hi;cases t2.flat rfl;obtain⟨d,h1,rfl⟩:=dm.mp e;obtain⟨p,ws,rfl,q,r⟩:=t1.tup le;obtain⟨v,h2,h3⟩:=PK r h1;exact .inr (.inl ⟨p,ws,i,v,rfl,rfl,q,h2,res.rep le h3⟩)
 .obtain⟨i,hi,e⟩:=cy.mp e;cases FX hi;cases t2.flat rfl;cases t1.flat rfl;split at e
  .obtain⟨c,h1,rfl⟩:=dm.mp e;exact .inr (.inr (.inl ⟨_,i,c,rfl,rfl,ml (by assumption),h1,res.flat le rfl⟩))
  .cases e
 .obtain⟨j,hj,e⟩:=cy.mp e;obtain⟨d,h1,rfl⟩:=dm.mp e;obtain⟨p,o,rfl,g,h⟩:=vJ le t1 t2 hj;rcases h with⟨_,h⟩|⟨v,e,rfl,h,r⟩
  .lia
  .rw[h] at h1;cases h1;exact .inr (.inr (.inr ⟨p,v,rfl,g,res.rep le r⟩))
 .cases e
noncomputable def cutD(ds:List D)(lo hi:aj Int):List D:=(ds.drop (HT.cO ds.length 0 lo)).take (HT.cO ds.length ds.length hi - HT.cO ds.length 0 lo)
def DE(K:aJ):V->aj Int->aj Int->Hp->VK->Prop:=λx lo hi H Q=>DF x lo hi H Q\/zH K x lo hi H Q\/zI K x lo hi H Q
def LK(K:aJ)(hK:X.K=K):rN X (DE K):=zN.or ((VO K hK).or (XB K hK))
def LJ(a:D)(lo hi:aj Int):aj Rv:=match a with
 |.str z=>if z.length<=1000000 then some (rd (.str (Txt.slice z lo hi))) else none
 |.lst ds=>some (.o (.lst (cutD ds lo hi)))
 |.tup ds=>if HT.cO ds.length 0 lo=0/\HT.cO ds.length ds.length hi=ds.length then none else some (rd (.tup (cutD ds lo hi)))
 |_=>none
def PL{k:Kn}{ws:List V}{ds:List D}{lo hi:aj Int}(r:ag K k ws ds):ag K k (nq ws lo hi) (cutD ds lo hi):=by
 unfold nq cutD;rw[r.length];exact(r.drop _).take _
def e7w{k:Kn}{H:Hp}{x:V}{a:D}{y:Rv}{Q:VK}{lo hi:aj Int}(le:az k.F H)(t:Top K k H x a)(e:LJ a lo hi=some y)(res:kT K k H y Q):DE K x lo hi H Q:=by
 unfold LJ at e;split at e
 .split at e
  .cases e;cases t.flat rfl;exact .inl ⟨_,rfl,ml (by assumption),res.flat le rfl⟩
  .cases e
 .cases e;obtain⟨p,ws,rfl,q,r⟩:=t.lst le;exact .inr (.inl ⟨p,ws,rfl,q,λl hl=>res.lst le (PL r) hl⟩)
 .split at e
  .cases e
  .rename_i gF
   cases e;obtain⟨p,ws,rfl,q,r⟩:=t.tup le;exact .inr (.inr ⟨p,ws,rfl,q,by rw[r.length];exact gF,λl hl=>res.tup le (PL r) hl⟩)
 .cases e
abbrev GO:=Gx (aj Int)
abbrev Ac:Rp (aj Int) (aj Int):=λ_ _ b a=>b=a
noncomputable def v5:GO:=λ_ S=>some (.ok none S)
noncomputable def Rv.int:Rv->aj Int
 |.v (.d (.int i))=>some i
 |_=>none
noncomputable def v7(g:GE):GO:=λU S=>bd (g U S) λr S1=>r.int.map λi=>.ok (some i) S1
def uJ(f:GE)(lo hi:GO):GE:=λU S=>bd (f U S) λr S1=>bd (lo U S1) λl S2=>bd (hi U S2) λu S3=>((vt S3 (mF r)).bind λd=>LJ d l u).map λy=>.ok y S3
def Rv.jj{r:Rv}{i:Int}(h:r.int=some i):r=rd (.int i):=by
 obtain(d|_)|_:=r
 .cases d <;> cases h;rfl
 all_goals cases h
section
variable{W:XW}{q:Nat}{e:Expr}{lo hi:aj Expr}{f:GE}{fl fh:GO}{pos p2:Pos}
def uR:PO X none (tX Ac K W q v5):=λaa s Z H Q I t=>Xr aa s Z H Q I (Cq t λ_ _=>rfl)
def uS(h:PE X e (tE K W q f)):PO X (some e) (tX Ac K W q (v7 f)):=λaa s Z H Q I t=>Xs h aa s Z H Q I (by
 obtain⟨k,U,S,res,ok,gk,e,w⟩:=t;refine tX.bd ok gk e w λr S1 x k1 H1 bL g1 r1 e1 w1 _=>?_
 obtain⟨i,e2,rfl⟩:=dm.mp e1;cases Rv.jj e2;exact⟨i,(show ag K k1 [x] [.int i] from r1).aN rfl,w1.now bL rfl⟩)
def V3(he:PE X e (tE K W q f))(hl:PO X lo (tX Ac K W q fl))(hu:PO X hi (tX Ac K W q fh))(hK:X.K=K):PE X (.Subscript e (.Slice lo hi none p2) pos) (tE K W q (uJ f fl fh)):=(VG (LK K hK) he hl hu).mono λZ H Q t=>by
 obtain⟨k,U,S,res,ok,gk,e,w⟩:=t;refine tX.bd ok gk e w λr S1 x k1 H1 bL g1 r1 e1 w1 _=>?_
 obtain⟨k2,u2,cS,r2⟩:=qQ bL r1;refine tX.bd cS (g1.up (u2 q)) e1 (w1.up (u2 q)) λl S3 l' k3 H3 jN g3 r3 e3 w3 u3=>?_
 cases r3;refine tX.bd jN g3 e3 w3 λu S4 u' k4 H4 qB g4 r4 e4 w4 u4=>?_
 cases r4;obtain⟨y,e5,rfl⟩:=dm.mp e4;obtain⟨d,e6,e7⟩:=cy.mp e5;exact e7w qB.le (F9 qB ((r2.up u3).up u4) e6) e7 (.fin qB w4)
end
end
section
variable{X:Cx}{K:aJ}
def iy:List Int->Int
 |[]=>0
 |x::xs=>xs.foldl (λa b=>if b<a then b else a) x
def UT(xs:List Int):∀x:Int,(xs.foldl (λa b=>if b<a then b else a) x<=x/\∀y∈xs,xs.foldl (λa b=>if b<a then b else a) x<=y)/\(xs.foldl (λa b=>if b<a then b else a) x=x\/xs.foldl (λa b=>if b<a then b else a) x∈xs):=by
 induction xs with
 |nil=>intro x;exact⟨⟨Hx _,λy m=>by cases m⟩,.inl rfl⟩
 |cons z xs ih=>
  grind
def Fl{xs:List Int}(h:xs≠[]):iy xs∈xs/\∀y∈xs,iy xs<=y:=by
 cases xs with
 |nil=>exact cz rfl h
 |cons x xs=>
  obtain⟨⟨h1,h2⟩,h3⟩:=UT xs x;refine⟨?_,λy m=>?_⟩
  .rcases h3 with h3|h3
   .show List.foldl _ x xs∈_
    simp_all
   .exact .tail _ h3
  .rcases y0b.mp m with rfl|m
   .exact h1
   .exact h2 y m
theorem Nq:∀{is:List Int} {aE:List ah},Vals (is.map V.int) aE->∃ps:List (Int×Tok),aE=ps.map (λp=>Value.int p.1 p.2)/\ps.map (·.1)=is
 |[],aE,h=>by
  rw[Et] at h;cases h;exact⟨[],rfl,rfl⟩
 |i::is,aE,h=>by
  rw[cU] at h;cases h with
  |cons r t=>
   obtain⟨ps,e1,e2⟩:=Nq t;obtain⟨tk,rfl⟩:=r;exact⟨(i,tk)::ps,by rw[e1];rfl,by rw[cU,e2]⟩
def V4(K:aJ)(hc:X.calm=true:=by rfl)(hK:X.K=K:=by rfl):bS X (.builtin "min") (λxs H Q=>∃(a:ai) (is:List Int),xs=[.ref a]/\cW K H a (is.map V.int)/\is≠[]/\Q (.int (iy is)) H):=by
 subst hK;intro aa s Z H xs us Q I r h;obtain⟨a,is,rfl,hs,gF,q⟩:=h;obtain⟨u,rfl,ru⟩:=vals1 r;cases ru;obtain⟨aE,rv,p,hz⟩:=I.list hs;obtain⟨ps,e1,e2⟩:=Nq rv;subst e1;have hl:0<ps.length:=by
  grind
 have el:(ps.map λp=>Value.int p.1 p.2).toArray=intItems ps.toArray:=by unfold intItems;simp
 have pl:=p.isList;rw[el] at pl;refine min_intList (I.ok.hd hc) pl (by simpa using hl) λv h' tk hv hk=>?_
 obtain⟨b1,b2⟩:=argBest_lt (numAt ps.toArray) (ps.toArray.size - 1);generalize argBest (λi j=>decide (numAt ps.toArray i<numAt ps.toArray j)) (ps.toArray.size - 1)=n at *
 have hn:n<ps.length:=by simp at b1;lia
 have CV:∀j (hj:j<ps.length),numAt ps.toArray j=(ps[j]).1:=λj hj=>by unfold numAt;simp[hj]
 have KQ:v=Value.int (ps[n]).1 (ps[n]).2:=by
  unfold intItems at hv;simp[hn] at hv;exact hv.symm
 have hm:iy is=(ps[n]).1:=by
  obtain⟨m1,m2⟩:=Fl gF;have i1:(ps[n]).1∈is:=by rw[<-e2];exact mU (f:=(·.1)) (Ht hn)
  have c1:=m2 _ i1;rw[<-e2] at m1;obtain⟨pp,KO,hp2⟩:=eW.mp m1;obtain⟨j,hj,ej⟩:=List.mem_iff_getElem.mp KO;have c2:=b2 j (by simp;lia)
  rw[CV n hn,CV j hj,ej] at c2;rw[e2] at hp2;lia
 rw[KQ];exact⟨.int (iy is),H,I.kept (h':=h') (t':=tk) λb o e=>hk b o e,⟨(ps[n]).2,by rw[hm]⟩,q⟩
def kq:List D->aj (List Int)
 |[]=>some []
 |.int i::ds=>(kq ds).map λis=>i::is
 |_=>none
theorem NU:∀is:List Int,kq (is.map .int)=some is
 |[]=>rfl
 |i::is=>by rw[cU];show(kq (is.map .int)).map _=_;rw[NU is];rfl
theorem NV:∀{ds:List D} {is:List Int},kq ds=some is->ds=is.map .int
 |[],is,e=>by cases e;rfl
 |d::ds,is,e=>by
  cases d with
  |int i=>
   obtain⟨js,e1,e2⟩:=dm.mp (show(kq ds).map _=some is from e);rw[<-e2,NV e1];rfl
  |_=>cases e
theorem Nb{F:Kn}:∀{ws:List V} {is:List Int},ag K F ws (is.map .int)->ws=is.map .int
 |[],[],_=>rfl
 |[],_::_,h=>by have:=h.length;simp at this
 |_::_,[],h=>by have:=h.length;simp at this
 |w::ws,i::is,h=>by
  rw[cU] at h;have h1:=h.inv.1;have h2:=Nb h.inv.2;rw[h2,cU];rw[h1.aN rfl]
end
end L2
namespace L2
open PySem PySem.Spec PySem.W PyProof.Rows
section
variable{X:Cx}{K:aJ}
def L5(k:String):Bool:=k == "tuple" || k == "list"
def wW(K:fX):List V->Hp->VK->Prop:=λxs H Q=>∃x k q,xs=[x,.ref q]/\B' K H x k/\iE K H q [.ty "tuple",.ty "list"]/\Q (.bl (L5 k)) H
def UU(K:fX)(hK:X.K=K:=by rfl):bS X (.builtin "isinstance") (wW K):=by
 subst hK;intro aa s Z H xs us Q I r h;obtain⟨x,k,q,rfl,hk,hq,qq⟩:=h;obtain⟨u,w',rfl,rx,ry⟩:=vals2 r;cases ry;obtain⟨aE,rv,⟨ot,h1,h2,n,h3⟩,_⟩:=I.tuple hq;obtain⟨oc,odd,odt,pH⟩:=ot;dsimp only at h2 h3;subst h2;subst h3;obtain⟨u1,u2,rfl,r1,r2⟩:=vals2 rv;cases r1;cases r2;have fin:∀b,b=L5 k->∀tk,EP X aa Z Q (.bool b) { s with toks:=tk}:=λb e tk=>uH (I.tok _) qq e.symm
 cases x with
 |aM=>
  cases rx;have hk:k="NoneType":=hk;subst hk;exact kia_tup (b:=false) kitx_none I.jV tK h1 (by rfl) (λz=>nomatch z) (fin _ rfl)
 |bl b=>
  cases rx;have hk:k="bool":=hk;subst hk;exact kia_tup (b:=false) kitx_bool I.jV tK h1 (by rfl) (λz=>nomatch z) (fin _ rfl)
 |int i=>
  obtain⟨t,rfl⟩:=rx;have hk:k="int":=hk;subst hk;exact kia_tup (b:=false) kitx_int I.jV tK h1 (by rfl) (λz=>nomatch z) (fin _ rfl)
 |str z=>
  obtain⟨t,rfl⟩:=rx;have hk:k="str":=hk;subst hk;exact kia_tup (b:=false) kitx_str I.jV tK h1 (by rfl) (λz=>nomatch z) (fin _ rfl)
 |ref a=>
  cases rx;rcases hk with⟨hk,ys,hs⟩|⟨hk,ys,hs⟩
  .subst hk;obtain⟨aE,_,⟨o,n,e,hc,_⟩,_⟩:=I.list hs;exact kia_tup (b:=true) kitx_list I.jV ⟨o,e,hc⟩ h1 (by rfl) (λz=>nomatch z) (fin _ rfl)
  .subst hk;obtain⟨aE,_,⟨o,e,hc,_⟩,_⟩:=I.tuple hs;exact kia_tup (b:=true) kitx_tuple I.jV ⟨o,e,hc⟩ h1 (by rfl) (λz=>nomatch z) (fin _ rfl)
 |wa _=>exact False.elim hk
 |AM _=>exact False.elim hk
 |ty _=>exact False.elim hk
end
end L2
namespace L2
open PySem PySem.Spec PyProof.Rows
variable{A:cP}{E:ah->aq->Prop}{s:aq}{ep:Nat}
theorem Tr{Q:Bool->aq->Prop}{P:dq}{w:cF}{d:ai}(hT:s.TypeIs (.ref d) "dict")(h:Q false s):wpAny (model P w) A (Builtin.List.listLengthHint (.ref d)) Q E s:=by
 unfold Builtin.List.listLengthHint;refine ay (wpAny_specialOf hT F.slot_dict_len.lookup ?_);dsimp only;rw[show splitId "dict.__len__"=some ("dict","__len__") from by decide +kernel]
 dsimp only;refine ay (wpAny_isInstance (b:=true) hT (by rw[isSubtype_type];kernel_rfl) ?_)
 rw[bc (by decide)]
 refine wpAny_ite_true (by decide +kernel) (ay (wpAny_typeOf hT ?_))
 exact aR h
section
variable{P:dq}{w:cF}{A:cP}{E:ah->aq->Prop}{s:aq}
def UW{n:Nat}{ob:Obj}{xs:Array DictEntry}(hh:A.handled=none)(J d:ai)(gF:d≠J)(g2:ob.data=.dict xs ep)(hl:xs.size=n):
  Walks P w A J [J,d] [J] n (λi v=>xs[i]?.map (·.key)=some v) (λi h=>h.IsKeyIter J d i n ep/\h.get? d=some ob) where
 sub:=λb hb=>by simp at hb;simp[hb]
 frame:=λ_ _ _ st hk=>⟨st.1.at λo e=>hk J (by simp) o e,hk d (by simp) _ st.2⟩
 item:=λi s Q E hi st hQ=>by
  have lt:i<xs.size:=by lia
  refine Np st.2 g2 hl st.1 lt λh' wD sb=>?_
  exact hQ _ h' s.toks (by rw[qV lt];rfl) ⟨wD,(sb.2 d gF).trans st.2⟩ λb o hb e=>sb.extBut b o (λh=>hb (by simp[h])) e
 done:=λs Q E st hQ=>NN hh st.2 g2 hl st.1 (bZ _) λh' GV=>hQ h' s.toks λb o hb e=>GV b o (λh=>hb (by simp[h])) e
 self:=λ_ _ _ _ st hQ=>wpAny_pyIter_keyiter st.1 hQ
end
theorem PM:∀{ys:List V} {us:List ah},ys.length=us.length->(∀(j:Nat) (y:V) (u:ah),ys[j]?=some y->us[j]?=some u->RelV y u)->Vals ys us
 |[],[],_,_=>.nil
 |y::ys,u::us,hl,h=>.cons (h 0 y u rfl rfl) (PM (by simpa using hl) λj y' u' e1 e2=>h (j+1) y' u' (by simpa using e1) (by simpa using e2))
 |[],_::_,h,_=>by simp at h
 |_::_,[],h,_=>by simp at h
section
variable{X:Cx}{aa:List (ai×Obj)}{Z:St}{H:Hp}
theorem S7{d:ai}{es:List (TK×V×V)}{Q:ah->aq->Prop}(hh:A.handled=none)(I:Inv X aa Z H s)(hd:H d=some (.dG es ep))
  (hQ:∀s',(∀b u,s.heap.get? b=some u->s'.heap.get? b=some u)->s'={ s with heap:=s'.heap,toks:=s'.toks}->(∃aE c,Vals (es.map (·.2.1)) aE/\s'.heap.get? s.heap.objs.size=some { cls:=.type "list",data:=.seq aE.toArray c})->Q (.ref s.heap.objs.size) s') :
  wpAny (model X.prog X.w) A (call (.type "list") [.ref d]) Q E s:=by
 obtain⟨hz,z,ob,xs,g1,g5,g2,g3,g4⟩:=(show bI X.prog X.w H s.heap d (.dG es ep) from I.bG d _ hd);have hl:xs.size=es.length:=by have:=Paired.length g3;simpa using this.symm
 have ld:d<s.heap.objs.size:=cQ g1;refine callType_codes (Q₁:=λobj s₁=>obj=.ref s.heap.objs.size/\s₁={ s with heap:=s.heap.push { cls:=.type "list",data:=.seq #[]}}) F.called_list (F.typeCall_list_1 _) F.entry_list_init (code_list_new _ ⟨rfl,rfl⟩) λobj s₁ q₁=>?_
 obtain⟨rfl,rfl⟩:=q₁;have gS:(s.heap.push { cls:=.type "list",data:=.seq #[]}).get? s.heap.objs.size=some { cls:=.type "list",data:=.seq #[]}:=iZ _ rfl;refine⟨⟨_,gS,rfl⟩,F.args_list_init_2 _ _,?_⟩;show wpAny _ _ (do let old <-Builtin.List.listItems (.ref s.heap.objs.size);Builtin.List.listUpdate (.ref s.heap.objs.size) (λ_=>#[]);letGo old.toList.reverse;Builtin.List.listExtendWith (.ref s.heap.objs.size) (.ref d) .none) _ _ _
 refine ay ?_;unfold Builtin.List.listItems;refine ay (wpAny_seqItems gS rfl (aR ?_));show wpAny _ _ (updateSeq s.heap.objs.size (λ_=>#[]) >>= λ_=>letGo (#[]:Array ah).toList.reverse >>= λ_=>Builtin.List.listExtendWith (.ref s.heap.objs.size) (.ref d) .none) _ _ _
 refine ay (wpAny_updateSeq gS rfl ?_);have gT:=qJ (Obj.mapSeq (λ_=>(#[]:Array ah))) gS rfl
 refine ay (wpAny_letGo ?_);have nS:∀b u,s.heap.get? b=some u->b≠s.heap.objs.size:=λb u e z=>by rw[z] at e;exact jY _ (cQ e)
 have k1:∀b u,s.heap.get? b=some u->((s.heap.push { cls:=.type "list",data:=.seq #[]}).update s.heap.objs.size (Obj.mapSeq (λ_=>(#[]:Array ah)))).get? b=some u:=
  λb u e=>(oQ _ _ (Ne.symm (nS b u e))).trans (cZ _ e)
 have A6:((s.heap.push { cls:=.type "list",data:=.seq #[]}).update s.heap.objs.size (Obj.mapSeq (λ_=>(#[]:Array ah)))).objs.size=s.heap.objs.size+1:=by simp[Heap.update,Heap.push]
 generalize(s.heap.push { cls:=.type "list",data:=.seq #[]}).update s.heap.objs.size (Obj.mapSeq (λ_=>(#[]:Array ah)))=h1 at *
 have I1:Inv X aa Z H { s with heap:=h1,toks:=s.toks}:=I.kept k1;have hT1:Shared.TypeIs { s with heap:=h1} (.ref d) "dict":=⟨ob,k1 _ _ g1,g5.1⟩;unfold Builtin.List.listExtendWith;refine ay (wpAny_typeOf hT1 ?_);have ne:s.heap.objs.size≠d:=λe=>jY _ (e ▸ ld)
 have c1:Builtin.List.listSameRef (.ref s.heap.objs.size) (.ref d)=false:=by simp[Builtin.List.listSameRef,ne]
 have c2:(Value.type "dict" == Value.type "list")=false:=by decide
 have c3:(Value.type "dict" == Value.type "tuple")=false:=by decide
 simp only[c1,c2,c3,Bool.or_false,lK,iC];refine ay (Ow I1 hd ?_);have Kp:Shared.TypeIs { s with heap:=h1.push { cls:=.type "dict_keyiterator",data:=.fields #[.ref d,.int 0 0,.int es.length 0,.int ep 0]}} (.ref d) "dict":=⟨ob,cZ _ (k1 _ _ g1),g5.1⟩;refine ay (jq (Tr Kp ?_));refine wpAny_ite_true (by decide +kernel) (ay (wpAny_rule (ay ?_)))
 show wpAny _ _ (updateSeq s.heap.objs.size (·.push .none) >>= λ_=>updateSeq s.heap.objs.size (·.pop)) _ _ _
 have gU:=cZ { cls:=.type "dict_keyiterator",data:=.fields #[.ref d,.int 0 0,.int es.length 0,.int ep 0]} gT;refine ay (wpAny_updateSeq gU rfl ?_);have gV:=qJ (Obj.mapSeq (·.push Value.none)) gU rfl
 refine wpAny_updateSeq (hz:=by seq_fits) gV rfl ?_
 have gW:=qJ (Obj.mapSeq (·.pop)) gV rfl
 have gJ:(h1.push { cls:=.type "dict_keyiterator",data:=.fields #[.ref d,.int 0 0,.int es.length 0,.int ep 0]}).get? h1.objs.size=some { cls:=.type "dict_keyiterator",data:=.fields #[.ref d,.int 0 0,.int es.length 0,.int ep 0]}:=iZ _ rfl;have Lh:∀b o,b≠s.heap.objs.size->(h1.push { cls:=.type "dict_keyiterator",data:=.fields #[.ref d,.int 0 0,.int es.length 0,.int ep 0]}).get? b=some o->
   (((h1.push { cls:=.type "dict_keyiterator",data:=.fields #[.ref d,.int 0 0,.int es.length 0,.int ep 0]}).update s.heap.objs.size (Obj.mapSeq (·.push Value.none))).update s.heap.objs.size (Obj.mapSeq (·.pop))).get? b=some o:=
  λb o hb e=>(oQ _ _ (Ne.symm hb)).trans ((oQ _ _ (Ne.symm hb)).trans e)
 have hJ:h1.objs.size≠s.heap.objs.size:=by rw[A6];exact Nat.succ_ne_self _
 have dJ:d≠h1.objs.size:=gH (by rw[A6];exact uh ld)
 have W:=(UW (P:=X.prog) (w:=X.w) (A:=A.in1.in1) (n:=es.length) (ep:=ep) hh h1.objs.size d dJ g2 hl).toS;have hSf:s.heap.objs.size∉[h1.objs.size,d]:=λm=>by
  grind
 refine aR ⟨plainId_quiet F.plain_extend_loop _,codeAny_extend_loopS W hz _ hSf _ es.length 0 _ _ _ rfl (kO _) ⟨⟨_,Lh _ _ hJ gJ,rfl,rfl⟩,Lh _ _ (Ne.symm ne) (cZ _ (k1 _ _ g1))⟩ gW (ItemsOf.nil _) λs' B1 c' hm hS' uW=>?_⟩
 obtain⟨m1,m2,m3,m4,m5⟩:=hm;have es':s'={ s with heap:=s'.heap,toks:=s'.toks}:=by
  cases s'
  lia
 refine⟨rfl,hQ s' (λb u e=>m1 b u (λq=>?_) (Lh b u (nS b u e) (cZ _ (k1 b u e)))) es' ⟨B1.toList,c',?_,by simpa using hS'⟩⟩
 .rcases y0b.mp q with q|q
  .exact nS b u e q
  .rw[kH] at q;have:=cQ e
   lia
 .have h2:B1.size=es.length:=uW.1;refine PM (by simp[h2]) λj y u e1 e2=>?_
  rw[f9] at e1;obtain⟨e,e3,rfl⟩:=dm.mp e1;obtain⟨x,x1,x2⟩:=BI j g3 e3;have h3:=uW.2 j u (by rw[<-ui];exact e2)
  have x1:xs[j]?=some x:=by rw[<-ui];exact x1
  have h3:Option.map (λx=>x.key) xs[j]?=some u:=h3
  rw[x1] at h3;cases h3;exact x2.2.1
def Sw(K:aJ):List V->Hp->VK->Prop:=λxs H Q=>∃d es ep,xs=[.ref d]/\H d=some (.dG es ep)/\∀l,H l=none->Q (.ref l) (upd H l (.lst (es.map (·.2.1))))
def TR(hc:X.calm=true):bS X (.type "list") (Sw X.K):=by
 intro aa s Z H xs us Q I r h;obtain⟨d,es,ep,rfl,hd,q⟩:=h;obtain⟨u,rfl,ru⟩:=vals1 r;cases ru;refine S7 (I.ok.hd hc) I hd λs' kp es' hh=>?_
 obtain⟨aE,c,rv,g⟩:=hh;have hz:=(show bI X.prog X.w H s.heap d (.dG es ep) from I.bG d _ hd).1;rw[es'];exact⟨.ref s.heap.objs.size,_,I.laid kp (bZ _) (show bI X.prog X.w _ s'.heap _ (.lst (es.map (·.2.1))) from⟨by rw[bw];exact hz,aE,c,rv,g⟩),rfl,q _ (I.bG.fresh (bZ _))⟩
end
section
variable{X:Cx}{K:aJ}
def pO(r:V->List V->Hp->VK->Prop):List V->Hp->VK->Prop:=λvs H Q=>∃x xs,vs=x::xs/\r x xs H Q
def dh:List D->aj (List Str)
 |[]=>some []
 |.str x::ds=>(dh ds).map λxs=>x::xs
 |_=>none
theorem NW:∀xs:List Str,dh (xs.map .str)=some xs
 |[]=>rfl
 |i::is=>by rw[cU];show(dh (is.map .str)).map _=_;rw[NW is];rfl
theorem BJ:∀{ds:List D} {xs:List Str},dh ds=some xs->ds=xs.map .str
 |[],xs,e=>by cases e;rfl
 |d::ds,xs,e=>by
  cases d with
  |str i=>
   obtain⟨js,e1,e2⟩:=dm.mp (show(dh ds).map _=some xs from e);rw[<-e2,BJ e1];rfl
  |_=>cases e
theorem E3{F:Kn}:∀{ws:List V} {xs:List Str},ag K F ws (xs.map .str)->ws=xs.map .str
 |[],[],_=>rfl
 |[],_::_,h=>by have:=h.length;simp at this
 |_::_,[],h=>by have:=h.length;simp at this
 |w::ws,i::is,h=>by
  rw[cU] at h;have h1:=h.inv.1;have h2:=E3 h.inv.2;rw[h2,cU];rw[h1.aN rfl]
theorem Iw:∀{xs:List Str} {aE:List ah},Vals (xs.map V.str) aE->∃ps:List (Str×Tok),aE=ps.map (λp=>Value.str p.1 p.2)/\ps.map (·.1)=xs
 |[],aE,h=>by
  rw[Et] at h;cases h;exact⟨[],rfl,rfl⟩
 |i::is,aE,h=>by
  rw[cU] at h;cases h with
  |cons r t=>
   obtain⟨ps,e1,e2⟩:=Iw t;obtain⟨tk,rfl⟩:=r;exact⟨(i,tk)::ps,by rw[e1];rfl,by rw[cU,e2]⟩
def eO:List D->aj (List Bool)
 |[]=>some []
 |.bl b::ds=>(eO ds).map λbs=>b::bs
 |_=>none
theorem Nr:∀{ds:List D} {bs:List Bool},eO ds=some bs->ds=bs.map .bl
 |[],bs,e=>by cases e;rfl
 |d::ds,bs,e=>by
  cases d with
  |bl i=>
   obtain⟨js,e1,e2⟩:=dm.mp (show(eO ds).map _=some bs from e);rw[<-e2,Nr e1];rfl
  |_=>cases e
theorem Nt{F:Kn}:∀{ws:List V} {bs:List Bool},ag K F ws (bs.map .bl)->ws=bs.map .bl
 |[],[],_=>rfl
 |[],_::_,h=>by have:=h.length;simp at this
 |_::_,[],h=>by have:=h.length;simp at this
 |w::ws,i::is,h=>by
  rw[cU] at h;have h1:=h.inv.1;have h2:=Nt h.inv.2;rw[h2,cU];rw[h1.aN rfl]
def UX(K:aJ)(hc:X.calm=true:=by rfl)(hK:X.K=K:=by rfl):bS X (.builtin "all") (λxs H Q=>∃(a:ai) (bs:List Bool),xs=[.ref a]/\cW K H a (bs.map V.bl)/\Q (.bl (bs.all id)) H):=hK ▸ Uz hc
noncomputable def AH(z:Str):ah->Bool
 |.str y _=>y == z
 |_=>false
def QJ(K:aJ):V->List V->Hp->VK->Prop:=λx xs H Q=>∃(a:ai) (ys:List Str) (z:Str) (j:Nat),x=.ref a/\xs=[.str z]/\cW K H a (ys.map V.str)/\ys[j]?=some z/\(∀i y,i<j->ys[i]?=some y->y≠z)/\Q (.int (j:Nat)) H
theorem V5(K:aJ)(hK:X.K=K:=by rfl):Aa X "list.index" (QJ K):=by
 subst hK;intro aa s Z H x xs v us Q I rx rs h;obtain⟨a,ys,z,j,rfl,rfl,hq,hj,gF,q⟩:=h;cases rx;obtain⟨u,rfl,ru⟩:=vals1 rs;obtain⟨t,rfl⟩:=ru;obtain⟨aE,rv,p,hz⟩:=I.list hq;obtain⟨ps,e1,e2⟩:=Iw rv;subst e1;obtain⟨ob,n,eo,qv,hdi,hda⟩:=p;have hlen:ps.length=ys.length:=by rw[<-e2,bw]
 have hjl:j<ys.length:=(fE.mp hj).1;have hit:∀i (hi:i<ps.length),(ps.map λp=>Value.str p.1 p.2)[i]?=some (Value.str ps[i].1 ps[i].2):=λi hi=>by simp[hi]
 have G3:∀i (hi:i<ps.length),ys[i]?=some ps[i].1:=λi hi=>by rw[<-e2];simp[hi]
 have hsz:(ps.map λp=>Value.str p.1 p.2).toArray.size=ps.length:=by simp
 have Kz:ps[j].1=z:=by
  simp_all
 obtain⟨cl,di,da,sl⟩:=ob;cases qv;cases hda;have G4:ys.length<=16777216:=by rw[bw,sizeLine_eq] at hz;exact hz
 refine call_meets F.slot_list_index ⟨_,eo,rfl⟩ F.entry_list_index (F.args_list_index_2 _ _) (SeqAt.list_indexAt a _ n di sl (.str z t) (AH z) j (by rw[hsz];lia) (by lia) ?_ ?_) ⟨eo,?_,?_⟩
 .simp[AH,Kz]
 .intro i hi pD;rw[hsz] at hi;have:=gF i _ pD (G3 i hi);simp[AH];exact this
 .intro y hy;simp at hy;obtain⟨b,t',_,rfl⟩:=hy;exact SeqAt.EqAt.str_str b t' z t
 .exact⟨.int (j:Nat),H,I.tok _,⟨_,rfl⟩,q⟩
def findS(ys:List Str)(z:Str):aj Nat:=ys.findIdx? (· == z)
def BD{ys:List Str}{z:Str}{j:Nat}(e:findS ys z=some j):ys[j]?=some z/\∀i y,i<j->ys[i]?=some y->y≠z:=by
 unfold findS at e;rw[List.findIdx?_eq_some_iff_getElem] at e;obtain⟨h,h1,h2⟩:=e;refine⟨by rw[iH h];congr 1;exact eq_of_beq h1,λi y hi ey=>?_⟩
 have:=h2 i hi;obtain⟨hl,e3⟩:=fE.mp ey;rw[e3] at this;intro z';subst z';simp at this
def PN:V->List V->Hp->VK->Prop:=λx xs H Q=>∃(l:ai) (ys:List Str) (z:Str) (j:Nat),x=.ref l/\xs=[.str z]/\H l=some (.lst (ys.map V.str))/\ys[j]?=some z/\(∀i y,i<j->ys[i]?=some y->y≠z)/\Q .aM (upd H l (.lst ((ys.eraseIdx j).map V.str)))
theorem Fm{α β:Type}(f:α->β):∀(xs:List α) (j:Nat),(xs.map f).eraseIdx j=(xs.eraseIdx j).map f
 |[],j=>by simp
 |_::_,0=>rfl
 |x::xs,j+1=>by show f x::(xs.map f).eraseIdx j=f x::(xs.eraseIdx j).map f;rw[Fm f xs j]
theorem MU:∀{ps:List (Str×Tok)},Vals ((ps.map (·.1)).map V.str) (ps.map λp=>Value.str p.1 p.2)
 |[]=>.nil
 |p::ps=>.cons ⟨p.2,rfl⟩ MU
theorem UY:Aa X "list.remove" PN:=by
 intro aa s Z H x xs v us Q I rx rs h;obtain⟨l,ys,z,j,rfl,rfl,hH,hj,gF,q⟩:=h;cases rx;obtain⟨u,rfl,ru⟩:=vals1 rs;obtain⟨t,rfl⟩:=ru;obtain⟨hz,aE,n,rv,hl,eo⟩:=I.zf hH;obtain⟨ps,e1,e2⟩:=Iw rv;subst e1;have hlen:ps.length=ys.length:=by rw[<-e2,bw]
 have hjl:j<ys.length:=(fE.mp hj).1;have G3:∀i (hi:i<ps.length),ys[i]?=some ps[i].1:=λi hi=>by rw[<-e2];simp[hi]
 have hsz:(ps.map λp=>Value.str p.1 p.2).toArray.size=ps.length:=by simp
 have Kz:ps[j].1=z:=by
  have:=G3 j (by lia)
  rw[hj] at this;exact(Option.some.inj this).symm
 refine call_meets F.slot_list_remove ⟨_,eo,rfl⟩ F.entry_list_remove (F.args_list_remove_2 _ _) (MeetsSeq.list_remove l _ n (.str z t) (AH z) ?_ j (by rw[hsz];lia) ?_ ?_ (by rw[hsz,hlen];simpa using hz)) ⟨eo,?_⟩
 .intro y hy;simp at hy;obtain⟨b,t',_,rfl⟩:=hy;show MeetsSeq.EqGives _ _ (b == z);rw[<-SeqAt.str_beq];exact SeqRoads2.EqGives.str b z t' t
 .simp[AH,Kz]
 .intro i hi pD;rw[hsz] at hi;have:=gF i _ pD (G3 i hi);simp[AH];exact this
 .refine⟨.aM,_,I.ze (its':=(ps.eraseIdx j).map λp=>Value.str p.1 p.2) hH eo ?_ ?_ ?_,rfl,q⟩
  .apply Array.toList_inj.mp;simp[Array.toList_eraseIdxIfInBounds,Fm]
  .rw[<-e2,Fm];exact MU
  .rw[bw];have:=List.length_eraseIdx_le ys j;rw[bw] at hz;lia
end
end L2
namespace L2
open PySem PySem.Spec PySem.W PyProof.Rows
def V6{P:dq}{w:cF}{xs:List DictEntry}{kvs:List (Str×ah)}(p:Pairs (strKind P w) xs kvs):∀{es:List (TK×V×V)},(∀x∈xs,∃k,(strKind P w).is k x.key=true/\x.hash=(strKind P w).hash k)->kvs.map (λp=>TK.inr p.1)=es.map (·.1)->Vals (es.map (·.2.2)) (kvs.map (·.2))->ie es->Paired (i4 w) es xs:=by
 induction p with
 |nil=>
  intro es _ e _ _;cases es with
  |nil=>exact .nil
  |cons _ _=>cases e
 |@cons x kv xs kvs h1 h2 _ ih=>
  intro es hk e v t;cases es with
  |nil=>cases e
  |cons a es=>
   rw[cU,cU,List.cons.injEq] at e;cases v with
   |cons v1 v2=>
    refine .cons ?_ (ih (λy m=>hk y (.tail _ m)) e.2 v2 λy m=>t y (.tail _ m))
    obtain⟨k,k1,k2⟩:=hk x (.head _);obtain⟨z,t1,t2⟩:=t a (.head _);have i1:Value.isStrOf kv.1 x.key=true:=h1;have i2:Value.isStrOf k x.key=true:=k1;cases hx:x.key with
    |str s tk=>
     rw[hx] at i1 i2;have j1:s=kv.1:=by simpa[Value.isStrOf] using i1
     have j2:s=k:=by simpa[Value.isStrOf] using i2
     have j3:kv.1=z:=by
      lia
     refine⟨?_,?_,by rw[h2];exact v1,by rw[t1];rfl⟩
     .rw[k2,t1,<-j2,j1,j3];rfl
     .rw[t2,hx,j1,j3];exact⟨tk,rfl⟩
    |_=>rw[hx] at i1;cases i1
noncomputable def iX(z:Str)(k:TK):Bool:=decide (k≠.inr z)
theorem PQ(z:Str):∀{es:List (TK×V×V)} {kvs:List (Str×ah)},kvs.map (λp=>TK.inr p.1)=es.map (·.1)->Vals (es.map (·.2.2)) (kvs.map (·.2))->(without kvs z).map (λp=>TK.inr p.1)=(es.filter λe=>iX z e.1).map (·.1)/\Vals ((es.filter λe=>iX z e.1).map (·.2.2)) ((without kvs z).map (·.2))
 |[],[],_,_=>⟨rfl,.nil⟩
 |[],_::_,e,_=>by cases e
 |_::_,[],e,_=>by cases e
 |a::es,kv::kvs,e,v=>by
  rw[cU,cU,List.cons.injEq] at e;cases v with
  |cons v1 v2=>
   obtain⟨i1,i2⟩:=PQ z e.2 v2;unfold without at *;by_cases h:kv.1=z
   .grind [iX]
   .have h':iX z a.1=true:=by unfold iX;rw[<-e.1];simpa using h
    rw[Eu,Eu,bx (by simpa using h),bx h']
    exact⟨by rw[cU,cU,i1,e.1],.cons v1 i2⟩
theorem QK(z:Str){v:V}:∀{es:List (TK×V×V)} {kvs:List (Str×ah)},kvs.map (λp=>TK.inr p.1)=es.map (·.1)->Vals (es.map (·.2.2)) (kvs.map (·.2))->jP es (.inr z)=some v->∃u,valueAt kvs z=some u/\RelV v u
 |[],[],_,_,h=>by cases h
 |[],_::_,e,_,_=>by cases e
 |_::_,[],e,_,_=>by cases e
 |a::es,kv::kvs,e,vs,h=>by
  rw[cU,cU,List.cons.injEq] at e;cases vs with
  |cons v1 v2=>
   unfold jP at h;unfold valueAt;rw[Bc] at h ⊢;by_cases g:kv.1=z
   .simp_all
   .have g':¬a.1=.inr z:=by rw[<-e.1];intro x;cases x;exact g rfl
    rw[qK g'] at h;rw[qK g];exact QK z e.2 v2 h
def w9(K:aJ):V->List V->Hp->VK->Prop:=λx vs H Q=>∃d es ep z v,x=.ref d/\vs=[.str z]/\H d=some (.dG es ep)/\ie es/\jP es (.inr z)=some v/\∀lF,Q v (upd H d (.dG (es.filter λe=>iX z e.1) lF))
def Yc{X:Cx}(K:aJ):Aa X "dict.pop" (w9 K):=by
 intro aa s Z H x xs v us Q I rx rs h;obtain⟨d,es,ep,z,v',rfl,rfl,hd,ht,hv,q⟩:=h;cases rx;obtain⟨u,rfl,ru⟩:=rs.one;obtain⟨tk,rfl⟩:=ru;obtain⟨kvs,D1,D2,D3,D4,lo⟩:=ye I hd ht;obtain⟨w,hw,mD⟩:=QK z D3 D2 hv;refine call_meetsIn PySem.F.slot_dict_pop (FW I hd).1 PySem.F.entry_dict_pop (PySem.F.args_dict_pop_2 _ _) (meets_dict_pop_there (strKind X.prog X.w) d (k:=z) (by show Value.isStrOf z (.str z tk)=true;simp[Value.isStrOf]) [] (.inl rfl) (by rfl)) ⟨kvs,w,D1.dictOf,D4,hw,λh' hD hs=>?_⟩
 obtain⟨o,xs,lF,g1,g2,g3,g4,g5,g6⟩:=hD;obtain⟨f1,f2⟩:=PQ z D3 D2;obtain⟨hz,_⟩:=(show bI X.prog X.w H s.heap d (.dG es ep) from I.bG d _ hd);refine⟨v',_,Jq (ob:=.dG (es.filter λe=>iX z e.1) lF) I (by rw[hd];exact tK) hs ⟨_,g1⟩ ⟨?_,lo,o,xs,g1,g2,g3,V6 g5 (λx m=>g4 x (Mi.mp m)) f1 f2 λe m=>ht e (pV.mp m).1,?_⟩,mD,q lF⟩
 .exact jo (xw _ _) hz
 .rw[<-f1,show(λp:Str×ah=>TK.inr p.1)=TK.inr∘(·.1) from rfl,<-fL]
  exact List.Pairwise.map _ (λa b ne z=>ne (by cases z;rfl)) g6
end L2
namespace L2
open PySem PySem.Spec PyProof.Rows
section
variable{X:Cx}{K:aJ}
def wV(K:aJ):V->List V->Hp->VK->Prop:=λx xs H Q=>∃a y o,x=.ref a/\xs=[y]/\ig K H a y o/\Q (o.getD .aM) H
def Yd(K:aJ)(hu:X.A.units+41<cLine)(hK:X.K=K:=by rfl):Aa X "dict.get" (wV K):=by
 subst hK;intro aa s Z H x xs v us Q I r rs h;obtain⟨a,y,o,rfl,rfl,g,q⟩:=h;obtain⟨u,rfl,ru⟩:=Vals.one rs;cases r;exact ω (by lia) I g ru λw' s' I' mD=>⟨o.getD .aM,H,I',mD,q⟩
end
end L2
namespace L2
open PySem PySem.Spec PySem.W PyProof.Rows
end L2
namespace L2
open PySem PySem.Spec PyProof.Rows
def IX{P:dq}{w:cF}{H:Hp}(h:bT)(hb:sysModules<h.objs.size):bI P w H (h.push { cls:=.type "dict",data:=.dict #[]}) h.objs.size (.dG [] 0):=
 ⟨kO _,pX.mpr (Ne.symm (gH hb)),_,#[],iZ _ rfl,⟨rfl,rfl,rfl⟩,rfl,.nil,Hy⟩
def e3d:TE:=λ_ H Q=>∀p,H p=none->Q (.ref p) (upd H p (.dG [] 0))
end L2
namespace L2
open PySem PySem.Spec PySem.W PyProof.Rows
variable{H:Hp}{ps:List (TK×V×V)}{A:cP}{l:ai}{ys:List V}{E:ah->aq->Prop}{s:aq}
def ML:entryFor table "dict.update.loop"=some Builtin.«dict.update.loop»:=entryFor_of_tree (by kernel_rfl)
def EM:plainId "dict.update.loop"=true:=by decide +kernel
def fI(es:List (TK×V×V))(ps:List (TK×V×V)):List (TK×V×V):=ps.foldl (λes p=>dQ es p.1 p.2.1 p.2.2) es
def Fz{d:ai}{o:HO}(h:H d=none):az H (upd H d o):=λb u e=>by
 grind [dH]
section
variable{X:Cx}{aa:List (ai×Obj)}{Z:St}{H:Hp}
structure jR (K:aJ) (H:Hp) (ys:List V) (ps:List (TK×V×V)):Prop where
 len:ys.length=ps.length
 item:∀(i:Nat) p,ps[i]?=some p->∃a,ys[i]?=some (.ref a)/\iE K H a [p.2.1,p.2.2]/\bf K H [p.2.1] [p.1.d]/\p.1.ok 8=true
def TV(es ps:List (TK×V×V)):(fI es ps).length<=es.length+ps.length:=by
 induction ps generalizing es with
 |nil=>exact bZ _
 |cons p ps ih=>
  grind [E2,fI]
def Nu(K:aJ)(h:∀p∈ps,bf K H [p.2.1] [p.1.d]):∀{es:List (TK×V×V)},bf K H (es.map (·.2.1)) (es.map (·.1.d))->bf K H ((fI es ps).map (·.2.1)) ((fI es ps).map (·.1.d)):=by
 induction ps with
 |nil=>exact λr=>r
 |cons p ps ih=>
  intro es r;refine ih (λq m=>h q (.tail _ m)) ?_
  have hp:=h p (.head _);clear ih h
  induction es with
  |nil=>exact hp
  |cons e es ih=>
   obtain⟨r1,r2⟩:=ag.inv r;show bf K H ((if e.1=p.1 then(e.1,e.2.1,p.2.2)::es else e::dQ es p.1 p.2.1 p.2.2).map (·.2.1)) ((if e.1=p.1 then(e.1,e.2.1,p.2.2)::es else e::dQ es p.1 p.2.1 p.2.2).map (·.1.d))
   split
   .exact .cons r1 r2
   .exact .cons r1 (ih r2)
def TX{R:Result->aq->Prop}{d J:ai}(hd:H d=none)(hl:cW X.K H l ys)(hp:jR X.K H ys ps)(hh:A.handled=none)(hu:A.units+12<cLine)(hn:ps.length<1000)
  (hJ:∀u,i8 X aa (upd H d u) J)
  (fin:∀s ep,Inv X aa Z (upd H d (.dG (fI [] ps) ep)) s->R (.ok (.ret .none)) s) :
  ∀(n i:Nat) (ep:Nat) (s:aq) (tk:Tok),ps.length - i=n->i<=ps.length->Inv X aa Z (upd H d (.dG (fI [] (ps.take i)) ep)) s->s.heap.IsListIter J l i->codeAny (model X.prog X.w) A (.builtin "dict.update.loop" ⟨[.ref d,.ref J,.int (i:Int) tk,.none],[]⟩) R s:=by
 intro n
 induction n with
 |zero=>
  intro i ep s tk hi hi2 I it;have e:i=ps.length:=by lia
  subst e;refine codeAny_builtin ML ?_;rw[Around.under_plainId EM _];show wpAny _ A.in1 (pyNext (.ref J) >>= _) _ _ s;have l_:=(Fz (o:=.dG (fI [] (ps.take ps.length)) ep) hd).seq hl;obtain⟨aE,rv,p,hz⟩:=I.list l_;obtain⟨f0,f1,f2,f3,f4,f5⟩:=hJ (.dG (fI [] (ps.take ps.length)) ep);have hlen:=rv.length;have CU:=hp.len;refine ay (wpAny_pyNext_list_end hh it p.isList (by simp;lia) λh' eb=>?_)
  have I1:=I.turned (t':=s.toks) (λb o hb e=>eb b o hb e) f0 f1 f3 f4 f5
  rw[List.take_length] at I1;exact ay (aR (aR (fin _ ep I1)))
 |succ n ih=>
  intro i ep s tk hi hi2 I it;have lt:i<ps.length:=by lia
  obtain⟨a,ya,sq,rk,ok⟩:=hp.item i ps[i] (iH lt);refine codeAny_builtin ML ?_;rw[Around.under_plainId EM _];show wpAny _ A.in1 (pyNext (.ref J) >>= _) _ _ s;have sm:=Fz (o:=.dG (fI [] (ps.take i)) ep) hd;obtain⟨aE,rv,p,hz⟩:=I.list (sm.seq hl);obtain⟨u,hu1,ru⟩:=rv.get ya;obtain rfl:u=Value.ref a:=ru;obtain⟨f0,f1,f2,f3,f4,f5⟩:=hJ (.dG (fI [] (ps.take i)) ep);refine ay (wpAny_pyNext_list_item it p.isList (x:=.ref a) (by simpa using hu1) λh' wD sb=>?_)
  have I1:Inv X aa Z (upd H d (.dG (fI [] (ps.take i)) ep)) { s with heap:=h'}:=I.turned (t':=s.toks) (λb o hb e=>(sb.2 b hb).trans e) f0 f1 f3 f4 f5
  obtain⟨iU,Hh,tp,_⟩:=I1.tuple (sm.zO sq);obtain⟨w1,w2,rfl,r1,r2⟩:∃w1 w2,iU=[w1,w2]/\RelV ps[i].2.1 w1/\RelV ps[i].2.2 w2:=by
   cases Hh with
   |cons r1 t=>
    cases t with
    |cons r2 t=>cases t;exact⟨_,_,rfl,r1,r2⟩
  obtain⟨o,ho,hc,n0,uY⟩:∃o,h'.get? a=some o/\o.cls=.type "tuple"/\∃n,o.data=.seq #[w1,w2] n:=by
   obtain⟨o,h1,h2,h3⟩:=tp;exact⟨o,h1,h2,h3⟩
  have hT:({ s with heap:=h'}:aq).TypeIs (.ref a) "tuple":=⟨o,ho,hc⟩;refine ay (jq (ay (wpAny_tryCatch ?_)));unfold Builtin.Dict.pairItems;refine ay (wpAny_typeOf hT ?_);rw[bx (by decide)]
  refine ay (m:=seqItems? (.ref a)) (ay (wpAny_load ho ?_));rw[uY];refine aR (aR ?_);show wpAny _ _ (holding [w1,w2] (dictSet d w1 w2)) _ _ _;refine jq ?_;have I2:=I1.pinned (fp:=[J]) (λb hb=>by rw[kH.mp hb];exact hJ _) (λb hb=>by
   rw[kH.mp hb];obtain⟨oj,ej,_,dj⟩:=wD
   simp_all)
  have tk1:ps.take (i+1)=ps.take i++[ps[i]]:=(List.take_append_getElem lt).symm;have hpa:dQ (fI [] (ps.take i)) ps[i].1 ps[i].2.1 ps[i].2.2=fI [] (ps.take (i+1)):=by rw[tk1];unfold fI;rw[Mv];rfl
  have hlen:=TV [] (ps.take i);rw[xr,Ba] at hlen;refine IK (H':=upd (upd H d (.dG (fI [] (ps.take i)) ep)) d (.dG (fI [] (ps.take (i+1))) (qC (fI [] (ps.take i)) ps[i].1 ep))) (show A.in1.units+8<cLine from ?_) I2 ⟨_,ep,ps[i].1,aK,?_,(ag.Hs rk sm),ok,?_,by rw[hpa]⟩ r1 r2 λs' I3=>?_
  .lia
  .exact ag.Hs (H:=H) (Nu X.K (λq m=>by
    obtain⟨j,hj⟩:=zW.mp (List.mem_of_mem_take m);obtain⟨_,_,_,r,_⟩:=hp.item j q hj;exact r) .nil) sm
  .exact f7 (by lia:(fI [] (ps.take i)).length<1000000) (by decide)
  .have eu:upd (upd H d (.dG (fI [] (ps.take i)) ep)) d (.dG (fI [] (ps.take (i+1))) (qC (fI [] (ps.take i)) ps[i].1 ep))=upd H d (.dG (fI [] (ps.take (i+1))) (qC (fI [] (ps.take i)) ps[i].1 ep)):=by
    funext b;unfold upd;split <;> rfl
   rw[eu] at I3;obtain⟨oj,ej,cj,dj⟩:=id wD;have ej':s'.heap.get? J=some oj:=(I3.pin (J,oj) (n9 _ (n9 _ (BC (by simp) ej)))).1
   refine aR ⟨plainId_quiet EM _,?_⟩;exact ih (i+1) _ s' _ (by lia) lt I3.fB ⟨oj,ej',cj,dj⟩
theorem UZ{aE:Array ah}{Q:aj ah->aq->Prop}(pl:PlainL s.heap l aE)(hA:A.handled=none)
  (h:∀h' tk,(∀b u,s.heap.get? b=some u->h'.get? b=some u)->Q none { s with heap:=h',toks:=tk}):wpAny (model X.prog X.w) A (getAttr? (.ref l) "keys") Q E s:=by
 obtain⟨o,n,hx,hc,hd,uY⟩:=pl;obtain⟨c,aA,dat,sl⟩:=o;simp only at hc uY hd;subst hc uY hd;obtain⟨hp,g,d,tk,os⟩:=s;have hT:∀SJ,(⟨hp,g,d,SJ,os⟩:aq).TypeIs (.ref l) "list":=λ_=>⟨_,hx,rfl⟩
 have f1:=sub_AttributeError;have f3:=F.slot_list_getattribute.lookup;have f4:=F.slot_list_getattribute.bind (.ref l);have f5:=am_list_getattr_none;unfold getAttr? getAttrBy? getAttrBy
 repeat (any_goals (first|assumption|exact hT _|((with_reducible show wpAny _ _ (call (Value.builtin "list.__getattribute__") _ _) _ _ _);refine call_meets F.slot_list_getattribute (hT _) am_entry_list_getattribute (F.args_list_getattribute_2 _ _) (meets_getattribute_miss_list l aE n sl "keys" _ (by rw[typeLookup_type,builtinLookup_eq_fast];kernel_rfl) (by decide) (by size_fits)) ⟨hx,hA,λh' SJ e t_=>?_⟩)|wp_step))
 obtain⟨t',u',he⟩:=t_.there;show wpAny _ _ (getattributeRaised _ _ _ _ _ _ _) _ _ _;unfold getattributeRaised
 repeat (any_goals (first|assumption|wp_step))
 exact h _ _ t_.keeps
theorem S6{Q:ah->aq->Prop}(I:Inv X aa Z H s)(hl:cW X.K H l ys)(hp:jR X.K H ys ps)(hh:A.handled=none)(hu:A.units+20<cLine)(hn:ps.length<1000)
  (q:∀s' ep,Inv X aa Z (upd H s.heap.objs.size (.dG (fI [] ps) ep)) s'->Q (.ref s.heap.objs.size) s'):wpAny (model X.prog X.w) A (call (.type "dict") [.ref l]) Q E s:=by
 refine callType_codes (Q₁:=λobj s₁=>obj=.ref s.heap.objs.size/\s₁={ s with heap:=s.heap.push { cls:=.type "dict",data:=.dict #[]}}) F.kt_called_dict (F.kt_typeCall_dict_1 _) F.entry_dict_init (kt_code_dict_new _ ⟨rfl,rfl⟩) ?_
 rintro obj s₁ ⟨rfl,rfl⟩;have hd:H s.heap.objs.size=none:=I.bG.fresh (bZ _);have I1:=I.laid (a:=s.heap.objs.size) (o:=.dG [] 0) (h':=s.heap.push { cls:=.type "dict",data:=.dict #[]}) (t':=s.toks) (λ_ _ q=>cZ _ q) (bZ _) (IX s.heap I.big)
 generalize s.heap.objs.size=d at *;generalize s.heap.push { cls:=.type "dict",data:=.dict #[]}=KO at *;have hT:=(FW I1 aK).1;obtain⟨aE,rv,pl,hz⟩:=I1.list ((Fz hd).seq hl);have hTl:({ s with heap:=KO,toks:=s.toks}:aq).TypeIs (.ref l) "list":=by
  obtain⟨o,n,h1,h2,_⟩:=pl;exact⟨o,h1,h2⟩
 refine⟨hT,F.args_dict_init_2 _ _,?_⟩;unfold Builtin.«dict.__init__»;refine ay ?_;unfold Builtin.Dict.selfAndRest;refine ay (wpAny_notOrdered_dict hT ?_);show wpAny _ _ (pure (d,[Value.ref l])) _ _ _;refine aR ?_;show wpAny _ _ (Builtin.Dict.updateFrom "dict.__init__" d (.ref l) [] .none) _ _ _;unfold Builtin.Dict.updateFrom;refine ay (wpAny_typeOf hTl ?_);rw[bx (by decide)]
 refine ay (UZ (X:=X) pl (show A.in1.in1.handled=none from hh) λh' tk kp=>?_)
 have I2:Inv X aa Z (upd H d (.dG [] 0)) { s with heap:=h',toks:=tk}:=I1.kept (t':=tk) kp;obtain⟨iU,Hh,Lr,_⟩:=I2.list ((Fz hd).seq hl);show wpAny _ _ (rule _ >>= _) _ _ _;refine ay (wpAny_rule ?_);refine ay (wpAny_pyIter_list Lr.isList ?_);have I3:=I2.kept (h':=h'.push { cls:=.type "list_iterator",data:=.fields #[.ref l,.int 0 0]}) (t':=tk) (λ_ _ e=>cZ _ e)
 have Rk:d<h'.objs.size:=by
  obtain⟨_,_,o,xs,g1,_⟩:=(show bI X.prog X.w _ h' d (.dG [] 0) from I2.bG d _ aK);exact cQ g1
 refine aR ⟨plainId_quiet EM _,?_⟩;refine TX (A:=A.in1) (J:=h'.objs.size) hd hl hp hh (show A.units+1+12<cLine by lia) hn (λu=>I2.k6 (bZ _) ?_) (λs' ep I4=>⟨rfl,q s' ep I4⟩) ps.length 0 0 _ _ rfl (kO _) I3 ⟨_,iZ _ rfl,rfl,rfl⟩
 rw[dH (xq Rk)];have:=I2.bG.fresh (bZ _)
 rwa[dH (xq Rk)] at this
def QL(K:aJ):List V->Hp->VK->Prop:=λvs H Q=>∃a ys ps,vs=[.ref a]/\cW K H a ys/\jR K H ys ps/\ps.length<1000/\∀p ep,H p=none->Q (.ref p) (upd H p (.dG (fI [] ps) ep))
def TY(K:aJ)(hu:X.A.units+41<cLine)(hc:X.calm=true:=by rfl)(hK:X.K=K:=by rfl):bS X (.type "dict") (QL K):=by
 subst hK;intro aa s Z H xs us Q I r h;obtain⟨a,ys,ps,rfl,hl,hp,hn,q⟩:=h;obtain⟨u,rfl,ru⟩:=vals1 r;cases ru;exact S6 I hl hp (I.ok.hd hc) (by lia) hn λs' ep I'=>⟨.ref s.heap.objs.size,_,I',rfl,q _ ep (I.bG.fresh (bZ _))⟩
end
end L2
namespace L2
open PySem PySem.Spec PySem.W PySem.Calls PyProof.Rows
section
variable{prog:dq}{w:cF}{A:cP}{E:ah->aq->Prop}{s:aq}
def QM{vs:List ah}(h:vs.length<2):(arrOf (SortSt.mk' general' (vs.toArray.zip vs.toArray) #[] 7 none)).map (·.2)=vs.toArray:=by
 grind
def TZ{a:ai}{vs:List ah}{n:Nat}{P:Fin->aq->Prop}(ho:s.heap.get? a=some (seqObj "list" vs.toArray n))(h1:vs.length<2)
  (h:P (.done (.ret .none)) { s with heap:=sortedHeap s.heap a vs vs.toArray}):wpAny (model prog w) A (Builtin.«list.sort» ⟨[.ref a],[]⟩) P E s:=by
 rw[list_sort_plain];have ha:a<s.heap.objs.size:=cQ ho;have hz:vs.length<=sizeLine:=by rw[sizeLine_eq];lia
 refine ay (listItems_at ho rfl ?_);refine ay (listUpdate_at ho rfl ?_ (by rw[eE];exact hz) (kO _))
 obtain⟨e1,yV⟩:∃e1,(s.heap.update a (Obj.mapSeq λ_=>#[])).get? a=some (seqObj "list" #[] e1):=⟨_,get?_update_seq ho (λ_=>#[])⟩
 refine ay (seqEpoch_at yV rfl ?_);refine ay (wpAny_newTuple ?_ (by show vs.length<=_;exact hz))
 refine ay (wpAny_newList ?_ (kO _));refine jq ?_;have yW:(((s.heap.update a (Obj.mapSeq λ_=>#[])).push (seqObj "tuple" vs.toArray 0)).push (seqObj "list" #[] 0)).get? a=some (seqObj "list" #[] e1):=by
  rw[EA _ _ _ (by rw[size_push',Mw];exact gH (uh ha)),EA _ _ _ (by rw[Mw];exact gH ha)]
  exact yV
 show wpAny (model prog w) A _ P E { s with heap:=((s.heap.update a (Obj.mapSeq λ_=>#[])).push (seqObj "tuple" vs.toArray 0)).push (seqObj "list" #[] 0)}
 dsimp only;have h2:vs.toArray.size<2:=by simpa using h1
 rw[bx h2,bx h2];refine ay (aR ?_);rw[StateT.run_pure];refine ay (aR ?_);dsimp only;refine ay (seqEpoch_at yW rfl ?_);refine ay (listUpdate_at yW rfl ?_ (kO _) (by rw[QM h1,eE];first|exact hz|exact Nat.le_succ_of_le hz))
 simp only[bne_self_eq_false,lK,iC];rw[QM h1];exact aR h
def V7{vs:List ah}{h0:bT}{Q:ah->aq->Prop}(h1:vs.length<2)(h:∀h' c,(∀b o,h0.get? b=some o->h'.get? b=some o)->h'.get? h0.objs.size=some (seqObj "list" vs.toArray c)->Q (.ref h0.objs.size) { s with heap:=h'}):
  wpAny (model prog w) A (call (.builtin "list.sort") [.ref h0.objs.size]) (λ_ s'=>Q (.ref h0.objs.size) s') E { s with heap:=h0.push (seqObj "list" vs.toArray 0)}:=by
 have ho:(h0.push (seqObj "list" vs.toArray 0)).get? h0.objs.size=some (seqObj "list" vs.toArray 0):=iZ _ rfl;refine wpAny_call_entry slot_list_sort ⟨_,ho,rfl⟩ entry_list_sort ?_ (args_list_sort _);refine TZ (s:={ s with heap:=h0.push (seqObj "list" vs.toArray 0)}) ho h1 ⟨_,rfl,?_⟩;have lt:h0.objs.size<(h0.push (seqObj "list" vs.toArray 0)).objs.size:=cQ ho;obtain⟨e1,yV⟩:∃e1,((h0.push (seqObj "list" vs.toArray 0)).update h0.objs.size (Obj.mapSeq λ_=>#[])).get? h0.objs.size=some (seqObj "list" #[] e1):=⟨_,get?_update_seq ho (λ_=>#[])⟩
 have yW:((((h0.push (seqObj "list" vs.toArray 0)).update h0.objs.size (Obj.mapSeq λ_=>#[])).push (seqObj "tuple" vs.toArray 0)).push (seqObj "list" #[] 0)).get? h0.objs.size=some (seqObj "list" #[] e1):=cZ _ (cZ _ yV)
 have ho7:=get?_update_seq yW (λ_=>vs.toArray)
 refine h _ _ (λb o e=>?_) ho7
 have nb:b≠h0.objs.size:=gH (cQ e);unfold sortedHeap;rw[Hz _ _ _ _ nb];refine cZ _ (cZ _ ?_);rw[Hz _ _ _ _ nb];exact cZ _ e
def U0{P:List ah->Prop}{r:ai}{Q:ah->aq->Prop}(h1:∀vs,P vs->vs.length<2)(hc:∀R:List ah->aq->Prop,(∀vs (h':bT) (tk:Nat),P vs->(∀b o,s.heap.get? b=some o->h'.get? b=some o)->R vs { s with heap:=h',toks:=tk})->wpAny (model prog w) A.in1 (collect (.ref r)) R E s)
  (h:∀vs (h0:bT) (tk:Nat),P vs->(∀b o,s.heap.get? b=some o->h0.get? b=some o)->∀(h':bT) (c:Nat),(∀b o,h0.get? b=some o->h'.get? b=some o)->h'.get? h0.objs.size=some (seqObj "list" vs.toArray c)->Q (.ref h0.objs.size) { s with heap:=h',toks:=tk}):wpAny (model prog w) A (call (.builtin "sorted") [.ref r]) Q E s:=by
 refine Calls.call_function_entry kind_sorted plain_sorted entry_sorted (args_sorted1 _) ?_;unfold Builtin.«sorted»;refine ay (m:=checkCount "sorted" 1 1 _) (aR ?_);refine ay (hc _ λvs h' tk hP kp=>?_)
 have hl:=h1 vs hP;refine ay (wpAny_newList ?_ (by rw[sizeLine_eq];lia))
 refine ay (jq (wpAny_mono (V7 (s:={ s with heap:=h',toks:=tk}) (h0:=h') (vs:=vs) (Q:=λv s'=>Q v s') hl λh2 c Dd hg=>h vs h' tk hP kp h2 c Dd hg) (λ_ s' x=>?_) λ_ _ e=>e))
 exact aR ⟨_,rfl,x⟩
end
section
variable{X:Cx}{K:fX}
theorem IY:∀{ys:List V} {us:List ah},ys.length=us.length->(∀(j:Nat) (y:V) (u:ah),ys[j]?=some y->us[j]?=some u->RelV y u)->Vals ys us
 |[],[],_,_=>.nil
 |[],_::_,h,_=>by simp at h
 |_::_,[],h,_=>by simp at h
 |y::ys,u::us,h,r=>.cons (r 0 y u rfl rfl) (IY (by simpa using h) λj y' u' e1 e2=>r (j+1) y' u' (by simpa using e1) (by simpa using e2))
def QN(K:fX):List V->Hp->VK->Prop:=λxs H Q=>∃a ys,xs=[.ref a]/\(cW K H a ys\/∃es ep,H a=some (.dG es ep)/\ie es/\ys=es.map (·.2.1))/\ys.length<2/\∀l,H l=none->Q (.ref l) (upd H l (.lst ys))
def Ti(hc:X.calm=true):bS X (.builtin "sorted") (QN X.K):=by
 intro aa s Z H xs us Q I r h;obtain⟨a,ys,rfl,hq,hl,q⟩:=h;obtain⟨u,rfl,ru⟩:=Vals.one r;cases ru;refine U0 (P:=Vals ys) (λvs rv=>by have:=rv.length;lia) ?_ λvs h0 tk rv kp h' c Dd hg=>?_
 .intro R hR;rcases hq with hq|⟨es,ep,hd,ht,rfl⟩
  .obtain⟨aE,rv,pl,hz⟩:=I.list hq;refine collect_list pl.isList (hR aE _ s.toks rv λb o e=>?_) (by have:=rv.length;rw[sizeLine_eq];lia)
   have nb:b≠s.heap.objs.size:=gH (cQ e);rw[Hz _ _ _ _ nb];exact cZ _ e
  .obtain⟨kvs,D1,D2,D3,D4,lo⟩:=ye I hd ht;have l1:kvs.length=es.length:=by have:=congrArg List.length D3;simpa using this
   refine kdu_collect (kdl_dict (knd:=strKind X.prog X.w) (kvs:=kvs) (ep:=ep) lo) (I.ok.hd hc) D1 D4 λh' tk ba kp hi=>hR _ h' tk ?_ kp
   refine IY (by have:=hi.1;rw[bw,<-l1,<-this];simp) λj y u e1 e2=>?_
   rw[f9] at e1;obtain⟨e,e3,rfl⟩:=dm.mp e1;obtain⟨z,z1,z2⟩:=ht e (qI e3);obtain⟨k,v,k1,k2⟩:=hi.2 j u (by rw[<-ui];exact e2)
   have k3:(kvs.map (λp=>TK.inr p.1))[j]?=(es.map (·.1))[j]?:=by rw[D3]
   rw[f9,f9,k1,e3] at k3;have k4:TK.inr k=e.1:=Option.some.inj k3;rw[z1] at k4;cases k4;rw[z2];exact Value.isStrOf_shape k2
 .have e:=rv.length;have I0:Inv X aa Z H { s with heap:=h0,toks:=tk}:=I.kept kp;have I1:=I0.laid (h':=h') (t':=tk) (o:=.lst ys) Dd (bZ _) (show bI X.prog X.w _ h' _ (.lst ys) from⟨by rw[sizeLine_eq];lia,vs,c,rv,hg⟩)
  exact⟨.ref h0.objs.size,_,I1,rfl,q _ (I0.bG.fresh (bZ _))⟩
end
end L2
namespace L2
open PySem PySem.Spec PySem.W PyProof.Rows
variable{p:Array Nat}{i m k l:Nat}
def pw(lt:Nat->Nat->Bool)(n:Nat){α:Type}:KasT α->(α->Prop)->Prop
 |.ret a,P=>P a
 |.ask i j k,P=>i<n/\j<n/\i≠j/\pw lt n (k (lt i j)) P
section
variable{lt:Nat->Nat->Bool}{n:Nat}
theorem FY{α:Type}{P Q:α->Prop}(h:∀a,P a->Q a):∀{t:KasT α},pw lt n t P->pw lt n t Q
 |.ret a,p=>h a p
 |.ask i j k,p=>⟨p.1,p.2.1,p.2.2.1,FY h p.2.2.2⟩
theorem Aw{α β:Type}{P:α->Prop}{Q:β->Prop}{f:α->KasT β}(h:∀a,P a->pw lt n (f a) Q):∀{t:KasT α},pw lt n t P->pw lt n (t.bind f) Q
 |.ret a,p=>h a p
 |.ask i j k,p=>⟨p.1,p.2.1,p.2.2.1,Aw h p.2.2.2⟩
structure Ord (lt:Nat->Nat->Bool) (n:Nat):Prop where
 zT:∀i j,i<n->j<n->i≠j->lt i j=false->lt j i=true
 asy:∀i j,i<n->j<n->lt i j=true->lt j i=false
 tr:∀i j k,i<n->j<n->k<n->lt i j=true->lt j k=true->lt i k=true
structure qL (n:Nat) (p:Array Nat):Prop where
 pm:p.Perm (List.toArray (List.range n))
def qL.size{p:Array Nat}(h:qL n p):p.size=n:=by have:=h.pm.size_eq;simpa using this
def qL.below(h:qL n p)(hi:i<n):p.getD i 0<n:=by
 have hs:=h.size;have e:p.getD i 0=p[i]'(by lia):=by simp[Array.getD,hs,hi]
 rw[e];have:p[i]'(by lia)∈p:=Array.getElem_mem _
 have:=h.pm.mem_iff.mp this
 simp_all
theorem qL.inj(h:qL n p){j:Nat}(hi:i<n)(hj:j<n)(e:p.getD i 0=p.getD j 0):i=j:=by
 have hs:=h.size;have nd:p.toList.Nodup:=(Array.perm_iff_toList_perm.mp h.pm).nodup_iff.mpr (by simpa using Mr)
 have ei:p.getD i 0=p.toList[i]'(by simp;lia):=by simp[Array.getD,hs,hi]
 have ej:p.getD j 0=p.toList[j]'(by simp;lia):=by simp[Array.getD,hs,hj]
 rw[ei,ej] at e;exact(Er nd).mp e
def qM(lt:Nat->Nat->Bool)(p:Array Nat)(k:Nat):Prop:=∀i j,i<j->j<k->lt (p.getD i 0) (p.getD j 0)=true
def z9(lt:Nat->Nat->Bool)(p:Array Nat)(k:Nat):Prop:=∀i j,i<j->j<k->lt (p.getD j 0) (p.getD i 0)=true
variable(O:Ord lt n){p:Array Nat}(hp:qL n p)
include O hp
theorem V8(h1:1<=m)(hm:m<n)(h:qM lt p m)(e:lt (p.getD (m - 1) 0) (p.getD m 0)=true):qM lt p (m+1):=by
 intro i j pD hj;by_cases z:j=m
 .subst z;by_cases z2:i=j - 1
  .rw[z2];exact e
  .exact O.tr _ _ _ (hp.below (by lia)) (hp.below (by lia)) (hp.below hm) (h i (j - 1) (by lia) (by lia)) e
 .exact h i j pD (by lia)
theorem V9(h1:1<=m)(hm:m<n)(h:z9 lt p m)(e:lt (p.getD m 0) (p.getD (m - 1) 0)=true):z9 lt p (m+1):=by
 intro i j pD hj;by_cases z:j=m
 .subst z;by_cases z2:i=j - 1
  .rw[z2];exact e
  .exact O.tr _ _ _ (hp.below hm) (hp.below (by lia)) (hp.below (by lia)) e (h i (j - 1) (by lia) (by lia))
 .exact h i j pD (by lia)
theorem JH:∀(f m:Nat),1<=m->m+f<=n->qM lt p m->pw lt n (kas_asc p f m) λr=>m<=r/\r<=m+f/\qM lt p r/\(r<m+f->lt (p.getD r 0) (p.getD (r - 1) 0)=true)
 |0,m,_,_,h=>⟨bZ _,bZ _,h,λz=>cz z (jY _)⟩
 |f+1,m,h1,hm,h=>by
  refine⟨hp.below (by lia),hp.below (by lia),λz=>by have:=hp.inj (by lia) (by lia) z;lia,?_⟩
  cases e:lt (p.getD m 0) (p.getD (m - 1) 0) with
  |true=>exact⟨bZ _,by lia,h,λ_=>e⟩
  |false=>
   have:=O.zT _ _ (hp.below (by lia)) (hp.below (by lia)) (λz=>by have:=hp.inj (by lia) (by lia) z;lia) e
   exact FY (λr hr=>⟨by lia,by lia,hr.2.2.1,λz=>hr.2.2.2 (by lia)⟩) (JH f (m+1) (by lia) (by lia) (V8 O hp h1 (by lia) h this))
theorem PR:∀(f m:Nat),1<=m->m+f<=n->z9 lt p m->pw lt n (kas_desc f p m 0) λr=>r.1=p/\r.2.2=0/\m<=r.2.1/\r.2.1<=m+f/\z9 lt p r.2.1
 |0,m,_,_,h=>⟨rfl,rfl,bZ _,bZ _,h⟩
 |f+1,m,h1,hm,h=>by
  refine⟨hp.below (by lia),hp.below (by lia),λz=>by have:=hp.inj (by lia) (by lia) z;lia,?_⟩
  cases e:lt (p.getD m 0) (p.getD (m - 1) 0) with
  |true=>exact FY (λr hr=>⟨hr.1,hr.2.1,by lia,by lia,hr.2.2.2.2⟩) (PR f (m+1) (by lia) (by lia) (V9 O hp h1 (by lia) h e))
  |false=>
   have:=O.zT _ _ (hp.below (by lia)) (hp.below (by lia)) (λz=>by have:=hp.inj (by lia) (by lia) z;lia) e
   refine⟨hp.below (by lia),hp.below (by lia),λz=>by have:=hp.inj (by lia) (by lia) z;lia,?_⟩
   rw[this];exact⟨rfl,rfl,bZ _,Hv _ _,h⟩
omit O in
theorem QO(hm:m<=n)(i:Nat):(kas_rev p 0 m).getD i 0=if i<m then p.getD (m - 1 - i) 0 else p.getD i 0:=by
 have hs:=hp.size;have:=getElem?_mirror_all (xs:=p) (i:=0) (j:=m) (by lia) i
 have g:∀(q:Array Nat) (j:Nat),q.getD j 0=(q[j]?).getD 0:=λq j=>by
  simp_all
 unfold kas_rev;rw[g,this];simp only[kO,true_and,EB];split
 .rw[g]
 .rw[g]
omit O in
theorem PU(m:Nat):qL n (kas_rev p 0 m):=⟨(mirror_perm _ _ _ _).trans hp.pm⟩
theorem Ye(hm:m<=n)(h:z9 lt p m):qM lt (kas_rev p 0 m) m:=by
 intro i j pD hj;rw[QO hp hm,QO hp hm,bx (by lia),bx hj]
 exact h _ _ (by lia) (by lia)
theorem IZ{k:Nat}(hk:k<n)(hs:qM lt p k):∀(f l r:Nat),l<=r->r<=k->r - l<=f->(∀i,i<l->lt (p.getD i 0) (p.getD k 0)=true)->(∀i,r<=i->i<k->lt (p.getD k 0) (p.getD i 0)=true)->
  pw lt n (kas_place p k f l r) λx=>x<=k/\(∀i,i<x->lt (p.getD i 0) (p.getD k 0)=true)/\∀i,x<=i->i<k->lt (p.getD k 0) (p.getD i 0)=true
 |0,l,r,h1,h2,h3,a,b=>⟨by lia,a,λi hi hk=>b i (by lia) hk⟩
 |f+1,l,r,h1,h2,h3,a,b=>by
  unfold kas_place;split
  .exact⟨by lia,a,λi hi hk=>b i (by lia) hk⟩
  .refine⟨hp.below hk,hp.below (by lia),λz=>by have:=hp.inj hk (by lia) z;lia,?_⟩
   have hm:(l+r) / 2<k:=by lia
   cases e:lt (p.getD k 0) (p.getD ((l+r) / 2) 0) with
   |true=>
    refine IZ hk hs f l _ (by lia) (by lia) (by lia) a λi hi hik=>?_
    by_cases z:i=(l+r) / 2
    .rw[z];exact e
    .exact O.tr _ _ _ (hp.below hk) (hp.below (by lia)) (hp.below (by lia)) e (hs _ _ (by lia) hik)
   |false=>
    have e2:=O.zT _ _ (hp.below hk) (hp.below (by lia)) (λz=>by have:=hp.inj hk (by lia) z;lia) e
    refine IZ hk hs f _ r (by lia) (by lia) (by lia) (λi hi=>?_) b
    by_cases z:i=(l+r) / 2
    .rw[z];exact e2
    .exact O.tr _ _ _ (hp.below (by lia)) (hp.below (by lia)) (hp.below hk) (hs _ _ (by lia) (by lia)) e2
omit O in
theorem QP(hk:k<n)(hl:l<=k)(i:Nat):(bubble p k (k - l)).getD i 0=if i=l then p.getD k 0 else if l<i/\i<=k then p.getD (i - 1) 0 else p.getD i 0:=by
 have hs:=hp.size;have:=getElem?_bubble (xs:=p) (src:=k) (by lia) (k - l) (by lia) i
 have g:∀(q:Array Nat) (j:Nat),q.getD j 0=(q[j]?).getD 0:=λq j=>by
  simp_all
 rw[g,this,show k - (k - l)=l by lia]
 split
 .rw[g]
 .split
  .rw[g]
  .rw[g]
theorem Yf(hk:k<n)(hl:l<=k)(hs:qM lt p k)(a:∀i,i<l->lt (p.getD i 0) (p.getD k 0)=true)(b:∀i,l<=i->i<k->lt (p.getD k 0) (p.getD i 0)=true):qM lt (bubble p k (k - l)) (k+1):=by
 intro i j pD hj;rw[QP hp hk hl,QP hp hk hl];by_cases j1:j=l
 .rw[bx j1,bc (show ¬i=l by lia),bc (show ¬(l<i/\i<=k) by lia)]
  exact a i (by lia)
 .rw[bc j1];by_cases i1:i=l
  .grind
  .rw[bc i1];by_cases j2:l<j
   .rw[bx (show l<j/\j<=k by lia)]
    by_cases i2:l<i
    .rw[bx (show l<i/\i<=k by lia)];exact hs _ _ (by lia) (by lia)
    .rw[bc (show ¬(l<i/\i<=k) by lia)]
     by_cases z:i=j - 1
     .lia
     .exact hs _ _ (by lia) (by lia)
   .rw[bc (show ¬(l<j/\j<=k) by lia),bc (show ¬(l<i/\i<=k) by lia)]
    exact hs _ _ pD (by lia)
omit hp in
theorem QQ:∀(f:Nat) (p:Array Nat) (k:Nat),qL n p->k+f=n->qM lt p k->pw lt n (kas_bin f p k) λq=>qL n q/\qM lt q n
 |0,p,k,hp,e,h=>by subst e;exact⟨hp,h⟩
 |f+1,p,k,hp,e,h=>by
  refine Aw (λl hl=>?_) (IZ O hp (by lia) h k 0 k (kO _) (bZ _) (by lia) (λi hi=>by lia) λi hi hk=>by lia)
  exact QQ f _ (k+1) ⟨(bubble_perm _ _ _).trans hp.pm⟩ (by lia) (Yf O hp (by lia) hl.1 h hl.2.1 hl.2.2)
theorem V_(h1:1<=n):pw lt n (kas_count n p) λr=>1<=r.1/\r.1<=n/\qL n r.2/\qM lt r.2 r.1:=by
 refine Aw (λm hm=>?_) (JH O hp (n - 1) 1 (bZ _) (by lia) λi j pD hj=>by lia)
 obtain⟨m1,m2,m3,m4⟩:=hm;by_cases e:m=n
 .rw[bx (by simpa using e)]
  exact⟨m1,by show m<=n;lia,hp,m3⟩
 .rw[bc (by simpa using e)]
  by_cases g:m > 1
  .rw[bx g];refine⟨hp.below (by lia),hp.below (by lia),λz=>by have:=hp.inj (by lia) (by lia) z;lia,?_⟩
   rw[m3 0 (m - 1) (by lia) (by lia)]
   exact⟨m1,by show m<=n;lia,hp,m3⟩
  .rw[bc g];have em:m=1:=by lia
   subst em;have d2:z9 lt p 2:=λi j pD hj=>by
    have:i=0/\j=1:=by lia
    rw[this.1,this.2];exact m4 (by lia)
   refine Aw (λr hr=>?_) (PR O hp (n - (1+1)) (1+1) (by lia) (by lia) d2)
   obtain⟨r1,r2,r3,r4,r5⟩:=hr;rw[bc (by rw[r2];exact jY 0),r1]
   refine Aw (λx hx=>?_) (JH O (PU hp r.2.1) (n - r.2.1) r.2.1 (by lia) (by lia) (Ye O hp (by lia) r5))
   exact⟨by show 1<=x;lia,by show x<=n;lia,PU hp _,hx.2.2.1⟩
omit hp in
theorem PV(h1:1<=n):pw lt n (kas_sort n) λq=>qL n q/\qM lt q n:=by
 refine Aw (λr hr=>?_) (V_ O ⟨Array.Perm.refl _⟩ h1)
 obtain⟨r1,r2,r3,r4⟩:=hr;have e:max r.1 1=r.1:=by lia
 rw[e];split
 .exact QQ O (n - r.1) r.2 r.1 r3 (by lia) r4
 .have:r.1=n:=by lia
  rw[this] at r4;exact⟨r3,r4⟩
end
variable{ks:List (Int×Int)}
def A8(lt:Nat->Nat->Bool){α:Type}:KasT α->α
 |.ret a=>a
 |.ask i j k=>A8 lt (k (lt i j))
theorem Gd{lt:Nat->Nat->Bool}{n:Nat}{α:Type}{P:α->Prop}:∀{t:KasT α},pw lt n t P->P (A8 lt t)/\pw lt n t λa=>a=A8 lt t
 |.ret _,p=>⟨p,rfl⟩
 |.ask _ _ _,p=>⟨(Gd p.2.2.2).1,p.1,p.2.1,p.2.2.1,(Gd p.2.2.2).2⟩
theorem QR{lt:Nat->Nat->Bool}{n:Nat}{α:Type}{cmp:Nat->Nat->(Bool->aq->Prop)->aq->Prop}{Q:α->aq->Prop}{s:aq}(hc:∀i j C,i<n->j<n->i≠j->C (lt i j) s->cmp i j C s):∀{t:KasT α},pw lt n t (λa=>Q a s)->t.kasWp cmp Q s
 |.ret _,p=>p
 |.ask i j k,p=>hc i j _ p.1 p.2.1 p.2.2.1 (QR hc p.2.2.2)
def K_(x y:Int×Int):Bool:=decide (x.1<y.1\/(x.1=y.1/\x.2<y.2))
def ltAt(ks:List (Int×Int))(i j:Nat):Bool:=K_ (ks.getD i (0,0)) (ks.getD j (0,0))
def QS(nd:ks.Nodup):Ord (ltAt ks) ks.length:=by
 refine⟨λi j hi hj hn h=>?_,λi j _ _ h=>?_,λi j k _ _ _ h1 h2=>?_⟩
 all_goals grind [List.getElem_inj,ltAt,K_]
def dN(ks:List (Int×Int)):List Nat:=(A8 (ltAt ks) (kas_sort ks.length)).toList
def fH(h:bT)(vs:List ah)(ks:List (Int×Int)):Prop:=vs.length=ks.length/\∀i,i<ks.length->∃x o a b t t' z m,vs.getD i Value.none=.ref x/\h.get? x=some o/\o.cls=.type "tuple"/\o.data=.seq #[.int a t,.int b t',z] m/\ks.getD i (0,0)=(a,b)
def fH.keep{h h':bT}{vs:List ah}(T:fH h vs ks)(k:∀b o,h.get? b=some o->h'.get? b=some o):fH h' vs ks:=⟨T.1,λi hi=>by
 obtain⟨x,o,a,b,t,t',z,m,h1,h2,r⟩:=T.2 i hi;exact⟨x,o,a,b,t,t',z,m,h1,k _ _ h2,r⟩⟩
section
variable{prog:dq}{w:cF}{A:cP}{E:ah->aq->Prop}{s:aq}{vs:List ah}{ks:List (Int×Int)}
def Yg(T:fH s.heap vs ks)(nd:ks.Nodup)(i j:Nat)(C:Bool->aq->Prop)(hi:i<ks.length)(hj:j<ks.length)(ij:i≠j)(h:C (ltAt ks i j) s):kas_ask prog w A (tuples' true) vs i j C s:=by
 obtain⟨x,o,a,b,t,t',z,m,x1,x2,x3,x4,x5⟩:=T.2 i hi;obtain⟨y,p,c,d,u,u',z',m',y1,y2,y3,y4,y5⟩:=T.2 j hj;have hl:ltAt ks i j=decide (a<c\/(a=c/\b<d)):=by unfold ltAt K_;rw[x5,y5]
 rw[hl] at h;unfold kas_ask;rw[x1,y1];refine kat_lt x2 x4 y2 y4 ?_;show KatLex prog w A true _ C [(.int a t,.int c u),(.int b t',.int d u'),(z,z')] 0 s;refine kat_cons (wpAny_eqBool_int (kat_go (λe=>?_) λe=>?_))
 .have e:a=c:=by simpa using e
  refine kat_yes (kat_cons (wpAny_eqBool_int (kat_go (λe2=>?_) λe2=>?_)))
  .grind [List.getElem_inj]
  .have e2:b≠d:=by simpa using e2
   refine kat_no (kat_one _ _ (wpAny_lt_int ?_));rw[show decide (a<c\/(a=c/\b<d))=decide (b<d) by simp[e]] at h
   exact h
 .have e:a≠c:=by simpa using e
  refine kat_no (oneLt_int ?_);rw[show decide (a<c\/(a=c/\b<d))=decide (a<c) by simp[e]] at h
  exact h
theorem Oy{h:bT}:∀{vs:List ah} {ks:List (Int×Int)},fH h vs ks->∃fs,KatTups h vs fs/\fs.length=vs.length/\∀v∈fs,∃a t,v=Value.int a t
 |[],_,_=>⟨[],.nil,rfl,λv m=>by cases m⟩
 |v::vs,[],T=>by have:=T.1;simp at this
 |v::vs,k::ks,T=>by
  obtain⟨fs,f1,f2,f3⟩:=Oy (h:=h) (vs:=vs) (ks:=ks) ⟨by have:=T.1;simpa using this,λi hi=>by
   obtain⟨x,o,a,b,t,t',z,m,r⟩:=T.2 (i+1) (by simpa using hi)
   exact⟨x,o,a,b,t,t',z,m,by simpa using r⟩⟩
  obtain⟨x,o,a,b,t,t',z,m,h1,h2,h3,h4,_⟩:=T.2 0 (by simp)
  have h1:v=.ref x:=by simpa using h1
  subst h1;refine⟨.int a t::fs,.cons h2 h3 h4 (by simp) f1,by simp[f2],λv m=>?_⟩
  rcases y0b.mp m with rfl|m
  .exact⟨a,t,rfl⟩
  .exact f3 v m
def Tb{a:ai}{n:Nat}{P:PySem.Fin->aq->Prop}(ho:s.heap.get? a=some (seqObj "list" vs.toArray n))(T:fH s.heap vs ks)(nd:ks.Nodup)(na:∀i x,i<ks.length->vs.getD i Value.none=.ref x->x≠a)(h2:2<=vs.length)(AO:vs.length<64)
  (h:P (.done (.ret .none)) { s with heap:=sortedHeap s.heap a vs (List.toArray ((dN ks).map λi=>vs.getD i Value.none))}):wpAny (model prog w) A (Builtin.«list.sort» ⟨[.ref a],[]⟩) P E s:=by
 rw[list_sort_plain];have ha:a<s.heap.objs.size:=cQ ho;refine ay (listItems_at ho rfl ?_);refine ay (listUpdate_at ho rfl ?_ (by rw[eE,sizeLine_eq];lia) (kO _))
 obtain⟨e1,yV⟩:∃e1,(s.heap.update a (Obj.mapSeq λ_=>#[])).get? a=some (seqObj "list" #[] e1):=⟨_,get?_update_seq ho (λ_=>#[])⟩
 refine ay (seqEpoch_at yV rfl ?_);refine ay (wpAny_newTuple ?_ (by show vs.length<=_;rw[sizeLine_eq];lia))
 refine ay (wpAny_newList ?_ (kO _));refine jq ?_;have yW:(((s.heap.update a (Obj.mapSeq λ_=>#[])).push (seqObj "tuple" vs.toArray 0)).push (seqObj "list" #[] 0)).get? a=some (seqObj "list" #[] e1):=by
  rw[EA _ _ _ (by rw[size_push',Mw];exact gH (uh ha)),EA _ _ _ (by rw[Mw];exact gH ha)]
  exact yV
 have T6:fH (((s.heap.update a (Obj.mapSeq λ_=>#[])).push (seqObj "tuple" vs.toArray 0)).push (seqObj "list" #[] 0)) vs ks:=⟨T.1,λi hi=>by
  obtain⟨x,o,b,c,t,t',z,m,y1,y2,r⟩:=T.2 i hi;refine⟨x,o,b,c,t,t',z,m,y1,cZ _ (cZ _ ?_),r⟩;rw[Hz _ _ _ _ (na i x hi y1)];exact y2⟩
 show wpAny (model prog w) A _ P E { s with heap:=((s.heap.update a (Obj.mapSeq λ_=>#[])).push (seqObj "tuple" vs.toArray 0)).push (seqObj "list" #[] 0)}
 dsimp only;have yU:¬vs.toArray.size<2:=by rw[eE];lia
 rw[bc yU,bc yU];obtain⟨fs,f1,f2,f3⟩:=Oy T6;refine ay (kat_kind (T:=.type "int") f1 (by lia) (λv hv=>?_) (by decide) ?_)
 .obtain⟨b,t,rfl⟩:=f3 v hv;exact λA Q E s' _ q=>wpAny_typeOf (typeIs_int s' b t) q
 .have O:=QS nd;have pq:=PV O (show 1<=ks.length by have:=T.1;lia)
  obtain⟨⟨q1,q2⟩,q3⟩:=Gd pq;have hlen:=T.1;refine ay (wpAny_mono (kat_run (Q:=λjC s'=>s'={ s with heap:=((s.heap.update a (Obj.mapSeq λ_=>#[])).push (seqObj "tuple" vs.toArray 0)).push (seqObj "list" #[] 0)}/\arrOf jC=(A8 (ltAt ks) (kas_sort ks.length)).map (kas_item (vs.toArray.zip vs.toArray))/\failedOf jC=none) rfl h2 AO (λp' jC s' a1 a2 a3 a4=>⟨a4.2,by rw[<-a4.1];exact a2,a3⟩) (G:=λp s'=>p=A8 (ltAt ks) (kas_sort ks.length)/\s'=_) ?_) ?_ λ_ _ e=>e)
  .rw[hlen];exact QR (λi j C hi hj ij hC=>Yg T6 nd i j C hi hj ij hC) (FY (λp hp=>⟨hp,rfl⟩) q3)
  .rintro⟨⟨⟩,jC⟩ s' ⟨rfl,Kt,hf⟩;dsimp only;have KN:=kat_snds rfl Kt;rw[KN];refine ay (seqEpoch_at yW rfl ?_);refine ay (listUpdate_at yW rfl ?_ (kO _) (by rw[eE,bw,zV,q1.size,sizeLine_eq];lia))
   rw[hf];simp only[bne_self_eq_false,lK,iC];exact aR h
def T1{l:ai}{Q:ah->aq->Prop}(hl:s.heap.IsList l vs.toArray)(T:fH s.heap vs ks)(nd:ks.Nodup)(h2:2<=vs.length)(AO:vs.length<64)
  (h:Q (.ref (s.heap.objs.size+1)) { s with heap:=sortedAll s.heap vs (List.toArray ((dN ks).map λi=>vs.getD i Value.none))}):wpAny (model prog w) A (call (.builtin "sorted") [.ref l]) Q E s:=by
 refine Calls.call_function_entry kind_sorted plain_sorted entry_sorted (args_sorted1 _) ?_;unfold Builtin.«sorted»;refine ay (m:=checkCount "sorted" 1 1 _) (aR ?_);refine ay (collect_list hl ?_ (by rw[sizeLine_eq];lia))
 refine ay (wpAny_newList ?_ (by rw[sizeLine_eq];lia))
 have hsz:((s.heap.push (seqObj "list" #[] 0)).update s.heap.objs.size (Obj.mapSeq (·++vs.toArray))).objs.size=s.heap.objs.size+1:=by
  simp_all
 have iG:(((s.heap.push (seqObj "list" #[] 0)).update s.heap.objs.size (Obj.mapSeq (·++vs.toArray))).push (seqObj "list" vs.toArray 0)).get? (s.heap.objs.size+1)=some (seqObj "list" vs.toArray 0):=by
  rw[<-hsz];exact iZ _ rfl
 have keep:∀b o,s.heap.get? b=some o->(((s.heap.push (seqObj "list" #[] 0)).update s.heap.objs.size (Obj.mapSeq (·++vs.toArray))).push (seqObj "list" vs.toArray 0)).get? b=some o:=λb o q=>by
  have md:b<s.heap.objs.size:=cQ q;rw[EA _ _ _ (by rw[hsz];exact gH (uh md)),Hz _ _ _ _ (gH md),EA _ _ _ (gH md)]
  exact q
 show wpAny _ _ _ _ _ { s with heap:=((s.heap.push (seqObj "list" #[] 0)).update s.heap.objs.size (Obj.mapSeq (·++vs.toArray))).push (seqObj "list" vs.toArray 0)}
 rw[hsz];refine ay (jq (wpAny_call_entry slot_list_sort ⟨_,iG,rfl⟩ entry_list_sort (Tb iG (T.keep keep) nd (λi x hi e=>?_) h2 AO ⟨_,rfl,?_⟩) (args_list_sort _)))
 .obtain⟨y,o,_,_,_,_,_,_,y1,y2,_⟩:=T.2 i hi;rw[y1] at e;cases e;exact gH (uh (cQ y2))
 .exact aR ⟨_,rfl,h⟩
end
section
variable{X:Cx}{K:aJ}{H:Hp}
def vR(K:aJ)(H:Hp)(ys:List V)(ks:List (Int×Int)):Prop:=ys.length=ks.length/\∀i,i<ks.length->∃p z,ys[i]?=some (.ref p)/\iE K H p [.int (ks.getD i (0,0)).1,.int (ks.getD i (0,0)).2,z]
def QT(K:aJ):List V->Hp->VK->Prop:=λvs H Q=>∃a ys ks,vs=[.ref a]/\cW K H a ys/\vR K H ys ks/\ks.Nodup/\2<=ks.length/\ks.length<64/\∀l,H l=none->Q (.ref l) (upd H l (.lst ((dN ks).map λi=>ys.getD i .aM)))
theorem NX{ys:List V}{us:List ah}(r:Vals ys us):∀{is:List Nat},(∀i∈is,i<ys.length)->Vals (is.map λi=>ys.getD i .aM) (is.map λi=>us.getD i Value.none)
 |[],_=>.nil
 |i::is,h=>by
  have hi:=h i (.head _);obtain⟨u,e,ru⟩:=r.get (iH hi);have e1:ys.getD i .aM=ys[i]:=by simp[hi]
  have e2:us.getD i Value.none=u:=by rw[Bd,e];rfl
  refine .cons ?_ (NX r λj m=>h j (.tail _ m))
  lia
theorem FA(nd:ks.Nodup)(h:1<=ks.length):(dN ks).Perm (List.range ks.length)/\(dN ks).Pairwise λi j=>ltAt ks i j=true:=by
 obtain⟨⟨q1,q2⟩,_⟩:=Gd (PV (QS nd) h);refine⟨by unfold dN;have:=Array.perm_iff_toList_perm.mp q1.pm;simpa using this,?_⟩
 rw[List.pairwise_iff_getElem];intro i j hi hj pD;have hs:=q1.size;have:=q2 i j pD (by unfold dN at hj;simp at hj;lia)
 unfold dN at hi hj ⊢;simp only[zV] at hi hj;simpa[Array.getD,hi,hj] using this
def T2(K:aJ)(hK:X.K=K:=by rfl):bS X (.builtin "sorted") (QT K):=by
 subst hK;intro aa s Z H xs us Q I r h;obtain⟨a,ys,ks,rfl,hl,T,nd,h2,AO,q⟩:=h;obtain⟨u,rfl,ru⟩:=vals1 r;cases ru;obtain⟨aE,rv,pl,hz⟩:=I.list hl;have hlen:=rv.length;have CU:=T.1;have T':fH s.heap aE ks:=⟨by lia,λi hi=>by
  obtain⟨p,z,y1,y2⟩:=T.2 i hi;obtain⟨u,e,ru⟩:=rv.get y1;obtain rfl:u=Value.ref p:=ru;obtain⟨it2,Hh,⟨o,g1,g2,n,g3⟩,_⟩:=I.tuple y2;cases Hh with
  |cons r1 t=>
   cases t with
   |cons r2 t=>
    cases t with
    |cons r3 t=>
     cases t;obtain⟨t1,rfl⟩:=r1;obtain⟨t2,rfl⟩:=r2;exact⟨p,o,_,_,t1,t2,_,n,by rw[Bd,e];rfl,g1,g2,g3,rfl⟩⟩
 refine T1 pl.isList T' nd (by lia) (by lia) ?_
 obtain⟨c,hc⟩:=sortedAll_at s.heap aE (List.toArray ((dN ks).map λi=>aE.getD i Value.none))
 obtain⟨s1,_⟩:=FA nd (by lia)
 have hm:∀i∈dN ks,i<ys.length:=λi m=>by have:=s1.mem_iff.mp m;rw[tG] at this;lia
 have I3:=I.laid (h':=sortedAll s.heap aE (List.toArray ((dN ks).map λi=>aE.getD i Value.none))) (t':=s.toks) (o:=.lst ((dN ks).map λi=>ys.getD i .aM)) (λb o g=>sortedAll_old g) (tI _) (show bI X.prog X.w _ _ _ (.lst _) from⟨by rw[bw,s1.length_eq,xu,sizeLine_eq];lia,_,c,NX rv hm,hc⟩)
 exact⟨.ref (s.heap.objs.size+1),_,I3,rfl,q _ (I.bG.fresh (tI _))⟩
end
end L2
set_option autoImplicit false
namespace L2
open PySem PySem.Spec PySem.W PySem.Calls PyProof.Rows
def fK(kvs:List (TK×D)):Bool:=kvs.all λp=>wC p.1
def u_:D->aj (List D)
 |.aA kvs=>if fK kvs=true then some ((List.range kvs.length).map λi=>.tup (((kvs[i]?).map λp=>[p.1.d,p.2]).getD [])) else none
 |_=>none
section
variable{K:fX}{W:XW}{q:Nat}{g:GE}{fz:Bool}{Z:St}{H:Hp}{R:It->Hp->Prop}{k:Kn}{es:List (TK×V×V)}{kvs:List (TK×D)}
def JY(h1:es.map (·.1)=kvs.map (·.1))(h2:ag K k (es.map (·.2.1)) (kvs.map (·.1.d)))(h:fK kvs=true):ie es:=QG h1 (by rw[fL];exact h2) (by rw[Bb];exact h)
def Yh(t:tX (RI K q) K W q (bu fz u_ g) Z H R):QH (tE K W q g) Z H R:=by
 rcases Fi t with h|⟨d,ds,n,e,h⟩
 .exact h _
 .cases d with
  |aA kvs=>
   unfold u_ at e;dsimp only at e;split at e
   .rename_i ht
    cases e;refine h _ λk1 H1 x le hd j=>?_
    obtain⟨a,es,ep,rfl,q2,q3,q4,q1⟩:=hd;have tx:=JY q2 q3 ht;refine⟨a,es,ep,rfl,jH.now (x:=.aM) q1 le,tx,j _ ?_⟩;have hl:kvs.length=es.length:=by have:=q4.length;rw[bw,bw] at this;exact this.symm
    rw[hl];refine .Dp (λH s c=>⟨q1 H s c,tx⟩) λi us hi hv=>?_
    obtain⟨e,h1,rfl⟩:=hv;have CQ:i<kvs.length:=by lia
    obtain⟨v,h3,h4⟩:=q4.get (i:=i) (d:=kvs[i].2) (by rw[f9,iH CQ];rfl)
    obtain⟨v',h5,h6⟩:=q3.get (i:=i) (d:=kvs[i].1.d) (by rw[f9,iH CQ];rfl)
    rw[f9,h1] at h3 h5;cases h3;cases h5;rw[iH CQ];exact .cons h6 h4
   .cases e
  |_=>cases e
end
end L2
namespace L2
open PySem PySem.Spec PyProof.Rows
section
variable{X:Cx}{K:aJ}{k:Kn}{H:Hp}{x:V}{d:D}
def Top.txt{kvs:List (TK×D)}(t:Top K k H x (.aA kvs))(le:az k.F H)(h:fK kvs=true):∃p es ep,x=.ref p/\H p=some (.dG es ep)/\ie es/\es.map (·.1)=kvs.map (·.1)/\ag K k (es.map (·.2.1)) (kvs.map (·.1.d))/\ag K k (es.map (·.2.2)) (kvs.map (·.2)):=by
 obtain⟨p,es,ep,rfl,h1,h2,h3,h4⟩:=t.aA le;exact⟨p,es,ep,rfl,h1,JY h2 h3 h,h2,h3,h4⟩
def DC(K:aJ):List V->Hp->VK->Prop:=λxs H Q=>(∃p ys,xs=[.ref p]/\(cW K H p ys\/iE K H p ys)/\Q (.int ys.length) H)\/(∃z,xs=[.str z]/\z.length<=sizeLine/\Q (.int z.length) H)\/∃p es ep,xs=[.ref p]/\H p=some (.dG es ep)/\ie es/\Q (.int es.length) H
def U3(hK:X.K=K):bS X (.builtin "len") (DC K):=(S_ K hK).or (lW.or (by
 intro aa s Z H xs us Q I r h;obtain⟨p,es,ep,rfl,hp,ht,q⟩:=h;obtain⟨u,rfl,ru⟩:=vals1 r;cases ru;obtain⟨kvs,D1,D2,D3,D4,lo⟩:=ye I hp ht;have l1:kvs.length=es.length:=by have:=congrArg List.length D3;simpa using this
 refine call_len_dict lo D1.dictOf (by rw[sizeLine_eq] at D4;lia) ?_
 rw[l1];exact⟨.int es.length,H,I.tok _,⟨_,rfl⟩,q⟩))
def eS:D->aj Rv
 |.lst ds=>some (rd (.int ds.length))
 |.tup ds=>some (rd (.int ds.length))
 |.str z=>if z.length<=1000000 then some (rd (.int z.length)) else none
 |.aA kvs=>if fK kvs=true then some (rd (.int kvs.length)) else none
 |_=>none
def e3e:bV K (DC K) (o1 eS):=qT λk H x a y Q le t e res=>by
 unfold eS at e;split at e
 .cases e;obtain⟨p,ws,rfl,q,r⟩:=t.lst le;exact .inl ⟨p,ws,rfl,.inl q,by rw[r.length];exact res.flat le rfl⟩
 .cases e;obtain⟨p,ws,rfl,q,r⟩:=t.tup le;exact .inl ⟨p,ws,rfl,.inr q,by rw[r.length];exact res.flat le rfl⟩
 .split at e
  .cases e;cases t.flat rfl;exact .inr (.inl ⟨_,rfl,ml (by assumption),res.flat le rfl⟩)
  .cases e
 .split at e
  .cases e;obtain⟨p,es,ep,rfl,h1,h2,h3,h4,h5⟩:=t.txt le (by assumption)
   refine .inr (.inr ⟨p,es,ep,rfl,h1,h2,?_⟩);have:=h5.length;rw[bw,bw] at this;rw[this];exact res.flat le rfl
  .cases e
 .cases e
def sP:D->aj String
 |.aM=>some "NoneType"
 |.bl _=>some "bool"
 |.int _=>some "int"
 |.str _=>some "str"
 |.lst _=>some "list"
 |.tup _=>some "tuple"
 |_=>none
def Oz{n:String}(le:az k.F H)(t:Top K k H x d)(e:sP d=some n):B' K H x n:=by
 cases d with
 |lst _=>cases e;obtain⟨p,ws,rfl,q,r⟩:=t.lst le;exact .inl ⟨rfl,_,q⟩
 |tup _=>cases e;obtain⟨p,ws,rfl,q,r⟩:=t.tup le;exact .inr ⟨rfl,_,q⟩
 |_=>cases e <;> cases t.flat rfl <;> rfl
def Dz(K:aJ):List V->Hp->VK->Prop:=λxs H Q=>(∃x k T,xs=[x,.ty T]/\B' K H x k/\(T="int"\/T="str"\/T="bool"\/T="list"\/T="tuple")/\Q (.bl (qz k T)) H)\/wW K xs H Q
def U4(hK:X.K=K):bS X (.builtin "isinstance") (Dz K):=(UB K hK).or (UU K hK)
def y6:List D->Bool
 |[.ty a,.ty b]=>decide (a="tuple"/\b="list")
 |_=>false
def Yi{ds:List D}(h:y6 ds=true):ds=[.ty "tuple",.ty "list"]:=by
 unfold y6 at h;split at h
 .obtain⟨rfl,rfl⟩:=xx h;rfl
 .cases h
def jk(a t:D):aj Rv:=match t with
 |.ty T=>if T="int"\/T="str"\/T="bool"\/T="list"\/T="tuple" then(sP a).map λk=>rd (.bl (qz k T)) else none
 |.tup ds=>if y6 ds=true then(sP a).map λk=>rd (.bl (L5 k)) else none
 |_=>none
def e3f:bV K (Dz K) (o2 jk):=vi λk H x z a b y Q le t1 t2 e res=>by
 unfold jk at e;split at e
 .split at e
  .obtain⟨n,h,rfl⟩:=dm.mp e;cases t2.flat rfl;exact .inl ⟨x,n,_,rfl,Oz le t1 h,by assumption,res.flat le rfl⟩
  .cases e
 .split at e
  .rename_i ht
   cases Yi ht;obtain⟨n,h,rfl⟩:=dm.mp e;obtain⟨p,ws,rfl,q,r⟩:=t2.tup le;obtain⟨w1,us,rfl,r1,r2⟩:=r.cw;obtain⟨w2,us,rfl,r3,r4⟩:=r2.cw;cases r4.gz;cases r1.aN rfl;cases r3.aN rfl;exact .inr ⟨x,n,p,rfl,Oz le t1 h,q,res.flat le rfl⟩
  .cases e
 .cases e
def wZ(K:aJ):List V->Hp->VK->Prop:=λxs H Q=>(∃p ys,xs=[.ref p]/\(cW K H p ys\/iE K H p ys)/\∀l,H l=none->Q (.ref l) (upd H l (.lst ys)))\/Sw K xs H Q
def T3(hc:X.calm=true)(hK:X.K=K):bS X (.type "list") (wZ K):=(Ta K hK).or (hK ▸ TR hc)
noncomputable def ku:D->aj Rv
 |.lst ds=>some (.o (.lst ds))
 |.tup ds=>some (.o (.lst ds))
 |.aA kvs=>some (.o (.lst (kvs.map (·.1.d))))
 |_=>none
def Yj:bV K (wZ K) (o1 ku):=qT λk H x a y Q le t e res=>by
 unfold ku at e;split at e
 .cases e;obtain⟨p,ws,rfl,q,r⟩:=t.lst le;exact .inl ⟨p,ws,rfl,.inl q,λl hl=>res.lst le r hl⟩
 .cases e;obtain⟨p,ws,rfl,q,r⟩:=t.tup le;exact .inl ⟨p,ws,rfl,.inr q,λl hl=>res.lst le r hl⟩
 .cases e;obtain⟨p,es,ep,rfl,h1,h2,h3,h4⟩:=t.aA le;exact .inr ⟨p,es,ep,rfl,h1,λl hl=>res.lst le h3 hl⟩
 .cases e
def pT:D->aj Rv
 |.aA kvs=>if fK kvs=true then some (.o (.lst (kvs.map (·.2)))) else none
 |_=>none
def Yk:bV K (λxs H Q=>∃d es ep,xs=[.ref d]/\H d=some (.dG es ep)/\ie es/\∀q,H q=none->Q (.ref q) (upd H q (.lst (es.map (·.2.2))))) (o1 pT):=qT λk H x a y Q le t e res=>by
 unfold pT at e;split at e
 .split at e
  .cases e;obtain⟨p,es,ep,rfl,h1,h2,h3,h4,h5⟩:=t.txt le (by assumption)
   exact⟨p,es,ep,rfl,h1,h2,λl hl=>res.lst le h5 hl⟩
  .cases e
 .cases e
noncomputable def Cd(q:List Bool->Bool):D->aj Rv
 |.lst ds=>(eO ds).map λbs=>rd (.bl (q bs))
 |_=>none
def V'(q:List Bool->Bool):bV K (λxs H Q=>∃(a:ai) (bs:List Bool),xs=[.ref a]/\cW K H a (bs.map V.bl)/\Q (.bl (q bs)) H) (o1 (Cd q)):=qT λk H x a y Q le t e res=>by
 unfold Cd at e;split at e
 .obtain⟨bs,h,rfl⟩:=dm.mp e;obtain⟨p,ws,rfl,s,r⟩:=t.lst le;rw[Nr h] at r;cases Nt r;exact⟨p,bs,rfl,s,res.flat le rfl⟩
 .cases e
noncomputable def o8(f:List Int->Int):D->aj Rv
 |.lst ds=>(kq ds).bind λis=>if is=[] then none else some (rd (.int (f is)))
 |_=>none
def Yl(f:List Int->Int):bV K (λxs H Q=>∃(a:ai) (is:List Int),xs=[.ref a]/\cW K H a (is.map V.int)/\is≠[]/\Q (.int (f is)) H) (o1 (o8 f)):=qT λk H x a y Q le t e res=>by
 unfold o8 at e;split at e
 .obtain⟨is,h,e⟩:=cy.mp e;split at e
  .cases e
  .cases e;obtain⟨p,ws,rfl,s,r⟩:=t.lst le;rw[NV h] at r;cases Nb r;exact⟨p,is,rfl,s,by assumption,res.flat le rfl⟩
 .cases e
def iD:D->aj Int
 |.int i=>some i
 |_=>none
def Rq{v:D}{i:Int}(h:iD v=some i):v=.int i:=by cases v <;> cases h;rfl
def qA:List D->aj (Int×Int)
 |[a,b,_]=>(iD a).bind λi=>(iD b).map λj=>(i,j)
 |_=>none
def Dc:D->aj (Int×Int)
 |.tup l=>qA l
 |_=>none
def kr:List D->aj (List (Int×Int))
 |[]=>some []
 |d::ds=>(Dc d).bind λk=>(kr ds).map λks=>k::ks
theorem OA:∀{ds:List D} {ks:List (Int×Int)} {ws:List V},kr ds=some ks->ag K k ws ds->az k.F H->vR K H ws ks
 |[],ks,ws,e,r,le=>by cases e;exact⟨by rw[r.length];rfl,λi hi=>nomatch hi⟩
 |d::ds,ks,ws,e,r,le=>by
  obtain⟨w,us,rfl,r1,r2⟩:=r.cw;obtain⟨k0,e0,e⟩:=cy.mp (show(Dc d).bind _=_ from e);obtain⟨wH,e1,rfl⟩:=dm.mp e;cases d with
  |tup l=>
   have e0:qA l=some k0:=e0;unfold qA at e0;split at e0
   case h_2=>cases e0
   obtain⟨a,z1,e0⟩:=cy.mp e0;obtain⟨b,z2,rfl⟩:=dm.mp e0;cases Rq z1;cases Rq z2;obtain⟨l1,l2⟩:=OA e1 r2 le;obtain⟨p,ws,rfl,q,r3⟩:=r1.isTup;obtain⟨w1,us1,rfl,t1,r3⟩:=r3.cw;obtain⟨w2,us2,rfl,t2,r3⟩:=r3.cw;obtain⟨w3,us3,rfl,t3,r3⟩:=r3.cw;cases r3.gz;cases t1.aN rfl;cases t2.aN rfl;refine⟨congrArg (·+1) l1,λi hi=>?_⟩
   cases i with
   |zero=>exact⟨p,w3,rfl,le.zO q⟩
   |succ i=>exact l2 i (Nat.lt_of_succ_lt_succ hi)
  |_=>cases e0
def xa(K:aJ):List V->Hp->VK->Prop:=λvs H Q=>QN K vs H Q\/QT K vs H Q
def T4(hc:X.calm=true)(hK:X.K=K):bS X (.builtin "sorted") (xa K):=(hK ▸ Ti hc).or (T2 K hK)
def lG(ds:List D)(is:List Nat):List D:=is.map λi=>ds.getD i .aM
def pQ:D->aj Rv
 |.lst ds=>if ds.length<2 then some (.o (.lst ds)) else(kr ds).bind λks=>if ks.Nodup/\ks.length<64 then some (.o (.lst (lG ds (dN ks)))) else none
 |.aA kvs=>if(fK kvs&&Nat.blt kvs.length 2)=true then some (.o (.lst (kvs.map (·.1.d)))) else none
 |_=>none
theorem OB{ws:List V}{ds:List D}(r:ag K k ws ds):∀{is:List Nat},(∀i∈is,i<ds.length)->ag K k (is.map λi=>ws.getD i .aM) (lG ds is)
 |[],_=>.nil
 |i::is,h=>by
  have hi:=h i (.head _);obtain⟨v,h1,h2⟩:=r.get (i:=i) (d:=ds[i]) (iH hi);unfold lG;rw[cU,cU,show ws.getD i .aM=v by rw[Bd,h1];rfl,show ds.getD i .aM=ds[i] by rw[Bd,iH hi];rfl]
  exact .cons h2 (OB r λj m=>h j (.tail _ m))
def Ym:bV K (xa K) (o1 pQ):=qT λk H x a y Q le t e res=>by
 unfold pQ at e;split at e
 .obtain⟨p,ws,rfl,s,r⟩:=t.lst le;split at e
  .cases e;exact .inl ⟨p,ws,rfl,.inl s,by rw[r.length];assumption,λl hl=>res.lst le r hl⟩
  .rename_i h2
   obtain⟨ks,h,e⟩:=cy.mp e;split at e
   .rename_i hk
    cases e;have T:=OA h r le;have l1:ks.length=ws.length:=T.1.symm;have l2:=r.length;refine .inr ⟨p,ws,ks,rfl,s,T,hk.1,by lia,hk.2,λl hl=>res.lst le (OB r λi m=>?_) hl⟩
    grind [FA]
   .cases e
 .split at e
  .rename_i hh
   obtain⟨h1,h2⟩:=zX.mp hh;cases e;obtain⟨p,es,ep,rfl,h3,h4,h5,h6,h7⟩:=t.txt le h1;have:=h6.length;have l2:_<2:=f7 (z5 h2) (bZ _);exact .inl ⟨p,_,rfl,.inr ⟨es,ep,h3,h4,rfl⟩,by rw[this,bw];exact l2,λl hl=>res.lst le h6 hl⟩
  .cases e
 .cases e
def bY{α:Type}:List (TK×α)->TK->α->List (TK×α)
 |[],k,v=>[(k,v)]
 |(j,w)::r,k,v=>if j=k then(j,v)::r else(j,w)::bY r k v
def iA:List D->aj (List (TK×D))
 |[]=>some []
 |.tup [a,b]::ds=>(jM a).bind λj=>(iA ds).map λps=>(j,b)::ps
 |_=>none
noncomputable def pe:D->aj Rv
 |.lst ds=>(iA ds).bind λps=>if ps.length<1000 then some (.o (.aA (ps.foldl (λkvs p=>bY kvs p.1 p.2) []))) else none
 |_=>none
theorem Ju{j:TK}{y v:V}{e:D}(ry:ag K k [y] [j.d])(rv:ag K k [v] [e]):∀{ws:List (TK×V×V)} {kvs:List (TK×D)},ws.map (·.1)=kvs.map (·.1)->ag K k (ws.map (·.2.1)) (kvs.map (·.1.d))->ag K k (ws.map (·.2.2)) (kvs.map (·.2))->
  (dQ ws j y v).map (·.1)=(bY kvs j e).map (·.1)/\ag K k ((dQ ws j y v).map (·.2.1)) ((bY kvs j e).map (·.1.d))/\ag K k ((dQ ws j y v).map (·.2.2)) ((bY kvs j e).map (·.2))
 |[],[],_,_,_=>⟨rfl,ry,rv⟩
 |w::ws,p::kvs,h,r1,r2=>by
  obtain⟨h1,h2⟩:=List.cons.inj (show w.1::ws.map (·.1)=p.1::kvs.map (·.1) from h)
  obtain⟨a1,a2⟩:=ag.inv r1;obtain⟨b1,b2⟩:=ag.inv r2;unfold dQ bY;by_cases q:p.1=j
  .rw[bx (h1.trans q),bx q];exact⟨congr (congrArg List.cons h1) h2,.cons a1 a2,.cons rv b2⟩
  .rw[bc (λz=>q (h1.symm.trans z)),bc q]
   obtain⟨c1,c2,c3⟩:=Ju ry rv h2 a2 b2;exact⟨congr (congrArg List.cons h1) c1,.cons a1 c2,.cons b1 c3⟩
 |[],_::_,h,_,_=>nomatch h
 |_::_,[],h,_,_=>nomatch h
def rM(K:aJ)(k:Kn)(q:TK×V×V)(p:TK×D):Prop:=q.1=p.1/\ag K k [q.2.1] [q.1.d]/\ag K k [q.2.2] [p.2]
theorem OC:∀{ds:List D} {ps:List (TK×D)} {ws:List V},iA ds=some ps->ag K k ws ds->az k.F H->∃qs:List (TK×V×V),jR K H ws qs/\Paired (rM K k) qs ps
 |[],ps,ws,e,r,le=>by cases e;cases r.gz;exact⟨[],⟨rfl,λi p h=>nomatch h⟩,.nil⟩
 |d::ds,ps,ws,e,r,le=>by
  obtain⟨a,b,rfl,e⟩:∃a b,d=.tup [a,b]/\((jM a).bind λj=>(iA ds).map ((j,b)::·))=some ps:=by
   cases d with
   |tup l=>
    rcases l with _|⟨a,_|⟨b,_|_⟩⟩
    case cons.cons.nil=>exact⟨a,b,rfl,e⟩
    all_goals cases e
   |_=>cases e
  .obtain⟨j,q1,e⟩:=cy.mp e;obtain⟨kL,q2,rfl⟩:=dm.mp e;obtain⟨w,us,rfl,r1,r2⟩:=r.cw;obtain⟨p,ws,rfl,sq,ri⟩:=r1.isTup;obtain⟨y,us1,rfl,t1,ri⟩:=ri.cw;obtain⟨v,us2,rfl,t2,ri⟩:=ri.cw;cases ri.gz;obtain⟨qs,h1,h3⟩:=OC q2 r2 le;have rk:ag K k [y] [j.d]:=by rw[(Av q1).1];exact t1
   refine⟨(j,y,v)::qs,⟨congrArg (·+1) h1.len,λi p h=>?_⟩,.cons ⟨rfl,rk,t2⟩ h3⟩
   cases i with
   |zero=>cases h;exact⟨_,rfl,le.zO sq,sN (k:=k.all H) j (rk.all le),(Av q1).2⟩
   |succ i=>exact h1.item i p h
def PX{qs:List (TK×V×V)}{ps:List (TK×D)}(p:Paired (rM K k) qs ps):∀{ws:List (TK×V×V)} {kvs:List (TK×D)},ws.map (·.1)=kvs.map (·.1)->ag K k (ws.map (·.2.1)) (kvs.map (·.1.d))->ag K k (ws.map (·.2.2)) (kvs.map (·.2))->
  (fI ws qs).map (·.1)=(ps.foldl (λkvs p=>bY kvs p.1 p.2) kvs).map (·.1)/\ag K k ((fI ws qs).map (·.2.1)) ((ps.foldl (λkvs p=>bY kvs p.1 p.2) kvs).map (·.1.d))/\ag K k ((fI ws qs).map (·.2.2)) ((ps.foldl (λkvs p=>bY kvs p.1 p.2) kvs).map (·.2)):=by
 induction p with
 |nil=>exact λa b c=>⟨a,b,c⟩
 |@cons q p qs ps h _ ih=>
  intro ws kvs a b c;obtain⟨h1,h2,h3⟩:=h;obtain⟨j1,j2,j3⟩:=Ju h2 h3 a b c;rw[h1] at j1 j2 j3;have:=ih (ws:=dQ ws p.1 q.2.1 q.2.2) (kvs:=bY kvs p.1 p.2) j1 j2 j3;rw[show fI ws (q::qs)=fI (dQ ws p.1 q.2.1 q.2.2) qs by unfold fI;rw[HA,h1],HA]
  exact this
def Wa:bV K (QL K) (o1 pe):=qT λk H x a y Q le t e res=>by
 unfold pe at e;split at e
 .obtain⟨ps,q1,e⟩:=cy.mp e;split at e
  .rename_i hn
   cases e;obtain⟨p,ws,rfl,s,r⟩:=t.lst le;obtain⟨qs,g1,g3⟩:=OC q1 r le;obtain⟨o1,o2,o3⟩:=PX g3 (ws:=[]) (kvs:=[]) rfl .nil .nil;exact⟨p,ws,qs,rfl,s,g1,by rw[Paired.length g3];exact hn,λl ep hl=>res.aA le o1 o2 o3 hl⟩
  .cases e
 .cases e
noncomputable def Sj:D->aj String
 |.str _=>some "str"
 |.lst _=>some "list"
 |.aA _=>some "dict"
 |_=>none
def e3h{T:String}(le:az k.F H)(t:Top K k H x d)(e:Sj d=some T):Hr K T x H:=by
 cases d with
 |str _=>cases e;cases t.flat rfl;rfl
 |lst _=>cases e;obtain⟨p,ws,rfl,q,r⟩:=t.lst le;exact .inl ⟨rfl,_,q⟩
 |aA _=>cases e;obtain⟨p,es,ep,rfl,h1,h2⟩:=t.aA le;exact .inr (.inr (.inl ⟨rfl,.inr (.inr ⟨es,ep,h1⟩)⟩))
 |_=>cases e
def Ge(T:String)(o:List D->aj Rv)(f:GE)(g:GA):GE:=λU S=>bd (f U S) λr S1=>if(vt S1 (mF r)).bind Sj=some T then bd (g U S1) λvs S2=>(vv S2 (mF r::vs)).bind λds=>(o ds).map λy=>.ok y S2 else none
def Wb{W:XW}{q:Nat}{T:String}{o:List D->aj Rv}{r:V->List V->Hp->VK->Prop}{f:GE}{g:GA}{Z:St}{H:Hp}{Q:VK}(bG:bV K (pO r) o)(t:tE K W q (Ge T o f g) Z H Q):LQ K T r (tE K W q f) (gG K W q g) Z H Q:=by
 obtain⟨k,U,S,res,ok,gk,e,w⟩:=t;refine tX.bd ok gk e w λr S1 x k1 H1 bL g1 r1 e1 w1 _=>?_
 obtain⟨k2,u2,cS,r2⟩:=qQ bL r1;split at e1
 .rename_i hT
  obtain⟨d,h1,h2⟩:=cy.mp hT;refine⟨e3h cS.le (F9 cS r2 h1) h2,tX.bd cS (g1.up (u2 q)) e1 (w1.up (u2 q)) λvs S3 xs k3 H3 jN g3 r3 e3 w3 u3=>?_⟩
  obtain⟨ds,e4,e5⟩:=cy.mp e3;obtain⟨y,e6,rfl⟩:=dm.mp e5;obtain⟨x',xs',z,rr⟩:=bG k3 H3 (x::xs) ds y Q jN.le (Pn jN (.cons (r2.up u3) r3) e4) e6 (.fin jN w3)
  lia
 .cases e1
def ji:D->D->aj Rv
 |.lst ds,.str z=>(dh ds).bind λys=>(findS ys z).map λj=>rd (.int (j:Nat))
 |_,_=>none
def Wc:bV K (pO (QJ K)) (o2 ji):=vi λk H x z a b y Q le t1 t2 e res=>by
 unfold ji at e;split at e
 .obtain⟨ys,e1,e2⟩:=cy.mp e;obtain⟨j,e3,rfl⟩:=dm.mp e2;obtain⟨p,ws,rfl,s,r⟩:=t1.lst le;rw[BJ e1] at r;cases E3 r;cases t2.flat rfl;obtain⟨s1,s2⟩:=BD e3;exact⟨_,_,rfl,p,ys,_,j,rfl,rfl,s,s1,s2,res.flat le rfl⟩
 .cases e
noncomputable def pk:D->D->aj Rv
 |.aA kvs,i=>(jM i).map λj=>rd ((aQ kvs j).getD .aM)
 |_,_=>none
def Yn:bV K (pO (wV K)) (o2 pk):=vi λk H x z a b y Q le t1 t2 e res=>by
 unfold pk at e;split at e
 .obtain⟨j,hj,rfl⟩:=dm.mp e;obtain⟨p,o,rfl,g,h⟩:=vJ le t1 t2 hj;refine⟨_,_,rfl,p,_,o,rfl,rfl,g,?_⟩;rcases h with⟨rfl,h⟩|⟨v,e,rfl,h,r⟩
  .rw[h] at res;exact res.flat le rfl
  .rw[h] at res;exact res.rep le r
 .cases e
end
variable{k:Kn}{ws:List V}{ds:List D}{v:V}
noncomputable def Cell.box:Cell->aj Bx
 |.o b=>some b
 |_=>none
noncomputable def iw(S:aV):Val->aj Bx
 |.c n=>(S.s[n]?).bind Cell.box
 |.d (.ref n)=>(S.r[n]?).bind Cell.box
 |_=>none
noncomputable def setB(S:aV)(b:Bx):Val->aV
 |.c n=>⟨S.s.set n (.o b),S.r⟩
 |.d (.ref n)=>⟨S.s,S.r.set n (.o b)⟩
 |_=>S
noncomputable def Bx.mb(q:Nat):Bx->Bool
 |.lst _=>Nat.ble q 1
 |.aA _=>q == 0
noncomputable def Bx.ty:Bx->String
 |.lst _=>"list"
 |.aA _=>"dict"
section
variable{K:aJ}{k:Kn}{H:Hp}{S:aV}{x:V}{v:Val}{b:Bx}{a:ai}
def QU{c:Cell}(h:c.box=some b):c=.o b:=by
 cases c <;> cases h;rfl
def QV{q:Nat}(h:dZ K k H a b)(m:b.mb q=true):∀o,H a=some o->vd q o=false:=by
 intro o e;cases b with
 |lst xs=>
  obtain⟨ws,e1,_⟩:=h;rw[e] at e1;cases e1;have:=z5 m
  match q,this with
  |0,_=>rfl
  |1,_=>rfl
 |aA kvs=>cases(beq_iff_eq.mp m);rfl
def B2(ok:cf K k H S)(r:dc K k x v)(e:iw S v=some b):∃a,x=.ref a/\dZ K k H a b/\∀q b' H',lB H H' a->b.mb q=true->dZ K k H' a b'->cf K k H' (setB S b' v)/\Up q k H k H':=by
 cases v with
 |c n=>
  obtain⟨a,rfl,h1⟩:=r;obtain⟨c,h2,h3⟩:=cy.mp e;cases QU h3;obtain⟨h4,h5⟩:=ok.s.at' n a _ h1 h2;exact⟨a,rfl,h5,λq b' H' o m h=>ok.LH h1 o h4 (QV h5 m) (c:=.o b') ⟨h4,h⟩⟩
 |d y=>
  cases y with
  |ref n=>
   obtain⟨a,rfl,h1⟩:=ag.isRef r;obtain⟨c,h2,h3⟩:=cy.mp e;cases QU h3;obtain⟨h4,h5⟩:=ok.r.at' n a _ h1 h2;exact⟨a,rfl,h5,λq b' H' o m h=>ok.DK h1 o h4 (QV h5 m) (c:=.o b') ⟨h4,h⟩⟩
  |_=>cases e
def e7x{T:String}(h:dZ K k H a b)(e:b.ty=T):Hr K T (.ref a) H:=by
 cases b with
 |lst xs=>obtain⟨ws,h1,_⟩:=h;exact .inl ⟨e.symm,ws,.inl (.inl h1)⟩
 |aA kvs=>obtain⟨es,ep,h1,_⟩:=h;exact .inr (.inr (.inl ⟨e.symm,.inr (.inr ⟨es,ep,h1⟩)⟩))
end
def lA(K:aJ)(r:V->List V->Hp->VK->Prop)(m:Bx->List D->aj (Bx×D)):Prop:=∀k H a b ds b' d xs Q,az k.F H->dZ K k H a b->ag K k xs ds->m b ds=some (b',d)->(∀x o',dZ K k (upd H a o') a b'->ag K k [x] [d]->Q x (upd H a o'))->r (.ref a) xs H Q
def fU(q:Nat)(T:String)(m:Bx->List D->aj (Bx×D))(f:GE)(g:GA):GE:=λU S=>bd (f U S) λr S1=>if(iw S1 (mF r)).map Bx.ty=some T then bd (g U S1) λvs S2=>(qu vs S2).bind λp=>(iw p.2 (mF r)).bind λb=>if b.mb q=true then(m b p.1).map λz=>.ok (rd z.2) (setB p.2 z.1 (mF r)) else none else none
section
variable{X:Cx}{K:aJ}{W:XW}{q:Nat}{T:String}{m:Bx->List D->aj (Bx×D)}{r:V->List V->Hp->VK->Prop}{f:GE}{g:GA}{Z:St}{H:Hp}{Q:VK}
def e3i(hm:lA K r m)(t:tE K W q (fU q T m f g) Z H Q):LQ K T r (tE K W q f) (gG K W q g) Z H Q:=by
 obtain⟨k,U,S,res,ok,gk,e,w⟩:=t;refine tX.bd ok gk e w λr S1 x k1 H1 bL g1 r1 e1 w1 _=>?_
 obtain⟨k2,u2,cS,r2⟩:=qQ bL r1;split at e1
 .rename_i hT
  obtain⟨b0,h1,h2⟩:=dm.mp hT;obtain⟨a0,ea,h3,_⟩:=B2 cS r2 h1;refine⟨ea ▸ e7x h3 h2,tX.bd cS (g1.up (u2 q)) e1 (w1.up (u2 q)) λvs S3 xs k3 H3 jN g3 r3 e3 w3 u3=>?_⟩
  obtain⟨⟨ds,S4⟩,e4,e5⟩:=cy.mp e3;obtain⟨k4,u4,qB,r4⟩:=FR jN r3 e4;obtain⟨b,e6,e7⟩:=cy.mp e5;obtain⟨a,rfl,h4,h5⟩:=B2 qB ((r2.up u3).up (u4 q)) e6;split at e7
  .rename_i hb
   obtain⟨⟨b',d⟩,e8,rfl⟩:=dm.mp e7;refine hm k4 H3 a b ds b' d xs Q qB.le h4 r4 e8 λy o' h6 h7=>?_
   obtain⟨mm,u5⟩:=h5 q b' _ BN hb h6;exact(w3.up (u4 q)) y k4 _ u5 mm h7
  .cases e7
 .cases e1
noncomputable def rV:Bx->List D->aj (Bx×D)
 |.lst xs,[d]=>if xs.length<1000000 then some (.lst (xs++[d]),.aM) else none
 |_,_=>none
def zL:ag K k [.aM] [.aM]:=.flat rfl .nil
def FZ{xs:List V}{d:D}(h:ag K k xs [d]):∃x,xs=[x]/\ag K k [x] [d]:=by
 obtain⟨x,us,rfl,h1,h2⟩:=h.cw;cases h2.gz;exact⟨x,rfl,h1⟩
def U5:lA K Pk rV:=by
 intro k H a b ds b' d xs Q le hb r e h;unfold rV at e;split at e
 .split at e
  .rename_i hl
   cases e;obtain⟨ws,h1,h2⟩:=hb;obtain⟨y,rfl,r1⟩:=FZ r;exact⟨a,ws,y,rfl,rfl,h1,f7 (by rw[h2.length];exact hl) (by decide),h .aM _ ⟨_,aK,h2.append r1⟩ zL⟩
  .cases e
 .cases e
noncomputable def B3:Bx->List D->aj (Bx×D)
 |.lst xs,[.int i,d]=>if 0<=i/\i<2^62/\xs.length<1000000 then some (.lst (xs.take i.toNat++d::xs.drop i.toNat),.aM) else none
 |_,_=>none
def U6:lA K Pl B3:=by
 intro k H a b ds b' d xs Q le hb r e h;unfold B3 at e;split at e
 .split at e
  .rename_i hl
   cases e;obtain⟨ws,h1,h2⟩:=hb;obtain⟨y,us,rfl,r1,r2⟩:=r.cw;obtain⟨z,rfl,r3⟩:=FZ r2;cases r1.aN rfl;refine⟨a,ws,_,z,rfl,rfl,h1,hl.1,hl.2.1,f7 (by rw[h2.length];exact hl.2.2) (by decide),h .aM _ ⟨_,aK,?_⟩ zL⟩
   have:∀(n:Nat) (l:List V),qx l n z=l.take n++z::l.drop n:=λn l=>by unfold qx;rfl
   rw[this];exact(h2.take _).append (.cons r3 (h2.drop _))
  .cases e
 .cases e
noncomputable def F0:Bx->List D->aj (Bx×D)
 |.lst xs,[.str z]=>(dh xs).bind λys=>(findS ys z).map λj=>(.lst (xs.eraseIdx j),.aM)
 |_,_=>none
def U7(h:ag K k ws ds)(j:Nat):ag K k (ws.eraseIdx j) (ds.eraseIdx j):=by
 rw[List.eraseIdx_eq_take_drop_succ,List.eraseIdx_eq_take_drop_succ];exact(h.take _).append (h.drop _)
def U8:lA K PN F0:=by
 intro k H a b ds b' d xs Q le hb r e h;unfold F0 at e;split at e
 .obtain⟨ys,e1,e2⟩:=cy.mp e;obtain⟨j,e3,e4⟩:=dm.mp e2;cases e4;obtain⟨ws,h1,h2⟩:=hb;obtain⟨y,rfl,r1⟩:=FZ r;cases r1.aN rfl;obtain⟨s1,s2⟩:=BD e3;have h3:=U7 h2 j;rw[BJ e1] at h2;cases E3 h2;exact⟨a,ys,_,j,rfl,rfl,h1,s1,s2,h .aM _ ⟨_,aK,by rw[<-Fm];exact h3⟩ zL⟩
 .cases e
def dW{α:Type}(kvs:List (TK×α))(z:Str):List (TK×α):=kvs.filter λe=>iX z e.1
def jy:Bx->List D->aj (Bx×D)
 |.aA kvs,[.str z]=>if fK kvs=true then(aQ kvs (.inr z)).map λd=>(.aA (dW kvs z),d) else none
 |_,_=>none
theorem OE{k:Kn}(z:Str):∀{ws:List (TK×V×V)} {kvs:List (TK×D)},ws.map (·.1)=kvs.map (·.1)->ag K k (ws.map (·.2.1)) (kvs.map (·.1.d))->ag K k (ws.map (·.2.2)) (kvs.map (·.2))->
  (dW ws z).map (·.1)=(dW kvs z).map (·.1)/\ag K k ((dW ws z).map (·.2.1)) ((dW kvs z).map (·.1.d))/\ag K k ((dW ws z).map (·.2.2)) ((dW kvs z).map (·.2))
 |[],[],_,_,_=>⟨rfl,.nil,.nil⟩
 |w::ws,p::kvs,h,r1,r2=>by
  obtain⟨h1,h2⟩:=List.cons.inj (show w.1::ws.map (·.1)=p.1::kvs.map (·.1) from h)
  obtain⟨a1,a2⟩:=ag.inv r1;obtain⟨b1,b2⟩:=ag.inv r2;obtain⟨c1,c2,c3⟩:=OE z h2 a2 b2;unfold dW at *;rw[Eu,Eu,h1];split
  .exact⟨congr (congrArg List.cons h1) c1,.cons a1 c2,.cons b1 c3⟩
  .exact⟨c1,c2,c3⟩
 |[],_::_,h,_,_=>nomatch h
 |_::_,[],h,_,_=>nomatch h
def Yo:lA K (w9 K) jy:=by
 intro k H a b ds b' d xs Q le hb r e h;unfold jy at e;split at e
 .split at e
  .rename_i ht
   obtain⟨v0,e1,e2⟩:=dm.mp e;cases e2;obtain⟨es,ep,h1,h2,h3,h4⟩:=hb;obtain⟨y,rfl,r1⟩:=FZ r;cases r1.aN rfl;obtain⟨f1,f2,f3⟩:=OE (K:=K) _ h2 h3 h4;rcases Jt (k:=.inr _) h2 h4 with⟨_,z⟩|⟨v,e,z1,z2,z3⟩
   .rw[z] at e1;cases e1
   .rw[z2] at e1;cases e1;exact⟨a,es,ep,_,v,rfl,rfl,h1,JY h2 h3 ht,z1,λlF=>h v _ ⟨_,lF,aK,f1,f2,f3⟩ z3⟩
  .cases e
 .cases e
end
def pP(K:aJ):qj:=λo i v H Q=>w_ o i v H Q\/∃a H4,o=.ref a/\xO K H a i v H4/\Q H4
def Rr{X:Cx}(hu:X.A.units+41<cLine):uw X (pP X.K):=by
 intro aa s Z H o i v ov iv u Q I ro ri rv h;rcases h with h|⟨a,H4,rfl,g,q⟩
 .exact VH aa s Z H o i v ov iv u Q I ro ri rv h
 .cases ro;exact UR (by lia) I g ri rv λs4 I4=>⟨H4,I4,q⟩
def vw(b:Bx)(i v:D):aj Bx:=match b with
 |.lst xs=>(intD i).bind λk=>(vc xs.length k).map λj=>.lst (xs.set j v)
 |.aA kvs=>(jM i).bind λj=>if kvs.length<1000000 then some (.aA (bY kvs j v)) else none
section
variable{X:Cx}{K:aJ}{W:XW}{q:Nat}{fv fo fi:GE}{o e i:Expr}{pos pos':Pos}{Z:St}{H:Hp}
def Yp{d:D}(h:ag K k ws ds)(r:ag K k [v] [d])(j:Nat):ag K k (ws.set j v) (ds.set j d):=by
 induction ds generalizing ws j with
 |nil=>rw[h.gz];exact .nil
 |cons x ds ih=>
  obtain⟨w,us,rfl,h1,h2⟩:=h.cw;cases j with
  |zero=>exact .cons r h2
  |succ j=>exact .cons h1 (ih h2 j)
def QW{a:ai}{b b':Bx}{di dv:D}{y:V}{Q:Hp->Prop}(le:az k.F H)(hb:dZ K k H a b)(ri:ag K k [y] [di])(rv:ag K k [v] [dv])(e:vw b di dv=some b')(h:∀o',dZ K k (upd H a o') a b'->Q (upd H a o')):pP K (.ref a) y v H Q:=by
 unfold vw at e;split at e
 .obtain⟨j,h1,e⟩:=cy.mp e;obtain⟨n,h2,rfl⟩:=dm.mp e;cases FX h1;cases ri.aN rfl;obtain⟨ws,h3,h4⟩:=hb;exact .inl ⟨a,ws,j,n,rfl,rfl,h3,by rw[h4.length];exact h2,h _ ⟨_,aK,Yp h4 rv n⟩⟩
 .obtain⟨j,h1,e⟩:=cy.mp e;split at e
  .rename_i hl
   cases e;obtain⟨es,ep,h2,h3,h4,h5⟩:=hb;obtain⟨k1,k2⟩:=Av h1;have ry:ag K k [y] [j.d]:=by rw[k1];exact ri
   obtain⟨p1,p2,p3⟩:=Ju ry rv h3 h4 h5;have l_:es.length<sizeLine:=by
    have:=h5.length;rw[bw,bw] at this;rw[this];exact f7 hl (by decide)
   exact .inr ⟨a,_,rfl,⟨es,ep,j,h2,PF h3 h4 le,sN (k:=k.all H) j (ry.all le),k2,l_,rfl⟩,h _ ⟨_,_,aK,p1,p2,p3⟩⟩
  .cases e
def cx(q:Nat)(fv fo fi:GE):GS:=λU S=>kY U (mJ fv (mJ fo (mJ fi gN)) U S) λvs S1=>match vs with
 |[v,o,i]=>(qu [v,i] S1).bind λp=>(iw p.2 o).bind λb=>if b.mb q=true then(match p.1 with
  |[dv,di]=>(vw b di dv).map λb'=>.nx U (setB p.2 b' o)
  |_=>none) else none
 |_=>none
def e3k{D:Ends}(t:tS K W q (cx q fv fo fi) D Z H):tE K W q fv Z H λv H1=>tE K W q fo Z H1 λo H2=>tE K W q fi Z H2 λi H3=>pP K o i v H3 λH4=>D.nx Z H4:=by
 have t1:gG K W q (mJ fv (mJ fo (mJ fi gN))) Z H λxs H3=>∃v o i,xs=[v,o,i]/\pP K o i v H3 λH4=>D.nx Z H4:=by
  obtain⟨k,U,S,fr,ok,gk,e,w⟩:=t;refine tS.bd ok gk e w λvs S1 xs k1 H1 bL g1 r1 e1 w1=>?_
  split at e1
  .obtain⟨xv,_,rfl,rv,t⟩:=Paired.Ef r1;obtain⟨xo,_,rfl,ro,t⟩:=Paired.Ef t;obtain⟨xi,_,rfl,ri,t⟩:=Paired.Ef t;cases t;refine⟨xv,xo,xi,rfl,?_⟩;obtain⟨⟨ds,S2⟩,e2,e3⟩:=cy.mp e1;obtain⟨k2,u2,cS,r2⟩:=FR bL (.cons rv (.cons ri .nil)) e2;obtain⟨b,e4,e5⟩:=cy.mp e3;obtain⟨a,rfl,h4,h5⟩:=B2 cS (ro.up (u2 q)) e4;split at e5
   .rename_i hb
    obtain _|⟨dv,_|⟨di,_|⟨_,_⟩⟩⟩:=ds
    .cases e5
    .cases e5
    .obtain⟨b',e6,rfl⟩:=dm.mp e5;obtain⟨s1,s2⟩:=r2.inv;refine QW cS.le h4 s2 s1 e6 λo' h6=>?_
     obtain⟨mm,u5⟩:=h5 q b' _ BN hb h6;exact cb.now (cb.up (cb.up w1 (u2 q)) u5) mm ((g1.up (u2 q)).up u5)
    .cases e5
   .cases e5
  .cases e1
 refine oB (uD t1) λv H1 h=>oB (uD h) λo H2 h=>oB (uD h) λi H3 h=>?_
 obtain⟨v',o',i',e,h⟩:=AE h;cases e;exact h
def e3l(he:PE X e (tE K W q fv))(ho:PE X o (tE K W q fo))(hi:PE X i (tE K W q fi))(hu:X.A.units+41<cLine)(hK:X.K=K)
  (ha:∀v,assign (.Subscript o i pos') X.env v=(do
   let ov <-holding [v] (eval o X.env)
   let iv <-holding [v,ov] (eval i X.env)
   standAt pos'
   holding [v,ov,iv] (setItem ov iv v)
   release [v,ov,iv] []))
  (hs:swapsWithSole [.Subscript o i pos'] e pos.line X.env=pure false) (hw:swappedStores [.Subscript o i pos'] e X.env=pure none)
  (h1:(assignEach [.Subscript o i pos'] X.env).map (·.2)=[assign (.Subscript o i pos') X.env]):PS X (.Assign [.Subscript o i pos'] e pos) (tS K W q (cx q fv fo fi)):=by
 subst hK;exact(ZR he (ZQ ho hi (Rr hu) ha) hs hw h1).mono λD Z H t=>e3k t
end
end L2
namespace L2
open PySem PySem.Spec PySem.W PyProof.Rows
section
variable{X:Cx}{K:fX}{W:XW}{q:Nat}{pos:Pos}{aa:List (ai×Obj)}{Z:St}
def sV:PE X (.Dict [] [] pos) e3d:=λaa s Z H Q I h=>
 wpAny_Dict_empty ⟨.ref s.heap.objs.size,_,I.laid (a:=s.heap.objs.size) (o:=.dG [] 0) (t':=s.toks) (λ_ _ q=>cZ _ q) (bZ _) (IX s.heap I.big),rfl,h _ (I.bG.fresh (bZ _))⟩
noncomputable def o5:GE:=λ_ S=>some (.ok (.o (.aA [])) S)
def r6:PE X (.Dict [] [] pos) (tE K W q o5):=sV.mono λZ H Q t p hp=>by
 obtain⟨k,U,S,res,ok,gk,e,w⟩:=t;cases e;exact kT.aA (.fin ok w) ok.le rfl .nil .nil hp
def oV(K:fX)(F:Hp)(e:TK×V×V):Prop:=bf K F [e.2.1] [e.1.d]/\e.1.ok 8=true
def QX(K:fX)(vB:List (TE×TE)):TE:=λZ H Q=>∀p,H p=none->F7 vB Z (upd H p (.dG [] 0)) λps H2=>(∃e0,H2 p=some (.dG [] e0))/\∃(F:Hp) (qs:List (TK×V×V)),F p=none/\az F H2/\ps=qs.map (·.2)/\(∀e∈qs,oV K F e)/\qs.length<=15/\∀ep,Q (.ref p) (upd H2 p (.dG (fI [] qs) ep))
def Wd{F:Hp}{qs:List (TK×V×V)}(h:∀e∈qs,oV K F e):∀{es:List (TK×V×V)},bf K F (es.map (·.2.1)) (es.map (·.1.d))->bf K F ((fI es qs).map (·.2.1)) ((fI es qs).map (·.1.d)):=λ{es} r=>Nu K (λp m=>(h p m).1) r
theorem NY{A:cP}{E:ah->aq->Prop}{F H2:Hp}{p:ai}(hF:F p=none)(le:az F H2)(hu:A.units+8<cLine){Q:Unit->aq->Prop}:∀{qs:List (TK×V×V)} {ws:List (ah×ah)} {es:List (TK×V×V)} {ep:Nat} {s:aq},VV (qs.map (·.2)) ws->(∀e∈qs,oV X.K F e)->bf X.K F (es.map (·.2.1)) (es.map (·.1.d))->es.length+qs.length<=1000->Inv X aa Z (upd H2 p (.dG es ep)) s->(∀ep s,Inv X aa Z (upd H2 p (.dG (fI es qs) ep)) s->Q () s)->
  wpAny (model X.prog X.w) A (forIn ws () λ(x:ah×ah) _=>do dictSet p x.1 x.2;pure (ForInStep.yield ())) Q E s
 |[],_,es,ep,s,v,_,_,_,I,h=>by
  rw[Et] at v;cases v;rw[List.forIn_nil];exact aR (h ep s I)
 |e::qs,_,es,ep,s,v,hk,r,hl,I,h=>by
  rw[cU] at v;cases v with
  |cons rv v=>
   rw[List.forIn_cons];have sm:az F (upd H2 p (.dG es ep)):=λb o z=>by rw[dH (λy=>by rw[y,hF] at z;cases z)];exact le b o z
   have KC:=hk e (.head _);rw[kG] at hl;refine ay (ay (IK (by lia) I ⟨es,ep,e.1,aK,r.Hs sm,KC.1.Hs sm,KC.2,by rw[sizeLine_eq];lia,rfl⟩ rv.1 rv.2 λs' I'=>aR ?_))
   rw[W9] at I';have GY:=E2 e.1 e.2.1 e.2.2 es;have e3:(fI es [e]).length=(dQ es e.1 e.2.1 e.2.2).length:=rfl;exact NY (es:=fI es [e]) hF le hu v (λe m=>hk e (.tail _ m)) (Wd (qs:=[e]) (λx m=>by cases kH.mp m;exact KC) r) (by lia) I' h
def We{keys:List (aj Expr)}{values:List Expr}{vB:List (TE×TE)}(h:Ab X pos keys values vB)(hu:X.A.units+41<cLine)(jL:keys.all (·.isSome)=true)(hl:keys.length=values.length)(h0:keys≠[])(yO:keys.length<=15):PE X (.Dict keys values pos) (QX X.K vB):=by
 intro aa s Z H Q I q;have hn:=I.bG.fresh (bZ s.heap.objs.size);have I1:=I.laid (a:=s.heap.objs.size) (o:=.dG [] 0) (h':=s.heap.push { cls:=.type "dict",data:=.dict #[]}) (t':=s.toks) (λ_ _ q=>cZ _ q) (bZ _) (IX s.heap I.big)
 have lp:∀(ks:List (aj Expr)) (vs:List Expr),ks.all (·.isSome)=true->ks.length=vs.length->(pairTrees ks vs X.env pos).length=ks.length:=by
  intro ks
  induction ks with
  |nil=>intro vs _ e;cases vs with
   |nil=>rfl
   |cons _ _=>cases e
  |cons k ks ih=>
   intro vs a e;rw[qW,jD] at a;cases k with
   |none=>cases a.1
   |some k=>cases vs with
    |nil=>cases e
    |cons v vs=>exact congrArg (·+1) (ih vs a.2 (Nat.succ.inj e))
 have K9:=lp keys values jL hl;rw[arm_eval_Dict,zip_pairTrees keys values X.env pos jL hl,dictDisplay_pairs _ (λz=>h0 (List.eq_nil_of_length_eq_zero (by rw[<-K9,z];rfl))) (by rw[K9];lia)]
 refine ay (wpAny_standAt (ay ?_));unfold subDict;refine ay (wpAny_alloc (ay (jq ?_)));rw[bx (by rw[K9];exact yO)]
 refine ay (bM (h aa _ Z _ _ I1 (q _ hn)) λws s2 hh=>?_)
 obtain⟨ps,H2,I2,rel,⟨e0,e⟩,F,qs,hF,le,ep,hk,hq,q2⟩:=hh;subst ep;refine jq (ay ?_);have eu:upd H2 s.heap.objs.size (.dG [] e0)=H2:=by
  grind [aK,dH]
 refine NY hF le (by show X.A.units+8<cLine;lia) rel hk .nil (by rw[Ba];lia) (eu ▸ I2) λep s' I'=>?_
 exact aR (aR (aR ⟨.ref _,_,I',rfl,q2 ep⟩))
noncomputable def JI:List D->aj (List (TK×D))
 |[]=>some []
 |a::b::ds=>(jM a).bind λj=>(JI ds).map λps=>(j,b)::ps
 |_=>none
def ph(g:GA):GE:=λU S=>bd (g U ⟨S.s++[.o (.aA [])],S.r⟩) λvs S1=>(qu vs S1).bind λz=>if z.2.s.length=S.s.length+1 then(match z.2.s[S.s.length]? with
 |some (.o (.aA []))=>(JI z.1).bind λps=>if ps.length<=15 then some (.ok (.o (.aA (ps.foldl (λkvs p=>bY kvs p.1 p.2) []))) ⟨z.2.s.take S.s.length,z.2.r⟩) else none
 |_=>none) else none
def Ax:List (GE×GE)->GA
 |[]=>gN
 |p::r=>mJ p.1 (mJ p.2 (Ax r))
noncomputable def sf:List (V×V)->List V
 |[]=>[]
 |p::r=>p.1::p.2::sf r
noncomputable abbrev Ho(K:fX)(W:XW)(q:Nat)(gs:List (GE×GE)):List (TE×TE):=gs.map λp=>(tE K W q p.1,tE K W q p.2)
def Wf{gs:List (GE×GE)}:∀{H:Hp} {Q:List (V×V)->Hp->Prop},gG K W q (Ax gs) Z H (λxs H2=>∀ps,sf ps=xs->Q ps H2)->F7 (Ho K W q gs) Z H Q:=by
 induction gs with
 |nil=>intro H Q t;exact AE t [] rfl
 |cons p gs ih=>intro H Q t;exact oB (uD t) λx H1 t=>oB (uD t) λy H2 t=>ih (oB t λxs H3 h ps e=>h _ (by rw[<-e];rfl))
theorem PY{k:Kn}:∀{ps:List (V×V)} {ds:List D} {es:List (TK×D)},JI ds=some es->ag K k (sf ps) ds->∃qs:List (TK×V×V),ps=qs.map (·.2)/\(∀e∈qs,oV K k.F e)/\Paired (rM K k) qs es
 |[],ds,es,e,r=>by
  cases ds with
  |nil=>cases e;exact⟨[],rfl,(λ_ m=>nomatch m),.nil⟩
  |cons _ _=>have:=r.length;cases this
 |p::ps,ds,es,e,r=>by
  cases ds with
  |nil=>have:=r.length;cases this
  |cons a ds=>cases ds with
   |nil=>have:=r.length;cases this
   |cons b ds=>
    obtain⟨j,q1,e⟩:=cy.mp e;obtain⟨kL,q2,rfl⟩:=dm.mp e;obtain⟨r1,r⟩:=ag.inv r;obtain⟨r2,r⟩:=ag.inv r;obtain⟨qs,h1,h2,h3⟩:=PY q2 r;have rk:ag K k [p.1] [j.d]:=by rw[(Av q1).1];exact r1
    refine⟨(j,p.1,p.2)::qs,by rw[h1];rfl,λe m=>?_,.cons ⟨rfl,rk,r2⟩ h3⟩
    rcases y0b.mp m with rfl|m
    .exact⟨sN (k:=k) j rk,(Av q1).2⟩
    .exact h2 e m
def U9{α:Type}{l:List α}{n:Nat}{p:α}(h:l.length=n+1)(e:l[n]?=some p):l=l.take n++[p]:=by
 conv=>lhs;rw[<-List.take_append_drop n l]
 congr 1
 obtain⟨hn,e⟩:=fE.mp e;rw[Mo hn,e,Hu (by lia)]
def Yq{gs:List (GE×GE)}{H:Hp}{Q:VK}(t:tE K W q (ph (Ax gs)) Z H Q):QX K (Ho K W q gs) Z H Q:=by
 intro p hp;obtain⟨k,U,S,res,ok,gk,e,w⟩:=t;have sm:az H (upd H p (.dG [] 0)):=rR hp;obtain⟨fx,nx⟩:=ok.fresh hp;have cS:cf K k _ S:=ok.new (az.refl _) (λa _ o z=>sm a o z) (ok.le.trans sm) λ_ _ z=>z
 obtain⟨jN,u3⟩:=cS.pushS (b:=.aA []) fx nx ⟨[],0,aK,rfl,.nil,.nil⟩;have u4:Up q k H ⟨k.F,k.A,k.T++[p]⟩ (upd H p (.dG [] 0)):=(Up.of (az.refl _) sm).trans (u3 q);refine Wf ?_;refine tX.bd (R':=RE K) (Q':=Q) jN (gk.up u4) e (w.up u4) λvs S1 xs k1 H1 bL g1 r1 e1 w1 u1 ps0 e0=>?_
 subst e0;obtain⟨z,e2,e1⟩:=cy.mp e1;obtain⟨k2,u2,mm,r5⟩:=FR bL r1 e2;split at e1
 .rename_i hl
  split at e1
  .rename_i hc
   obtain⟨ps,e3,e1⟩:=cy.mp e1;split at e1
   .rename_i yO
    cases e1;have ep:k2.T[S.s.length]?=some p:=F8 (u2 q).t (F8 u1.t (by rw[<-ok.s.ln];exact FO))
    obtain⟨hF,es,e0,hH,hk,_,_⟩:=mm.s.at' _ _ _ ep hc;cases es with
    |cons _ _=>cases hk
    |nil=>
     obtain⟨qs,h1,h2,h3⟩:=PY e3 r5;have hlT:k2.T.length=S.s.length+1:=mm.s.ln.trans hl;have eT:=U9 hlT ep;have np:p∉k2.A++k2.T.take S.s.length:=by
      have nd:=mm.nd;rw[eT,<-lj] at nd;exact λm=>(lJ.mp nd).2.2 p m p (List.mem_singleton_self _) rfl
     refine⟨⟨e0,hH⟩,k2.F,qs,hF,mm.le,h1,h2,by rw[Paired.length h3];exact yO,λlF=>?_⟩
     obtain⟨o1,o2,o3⟩:=PX h3 (ws:=[]) (kvs:=[]) rfl .nil .nil;have ho:lB H1 (upd H1 p (.dG (fI [] qs) lF)) p:=BN;have Lf:=mm.take S.s.length;have ok7:cf K ⟨k2.F,k2.A,k2.T.take S.s.length⟩ (upd H1 p (.dG (fI [] qs) lF)) ⟨z.2.s.take S.s.length,z.2.r⟩:=Lf.new (az.refl _) (λa m o y=>by rw[ho a λy=>np (y ▸ m)];exact y) (λb o y=>by rw[ho b λy'=>by rw[y',hF] at y;cases y];exact mm.le b o y) λ_ _ y=>y
     have uu:=u4.trans (u1.trans (u2 q));refine w (.ref p) ⟨k2.F,k2.A,k2.T.take S.s.length⟩ _ ⟨uu.f,uu.a,Ou uu.t (Es ok.s.ln),λa o y1 y2=>?_⟩ ok7 ⟨p,rfl,hF,np,_,lF,aK,o1,ag.mono (k:=k2) ⟨az.refl k2.F,lh k2.A⟩ o2,ag.mono (k:=k2) ⟨az.refl k2.F,lh k2.A⟩ o3⟩
     rw[ho a λy=>by rw[y,hp] at y2;cases y2]
     exact uu.h a o y1 y2
   .cases e1
  .cases e1
 .cases e1
def Yr{keys:List (aj Expr)}{values:List Expr}{gs:List (GE×GE)}(hK:X.K=K)(h:Ab X pos keys values (Ho K W q gs))(hu:X.A.units+41<cLine)(jL:keys.all (·.isSome)=true)(hl:keys.length=values.length)(h0:keys≠[])(yO:keys.length<=15):PE X (.Dict keys values pos) (tE K W q (ph (Ax gs))):=(We h hu jL hl h0 yO).mono λZ H Q t=>by
 rw[hK];exact Yq t
end
end L2
namespace L2
open PySem PySem.Spec PyProof.Rows
variable{ba:Str}{Z:St}{H:Hp}{Q:Str->Hp->Prop}
noncomputable def l5:D->aj Rv
 |.str x=>if x.length<=1000000 then some (rd (.str x)) else none
 |.int i=>if i.natAbs.log2<1920 then some (rd (.str (Str.ofString (toString i)))) else none
 |_=>none
def Lx:V->Hp->VK->Prop:=λx H Q=>(∃z:Str,x=.str z/\z.length<=sizeLine/\Q (.str z) H)\/∃i:Int,x=.int i/\i.natAbs.log2<1920/\Q (.str (Str.ofString (toString i))) H
abbrev TJ:=Str->St->Hp->(Str->Hp->Prop)->Prop
def xp:TJ:=λba _ H Q=>Q ba H
def QY(te:TE)(tj:TJ):TJ:=λba Z H Q=>te Z H λx H1=>∃y,x=.str y/\(ba++y).length<=sizeLine/\tj (ba++y) Z H1 Q
def PJ(X:Cx)(es:List Expr)(tj:TJ):Prop:=∀(ba:Str) (aa:List (ai×Obj)) (s:aq) (Z:St) (H:Hp) (Q:Str->Hp->Prop) (R:Str->aq->Prop),Inv X aa Z H s->tj ba Z H Q->ba.length<=sizeLine->
 (∀out s' H',out.length<=sizeLine->Inv X aa Z H' s'->Q out H'->R out s')->Joins (model X.prog X.w) X.A X.xe (evalEach es X.env) ba R s
abbrev GJ:=Str->Gx Str
noncomputable def kl:GJ:=λba _ S=>some (.ok ba S)
noncomputable def Rv.str:Rv->aj Str
 |.v (.d (.str i))=>some i
 |_=>none
noncomputable def mL(f:GE)(j:GJ):GJ:=λba U S=>bd (f U S) λr S1=>r.str.bind λy=>if(ba++y).length<=1000000 then j (ba++y) U S1 else none
noncomputable def yf(j:GJ):GE:=λU S=>bd (j Str.empty U S) λz S1=>some (.ok (rd (.str z)) S1)
abbrev RS:Rp Str Str:=λ_ _ b a=>b=a
section
variable{X:Cx}{K:aJ}{W:XW}{q:Nat}{f:GE}{e v:Expr}{es:List Expr}{j:GJ}{pos:Pos}{te:TE}{tj:TJ}
def Rv.zQ{r:Rv}{i:Str}(h:r.str=some i):r=rd (.str i):=by
 obtain(d|_)|_:=r
 .cases d <;> cases h;rfl
 all_goals cases h
def e3m:bV K (Lv Lx) (o1 l5):=qT λk H x a y Q le t e res=>by
 unfold l5 at e;split at e
 .split at e
  .cases e;cases t.flat rfl;exact⟨_,rfl,.inl ⟨_,rfl,ml (by assumption),res.flat le rfl⟩⟩
  .cases e
 .split at e
  .cases e;cases t.flat rfl;exact⟨_,rfl,.inr ⟨_,rfl,by assumption,res.flat le rfl⟩⟩
  lia
 lia
def Ct(h:PE X v (tE K W q f)):PE X (.FormattedValue v (-1) none pos) (tE K W q (gO (o1 l5) (bq f))):=by
 intro aa s Z H Q I t;refine wpAny_FormattedValue_plain (bM (h aa s Z H _ I (J8 (tY e3m t))) λu s1 ⟨x,H1,I1,r1,q1⟩=>?_)
 rcases q1 with⟨z,rfl,hz,q⟩|⟨i,rfl,hi,q⟩
 .obtain⟨t',rfl⟩:=r1;exact PyProof.Rows.formatField_str (λt2 tk=>⟨.str z,H1,I1.tok _,⟨_,rfl⟩,q⟩) hz
 .obtain⟨t',rfl⟩:=r1;exact wpAny_formatField_int hi ⟨.str _,H1,I1.tok _,⟨_,rfl⟩,q⟩
def e3n:PJ X [] xp:=λba aa s Z H Q R I t hl hR=>Joins_nil (hR _ _ _ hl I t)
def Ys(he:PE X e te)(hj:PJ X es tj):PJ X (e::es) (QY te tj):=λba aa s Z H Q R I t hl hR=>
 Joins_cons (bM (he aa s Z H _ I t) λu s1 h1=>by
  obtain⟨x,H1,I1,r1,y,rfl,R7,q1⟩:=h1;obtain⟨t,rfl⟩:=r1;exact⟨y,t,rfl,R7,hj (ba++y) aa s1 Z H1 Q R I1 q1 R7 hR⟩)
def Yt(t:tX RS K W q (kl ba) Z H Q):xp ba Z H Q:=Cq t λ_ _=>rfl
def Wg(hj:∀ba Z H Q,tX RS K W q (j ba) Z H Q->tj ba Z H Q)(t:tX RS K W q (mL f j ba) Z H Q):QY (tE K W q f) tj ba Z H Q:=by
 obtain⟨k,U,S,res,ok,gk,e,w⟩:=t;refine tX.bd ok gk e w λr S1 x k1 H1 bL g1 r1 e1 w1 _=>?_
 obtain⟨y,e2,e3⟩:=cy.mp e1;cases Rv.zQ e2;split at e3
 .exact⟨y,(show ag K k1 [x] [.str y] from r1).aN rfl,ml (by assumption),hj _ _ _ _ ⟨k1,U,S1,res,bL,g1,e3,w1⟩⟩
 .cases e3
def U_{v1 v2:Expr}{rest:List Expr}(h:PJ X (v1::v2::rest) tj)(hj:∀ba Z H Q,tX RS K W q (j ba) Z H Q->tj ba Z H Q):PE X (.JoinedStr (v1::v2::rest) pos) (tE K W q (yf j)):=by
 intro aa s Z H Q I t;refine wpAny_JoinedStr (h Str.empty aa s Z H (λout H'=>Q (.str out) H') _ I (hj _ _ _ _ ?_) (kO _) λout s' H' h1 I' hQ=>⟨h1,.str out,H',I'.tok _,⟨_,rfl⟩,hQ⟩)
 obtain⟨k,U,S,res,ok,gk,e,w⟩:=t;refine tX.bd ok gk e w λz S1 z' k1 H1 bL g1 r1 e1 w1 _=>?_
 cases e1;cases r1;exact w1.now bL (show ag K k1 [_] [_] from .flat rfl .nil)
end
variable{S:aV}{n:Nat}{op:Operator}{h:Int->Int->Int}
def j5(K:aJ)(atr:List (ai×Str)):Prop:=∀p∈atr,Cls K p.1/\gf K p.1 p.2
noncomputable def sG(S:aV)(n:Nat):aj (ai×List (Str×D)):=(S.r[n]?).bind λc=>match c with
 |.ins C fs=>some (C,fs)
 |_=>none
def F1{p:ai×List (Str×D)}(h:sG S n=some p):S.r[n]?=some (.ins p.1 p.2):=by
 obtain⟨c,h1,h2⟩:=cy.mp h;cases c <;> cases h2;exact h1
def bj(atr:List (ai×Str))(g:Str)(f:GE):GE:=λU S=>bd (f U S) λr S1=>r.ref.bind λn=>(sG S1 n).bind λp=>if atr.contains (p.1,g)=true then(p.2.lookup g).map λd=>.ok (rd d) S1 else none
noncomputable def gu(f:Str)(v:D):List (Str×D)->List (Str×D)
 |[]=>[(f,v)]
 |(g,x)::r=>if g=f then(g,v)::r else(g,x)::gu f v r
section
variable{X:Cx}{K:aJ}{W:XW}{q:Nat}{atr:List (ai×Str)}{g:Str}{f fv fo fe fi:GE}{e o value i:Expr}{pos pos' fV:Pos}{Z:St}{H:Hp}
theorem I_{k:Kn}{g:Str}{d:D}:∀{gs:List (Str×V)} {fs:List (Str×D)},gs.map (·.1)=fs.map (·.1)->ag K k (gs.map (·.2)) (fs.map (·.2))->fs.lookup g=some d->∃v,gs.lookup g=some v/\ag K k [v] [d]
 |[],[],_,_,e=>nomatch e
 |(x,v)::gs,(y,c)::fs,h,r,e=>by
  obtain⟨h1,h2⟩:=List.cons.inj (show x::gs.map (·.1)=y::fs.map (·.1) from h)
  obtain⟨a1,a2⟩:=ag.inv r;subst h1;rw[List.lookup_cons] at e ⊢;split at e
  .cases e;exact⟨v,rfl,a1⟩
  .exact I_ h2 a2 e
 |[],_::_,h,_,_=>nomatch h
 |_::_,[],h,_,_=>nomatch h
theorem OF{k:Kn}{g:Str}{v:V}{d:D}(rv:ag K k [v] [d]):∀{gs:List (Str×V)} {fs:List (Str×D)},gs.map (·.1)=fs.map (·.1)->ag K k (gs.map (·.2)) (fs.map (·.2))->(eC g v gs).map (·.1)=(gu g d fs).map (·.1)/\ag K k ((eC g v gs).map (·.2)) ((gu g d fs).map (·.2))
 |[],[],_,_=>⟨rfl,rv⟩
 |(x,w)::gs,(y,c)::fs,h,r=>by
  obtain⟨h1,h2⟩:=List.cons.inj (show x::gs.map (·.1)=y::fs.map (·.1) from h)
  obtain⟨a1,a2⟩:=ag.inv r;subst h1;unfold eC gu;split
  .exact⟨congrArg (List.cons x) h2,.cons rv a2⟩
  .obtain⟨c1,c2⟩:=OF rv h2 a2;exact⟨congrArg (List.cons x) c1,.cons a1 c2⟩
 |[],_::_,h,_=>nomatch h
 |_::_,[],h,_=>nomatch h
def e3o(ha:j5 K atr)(he:PE X e (tE K W q f))(hb:attributeBase e g X.env (eval e X.env)=eval e X.env)(hK:X.K=K):PE X (.Attribute e g pos) (tE K W q (bj atr g f)):=by
 subst hK;refine(Z0 he hb).mono λZ H Q t=>?_
 obtain⟨k,U,S,res,ok,gk,e,w⟩:=t;refine tX.bd ok gk e w λr S1 x k1 H1 bL g1 r1 e1 w1 _=>?_
 obtain⟨n,e2,e3⟩:=cy.mp e1;cases Rv.mB e2;obtain⟨p,e4,e5⟩:=cy.mp e3;split at e5
 .rename_i hc
  obtain⟨h1,h2⟩:=ha _ (lq.mp hc);obtain⟨d,e6,rfl⟩:=dm.mp e5;obtain⟨a,dx,gs,rfl,h3,h4,h5,h6,h7⟩:=Ca bL r1 (F1 e4);obtain⟨v,h8,h9⟩:=I_ h6 h7 e6;exact⟨a,_,dx,gs,v,rfl,h5,h1,h2,h8,w1.now bL h9⟩
 .cases e5
def cf.DJ{k:Kn}{a C dx:ai}{gs:List (Str×V)}{fs:List (Str×D)}{v:V}{d:D}(ok:cf K k H S)(hA:k.A[n]?=some a)(hF:k.F a=none)(h5:H a=some (.ins C dx gs))(h6:gs.map (·.1)=fs.map (·.1))(h7:ag K k (gs.map (·.2)) (fs.map (·.2)))(rv:ag K k [v] [d])(hq:Nat.ble q 1=true):
  cf K k (upd H a (.ins C dx (eC g v gs))) ⟨S.s,S.r.set n (.ins C (gu g d fs))⟩/\Up q k H k (upd H a (.ins C dx (eC g v gs))):=by
 obtain⟨c1,c2⟩:=OF (g:=g) rv h6 h7;refine ok.DK hA BN hF (λo z=>?_) ⟨hF,dx,_,aK,c1,c2⟩
 rw[h5] at z;cases z;have:=z5 hq
 match q,this with
 |0,_=>rfl
 |1,_=>rfl
def fO(q:Nat)(atr:List (ai×Str))(g:Str)(fv fo:GE):GS:=λU S=>kY U (fv U S) λr1 S1=>kY U (fo U S1) λr2 S2=>(oG S2 (mF r1)).bind λz=>r2.ref.bind λn=>(sG z.2 n).bind λp=>if(atr.contains (p.1,g)&&Nat.ble q 1&&Nat.blt p.2.length 1000)=true then some (.nx U ⟨z.2.s,z.2.r.set n (.ins p.1 (gu g z.1 p.2))⟩) else none
def e3p(ha:j5 K atr)(ho:PE X o (tE K W q fo))(hv:PE X value (tE K W q fv))(hs:swapsWith value (some (.Attribute o g pos')) pos.line X.env=pure false)(hK:X.K=K):PS X (.Assign [.Attribute o g pos'] value pos) (tS K W q (fO q atr g fv fo)):=by
 subst hK;refine(Z4 ho hv hs).mono λD Z H t=>?_
 obtain⟨k,U,S,fr,ok,gk,e,w⟩:=t;refine tS.bd ok gk e w λr1 S1 y k1 H1 bL g1 q1 e1 w1=>?_
 obtain⟨k2,u2,cS,q2⟩:=qQ bL q1;refine tS.Cn cS (g1.up (u2 q)) e1 (w1.up (u2 q)) λr2 S2 x k3 H3 jN g3 r3 e2 w3 u3=>?_
 obtain⟨⟨d,S3⟩,e3,e4⟩:=cy.mp e2;obtain⟨k4,u4,qB,r4⟩:=FQ jN (q2.up u3) e3;obtain⟨n,e5,e6⟩:=cy.mp e4;cases Rv.mB e5;obtain⟨p,e7,e8⟩:=cy.mp e6;split at e8
 .rename_i hc
  cases e8;simp only[jD] at hc;obtain⟨⟨GQ,sv⟩,Ku⟩:=hc;obtain⟨h1,h2⟩:=ha _ (lq.mp GQ);obtain⟨a,dx,gs,rfl,h3,h4,h5,h6,h7⟩:=Ca qB (ag.mono (u4 q).le r3) (F1 e7);have hl:gs.length<1000:=by
   have:=h7.length;rw[bw,bw] at this;rw[this];exact z5 Ku
  obtain⟨mm,u5⟩:=qB.DJ (g:=g) h3 h4 h5 h6 h7 r4 sv;exact⟨a,_,dx,gs,rfl,h5,h1,h2,hl,cb.now (cb.up w3 ((u4 q).trans u5)) mm (g3.up ((u4 q).trans u5))⟩
 .cases e8
def JJ(q:Nat)(h:Int->Int->Int)(atr:List (ai×Str))(g:Str)(fo fe:GE):GS:=λU S=>kY U (fo U S) λr S1=>r.ref.bind λn=>(sG S1 n).bind λp=>if atr.contains (p.1,g)=true then(match p.2.lookup g with
 |some (.int a)=>kY U (fe U S1) λr2 S2=>r2.int.bind λb=>(sG S2 n).bind λp2=>if(p2.1 == p.1&&Nat.ble q 1&&Nat.blt p2.2.length 1000)=true then some (.nx U ⟨S2.s,S2.r.set n (.ins p2.1 (gu g (.int (h a b)) p2.2))⟩) else none
 |_=>none) else none
def Yu(yY:xF X op λx y H Q=>∃i j,x=.int i/\y=.int j/\Q (.int (h i j)) H)(ha:j5 K atr)(ho:PE X o (tE K W q fo))(hv:PE X value (tE K W q fe))(hK:X.K=K):PS X (.AugAssign (.Attribute o g fV) op value pos) (tS K W q (JJ q h atr g fo fe)):=by
 subst hK;refine(Us ho hv yY).mono λD Z H t=>?_
 obtain⟨k,U,S,fr,ok,gk,e,w⟩:=t;refine tS.bd ok gk e w λr S1 x k1 H1 bL g1 r1 e1 w1=>?_
 obtain⟨n,e2,e3⟩:=cy.mp e1;cases Rv.mB e2;obtain⟨p,e4,e5⟩:=cy.mp e3;split at e5
 case isFalse=>cases e5
 rename_i hc
 obtain⟨h1,h2⟩:=ha _ (lq.mp hc);obtain⟨a,dx,gs,rfl,h3,h4,h5,h6,h7⟩:=Ca bL r1 (F1 e4);split at e5
 case h_2=>cases e5
 rename_i hl
 obtain⟨v,h8,h9⟩:=I_ h6 h7 hl;cases h9.aN rfl;refine⟨a,_,dx,gs,_,rfl,h5,h1,h2,h8,tS.Cn bL g1 e5 w1 λr2 S2 y k2 H2 cS g2 q2 e6 w2 u2=>?_⟩
 obtain⟨b,e7,e8⟩:=cy.mp e6;cases Rv.jj e7;cases(show ag X.K k2 [y] [.int b] from q2).aN rfl;obtain⟨p2,e9,J7⟩:=cy.mp e8;split at J7
 case isFalse=>cases J7
 rename_i hc
 cases J7;simp only[jD,beq_iff_eq] at hc;obtain⟨⟨GQ,sv⟩,Ku⟩:=hc;obtain⟨a',ZA,iS,z,h3',h4',RT,h6',RU⟩:=Ca cS (ag.mono u2.le r1) (F1 e9);cases z;have hl:iS.length<1000:=by
  have:=RU.length;rw[bw,bw] at this;rw[this];exact z5 Ku
 obtain⟨mm,u5⟩:=cS.DJ (g:=g) (v:=.int (h _ b)) (d:=.int (h _ b)) h3' h4' RT h6' RU (.flat rfl .nil) sv;exact⟨_,_,rfl,rfl,ZA,iS,GQ ▸ RT,hl,GQ ▸ cb.now (cb.up w2 u5) mm (g2.up u5)⟩
def JK(q:Nat)(h:Int->Int->Int)(fo fi fe:GE):GS:=λU S=>kY U (fo U S) λr1 S1=>kY U (fi U S1) λr2 S2=>(match mF r2,iw S2 (mF r1) with
 |.d di,some (.aA kvs)=>(jM di).bind λj=>(match aQ kvs j with
  |some (.int a)=>kY U (fe U S2) λr3 S3=>r3.int.bind λb=>(iw S3 (mF r1)).bind λc=>if c.mb q=true then(match c with
   |.aA sQ=>if sQ.length<1000000 then some (.nx U (setB S3 (.aA (bY sQ j (.int (h a b)))) (mF r1))) else none
   |_=>none) else none
  |_=>none)
 |_,_=>none)
def Wh(hu:X.A.units+41<cLine):Bm X (λo i H Q=>∃a v,o=.ref a/\ig X.K H a i (some v)/\Q v H):=by
 intro aa s Z H o i ov iv Q I ro ri h;obtain⟨p,v,rfl,g,q⟩:=h;cases ro;exact NT (by lia) I g ri λw' s3 I3 mD=>⟨v,H,I3,mD,q⟩
def Yv(yY:EG X op (KS h))(ho:PE X o (tE K W q fo))(hi:PE X i (tE K W q fi))(hv:PE X value (tE K W q fe))(hu:X.A.units+41<cLine)(hK:X.K=K)
  (ha:∀ov iv new,augStore i ov iv new=(do holding [new,ov,iv] (setItem ov iv new);release [new,ov,iv] [];pure .next)):PS X (.AugAssign (.Subscript o i fV) op value pos) (tS K W q (JK q h fo fi fe)):=by
 subst hK;refine(Xe ho hi (Wh hu) hv yY (Rr hu) ha).mono λD Z H t=>?_
 obtain⟨k,U,S,fr,ok,gk,e,w⟩:=t;refine tS.bd ok gk e w λr1 S1 x k1 H1 bL g1 q1 e1 w1=>?_
 obtain⟨k2,u2,cS,q2⟩:=qQ bL q1;refine tS.Cn cS (g1.up (u2 q)) e1 (w1.up (u2 q)) λr2 S2 y k3 H3 jN g3 r3 e2 w3 u3=>?_
 obtain⟨k4,u4,qB,q4⟩:=qQ jN r3;have q5:=(q2.up u3).up (u4 q);split at e2
 case h_2=>cases e2
 rename_i hd hg
 rw[hd] at q4;obtain⟨j,e3,e4⟩:=cy.mp e2;obtain⟨a,rfl,hb,_⟩:=B2 qB q5 hg;split at e4
 case h_2=>cases e4
 rename_i C1
 rename Int=>iv
 have tp:Top X.K k4 H3 (.ref a) _:=.inr ⟨a,.aA _,rfl,rfl,hb⟩;obtain⟨p,o,z,g,hh⟩:=vJ qB.le tp (.inl q4) e3;cases z;rcases hh with⟨_,z⟩|⟨v,d,rfl,z,rv⟩
 .rw[C1] at z;cases z
 rw[C1] at z;cases z;cases rv.aN rfl;refine⟨a,_,rfl,g,tS.Cn qB (g3.up (u4 q)) e4 (w3.up (u4 q)) λr5 S5 y5 k5 H5 mm g5 q6 e5 w5 u5=>?_⟩
 obtain⟨b,e6,e7⟩:=cy.mp e5;cases Rv.jj e6;cases(show ag X.K k5 [y5] [.int b] from q6).aN rfl;obtain⟨c,e8,e9⟩:=cy.mp e7;obtain⟨a',z,mQ,L7⟩:=B2 mm (q5.up u5) e8;cases z;split at e9
 case isFalse=>cases e9
 rename_i hm
 cases c with
 |lst _=>cases e9
 |aA sQ=>
  dsimp only at e9;split at e9
  case isFalse=>cases e9
  rename_i hl
  cases e9;refine⟨_,_,rfl,rfl,QW (b:=.aA sQ) (dv:=.int (h iv b)) (b':=.aA (bY sQ j (.int (h iv b)))) mm.le mQ ((show dc X.K k4 y (.d di) from q4).up u5) (.flat rfl .nil) ?_ λo' h6=>?_⟩
  .unfold vw;dsimp only;rw[e3,zY,bx hl]
  .obtain⟨Lf,u6⟩:=L7 q _ _ BN hm h6;exact cb.now (cb.up w5 u6) Lf (g5.up u6)
end
end L2
namespace L2
open PySem PySem.Spec PySem.W PyProof.Rows
variable{k k':Int->Int->Bool}{op:CmpOp}{j:GJ}{T:String}{m:Str}
def cC.le{k k':Nat}{A:PySem.Around}(h:cC k A)(e:k'<=k:=by decide):cC k' A:=h.mono e
def vm{X:Cx}:fM X W0:=λ_ _ _ _ _ _ _ _ _ _ _ z=>z.elim
def A1:List Str->Bool
 |[]=>true
 |x::l => !l.contains x&&A1 l
theorem Gf:∀{l:List Str},A1 l=true->l.Nodup
 |[],_=>.nil
 |x::l,h=>by
  obtain⟨h1,h2⟩:=zX.mp h;rw[Mx,<-Bool.not_eq_true,lq] at h1;exact tJ.mpr ⟨h1,Gf h2⟩
section
variable{X:Cx}{K:fX}{W:XW}{q:Nat}{a b c e o:Expr}{es rest:List Expr}{f g h:GE}{fs:GA}{ft fu:GT}{pos p apos cD:Pos}{x:Str}
def xv(i:Nat)(hN:X.N[i]?=some x)(hv:HW X.env.scope x)(hd:(x == ("__debug__":Str))=false)(sx:(x == ("__classdict__":Str))=false):PE X (.Name x pos) (tE K W q (sj i)):=Ψ (ZG hN hv hd sx)
def xi{i:Int}{j}:PE X (.Constant (.int i) j pos) (tE K W q (gC (.int i))):=yB ZH
def xs{i:Str}{j}:PE X (.Constant (.str i) j pos) (tE K W q (gC (.str i))):=yB ZJ
def xb{i:Bool}{j}:PE X (.Constant (.bool i) j pos) (tE K W q (gC (.bl i))):=yB e7f
def xn{j}:PE X (.Constant .none j pos) (tE K W q (gC .aM)):=yB ZI
def xty{n:String}(hm:X.mg x=none)(hv:bootBuiltins x=some (.type n))(hg:Gl X x)(hn:x≠"__name__")(hd:(x == ("__debug__":Str))=false):PE X (.Name x pos) (tE K W q (gC (.ty n))):=yB (e7n hg hm hv hn hd)
def n_(K:fX)(op:Operator)(o:List D->aj Rv):Prop:=∀X:Cx,X.K=K->∃r,ec X (binaryOp op) r/\bV K (my r) o
def Ma:n_ K .Add (o2 yk):=λX h=>⟨_,X6 K h,e2p⟩
def Me:n_ K .Sub (o2 (eR ud λi j=>.int (i - j))):=λX h=>⟨_,ZV,e2q⟩
def Mc:n_ K .Mult (o2 ve):=λX h=>⟨_,X8,e2t⟩
def Ej:n_ K .FloorDiv (o2 (eR (λ_ j=>decide (0<j/\j<1073741824)) λi j=>.int (i / j))):=λX h=>⟨_,Xg,X7⟩
def Mb:n_ K .Mod (o2 (eR (λ_ j=>decide (0<j)) λi j=>.int (i%j))):=λX h=>⟨_,ZW,e2r⟩
def Md:n_ K .Pow (o2 (eR (λi j=>decide (0<=j/\j<=1000000/\i.natAbs<2^64)) λi j=>.int (i^j.toNat))):=λX h=>⟨_,ZX,e2s⟩
def xo{op:Operator}{o:List D->aj Rv}(c:n_ K op o)(ha:PE X a (tE K W q f))(hb:PE X b (tE K W q g))(hK:X.K=K):PE X (.BinOp a op b pos) (tE K W q (gO o (cv f g))):=by
 obtain⟨r,h1,h2⟩:=c X hK;exact e7p h1 h2 ha hb
def Mh(ha:PE X a (tE K W q f)):PE X (.UnaryOp .USub a pos) (tE K W q (gO (o1 vh) (bq f))):=e7q ZY e2u ha
def j6(K:fX)(op:CmpOp)(o:List D->aj Rv):Prop:=∀X:Cx,X.K=K->X.A.units+41<cLine->∃r,ec X (compareOp op) r/\bV K (my r) o
def Wj:j6 K .Eq (o2 (wd false)):=λX h u=>⟨_,e2y K (by lia) h,e7s⟩
def Wq:j6 K .NotEq (o2 (wd true)):=λX h u=>⟨_,e2w K (by lia) h,e7t⟩
def Wo:j6 K .Lt (o2 (eR ud λi j=>.bl (decide (i<j)))):=λX h u=>⟨_,wN,JG⟩
def Wn:j6 K .LtE (o2 (eR ud λi j=>.bl (decide (i<=j)))):=λX h u=>⟨_,wM,JG⟩
def Wk:j6 K .Gt (o2 (eR ud λi j=>.bl (decide (j<i)))):=λX h u=>⟨_,e7k,JG⟩
def Wl:j6 K .In (o2 (AW false)):=λX h u=>⟨_,e2z K u h,Rn false⟩
def JV:j6 K .NotIn (o2 (AW true)):=λX h u=>⟨_,US K u h,Rn true⟩
def Wm:j6 K .Is (o2 (AX false)):=λX h u=>⟨_,e3b,Ro false⟩
def JU:j6 K .IsNot (o2 (AX true)):=λX h u=>⟨_,Ya,Ro true⟩
def xc{o:List D->aj Rv}(c:j6 K op o)(ha:PE X a (tE K W q f))(hb:PE X b (tE K W q g))(hu:X.A.units+41<cLine)(hK:X.K=K)(hm:behindInMarks op b=false):PE X (.Compare a [op] [b] pos) (tE K W q (gO o (cv f g))):=by
 obtain⟨r,h1,h2⟩:=c X hK hu;exact Ω h1 h2 ha hb hm
def yc{o:List D->aj Rv}(c:j6 K op o)(ha:PE X a (tE K W q f))(hb:PE X b (tE K W q g))(hu:X.A.units+41<cLine)(hK:X.K=K)(hm:behindInMarks op b=false):PT X (.Compare a [op] [b] pos) (tT K W q (gB (gO o (cv f g)))):=by
 obtain⟨r,h1,h2⟩:=c X hK hu;exact RM (Xi h1 ha hb hm) λ_ _ _ t=>Gz (tY h2 t)
noncomputable def Gg(c c':Int->Int->Bool)(f g h:GE):GE:=λU S=>bd (f U S) λr1 S1=>bd (g U S1) λr2 S2=>r1.int.bind λi=>r2.int.bind λj=>if c i j=true then bd (h U S2) λr3 S3=>r3.int.map λl=>.ok (rd (.bl (c' j l))) S3 else some (.ok (rd (.bl false)) S2)
def Wi{Z:St}{H:Hp}{Q:VK}(t:tE K W q (Gg k k' f g h) Z H Q):QA (pM λi j=>.bl (k i j)) (pM λi j=>.bl (k' i j)) (tE K W q f) (tE K W q g) (tE K W q h) Z H Q:=by
 obtain⟨n,U,S,res,ok,gk,e,w⟩:=t;refine tX.bd ok gk e w λr1 S1 x k1 H1 bL g1 q1 e1 w1 _=>tX.bd bL g1 e1 w1 λr2 S2 y k2 H2 cS g2 q2 e2 w2 _=>?_
 obtain⟨i,h1,e3⟩:=cy.mp e2;obtain⟨j,h2,e4⟩:=cy.mp e3;cases Rv.jj h1;cases Rv.jj h2;cases(show ag K k1 [x] [.int i] from q1).aN rfl;cases(show ag K k2 [y] [.int j] from q2).aN rfl;refine⟨i,j,rfl,rfl,k i j,rfl,?_⟩;split at e4
 .rename_i hk
  rw[hk];refine sL (tX.bd cS g2 e4 w2 λr3 S3 z k3 H3 jN g3 q3 e5 w3 _=>?_)
  obtain⟨l,h3,rfl⟩:=dm.mp e5;cases Rv.jj h3;cases(show ag K k3 [z] [.int l] from q3).aN rfl;exact⟨_,_,rfl,rfl,w3.now jN (show ag K k3 [_] [_] from .flat rfl .nil)⟩
 .rename_i hk
  cases e4;rw[Bool.not_eq_true] at hk;rw[hk];exact sJ (w2.now cS (show ag K k2 [_] [_] from .flat rfl .nil))
def ych{zr:CmpOp}(h1:∀X:Cx,ec X (compareOp op) (pM λi j=>.bl (k i j)))(h2:∀X:Cx,ec X (compareOp zr) (pM λi j=>.bl (k' i j)))(ha:PE X a (tE K W q f))(hb:PE X b (tE K W q g))(hc:PE X c (tE K W q h))(hm:lastMarks [op,zr] [b,c]=false):PT X (.Compare a [op,zr] [b,c] pos) (tT K W q (gB (Gg k k' f g h))):=RM (Vy (h1 X) (h2 X) ha hb hc hm) λ_ _ _ t=>Wi t
def yt(ha:PE X a (tE K W q f))(hK:X.K=K)(ht:∀whole,isTrue a X.env whole=(do let v <-whole;standAt a.pos;holding [v] (truthy v))):PT X a (tT K W q (cV f)):=γ hK ha ht
def ya1(h:PT X a (tT K W q ft)):PW X (.BoolOp .And [a] pos) (tT K W q ft):=Xb h
def yo1(h:PT X a (tT K W q ft)):PW X (.BoolOp .Or [a] pos) (tT K W q ft):=ZK h
def xix(ha:PE X a (tE K W q f))(hb:PE X b (tE K W q g))(hu:X.A.units+41<cLine)(hK:X.K=K)(hs:Jp b):PE X (.Subscript a b pos) (tE K W q (gO (o2 G_) (cv f g))):=e7r (KY K hu hK) e7v ha hb hs
def xsl{lo hi:aj Expr}{p2:Pos}{fl fh}(he:PE X e (tE K W q f))(hl:PO X lo (tX Ac K W q fl))(hu:PO X hi (tX Ac K W q fh))(hK:X.K=K):PE X (.Subscript e (.Slice lo hi none p2) pos) (tE K W q (uJ f fl fh)):=V3 he hl hu hK
def zc{g:GE}{h:GA}(ha:PE X e (tE K W q g))(hr:PA X es (gG K W q h))(hs:starEach (e::es) X.env=(false,eval e X.env)::starEach es X.env):PA X (e::es) (gG K W q (mJ g h)):=XC ha hr hs
def xd{keys:List (aj Expr)}{values:List Expr}{gs:List (GE×GE)}(h:Ab X pos keys values (Ho K W q gs))(hu:X.A.units+41<cLine)(hK:X.K=K)(jL:keys.all (·.isSome)=true)(hl:keys.length=values.length)(h0:keys≠[])(yO:keys.length<=15):PE X (.Dict keys values pos) (tE K W q (ph (Ax gs))):=Yr hK h hu jL hl h0 yO
def EH(X:Cx)(K:fX)(W:XW)(q:Nat)(es:List Expr)(j:GJ):Prop:=∃tj,PJ X es tj/\∀ba Z H Q,tX RS K W q (j ba) Z H Q->tj ba Z H Q
def jn:EH X K W q [] kl:=⟨_,e3n,λ_ _ _ _ t=>Yt t⟩
def jc(he:PE X e (tE K W q f))(hr:EH X K W q es j):EH X K W q (e::es) (mL f j):=by
 obtain⟨tj,h1,h2⟩:=hr;exact⟨_,Ys he h1,λ_ _ _ _ t=>Wg h2 t⟩
def xj{v1 v2:Expr}(h:EH X K W q (v1::v2::rest) j):PE X (.JoinedStr (v1::v2::rest) pos) (tE K W q (yf j)):=by
 obtain⟨tj,h1,h2⟩:=h;exact U_ h1 h2
def qY(K:fX)(v:ah)(o:List D->aj Rv):Prop:=∀X:Cx,X.K=K->X.calm=true->X.A.units+41<cLine->∃r,bS X v r/\bV K r o
def K1:qY K (.builtin "len") (o1 eS):=λX h c u=>⟨_,U3 h,e3e⟩
def K0:qY K (.builtin "isinstance") (o2 jk):=λX h c u=>⟨_,U4 h,e3f⟩
def KZ:qY K (.builtin "all") (o1 (Cd λbs=>bs.all id)):=λX h c u=>⟨_,UX K c h,V' _⟩
def K2:qY K (.builtin "min") (o1 (o8 iy)):=λX h c u=>⟨_,V4 K c h,Yl _⟩
def C_:qY K (.builtin "sorted") (o1 pQ):=λX h c u=>⟨_,T4 c h,Ym⟩
def C9:qY K (.type "list") (o1 ku):=λX h c u=>⟨_,T3 c h,Yj⟩
def C8:qY K (.type "dict") (o1 pe):=λX h c u=>⟨_,TY K u c h,Wa⟩
def xB{id:String}{o:List D->aj Rv}(k:qY K (.builtin id) o)(hm:X.mg x=none)(hv:bootBuiltins x=some (.builtin id))(ha:PA X (e::es) (gG K W q fs))(hu:X.A.units+41<cLine)(hc:X.calm=true)(hK:X.K=K)(hg:Gl X x)(hn:x≠"__name__")(k7:(x == ("__debug__":Str))=false)
  (he:starEach (e::es) X.env=(false,eval e X.env)::starEach es X.env) (jU:(backTo pos (starEach es X.env)).any (·.1)=false):PE X (.Call (.Name x p) (e::es) [] pos) (tE K W q (gO o fs)):=by
 obtain⟨r,h1,h2⟩:=k X hK hc hu;exact(VE h1 hg hm hv ha hn k7 he jU).mono λ_ _ _ t=>tY h2 t
def xT{o:List D->aj Rv}(k:qY K (.type T) o)(hm:X.mg x=none)(hv:bootBuiltins x=some (.type T))(ha:PA X (e::es) (gG K W q fs))(hu:X.A.units+41<cLine)(hc:X.calm=true)(hK:X.K=K)(hg:Gl X x)(hn:x≠"__name__")(k7:(x == ("__debug__":Str))=false)
  (he:starEach (e::es) X.env=(false,eval e X.env)::starEach es X.env) (jU:(backTo pos (starEach es X.env)).any (·.1)=false):PE X (.Call (.Name x p) (e::es) [] pos) (tE K W q (gO o fs)):=by
 obtain⟨r,h1,h2⟩:=k X hK hc hu;exact(Uu h1 hg hm hv ha hn k7 he jU).mono λ_ _ _ t=>tY h2 t
def HP(K:fX)(T:String)(m:Str)(o:List D->aj Rv):Prop:=∀X:Cx,X.K=K->X.A.units+41<cLine->∃id r,PlainAttrs T/\Slot T m id/\typeOf (.builtin id)=pure (.type "method_descriptor")/\HQ X id r/\bV K (pO r) o
def zj:HP K "list" "index" (o2 ji):=λX h u=>⟨_,_,PySem.F.plainAttrs_list,PySem.F.slot_list_index,PySem.F.type_list_index,V5 K h,Wc⟩
def Dg:HP K "dict" "get" (o2 pk):=λX h u=>⟨_,_,PySem.F.plainAttrs_dict,PySem.F.slot_dict_get,PySem.F.type_dict_get,Yd K u h,Yn⟩
def xM{o':List D->aj Rv}(k:HP K T m o')(ho:PE X o (tE K W q f))(ha:PA X (e::es) (gG K W q fs))(hu:X.A.units+41<cLine)(hK:X.K=K)
  (fj:attributeBase o m X.env (eval o X.env)=eval o X.env)
  (sy:((backTo cD (starEach (e::es) X.env)).all (λx => !x.1)&&(backToKw cD (keywordEach [] X.env)).all (λx=>x.1.isSome) && decide ((e::es).length+([]:List Keyword).length+(if([]:List Keyword).isEmpty then 0 else 1)<30))=true)
  (fm:(apos.endLine == cD.line)=true) (hs:starEach (e::es) X.env=(false,eval e X.env)::starEach es X.env) (km:(backTo cD (starEach es X.env)).any (·.1)=false):PE X (.Call (.Attribute o m apos) (e::es) [] cD) (tE K W q (Ge T o' f fs)):=by
 subst hK;obtain⟨id,r,h1,h2,h3,h4,h5⟩:=k X rfl hu;exact(Rm h1 h2 h3 h4 ho ha fj sy fm hs km).mono λ_ _ _ t=>Wb h5 t
def Bk(K:fX)(T:String)(m:Str)(o:Bx->List D->aj (Bx×D)):Prop:=∀X:Cx,X.K=K->∃id r,PlainAttrs T/\Slot T m id/\typeOf (.builtin id)=pure (.type "method_descriptor")/\HQ X id r/\lA K r o
def vF:Bk K "list" "append" rV:=λX h=>⟨_,_,PySem.F.plainAttrs_list,PySem.F.slot_list_append,PySem.F.type_list_append,Uv,U5⟩
def vG:Bk K "list" "insert" B3:=λX h=>⟨_,_,PySem.F.plainAttrs_list,PySem.F.slot_list_insert,PySem.F.type_list_insert,UA,U6⟩
def vH:Bk K "list" "remove" F0:=λX h=>⟨_,_,PySem.F.plainAttrs_list,PySem.F.slot_list_remove,PySem.F.type_list_remove,UY,U8⟩
def Ee:Bk K "dict" "pop" jy:=λX h=>⟨_,_,PySem.F.plainAttrs_dict,PySem.F.slot_dict_pop,PySem.F.type_dict_pop,Yc K,Yo⟩
def xU{o':Bx->List D->aj (Bx×D)}(k:Bk K T m o')(ho:PE X o (tE K W q f))(ha:PA X (e::es) (gG K W q fs))(hK:X.K=K)
  (fj:attributeBase o m X.env (eval o X.env)=eval o X.env)
  (sy:((backTo cD (starEach (e::es) X.env)).all (λx => !x.1)&&(backToKw cD (keywordEach [] X.env)).all (λx=>x.1.isSome) && decide ((e::es).length+([]:List Keyword).length+(if([]:List Keyword).isEmpty then 0 else 1)<30))=true)
  (fm:(apos.endLine == cD.line)=true) (hs:starEach (e::es) X.env=(false,eval e X.env)::starEach es X.env) (km:(backTo cD (starEach es X.env)).any (·.1)=false):PE X (.Call (.Attribute o m apos) (e::es) [] cD) (tE K W q (fU q T o' f fs)):=by
 subst hK;obtain⟨id,r,h1,h2,h3,h4,h5⟩:=k X rfl;exact(Rm h1 h2 h3 h4 ho ha fj sy fm hs km).mono λ_ _ _ t=>e3i h5 t
def xf{atr:List (ai×Str)}(ha:j5 K atr)(he:PE X e (tE K W q f))(hb:attributeBase e m X.env (eval e X.env)=eval e X.env)(hK:X.K=K):PE X (.Attribute e m pos) (tE K W q (bj atr m f)):=e3o ha he hb hK
end
structure MethAt (K:fX) (C:ai) (m qual:Str) (st:Stmt) (f:ai) (fd:lu) (ps:List Str):Prop where
 fn:tN K m qual st f fd
 mt:Meth K C m f
 bd:Binds K fd ps []
section
variable{X:Cx}{K:fX}{W:XW}{q k n:Nat}{e o:Expr}{es:List Expr}{f:GE}{fs:GA}{m:GM}{pos p apos:Pos}{x y z:Str}{st:Stmt}{fa C:ai}{fd:lu}{ps:List Str}
def xC(D:vO K X.mg x st fa fd ps)(F:d_ X.prog X.w X.K X.mg X.base (mV X.prog X.w) k fa fd ps (tO K q n m))(ha:PA X (e::es) (gG K W q fs))(hr:cC k X.A)(hm:jr m n)(hp:fM X W)(hK:X.K=K)(hg:Gl X x)(k7:(x == ("__debug__":Str))=false)
  (he:starEach (e::es) X.env=(false,eval e X.env)::starEach es X.env) (jU:(backTo pos (starEach es X.env)).any (·.1)=false):PE X (.Call (.Name x p) (e::es) [] pos) (tE K W q (av m fs)):=by
 subst hK;exact(Xn F hr hg D.mg D.fn.kp D.bd .nil (pI hp) ha k7 he jU).mono λ_ _ _ t=>XF hm t
def xN(M:Mk K C fa)(hx:X.mg x=some (.ref C))(D:MethAt K C y z st fa fd ps)(F:d_ X.prog X.w X.K X.mg X.base (mV X.prog X.w) k fa fd ps (tO K q n m))(ha:PA X (e::es) (gG K W q fs))(hr:cC (k+1) X.A)(hm:jr m n)(hp:fM X W)(hK:X.K=K)(hg:Gl X x)(k7:(x == ("__debug__":Str))=false)
  (he:starEach (e::es) X.env=(false,eval e X.env)::starEach es X.env) (jU:(backTo pos (starEach es X.env)).any (·.1)=false):PE X (.Call (.Name x p) (e::es) [] pos) (tE K W q (si C m fs)):=by
 subst hK;exact(Xp M F hr hg hx D.bd .nil (pI hp) ha k7 he jU).mono λ_ _ _ t=>XG hm t
end
section
variable{X:Cx}{K:fX}{W:XW}{q k n:Nat}{e o:Expr}{es:List Expr}{f:GE}{fs:GA}{m:GM}{pos p apos:Pos}{x y:Str}{st:Stmt}{fa C:ai}{fd:lu}{ps:List Str}{pl:Sem Bool}
def xH(c:Cls K C)(D:MethAt K C x y st fa fd ps)(F:d_ X.prog X.w X.K X.mg X.base (mV X.prog X.w) k fa fd ps (tO K q n m))(ho:PE X o (tE K W q f))(ha:PA X (e::es) (gG K W q fs))(hr:cC k X.A)(hm:jr m n)(hp:fM X W)(hK:X.K=K)
  (ko:starEach (e::es) X.env=(false,eval e X.env)::starEach es X.env) (jU:(backTo pos (starEach es X.env)).any (·.1)=false)
  (ht:eval (.Call (.Attribute o x apos) (e::es) [] pos) X.env=(do
   let ov <-eval o X.env
   standAt apos.atName
   let (f,first) <-holding [ov] (getMethod ov x pl)
   callWith pos f first (backTo pos (starEach (e::es) X.env)) (backToKw pos (keywordEach [] X.env)))):PE X (.Call (.Attribute o x apos) (e::es) [] pos) (tE K W q (aW C x m f fs)):=by
 subst hK;exact(Xo ho c D.mt F hr D.bd .nil (pI hp) ha ko jU ht).mono λ_ _ _ t=>Pp hm t
def xH0(c:Cls K C)(D:MethAt K C x y st fa fd ps)(F:d_ X.prog X.w X.K X.mg X.base (mV X.prog X.w) k fa fd ps (tO K q n m))(ho:PE X o (tE K W q f))(hr:cC k X.A)(hm:jr m n)(hp:fM X W)(hK:X.K=K)
  (ht:eval (.Call (.Attribute o x apos) [] [] pos) X.env=(do
   let ov <-eval o X.env
   standAt apos.atName
   let (f,first) <-holding [ov] (getMethod ov x pl)
   callWith pos f first (backTo pos (starEach [] X.env)) (backToKw pos (keywordEach [] X.env)))):PE X (.Call (.Attribute o x apos) [] [] pos) (tE K W q (aW C x m f gN)):=by
 subst hK;refine(VC ho c D.mt F hr D.bd .nil (pI hp) ht).mono λZ H Q t=>?_
 refine oB (Pp hm t) λz H1 h=>?_
 obtain⟨a,dx,fs,h1,h2,h3,h4⟩:=h;exact⟨a,dx,fs,h1,h2,h3,AE h4⟩
end
section
variable{X:Cx}{K:fX}{W:XW}{q:Nat}{a b c e o l tg:Expr}{es:List Expr}{f g:GE}{fz:Bool}{pos p apos cD:Pos}
def xLV(yT:X.mg "list"=none)(ho:PE X o (tE K W q f))(hc:X.calm=true)(uZ:Gl X "list")(hs:starEach [.Call (.Attribute o "values" apos) [] [] cD] X.env=[(false,eval (.Call (.Attribute o "values" apos) [] [] cD) X.env)])
  (fj:attributeBase o "values" X.env (eval o X.env)=eval o X.env) (fm:(apos.endLine == cD.line)=true):PE X (.Call (.Name "list" p) [.Call (.Attribute o "values" apos) [] [] cD] [] pos) (tE K W q (gO (o1 pT) (bq f))):=(V0 uZ yT ho hc hs fj fm).mono λZ H Q t=>J8 (oB (tY Yk t) λxs H1 h=>by
 obtain⟨d,es,ep,rfl,h⟩:=h;exact⟨_,rfl,d,es,ep,rfl,h⟩)
def pgn(i:Nat){x:Str}(hN:A1 X.N=true)(hi:X.N[i]?=some x)(hx:Loc X.env.scope x)(hf:X.fn x=true\/X.env.scope.names.lookup x=some .local):PG X (.Name x pos) (pj i):=Xd (Gf hN) hi hx hf
def pgt{es:List Expr}{k:Nat}{t:tP}{n:Nat}(h:Bo X es t)(hn:(assignEach es X.env).length=n)(ko:(assignEach es X.env).findIdx? (·.1)=none)(hc:X.calm=true)(hK:X.K=K):PG X (.Tuple es k pos) (yN K n t):=hK ▸ ZP hc h hn ko
def uv(X:Cx)(K:fX)(W:XW)(q:Nat)(tg iter:Expr)(src:lU):Prop:=∃wi,PI X tg iter wi/\∀Z H R,tX (RI K q) K W q src Z H R->wi Z H R
def sA(he:PE X l (tE K W q g))(hK:X.K=K):uv X K W q tg l (bu fz dY g):=⟨_,ξ he,λ_ _ _ t=>by rw[hK];exact ο t⟩
def LD(hm:X.mg "reversed"=none)(he:PE X l (tE K W q g))(hK:X.K=K)(hg:Gl X "reversed")(hs:starEach [l] X.env=[(false,eval l X.env)]):uv X K W q tg (.Call (.Name "reversed" p) [l] [] pos) (bu fz zJ g):=⟨_,η hg hm (FN he mq (by rw[hs,starEach])) hs,λ_ _ _ t=>by rw[hK];exact XS t⟩
def sEn{elts:List Expr}{x1:Nat}{fV:Pos}(hm:X.mg "enumerate"=none)(he:PE X l (tE K W q g))(hK:X.K=K)(hg:Gl X "enumerate")(hs:starEach [l] X.env=[(false,eval l X.env)]):uv X K W q (.Tuple elts x1 fV) (.Call (.Name "enumerate" p) [l] [] pos) (bu fz J9 g):=⟨_,XM hg hm (FN he mq (by rw[hs,starEach])) hs,λ_ _ _ t=>by rw[hK];exact π t⟩
def sI{elts:List Expr}{x1:Nat}{fV:Pos}(ho:PE X o (tE K W q g))(fj:attributeBase o "items" X.env (eval o X.env)=eval o X.env)(fm:(apos.endLine == cD.line)=true):uv X K W q (.Tuple elts x1 fV) (.Call (.Attribute o "items" apos) [] [] cD) (bu fz u_ g):=⟨_,V1 ho fj fm,λ_ _ _ t=>Yh t⟩
def sR1{fs:GA}(hm:X.mg "range"=none)(ha:PA X [a] (gG K W q fs))(hg:Gl X "range")(hs:starEach [a] X.env=[(false,eval a X.env)]):uv X K W q tg (.Call (.Name "range" p) [a] [] pos) (kh oO fs):=⟨_,Ul hg hm ha hs,λ_ _ _ t=>XT t⟩
def sRT{fs:GA}(hm:X.mg "range"=none)(ha:PA X [a,b,c] (gG K W q fs))(hg:Gl X "range")(hs:starEach [a,b,c] X.env=[(false,eval a X.env),(false,eval b X.env),(false,eval c X.env)])(qS:starEach [b,c] X.env=[(false,eval b X.env),(false,eval c X.env)]):uv X K W q tg (.Call (.Name "range" p) [a,b,c] [] pos) (kh zK fs):=⟨_,UL hg hm ha hs qS,λ_ _ _ t=>XU t⟩
def yn:rL X [] (tT K W0 q (fD true)):=λaa s Z H Q I t=>Xv aa s Z H Q I (by
 obtain⟨k,U,S,res,ok,gk,e,w⟩:=t;cases e;exact w.now ok rfl)
def y1{ft:GT}(h:PT X c (tT K W0 q ft)):rL X [c] (tT K W0 q ft):=Xw h
end
variable{x g:Str}{atr:List (ai×Str)}{mg:Str->aj ah}{tab:List (Str×ai)}{B0 C:ai}
section
variable{X:Cx}{K:fX}{W:XW}{q:Nat}{tg iter elt:Expr}{ifs:List Expr}{scope:Scope}{t:TG}{gg:GG}{tt:Nat->GT}{te:Nat->GE}{src:lU}{pos:Pos}{M:List Str}{n:Nat}{du:List Nat}
def Qx(h:gA scope.names X.env.scope.names X.N M n du=true)(hk:scope.kind=.function):eM X scope M n du:=.of _ _ h rfl rfl hk
def xL(M:List Str)(s:uv X K W q tg iter src)(ht:j_ K t gg)(hg:∀C s H fp,PG (fS X scope M C s H fp) tg t)(hT:∀m C s H fp,rL (fS X scope M C s H fp) ifs (tT K W0 m (tt m)))(hE:∀m C s H fp,PE (fS X scope M C s H fp) elt (tE K W0 m (te m)))
  (ok:gA scope.names X.env.scope.names X.N M n du=true) (hk:scope.kind=.function) (hc:X.calm=true) (hs:∀x,foldedSetIterable iter X.env x=pure x):PE X (.ListComp elt [⟨tg,iter,ifs,0⟩] scope pos) (tE K W q (bO q src gg tt te n du)):=by
 obtain⟨wi,h1,h2⟩:=s;exact XY hc (Qx ok hk) h1 h2 ht hg hT hE hs
def wL{mu:Bool}{i:Nat}{px nO:Pos}(M:List Str)(s:uv X K W q tg iter src)(ht:j_ K t gg)(hg:∀C s H fp,PG (fS X scope M C s H fp) tg t)(hT:∀m C s H fp,rL (fS X scope M C s H fp) ifs (tT K W0 m (tt m)))(hE:∀m C s H fp,PE (fS X scope M C s H fp) elt (tE K W0 m (te m)))
  (ok:gA scope.names X.env.scope.names X.N M n du=true) (hN:A1 X.N=true) (hk:scope.kind=.function) (yS:X.N[i]?=some x) (hx:Loc X.env.scope x) (hc:X.calm=true) (C0:swapsWith (.ListComp elt [⟨tg,iter,ifs,0⟩] scope pos) (some (.Name x px)) nO.line X.env=pure true) (hs:∀x,foldedSetIterable iter X.env x=pure x) (hf:X.fn x=true\/X.env.scope.names.lookup x=some .local) :
  PS X (.Assign [.Name x px] (.ListComp elt [⟨tg,iter,ifs,0⟩] scope pos) nO) (tS K W q (au i mu (bO q src gg tt te n du))):=by
 obtain⟨wi,h1,h2⟩:=s;exact XZ hc (Qx ok hk) (Gf hN) yS hx h1 h2 ht hg hT hE C0 hs hf
end
section
variable{X:Cx}{K:fX}{W:XW}{q:Nat}{tg iter e o i value:Expr}{body:List Stmt}{t:TG}{gg:GG}{src:lU}{pos pos' fV:Pos}{f fv fo fi fe:GE}{x:Str}
def wF{fb:Nat->GS}(s:uv X K W q tg iter src)(ht:j_ K t gg)(hg:PG X tg t)(hb:∀n,i_ X body (tS K W n (fb n)))(hp:PassesOwn (model X.prog X.w) X.A X.env X.xe)(hc:X.calm=true)(hs:∀x,foldedSetIterable iter X.env x=pure x):PS X (.For tg iter body [] pos) (tS K W q (bN q src gg fb)):=by
 obtain⟨wi,h1,h2⟩:=s;exact ρ hp hc h1 h2 hg ht hb hs
def wS{mu:Bool}{i:Nat}(he:PE X e (tE K W q f))(hN:A1 X.N=true)(hi:X.N[i]?=some x)(hx:Loc X.env.scope x)(hs:swapsWith e (some (.Name x pos')) pos.line X.env=pure false)(hf:X.fn x=true\/X.env.scope.names.lookup x=some .local):PS X (.Assign [.Name x pos'] e pos) (tS K W q (au i mu f)):=ε (Gf hN) hi hx he hs hf
def wE(he:PE X e (tE K W q f))(hs:swapsWith e none pos.line X.env=pure false):PS X (.Expr e pos) (tS K W q (dr f)):=XH he hs
def wP(he:PE X e (tE K W q fv))(ho:PE X o (tE K W q fo))(hi:PE X i (tE K W q fi))(hu:X.A.units+41<cLine)(hK:X.K=K)
  (ha:∀v,assign (.Subscript o i pos') X.env v=(do
   let ov <-holding [v] (eval o X.env)
   let iv <-holding [v,ov] (eval i X.env)
   standAt pos'
   holding [v,ov,iv] (setItem ov iv v)
   release [v,ov,iv] []))
  (hs:swapsWithSole [.Subscript o i pos'] e pos.line X.env=pure false) (hw:swappedStores [.Subscript o i pos'] e X.env=pure none)
  (h1:(assignEach [.Subscript o i pos'] X.env).map (·.2)=[assign (.Subscript o i pos') X.env]):PS X (.Assign [.Subscript o i pos'] e pos) (tS K W q (cx q fv fo fi)):=e3l he ho hi hu hK ha hs hw h1
def wA(ha:j5 K atr)(ho:PE X o (tE K W q fo))(hv:PE X value (tE K W q fv))(hs:swapsWith value (some (.Attribute o g pos')) pos.line X.env=pure false)(hK:X.K=K):PS X (.Assign [.Attribute o g pos'] value pos) (tS K W q (fO q atr g fv fo)):=e3p ha ho hv hs hK
def wAI(ha:j5 K atr)(ho:PE X o (tE K W q fo))(hv:PE X value (tE K W q fe))(hK:X.K=K):PS X (.AugAssign (.Attribute o g fV) .Add value pos) (tS K W q (JJ q (λi j=>i+j) atr g fo fe)):=Yu (λaa s Z H x y v u Q I r1 r2 h=>Z5 aa s Z H x y v u Q I r1 r2 (by
 obtain⟨i,j,rfl,rfl,h⟩:=h;exact⟨i,j,rfl,rfl,h⟩)) ha ho hv hK
def wAD{op:Operator}{h:Int->Int->Int}(yY:∀X:Cx,EG X op (KS h))(ho:PE X o (tE K W q fo))(hi:PE X i (tE K W q fi))(hv:PE X value (tE K W q fe))(hu:X.A.units+41<cLine)(hK:X.K=K)
  (ha:∀ov iv new,augStore i ov iv new=(do holding [new,ov,iv] (setItem ov iv new);release [new,ov,iv] [];pure .next)):PS X (.AugAssign (.Subscript o i fV) op value pos) (tS K W q (JK q h fo fi fe)):=Yv (yY X) ho hi hv hu hK ha
structure pY (K:fX) (mg:Str->aj ah) (tab:List (Str×ai)) (B0:ai):Prop where
 all:∀p∈tab,mg p.1=some (.ref p.2)/\f_ K p.2 (.ref B0::qR) none/\keepIn K (.ref p.2)=true
 G0:f_ K B0 qR none
 mg0:mg "CarryError"=some (.ref B0)
def pY.ix(E:pY K mg tab B0){i:Nat}{n:Str}(h:tab[i]?=some (n,C)):mg n=some (.ref C)/\f_ K C (.ref B0::qR) none/\keepIn K (.ref C)=true:=E.all (n,C) (qI h)
def wX{p cp:Pos}(j:Nat)(E:pY K X.mg tab B0)(he:PE X e (tE K W q fe))(hp:fM X W)(hj:tab[j]?=some (x,C))(hc:X.calm=true)(hg:Gl X x)(k7:(x == ("__debug__":Str))=false)
  (ko:starEach [e] X.env=(false,eval e X.env)::starEach [] X.env) (hK:X.K=K):PS X (.Raise (some (.Call (.Name x p) [e] [] cp)) none pos) (tS K W q (nU C fe)):=by
 obtain⟨h1,h2,h4⟩:=E.ix hj;exact VX h2 E.G0 h4 h1 hp he hc hg k7 ko hK
noncomputable def wT(tab:List (Str×ai))(C:ai):aj Bool:=if tab.any (λp=>p.2 == C)=true then some true else none
def wY{np hp:Pos}{b0:Stmt}{nP:List Stmt}{g f:GS}(E:pY K X.mg tab B0)(hb:∀(pn:List (ai×Obj)) (E:ah->aq->Prop) (W:XW),fM (X.eL pn E) W->i_ (X.eL pn E) body (tS K W q f))(hS:∀e,i_ (X.eK e) (b0::nP) (tS K W0 q g))
  (hg:Gl X "CarryError") (hK:X.K=K) (ko:X.stack=X.env::X.outer) (hf:X.env.frame=some X.env.locals) :
  PS X (.Try body [.ExceptHandler (some (.Name "CarryError" np)) none (b0::nP) hp] [] [] pos) (tS K W q (sk f [(wT tab,g)])):=by
 refine χ hb (X0 E.mg0 (λC b h=>?_) hS υ hg (by decide) hK) ko hf
 unfold wT at h;split at h
 .rename_i hC
  cases h;obtain⟨p,m,e⟩:=Mt.mp hC;cases(beq_iff_eq.mp e);refine((E.all p m).2.1.exm E.G0 rfl).trans (congrArg some ?_);simp
 .cases h
end
def Yw{P:dq}{w:cF}{K:fX}{base:bT}{k:Nat}{f:ai}{fd:lu}{m:GM}(F:d_ P w K mg base (mV P w) k f fd [x] (tO K 0 1 m)){n:Nat}(h:∀ns:List Int,ns.length<=n->∃S,m [.d (.lst (ns.map D.int))] ⟨[],[]⟩=some (.ok (.v (.d (.bl true))) S)):
  d_ P w K mg base (mV P w) k f fd [x] (λvs H Q _=>∃(a:ai) (ns:List Int),vs=[.ref a]/\cW K H a (ns.map V.int)/\ns.length<=n/\∀H',Q (.bl true) H'):=⟨λvs H Q E h=>by obtain⟨a,ns,rfl,_⟩:=h;rfl,λA outer s H args us vs Q E hr e0 hb r hq=>by
 obtain⟨a,ns,rfl,hs,hl,q⟩:=hq;obtain⟨S,e⟩:=h ns hl;refine F.run A outer s H args us [.ref a] Q E hr e0 hb r ⟨rfl,⟨H,[],[]⟩,[.d (.lst (ns.map D.int))],⟨[],[]⟩,_,⟨az.refl _,.nil,⟨rfl,λ_ _ _ z=>nomatch z⟩,⟨rfl,λ_ _ _ z=>nomatch z⟩⟩,.cons (show ag K ⟨H,[],[]⟩ [.ref a] [.lst (ns.map D.int)] from .lst hs ?_ .nil) .nil,e,λv k' H' u ok r'=>?_⟩
 .exact VP ns
 .cases(show ag K k' [v] [.bl true] from r').aN rfl;exact q H'⟩
def Kb{N P:List Str}{sc:Scope}(h1:sc.kind=.function:=by rfl)(h2:sc.isCoroutine=false:=by rfl)(h3:sc.isGenerator=false:=by rfl)(h4:N.Nodup:=by decide +kernel)(h5:N.take P.length=P:=by rfl)(h6:∀x∈P,sc.names.lookup x=some .local \/ sc.names.lookup x=some .cell:=by decide +kernel)(h7:∀y∈sc.names,y.2≠.free:=by decide +kernel):iM N P sc:=⟨h1,h2,h3,h4,h5,h6,h7⟩
def Yx{A:PySem.Around}{k:Nat}(hr:cC k A):A.units+41<PySem.cLine:=Mn (Nat.add_le_add_left (by decide:41<=64) _) hr.units
section
variable{X:Cx}{K:fX}{W:XW}{q:Nat}{pos:Pos}{x:Str}
def xk{z:Str}(hm:∃t,X.mg x=some (.str z t))(hg:Gl X x)(hd:(x == ("__debug__":Str))=false):PE X (.Name x pos) (tE K W q (gC (.str z))):=yB (v:=.str z) (by
 intro aa s Z H Q I h;obtain⟨t,hm⟩:=hm;exact As I hg hm ⟨.str z,H,I,⟨t,rfl⟩,h⟩ hd)
def xki{n:Int}(hm:∃t,X.mg x=some (.int n t))(hg:Gl X x)(hd:(x == ("__debug__":Str))=false):PE X (.Name x pos) (tE K W q (gC (.int n))):=yB (v:=.int n) (by
 intro aa s Z H Q I h;obtain⟨t,hm⟩:=hm;exact As I hg hm ⟨.int n,H,I,⟨t,rfl⟩,h⟩ hd)
end
abbrev bB:=o2 yk
abbrev qr:=o2 (eR ud λi j=>.int (i - j))
abbrev jI:=o2 ve
abbrev rX:=o2 (eR (λ_ j=>decide (0<j/\j<1073741824)) λi j=>.int (i / j))
abbrev ir:=o2 (eR (λ_ j=>decide (0<j)) λi j=>.int (i%j))
abbrev Ck:=o2 (eR (λi j=>decide (0<=j/\j<=1000000/\i.natAbs<2^64)) λi j=>.int (i^j.toNat))
abbrev f6:=o2 (wd false)
abbrev wR:=o2 (wd true)
abbrev Sg:Int->Int->Bool:=λi j=>decide (i<j)
abbrev G5:Int->Int->Bool:=λi j=>decide (i<=j)
abbrev iGt:Int->Int->Bool:=λi j=>decide (j<i)
abbrev C2:Int->Int->Int:=λi j=>i+j
abbrev pL:=o2 (eR ud λi j=>.bl (Sg i j))
abbrev qLe:=o2 (eR ud λi j=>.bl (G5 i j))
abbrev qGt:=o2 (eR ud λi j=>.bl (iGt i j))
abbrev kA:=o2 (AW false)
abbrev jl:=o2 (AW true)
abbrev Hg:=o2 (AX false)
abbrev Dx:=o2 (AX true)
noncomputable abbrev zC:List Bool->Bool:=λbs=>bs.all id
noncomputable def QZ(e:DictEntry):Bool:=match e.key with|.str _ _=>true|_=>false
def errC_mk{K:fX}{C:ai}{bm:List ah}{G6:aj ah}{nm q:Str}{N:ai}{bs:List ah}{sn:List Str}{sub:List ah}{ab:Bool}{col:aj Bool}{dd:aj ai}{k0 k1 k2 k3 k5:aj ah}{on:ah}{A2:aj ai}{es:Array DictEntry}{ep:Nat}{A3:Array (aj ah)}
  (l:K.lookup C=some (excClassObj nm q C N bs bm true sn sub ab col dd k0 k1 k2 k3 k5 "ValueError.__new__")) (d:K.lookup N=some ⟨on,A2,.dict es ep,A3⟩) (s:es.toList.all QZ=true) (i:nsFind es "__init__"=G6):f_ K C bm G6:=by
 refine⟨_,_,_,_,_,_,_,_,_,_,_,_,_,_,_,_,_,_,_,l,d,λe he=>?_,i⟩
 have:=jZ.1 s e (Mi.2 he);unfold QZ at this;split at this
 .exact⟨_,_,by assumption⟩
 .cases this
instance instGE (n:Nat):OfNat GE n:=⟨sj n⟩
abbrev gI(n:Int):GE:=gC (.int n)
abbrev gX(a b:GE):GE:=gO (o2 G_) (cv a b)
abbrev bK(o:List D->aj Rv)(a b:GE):GE:=gO o (cv a b)
abbrev eI(a b c:GE):GA:=mJ a (cv b c)
abbrev kj(a b c d:GE):GA:=mJ a (eI b c d)
abbrev cN(a:GS):GS:=eG a ny
abbrev iS(a b:GS):GS:=eG a (cN b)
abbrev oH(a b c:GS):GS:=eG a (iS b c)
abbrev t6(a b c d:GS):GS:=eG a (oH b c d)
abbrev nv(a b c d e:GS):GS:=eG a (t6 b c d e)
instance instGG (n:Nat):OfNat GG n:=⟨ae n⟩
abbrev cG(f:GT)(g:GS):GS:=gY f (cN g) ny
abbrev gQ(o:List D->aj Rv)(a b:GE):GT:=gB (bK o a b)
noncomputable def aX(p n:Nat)(m:Nat->GS)(q:Nat):GM:=runM p n (m q)
end L2
namespace L2
open PySem Lean Meta
variable{s:List Cell}{z:List D}
def r_(e:Lean.Expr)(i:Nat)(k:Lean.Expr->aj (Lean.Expr×Bool)):SimpM Simp.Step:=do
 let a:=e.getAppArgs
 let r0 <-Simp.simp a[i]!
 let x:=(<-instantiateMVars r0.expr).cleanupAnnotations.headBeta
 let pr <-match r0.proof? with
  |none=>pure none
  |some p=>pure (some (<-mkCongrArg (.lam `z (<-inferType a[i]!) (mkAppN e.getAppFn (a.set! i (.bvar 0))) .default) p))
 match k x with
 |some (y,true)=>return .visit { expr:=y.headBeta,proof?:=pr}
 |some (y,false)=>return .done { expr:=y.headBeta,proof?:=pr}
 |none=>return .done { expr:=mkAppN e.getAppFn (a.set! i x),proof?:=pr}
def isOk(x:Lean.Expr):aj (Lean.Expr×Lean.Expr):=if x.isAppOfArity ``Option.some 2&&x.appArg!.isAppOfArity ``Rs.ok 3 then some (x.appArg!.appFn!.appArg!,x.appArg!.appArg!) else none
def CD(n:Name):Bool:=(n.getRoot == `L2 && !(#[``eH,``findS,``dh,``eO,``kq,``jJ,``jk,``aV.cut,``aQ,``eQ,``bY,``iA,``kr,``dN,``lG,``iY,``mC,``eY,``iy,``aL,``bh,``c_,``bd,``kY,``tZ,``ji,``Cell.jx,``runM].contains n)) || (n.getRoot == `List&&n != ``List.toArray) || n.getRoot == `Option || n.getRoot == `Prod || n.getRoot == `GetElem? || n.getRoot == `OfNat || n.getRoot == `Nat || n.getRoot == `BEq || n == ``ite || n == ``dite || n.getRoot == `Bool || n.getRoot == `Decidable || n == ``and || n == ``or || n == ``not || n.getRoot == `id || n.getRoot == `HAppend || n.getRoot == `Append || n.getRoot == `instHAppendOfAppend
def e3q(e:Lean.Expr):MetaM Lean.Expr:=withCanUnfoldPred (λ_ c=>return CD c.name || c.name.isInternal || (<-isInstance c.name) || (<-isMatcher c.name)) (withDefault (whnf e))
def e3r(e:Lean.Expr):MetaM Bool:=do
 if e.isFVar || e.isLit then return true
 let .const n _:=e.getAppFn|return false
 if n == ``OfNat.ofNat then return true
 if n == ``Nat.succ then return false
 return (<-getEnv).isConstructor n
simproc_decl ev (_):=λe=>do
 let .const n ls:=e.getAppFn|return .continue
 let a:=e.getAppArgs
 if n == ``OfNat.ofNat&&a.size>=3&&(a[2]!.isAppOf ``instGG || a[2]!.isAppOf ``instGE) then return .visit { expr:=mkAppN (mkApp (mkConst (if a[2]!.isAppOf ``instGG then ``ae else ``sj)) a[1]!) (a.extract 3 a.size)}
 if n == ``Option.bind&&a.size == 4 then
  return <-r_ e 2 λx=>if x.isAppOfArity ``Option.some 2 then some (mkApp a[3]! x.appArg!,true) else if x.isAppOfArity ``Option.none 1 then some (mkApp (.const ``Option.none (ls.drop 1)) a[1]!,false) else none
 if n == ``Option.map&&a.size == 4 then
  return <-r_ e 3 λx=>if x.isAppOfArity ``Option.some 2 then some (mkApp2 (.const ``Option.some (ls.drop 1)) a[1]! (mkApp a[2]! x.appArg!).headBeta,true) else if x.isAppOfArity ``Option.none 1 then some (mkApp (.const ``Option.none (ls.drop 1)) a[1]!,false) else none
 if(n == ``bd || n == ``tZ || n == ``kY)&&a.size == 4 then
  return <-r_ e 2 λx=>match isOk x with
   |some (v,S)=>some (mkApp2 a[3]! v S,true)
   |none=>if n != ``tZ&&x.isAppOfArity ``Option.some 2&&x.appArg!.isAppOfArity ``Rs.ex 4 then
     let b:=x.appArg!.getAppArgs
     if n == ``kY then some (mkApp2 (.const ``Option.some [0]) (.const ``Fr []) (mkApp4 (.const ``Fr.ex []) b[1]! b[2]! a[1]! b[3]!),true) else some (mkApp2 (.const ``Option.some [0]) (mkApp (.const ``Rs []) a[1]!) (mkApp4 (.const ``Rs.ex []) a[1]! b[1]! b[2]! b[3]!),true)
    else none
 if n == ``ite then return <-reduceIte e
 if n == ``List.length&&a.size == 2 then
  let some (_,vs):=a[1]!.listLit?|return .continue
  return .done { expr:=mkNatLit vs.length}
 if n == ``runM&&a.size == 5 then
  let some (_,vs):=a[3]!.listLit?|return .continue
  let (some p,some k):=(a[0]!.nat?,a[1]!.nat?)|return .continue
  unless vs.length == p do return .continue
  let V:=mkConst ``Val
  let G <-mkListLit (mkApp (.const ``Option [0]) V) (vs.map (λv=>mkApp2 (.const ``Option.some [0]) V v)++List.replicate (k - p) (mkApp (.const ``Option.none [0]) V))
  let f <-mkAppM ``leave #[<-mkAppM ``List.length #[<-mkAppM ``aV.s #[a[4]!]]]
  return .visit { expr:=<-mkAppM ``Option.bind #[(mkApp2 a[2]! G a[4]!).headBeta,f]}
 if n.getRoot == `Nat || n.getRoot == `OfNat || n.getRoot == `BEq || n.getRoot == `Decidable || n == ``dite then return .continue
 unless CD n || n == ``getElem? || n == ``HAppend.hAppend do return .continue
 if <-isMatcher n then return .continue
 if(<-getEnv).isConstructor n then return .continue
 if n.getRoot == `L2&&(<-isReducible n) then
  let some e' <-withDefault (unfoldDefinition? e)|return .continue
  return .visit { expr:=e'.headBeta}
 let t <-whnfR (<-inferType e)
 if t.isAppOfArity ``Option 1&&n.getRoot == `L2 then
  let some e' <-withDefault (unfoldDefinition? e)|return .continue
  let e' <-whnfCore e'
  if(<-isMatcherApp e') then return .continue
  return .visit { expr:=e'}
 if t.isForall then return .continue
 let e' <-e3q e
 if e' != e&&(<-e3r e') then return .visit { expr:=e'}
 return .continue
def J':List Simp.DSimproc:=[Nat.reduceAdd,Nat.reduceSub,Nat.reduceMul,Nat.reduceDiv,Nat.reduceMod,Int.reduceAdd,Int.reduceSub,Int.reduceMul,Int.reduceDiv,Int.reduceMod,Int.reduceNeg,Int.reduceToNat,Int.reduceBEq,Nat.reduceBEq]
def Ka:List Simp.Simproc:=[reduceCtorEq,Nat.reduceLT,Nat.reduceLeDiff,Nat.reduceEqDiff,Int.reduceLT,Int.reduceLE,Int.reduceEq]
simproc_decl aP (_):=λe=>do
 for p in J' do
  match <-p e with
  |.done x=>return .done { expr:=x}
  |.visit x=>return .visit { expr:=x}
  |.continue (some x)=>return .continue (some { expr:=x})
  |_=>pure ()
 for p in Ka do
  match <-p e with
  |.continue none=>pure ()
  |r=>return r
 return .continue
section
variable{α:Type}{l L M:List α}{c:α}{j:Nat}{S:aV}{r L':List Cell}
def gE:S.cut S.s.length=S:=by unfold aV.cut;rw[List.take_length]
def o_:aV.cut ⟨s++L',r⟩ s.length=⟨s,r⟩:=by unfold aV.cut;rw[List.take_left]
def ck:aV.cut ⟨s,r⟩ s.length=⟨s,r⟩:=by unfold aV.cut;rw[List.take_length]
def eA:(l++L)[l.length]?=L[0]?:=by rw[ue (bZ _),Mm]
def Fx:(l++L)[l.length+j]?=L[j]?:=by rw[ue (Hv _ _),Nat.add_sub_cancel_left]
def jB:(l++L).set l.length c=l++L.set 0 c:=by rw[List.set_append_right _ _ (bZ _),Mm]
def LF:(l++L).set (l.length+j) c=l++L.set j c:=by rw[List.set_append_right _ _ (Hv _ _),Nat.add_sub_cancel_left]
def A0:(l++L).length=l.length+L.length:=dU
def yl:(l++L)++M=l++(L++M):=lj _ _ _
def zh:(l.length<l.length)=False:=eq_false (jY _)
def lt2:(l.length+j<l.length)=False:=eq_false (by lia)
def fT{a b:Int}:eQ (.int a) (.int b)=(a == b):=rfl
def eV{a b:Str}:eQ (.str a) (.str b)=(a == b):=rfl
def G7{z:Str}:jk (.str z) (.ty "str")=some (rd (.bl true)):=rfl
def G8:jk (.tup z) (.ty "tuple")=some (rd (.bl true)):=rfl
def KU{z:Str}:jk (.str z) (.ty "tuple")=some (rd (.bl false)):=rfl
def is4:jk (.lst z) (.ty "list")=some (rd (.bl true)):=rfl
def Qy{n:Nat}{x:Cell}:aV.cut ⟨s.set n x,r⟩ s.length=⟨s.set n x,r⟩:=by
 unfold aV.cut;dsimp only;rw[Ew (by rw[xt];exact bZ _)]
def bU{a:α}:eH (a::l) 0=some a:=uC (j:=0) rfl
def cL{a b:α}:eH (a::b::l) 1=some b:=uC (j:=1) rfl
def h_{a b c:α}:eH (a::b::c::l) 2=some c:=uC (j:=2) rfl
def uK{a b c d:α}:eH (a::b::c::d::l) 3=some d:=uC (j:=3) rfl
end
end L2
namespace L2
open PySem
section
variable{α:Type}{gg:GG}{tt:GT}{te:GE}{S:aV}{f:α->D}{U cs:Gm}{a:aj Val}
theorem Gh(h:α->aj D)(G:Gm->Prop):∀(xs:List α) (U:Gm) (ba:List D),G U->ba.length+xs.length<=1000000->(∀x∈xs,∀U,G U->∃U',gg (f x) U=some U'/\G U'/\((h x=none/\tt U' S=some (.ok false S))\/∃r d,h x=some d/\tt U' S=some (.ok true S)/\te U' S=some (.ok r S)/\mF r=.d d))->
  bh gg tt te (xs.map f) U S ba=some (.ok (ba++xs.filterMap h) S)
 |[],U,ba,_,_,_=>by rw[Be,jQ];rfl
 |x::xs,U,ba,g,hl,hx=>by
  obtain⟨U',e1,g',e2⟩:=hx x (.head _) U g;rw[kG] at hl;rw[cU];unfold bh;rw[e1,zY];rcases e2 with⟨e2,e3⟩|⟨r,d,e2,e3,e4,e5⟩
  .rw[e3,List.filterMap_cons_none e2];exact Gh h G xs U' ba g' (by lia) λy m=>hx y (.tail _ m)
  .have e6:gD te U' S=some (.ok d S):=by unfold gD bd;rw[e4];show(oG S (mF r)).map _=_;rw[e5];rfl
   rw[e3,List.filterMap_cons_some e2];show tZ (gD te U' S) _=_;rw[e6];show(if ba.length<1000000 then _ else _)=_
   rw[bx (by lia),Gh h G xs U' (ba++[d]) g' (by rw[dU,ug];lia) λy m=>hx y (.tail _ m),lj]
   rfl
def Ki{d:D}:ae 0 d (a::cs)=some (some (.d d)::cs):=by
 rfl
def uN(h:α->aj D)(xs:List α)(hl:xs.length<=1000000)(hx:∀x∈xs,(h x=none/\tt (some (.d (f x))::cs) S=some (.ok false S))\/∃r d,h x=some d/\tt (some (.d (f x))::cs) S=some (.ok true S)/\te (some (.d (f x))::cs) S=some (.ok r S)/\mF r=.d d):bh (ae 0) tt te (xs.map f) (a::cs) S []=some (.ok (xs.filterMap h) S):=by
 rw[Gh h (λU=>∃a,U=a::cs) xs _ [] ⟨a,rfl⟩ (by rw[Ba];lia) λx m U ⟨a,hU⟩=>⟨_,by rw[hU];exact Ki,⟨_,rfl⟩,hx x m⟩,El]
def nW(h:α->D)(xs:List α)(hl:xs.length<=1000000)(hx:∀x∈xs,∃r,te (some (.d (f x))::cs) S=some (.ok r S)/\mF r=.d (h x)):bh (ae 0) (fD true) te (xs.map f) (a::cs) S []=some (.ok (xs.map h) S):=by
 rw[uN (λx=>some (h x)) xs hl λx m=>.inr (let ⟨r,h1,h2⟩:=hx x m;⟨r,_,rfl,rfl,h1,h2⟩),List.filterMap_eq_map']
theorem Q0{body:GS}(I:List α->Gm->aV->Prop):∀(xs dn:List α) (U:Gm) (S:aV),I dn U S->(∀d x r,dn++xs=d++x::r->∀U S,I d U S->∃U1 U' S',gg (f x) U=some U1/\(body U1 S=some (.nx U' S')\/body U1 S=some (.ct U' S'))/\I (d++[x]) U' S')->∃U' S',aL gg body (xs.map f) U S=some (.nx U' S')/\I (dn++xs) U' S'
 |[],dn,U,S,i,_=>⟨U,S,rfl,by rw[jQ];exact i⟩
 |x::xs,dn,U,S,i,hx=>by
  obtain⟨U1,U',S',e1,e2,i'⟩:=hx dn x xs rfl U S i;obtain⟨U2,S2,e3,i2⟩:=Q0 I xs (dn++[x]) U' S' i' λd y r e=>hx d y r (by rw[<-e,lj];rfl)
  refine⟨U2,S2,?_,by rw[lj] at i2;exact i2⟩
  rw[cU];unfold aL;rw[e1,zY];rcases e2 with e2|e2
  .rw[e2];exact e3
  .rw[e2];exact e3
def ju{body:GS}(I:List α->Gm->aV->Prop)(xs:List α)(i:I [] U S)(hx:∀d x r,xs=d++x::r->∀U S,I d U S->∃U1 U' S',gg (f x) U=some U1/\(body U1 S=some (.nx U' S')\/body U1 S=some (.ct U' S'))/\I (d++[x]) U' S'):∃U' S',aL gg body (xs.map f) U S=some (.nx U' S')/\I xs U' S':=Q0 I xs [] U S i λd x r e=>hx d x r e
theorem PZ{β:Type}{body:GS}(st:β->aV->Gm×aV)(I:List α->β->Prop):∀(xs dn:List α) (b:β),I dn b->(∀d x r,dn++xs=d++x::r->∀b,I d b->∃b',I (d++[x]) b'/\∀S,∃U1,gg (f x) (st b S).1=some U1/\(body U1 (st b S).2=some (.nx (st b' S).1 (st b' S).2)\/body U1 (st b S).2=some (.ct (st b' S).1 (st b' S).2)))->
  ∃b',I (dn++xs) b'/\∀S,aL gg body (xs.map f) (st b S).1 (st b S).2=some (.nx (st b' S).1 (st b' S).2)
 |[],dn,b,i,_=>⟨b,by rw[jQ];exact i,λS=>rfl⟩
 |x::xs,dn,b,i,hx=>by
  obtain⟨b1,i1,h1⟩:=hx dn x xs rfl b i;obtain⟨b2,i2,h2⟩:=PZ st I xs (dn++[x]) b1 i1 λd y r e=>hx d y r (by rw[<-e,lj];rfl)
  refine⟨b2,by rw[lj] at i2;exact i2,λS=>?_⟩
  obtain⟨U1,e1,e2⟩:=h1 S;rw[cU];unfold aL;rw[e1,zY];rcases e2 with e2|e2
  .rw[e2];exact h2 S
  .rw[e2];exact h2 S
def Q1{β:Type}{body:GS}(st:β->aV->Gm×aV)(I:List α->β->Prop)(xs:List α)(b:β)(i:I [] b)(hx:∀d x r,xs=d++x::r->∀b,I d b->∃b',I (d++[x]) b'/\∀S,∃U1,gg (f x) (st b S).1=some U1/\(body U1 (st b S).2=some (.nx (st b' S).1 (st b' S).2)\/body U1 (st b S).2=some (.ct (st b' S).1 (st b' S).2))):
  ∃b',I xs b'/\∀S,aL gg body (xs.map f) (st b S).1 (st b S).2=some (.nx (st b' S).1 (st b' S).2):=PZ st I xs [] b i λd x r e=>hx d x r e
def e3s(enc:α->D)(xs:List α):eY (xs.map enc)=((List.range xs.length).zip xs).map λ(p:Nat×α)=>D.tup [.int (p.1:Nat),enc p.2]:=by
 unfold eY;rw[bw];refine Mu λi=>?_
 rw[f9,f9];by_cases h:i<xs.length
 .have z:((List.range xs.length).zip xs)[i]?=some (i,xs[i]):=List.getElem?_zip_eq_some.mpr ⟨zZ h,iH h⟩;rw[zZ h,z];simp[h]
 .rw[z7 (by simp;lia),z7 (by simp;lia)]
  rfl
def e7y{body:GS}(enc:α->D)(I:List α->Gm->aV->Prop)(xs:List α)(i:I [] U S)(hx:∀d x r,xs=d++x::r->∀U S,I d U S->∃U1 U' S',gg (.tup [.int (d.length:Nat),enc x]) U=some U1/\body U1 S=some (.nx U' S')/\I (d++[x]) U' S'):∃U' S',aL gg body (eY (xs.map enc)) U S=some (.nx U' S')/\I xs U' S':=by
 have hs:((List.range xs.length).zip xs).map Prod.snd=xs:=by rw[List.map_snd_zip];simp
 rw[e3s];obtain⟨U',S',e,p⟩:=ju (gg:=gg) (body:=body) (f:=λ(p:Nat×α)=>D.tup [.int (p.1:Nat),enc p.2]) (U:=U) (S:=S) (λpre U S=>I (pre.map Prod.snd) U S) ((List.range xs.length).zip xs) i (by
  intro q x post e U S p;have t_:xs=q.map Prod.snd++x.2::post.map Prod.snd:=by
   simp_all
  have hi:x.1=(q.map Prod.snd).length:=by
   have:((List.range xs.length).zip xs)[q.length]?=some x:=by rw[e,ue (bZ _)];simp
   rw[List.getElem?_zip_eq_some] at this;have h1:=this.1;rw[fE] at h1;obtain⟨hl,h1⟩:=h1;rw[List.getElem_range] at h1;rw[bw];exact h1.symm
  obtain⟨U1,U2,S2,a,b,c⟩:=hx _ _ _ t_ U S p;exact⟨U1,U2,S2,by rw[hi];exact a,.inl b,by rw[fR];exact c⟩)
 exact⟨U',S',e,by rw[hs] at p;exact p⟩
theorem P1{body:GS}{rv:Rv}{S':aV}(I:List α->Gm->aV->Prop){x:α}{r:List α}:∀(d dn:List α) (U:Gm) (S:aV),I dn U S->(∀d' y r',dn++d=d'++y::r'->∀U S,I d' U S->∃U1 U' S',gg (f y) U=some U1/\(body U1 S=some (.nx U' S')\/body U1 S=some (.ct U' S'))/\I (d'++[y]) U' S')->(∀U S,I (dn++d) U S->∃U1,gg (f x) U=some U1/\body U1 S=some (.rt rv S'))->aL gg body ((d++x::r).map f) U S=some (.rt rv S')
 |[],dn,U,S,i,_,hs=>by
  obtain⟨U1,e1,e2⟩:=hs U S (by rw[jQ];exact i)
  rw[El,cU];unfold aL;rw[e1,zY,e2];rfl
 |y::d,dn,U,S,i,hp,hs=>by
  obtain⟨U1,U',S',e1,e2,i'⟩:=hp dn y d rfl U S i;have e3:=P1 I (x:=x) (r:=r) d (dn++[y]) U' S' i' (λd' z r' e=>hp d' z r' (by rw[<-e,lj];rfl)) (λU S h=>hs U S (by rw[lj] at h;exact h))
  grind [aL]
end
end L2
namespace L2
open PySem PySem.Spec PySem.W PyProof.Rows
variable{a b:List Str}
noncomputable def cT (l:List Str):List Str:=Classical.epsilon λs=>s.Perm l/\sortedS s=true
theorem DG:∀{p:Str} {l:List Str},risingS p l=true->(p::l).Pairwise λa b=>a.cps.toList<=b.cps.toList
 |p,[],_=>by simp
 |p,x::l,h=>by
  have h:(!ltCps x.cps.toList p.cps.toList&&risingS x l)=true:=h;rw[jD,ltCps_eq,Mx,decide_eq_false_iff_not,List.not_lt] at h;have ih:=DG h.2;refine List.pairwise_cons.mpr ⟨λb m=>?_,ih⟩
  rcases y0b.mp m with rfl|m
  .exact h.1
  .exact List.le_trans h.1 ((List.pairwise_cons.mp ih).1 b m)
def Q2(h:sortedS a=true):a.Pairwise λa b=>a.cps.toList<=b.cps.toList:=by
 cases a with
 |nil=>exact .nil
 |cons p l=>exact DG h
def OG(p:a.Perm b)(ha:sortedS a=true):cT b=a:=by
 have h:=Classical.epsilon_spec (p:=λs:List Str=>s.Perm b/\sortedS s=true) ⟨a,p,ha⟩
 exact(h.1.trans p.symm).eq_of_pairwise (λx y _ _ h1 h2=>Str.ext' (Array.toList_inj.mp (List.le_antisymm h1 h2))) (Q2 h.2) (Q2 ha)
def T5(p:a.Perm b):cT a=cT b:=by
 unfold cT
 congr 1
 funext s;rw[eq_iff_iff,show s.Perm a↔s.Perm b from⟨λh=>h.trans p,λh=>h.trans p.symm⟩]
section
variable{X:Cx}{K:aJ}{H:Hp}{k:Kn}
def Q3(K:aJ):List V->Hp->VK->Prop:=λvs H Q=>∃(a:ai) (ss:List Str),vs=[.ref a]/\cW K H a (ss.map V.str)/\ss.length<64/\∀l,H l=none->Q (.ref l) (upd H l (.lst ((cT ss).map V.str)))
theorem fy:∀{ss:List Str} {vs:List ah},Vals (ss.map V.str) vs↔StrsAre vs ss
 |[],vs=>⟨λh=>by cases h;exact .nil,λh=>by cases h;exact .nil⟩
 |s::ss,vs=>⟨λh=>by
   cases h with
   |cons r t=>obtain⟨t',rfl⟩:=r;exact .cons _ _ (fy.mp t),λh=>by
   cases h with
   |cons _ t h=>exact .cons ⟨t,rfl⟩ (fy.mpr h)⟩
def T7(K:aJ)(hK:X.K=K:=by rfl):bS X (.builtin "sorted") (Q3 K):=by
 subst hK;intro aa s Z H xs us Q I r h;obtain⟨a,ss,rfl,hl,AO,q⟩:=h;obtain⟨u,rfl,ru⟩:=vals1 r;cases ru;obtain⟨aE,rv,pl,hz⟩:=I.list hl;have hS:=fy.mp rv;have hlen:=rv.length;rw[bw] at hlen;refine sorted_strs pl.isList hS (by lia) λout SG a1 a2 a3=>?_
 obtain⟨c,hc⟩:=sortedAll_at s.heap aE out;rw[OG a2 a3] at q;have I3:=I.laid (h':=sortedAll s.heap aE out) (t':=s.toks) (o:=.lst (SG.map V.str)) (λb o g=>sortedAll_old g) (tI _) (show bI X.prog X.w _ _ _ (.lst _) from⟨by rw[bw,a2.length_eq,sizeLine_eq];lia,out.toList,c,fy.mpr a1,hc⟩)
 exact⟨.ref (s.heap.objs.size+1),_,I3,rfl,q _ (I.bG.fresh (tI _))⟩
noncomputable def nK:D->aj Rv
 |.lst ds=>(dh ds).bind λss=>if ss.length<64 then some (.o (.lst ((cT ss).map D.str))) else none
 |_=>none
def OH(ns:List Str):ag K k (ns.map V.str) (ns.map D.str):=by
 induction ns with
 |nil=>exact .nil
 |cons a l ih=>exact .flat rfl ih
def Ws:bV K (Q3 K) (o1 nK):=qT λk H x a y Q le t e res=>by
 unfold nK at e;split at e
 .obtain⟨ss,h,e⟩:=cy.mp e;split at e
  .cases e;obtain⟨p,ws,rfl,s,r⟩:=t.lst le;rw[BJ h] at r;cases E3 r;exact⟨p,ss,rfl,s,by assumption,λl hl=>res.lst le (OH _) hl⟩
  .cases e
 .cases e
def y8:qY K (.builtin "sorted") (o1 nK):=λX h c u=>⟨_,T7 K h,Ws⟩
end
section
variable{prog:dq}{w:cF}{A:cP}{E:ah->aq->Prop}{s:aq}
def Va{vs:List ah}{ss:List Str}{h0:bT}{Q:ah->aq->Prop}(hS:StrsAre vs ss)(h1:vs.length<64)(h:∀h' c (out:Array ah),StrsAre out.toList (cT ss)->(cT ss).length=ss.length->(∀b o,h0.get? b=some o->h'.get? b=some o)->h'.get? h0.objs.size=some (seqObj "list" out c)->Q (.ref h0.objs.size) { s with heap:=h'}):
  wpAny (model prog w) A (call (.builtin "list.sort") [.ref h0.objs.size]) (λ_ s'=>Q (.ref h0.objs.size) s') E { s with heap:=h0.push (seqObj "list" vs.toArray 0)}:=by
 have ho:(h0.push (seqObj "list" vs.toArray 0)).get? h0.objs.size=some (seqObj "list" vs.toArray 0):=iZ _ rfl;refine wpAny_call_entry slot_list_sort ⟨_,ho,rfl⟩ entry_list_sort (list_sort_treeK (s:={ s with heap:=h0.push (seqObj "list" vs.toArray 0)}) PyProof.Rows.strKind_oneLt ho hS.keysOf (λv1 v2 r e=>by subst e;exact keyKind_strs hS) h1 λjC p1 p2=>⟨_,rfl,?_⟩) (args_list_sort _)
 obtain⟨SG,a1,a2,a3⟩:=sorted_out_str hS p1 p2;obtain⟨e,he⟩:=sortedHeap_at (out:=Array.map (λx=>x.snd) (arrOf jC)) ho
 rw[<-OG a2 a3] at a1 a2;refine h _ _ _ a1 a2.length_eq (λb o g=>?_) he
 have lt:b<h0.objs.size:=cQ g;rw[sortedHeap_old (gH lt) (Nat.lt_trans lt (cQ ho))];exact cZ _ g
end
section
variable{X:Cx}{K:aJ}{H:Hp}{k:Kn}
def Q4(K:aJ):List V->Hp->VK->Prop:=λvs H Q=>∃(a:ai) (ss:List Str) (es:List (TK×V×V)) (ep:Nat),vs=[.ref a]/\H a=some (.dG es ep)/\ie es/\es.map (·.1)=ss.map TK.inr/\ss.length<64/\∀l,H l=none->Q (.ref l) (upd H l (.lst ((cT ss).map V.str)))
def T8(hc:X.calm=true):bS X (.builtin "sorted") (Q4 K):=by
 intro aa s Z H xs us Q I r h;obtain⟨a,ss,es,ep,rfl,hd,ht,he,AO,q⟩:=h;obtain⟨u,rfl,ru⟩:=Vals.one r;cases ru;refine Calls.call_function_entry kind_sorted plain_sorted entry_sorted (args_sorted1 _) ?_;unfold Builtin.«sorted»;refine ay (m:=checkCount "sorted" 1 1 _) (aR ?_);obtain⟨kvs,D1,D2,D3,D4,lo⟩:=ye I hd ht;have l1:kvs.length=ss.length:=by have:=congrArg List.length (D3.trans he);simpa using this
 refine ay (kdu_collect (kdl_dict (knd:=PySem.strKind X.prog X.w) (kvs:=kvs) (ep:=ep) lo) (I.ok.hd hc) D1 D4 λh' tk ba kp hi=>?_)
 have rv:Vals (ss.map V.str) ba.toList:=by
  refine IY (by have:=hi.1;rw[bw,<-l1,<-this];simp) λj y u e1 e2=>?_
  rw[f9] at e1;obtain⟨z,e3,rfl⟩:=dm.mp e1;obtain⟨k,v,k1,k2⟩:=hi.2 j u (by rw[<-ui];exact e2)
  have k3:(kvs.map (λp=>TK.inr p.1))[j]?=(ss.map TK.inr)[j]?:=by rw[D3,he]
  rw[f9,f9,k1,e3] at k3;cases(TK.inr.inj (Option.some.inj k3):k=z);exact Value.isStrOf_shape k2
 have hS:=fy.mp rv;have hlen:=rv.length;rw[bw] at hlen;have hz:ba.toList.length<=sizeLine:=by rw[sizeLine_eq];lia
 refine ay (wpAny_newList ?_ (by simpa using hz))
 have I0:Inv X aa Z H { s with heap:=h',toks:=tk}:=I.kept kp;refine ay (jq (wpAny_mono (Va (s:={ s with heap:=h',toks:=tk}) (h0:=h') (vs:=ba.toList) (Q:=λv s'=>EP X aa Z Q v s') hS (by lia) λh2 c out a1 a3 Dd hg=>?_) (λ_ s' x=>?_) λ_ _ e=>e))
 .have a2:=fy.mpr a1;have I1:=I0.laid (h':=h2) (t':=tk) (o:=.lst ((cT ss).map V.str)) Dd (bZ _) (show bI X.prog X.w _ h2 _ (.lst _) from⟨by rw[bw,a3,sizeLine_eq];lia,out.toList,c,a2,hg⟩)
  exact⟨.ref h'.objs.size,_,I1,rfl,q _ (I0.bG.fresh (bZ _))⟩
 .exact aR ⟨_,rfl,x⟩
theorem OI:∀{kvs:List (TK×D)} {ss:List Str},kvs.map (·.1.d)=ss.map D.str->kvs.map (·.1)=ss.map TK.inr
 |[],[],_=>rfl
 |[],_::_,h=>nomatch h
 |_::_,[],h=>nomatch h
 |(k,d)::l,z::ss,h=>by
  simp only[cU,List.cons.injEq] at h ⊢;exact⟨by cases k <;> simp only[TK.d] at h <;> grind,OI h.2⟩
def Wt{kvs:List (TK×D)}{ss:List Str}(h:kvs.map (·.1)=ss.map TK.inr):fK kvs=true:=by
 unfold fK;refine jZ.mpr λp m=>?_
 have h1:p.1∈kvs.map (·.1):=mU m
 rw[h] at h1;obtain⟨z,_,e⟩:=eW.mp h1;rw[<-e];rfl
noncomputable def pR:D->aj Rv
 |.aA kvs=>(dh (kvs.map (·.1.d))).bind λss=>if ss.length<64 then some (.o (.lst ((cT ss).map D.str))) else none
 |_=>none
def Wu:bV K (Q4 K) (o1 pR):=qT λk H x a y Q le t e res=>by
 unfold pR at e;split at e
 .obtain⟨ss,h,e⟩:=cy.mp e;split at e
  .cases e;have hk:=OI (BJ h);have ht:=Wt hk;obtain⟨p,es,ep,rfl,h3,h4,h5,h6,h7⟩:=t.txt le ht;exact⟨p,ss,es,ep,rfl,h3,h4,h5.trans hk,by assumption,λl hl=>res.lst le (OH _) hl⟩
  .cases e
 .cases e
def y9:qY K (.builtin "sorted") (o1 pR):=λX h c u=>⟨_,T8 c,Wu⟩
end
end L2
namespace L2
open PySem PySem.Spec PyProof.Rows
variable{j i:Nat}{A:cP}{E:ah->aq->Prop}{s:aq}{Q:Bool->aq->Prop}{hp:bT}{a S:ai}{l ks:List TK}{vs:List ah}{p p1 pos nH:Pos}
def oJ(m:Nat):Nat->Nat×Nat->Nat×Nat
 |0,q=>q
 |n+1,q=>oJ m n (SetTable.leap m q.1 q.2)
theorem P4{m:Nat}:∀(a b:Nat) (q:Nat×Nat),oJ m (a+b) q=oJ m b (oJ m a q)
 |0,b,q=>by rw[EB];rfl
 |a+1,b,q=>by rw[Nat.succ_add];exact P4 a b _
def C7(m:Nat):Nat->Nat->Nat
 |0,x=>x
 |n+1,x=>C7 m n ((x*5+1)%(m+1))
theorem Sm{m:Nat}:∀n x,(oJ m n (x,0)).1=C7 m n x
 |0,_=>rfl
 |n+1,x=>by show(oJ m n ((x*5+1+0 / 32)%(m+1),0 / 32)).1=_;rw[Nat.zero_div,Nat.add_zero,Sm n];rfl
def it7:∀x,x<8->∀y,y<8->∃n,n<8/\C7 7 n x=y:=by decide +kernel
def KW:∀x,x<32->∀y,y<32->∃n,n<32/\C7 31 n x=y:=by decide +kernel
theorem P5{m:Nat}:∀n (q:Nat×Nat),(oJ m n q).2=q.2 / 32^n
 |0,q=>(Nat.div_one _).symm
 |n+1,q=>by
  show(oJ m n _).2=_;rw[P5 n];show q.2 / 32 / _=_;rw[Nat.div_div_eq_div_mul,Nat.pow_succ,Nat.mul_comm]
theorem Rt{m:Nat}:∀n (q:Nat×Nat),q.1<=m->(oJ m n q).1<=m
 |0,_,h=>h
 |n+1,q,_=>Rt n _ (My (Nat.mod_lt _ (Nat.succ_pos _)))
abbrev vP(m:Nat):Prop:=m=7\/m=31
abbrev zB(m:Nat)(h:Int):Nat×Nat:=(SetTable.bits h%(m+1),SetTable.bits h)
def P6{m:Nat}(hm:vP m)(h:Int)(hj:j<=m):∃L,L<m+14/\(oJ m L (zB m h)).1=j:=by
 have hb:SetTable.bits h<2^64:=by
  unfold SetTable.bits;have h1:=Int.emod_lt_of_pos h (show(0:Int)<2^64 by decide)
  have h2:=Int.emod_nonneg h (show(2^64:Int)≠0 by decide)
  lia
 have hp:(oJ m 13 (zB m h)).2=0:=by
  rw[P5];exact Nat.div_eq_of_lt (f7 hb (by decide))
 have hi:(oJ m 13 (zB m h)).1<=m:=Rt 13 _ (My (Nat.mod_lt _ (Nat.succ_pos _)));have key:∃n,n<m+1/\C7 m n (oJ m 13 (zB m h)).1=j:=by
  rcases hm with rfl|rfl
  .exact it7 _ (Mz hi) _ (Mz hj)
  .exact KW _ (Mz hi) _ (Mz hj)
 obtain⟨n,hn,e⟩:=key;refine⟨13+n,by lia,?_⟩
 rw[P4,<-e,<-Sm,<-hp]
theorem P7:∀(n:Nat) (l:List Nat),(∀j,j<n->j∈l)->n<=l.length
 |0,_,_=>kO _
 |n+1,l,h=>by
  have m:=h n (by lia)
  have:=P7 n (l.erase n) λj hj=>(List.mem_erase_of_ne (by lia)).mpr (h j (by lia))
  rw[List.length_erase_of_mem m] at this;have:=List.length_pos_of_mem m;lia
section
variable{t:uj}
def kz(t:uj):Nat->SetTable.Probe->SetTable.Probe
 |0,p=>p
 |n+1,p=>kz t n (t.advance p)
theorem OJ:∀(a b:Nat) (p:SetTable.Probe),kz t (a+b) p=kz t b (kz t a p)
 |0,b,q=>by rw[EB];rfl
 |a+1,b,q=>by rw[Nat.succ_add];exact OJ a b _
def A4(m:Nat)(q:Nat×Nat):SetTable.Probe:=⟨q.1,SetTable.runEnd m q.1 - q.1,q.1,q.2,none⟩
theorem P8:∀(m:Nat) (p:SetTable.Probe),p.more=m->p.dummy=none->kz t (m+1) p=A4 t.mask (SetTable.leap t.mask p.i p.perturb)
 |0,⟨j,_,i,u,_⟩,rfl,rfl=>rfl
 |m+1,⟨j,_,i,u,_⟩,rfl,rfl=>P8 m ⟨j+1,m,i,u,none⟩ rfl rfl
theorem P9:∀(L:Nat) (q:Nat×Nat),∃n,n<=10*L/\kz t n (A4 t.mask q)=A4 t.mask (oJ t.mask L q)
 |0,q=>⟨0,bZ _,rfl⟩
 |L+1,q=>by
  obtain⟨n,h1,h2⟩:=P9 L (SetTable.leap t.mask q.1 q.2);refine⟨SetTable.runEnd t.mask q.1 - q.1+1+n,?_,?_⟩
  .unfold SetTable.runEnd;split <;> lia
  .rw[OJ,show kz t (SetTable.runEnd t.mask q.1 - q.1+1) (A4 t.mask q)=_ from P8 _ _ rfl rfl];exact h2
def yP(hd:t.dummies=#[])(j:Nat):SetTable.has t.dummies j=false:=by unfold SetTable.has;rw[hd];simp
def Yy(hd:t.dummies=#[])(h:j∉t.place.toList):t.slot j=.empty:=by
 unfold SetTable.slot;dsimp only;rw[yP hd,bc]
 .rfl
 .intro e;obtain⟨hl,e⟩:=vM.mp (beq_iff_eq.mp e);exact h (by rw[<-e];exact Array.getElem_mem_toList hl)
def Yz(hd:t.dummies=#[]):t.slot j≠.dummy:=by
 unfold SetTable.slot;dsimp only;rw[yP hd];split <;> simp
def YA(h:t.slot j=.live i):i<t.place.size:=by
 unfold SetTable.slot at h;dsimp only at h;split at h
 .rename_i e
  cases h;exact(vM.mp (beq_iff_eq.mp e)).1
 .split at h <;> cases h
def hole(hm:vP t.mask)(hd:t.dummies=#[])(hl:t.place.size<=t.mask)(h:Int):∃N,N<10*SetTable.turns t.mask/\t.slot (kz t N (t.probeStart h)).j=.empty:=by
 have:∃j,j<t.mask+1/\j∉t.place.toList:=by
  apply HG;intro c;have:=P7 (t.mask+1) t.place.toList λj hj=>HG λq=>c ⟨j,hj,q⟩
  rw[zV] at this;lia
 obtain⟨j,hj,hn⟩:=this;obtain⟨L,h1,h2⟩:=P6 hm h (My hj);obtain⟨n,h3,h4⟩:=P9 (t:=t) L (zB t.mask h);refine⟨n,by unfold SetTable.turns;lia,?_⟩
 rw[show t.probeStart h=A4 t.mask (zB t.mask h) from rfl,h4,show(A4 t.mask _).j=_ from h2];exact Yy hd hn
theorem Ru(hd:t.dummies=#[]){ha:Nat->Int}{h:Int}:∀(fuel d:Nat) (p:SetTable.Probe),d<fuel->p.dummy=none->t.slot (kz t d p).j=.empty->
  (∃j,SetTable.probe.go t ha h fuel p=some (.empty j none))\/∃j i c r,SetTable.probe.go t ha h fuel p=some (.candidate j i r)/\t.slot j=.live i/\c<d/\r.dummy=none/\t.slot (kz t c r).j=.empty
 |0,_,_,hf,_,_=>cz hf (Nat.not_lt_zero _)
 |fuel+1,d,p,hf,hp,hs=>by
  unfold SetTable.probe.go;have ad:(t.advance p).dummy=none:=by unfold SetTable.advance;split <;> exact hp
  cases q:t.slot p.j with
  |empty=>exact .inl ⟨p.j,by rw[hp]⟩
  |dummy=>exact cz q (Yz hd)
  |live i=>
   cases d with
   |zero=>exact cz (q.symm.trans hs) (by simp)
   |succ d=>
    dsimp only;split
    .exact .inr ⟨_,_,d,_,rfl,q,qH _,ad,hs⟩
    .rcases Ru hd fuel d (t.advance p) (by lia) ad hs with z|⟨j,i,c,r,h1,h2,h3,h4⟩
     .exact .inl z
     .exact .inr ⟨j,i,c,r,h1,h2,uh h3,h4⟩
end
section
variable{m:Nat}{ow:Array (aj Nat)}
theorem P_:∀(fuel:Nat) (q:Nat×Nat),(∃L,L<fuel/\(ow.getD (oJ m L q).1 (some 0)).isNone=true)->∃j,SetTable.layClean.free m ow fuel q.1 q.2=some j/\(ow.getD j (some 0)).isNone=true
 |0,_,⟨_,h,_⟩=>cz h (Nat.not_lt_zero _)
 |fuel+1,q,⟨L,h1,h2⟩=>by
  unfold SetTable.layClean.free;cases e:(List.range (SetTable.runEnd m q.1+1 - q.1)).find? λk=>(ow.getD (q.1+k) (some 0)).isNone with
  |some k=>exact⟨_,rfl,(HC e :)⟩
  |none=>
   cases L with
   |zero=>exact cz h2 (Ms.mp e 0 (tG.mpr (by unfold SetTable.runEnd;split <;> lia)))
   |succ L=>exact P_ fuel _ ⟨L,by lia,h2⟩
structure rK (m k:Nat) (ow:Array (aj Nat)):Prop where
 sz:ow.size=m+1
 ct:ow.toList.countP Option.isSome=k
 lt:∀v,some v∈ow.toList->v<k
def Jv(mask:Nat)(ba:aj (Array (aj Nat)×Nat))(h:Int):aj (Array (aj Nat)×Nat):=do
 let (ow,k) <-ba
 let j <-SetTable.layClean.free mask ow (SetTable.turns mask) (SetTable.bits h%(mask+1)) (SetTable.bits h)
 pure (ow.setIfInBounds j (some k),k+1)
def rK.next{k:Nat}(I:rK m k ow)(hm:vP m)(hk:k<=m)(h:Int):∃Dv,Jv m (some (ow,k)) h=some (Dv,k+1)/\rK m (k+1) Dv:=by
 have hole:∃j,j<m+1/\ow[j]?=some none:=by
  apply HG;intro c;have:ow.toList.countP Option.isSome=ow.toList.length:=List.countP_eq_length.mpr λa ha=>by
   obtain⟨j,hj,e⟩:=List.getElem_of_mem ha;cases a with
   |some _=>rfl
   |none=>exact cz ⟨j,by rw[<-I.sz];simpa using hj,by rw[<-ui,iH hj,e]⟩ c
  rw[I.ct,zV,I.sz] at this;lia
 obtain⟨j0,hj0,e0⟩:=hole;obtain⟨L,h1,h2⟩:=P6 hm h (My hj0);obtain⟨j,g1,g2⟩:=P_ (m:=m) (ow:=ow) (SetTable.turns m) (zB m h) ⟨L,by unfold SetTable.turns;lia,by rw[h2,Array.getD_eq_getD_getElem?,e0];rfl⟩
 have ej:ow[j]?=some none:=by
  rw[Array.getD_eq_getD_getElem?] at g2;cases q:ow[j]? with
  |none=>rw[q] at g2;cases g2
  |some x=>rw[q] at g2;cases x with|none=>rfl|some _=>cases g2
 obtain⟨hj,ej⟩:=vM.mp ej;refine⟨ow.setIfInBounds j (some k),?_,by rw[Array.size_setIfInBounds,I.sz],?_,λv hv=>?_⟩
 .unfold Jv;show(SetTable.layClean.free m ow _ _ _).bind _=_;rw[g1];rfl
 .rw[Array.toList_setIfInBounds,List.countP_set (by simpa using hj),I.ct]
  simp[ej]
 .rw[Array.toList_setIfInBounds] at hv;rcases List.mem_or_eq_of_mem_set hv with z|z
  .exact uh (I.lt v z)
  .cases z;exact qH _
theorem OK(hm:vP m):∀(hs:List Int) {k:Nat} {ow:Array (aj Nat)},rK m k ow->k+hs.length<=m+1->∃Dv,hs.foldl (Jv m) (some (ow,k))=some (Dv,k+hs.length)/\rK m (k+hs.length) Dv
 |[],k,ow,I,_=>⟨ow,rfl,I⟩
 |h::hs,k,ow,I,hl=>by
  rw[kG] at hl;obtain⟨o1,e1,I1⟩:=I.next hm (by lia) h
  obtain⟨o2,e2,I2⟩:=OK hm hs I1 (by lia)
  rw[show k+1+hs.length=k+(h::hs).length by simp;lia] at e2 I2
  exact⟨o2,by rw[HA,e1,e2],I2⟩
def YB{fg mv:Nat}{ld pl:Bool}(hm:vP m)(es:Array (Int×ah))(hl:es.size<=m):
  ∃t order,SetTable.laid m fg mv ld pl (es.map (·.1))=some (t,order)/\(order.filterMap (es[·]?)).size=es.size/\(∀e,e∈(order.filterMap (es[·]?)).toList->e∈es.toList)/\t.mask=m/\t.dummies=#[]/\t.place.size=es.size:=by
 obtain⟨ow,e,I⟩:=OK hm (es.map (·.1)).toList (k:=0) (ow:=Array.replicate (m+1) none) ⟨Array.size_replicate,by simp,λv hv=>by simp at hv⟩ (by simp;lia)
 rw[show(es.map (·.1)).toList.length=es.size by simp,EB] at e I
 have el:SetTable.layClean m (es.map (·.1))=some ow:=by
  unfold SetTable.layClean;rw[<-Array.foldl_toList];have e:(es.map (·.1)).toList.foldl _ (some (Array.replicate (m+1) none,0))=_:=e
  erw [e]
  rfl
 have eo:ow.toList=(List.range (m+1)).map λj=>ow.getD j none:=by
  refine List.ext_getElem (by simp[I.sz]) λi h1 h2=>?_
  have h1:i<ow.size:=by simpa using h1
  rw[List.getElem_map,List.getElem_range,Array.getD_eq_getD_getElem?,qV h1];rfl
 generalize hL:(List.range (m+1)).filterMap (λj=>(ow.getD j none).map (j,·))=L
 have ln:L.length=es.size:=by
  rw[<-hL,List.length_filterMap_eq_countP,<-I.ct,eo,List.countP_map];refine List.countP_congr λx _=>?_
  simp
 have lt:∀p∈L,p.2<es.size:=λp hp=>by
  rw[<-hL] at hp;obtain⟨j,h1,h2⟩:=mT.mp hp;obtain⟨v,e1,e2⟩:=dm.mp h2;rw[<-e2];exact I.lt v (by rw[eo,<-e1];exact eW.mpr ⟨j,h1,rfl⟩)
 refine⟨⟨m,(L.map (·.1)).toArray,#[],fg,ld,mv,pl⟩,(L.map (·.2)).toArray,?_,?_,λe he=>?_,rfl,rfl,by simp[ln]⟩
 .unfold SetTable.laid;rw[el];rw[<-hL];rfl
 .rw[<-zV,Array.toList_filterMap,List.length_filterMap_eq_countP];rw[List.countP_eq_length.mpr]
  .simp[ln]
  .intro v hv;obtain⟨p,hp,rfl⟩:=eW.mp hv;simp[lt p hp]
 .rw[Array.toList_filterMap] at he;obtain⟨v,_,e2⟩:=mT.mp he;exact qI (by rw[ui];exact e2)
end
structure HU (P:dq) (w:cF) (A:cP) (E:ah->aq->Prop) (s:aq) (a:ai) (o:Obj) (es:Array (Int×ah)) (ep:Nat) (t:uj) (x:ah):Prop where
 ho:s.heap.get? a=some o
 hd:o.data=.set es ep t
 Cw:t.dummies=#[]
 sz:t.place.size=es.size
 mo:vP t.mask
 lt:es.size<t.mask
 rf:∀e,e∈es.toList->∃b,e.2=.ref b
 eqs:∀e,e∈es.toList->∀(R:Bool->aq->Prop),R false s->wpAny (model P w) A (eqBool e.2 x) R E s
 seen:∀(l:List ah),(∀y,y∈l->∃e,e∈es.toList/\e.2=y)->∀(R:Bool->aq->Prop),R false s->wpAny (model P w) A (searchCouldBeSeen x l) R E s
def YC{α:Type}{M:Model}{c:Prop}[Decidable c]{m:Sem Bool}{u r:Sem α}{Q:α->aq->Prop}(h1:∀(R:Bool->aq->Prop),R false s->wpAny M A m R E s)(h:wpAny M A r Q E s):
  wpAny M A (if c then m >>= λb=>if b=true then u else r else r) Q E s:=by
 split
 .exact ay (h1 _ (by rw[bc (by decide)];exact h))
 .exact h
section
variable{P:dq}{w:cF}{A:cP}{E:ah->aq->Prop}{s:aq}{a:ai}{o:Obj}{es:Array (Int×ah)}{ep:Nat}{t:uj}{x:ah}{h:Int}
def Jw{n:Nat}(d:t.dummies=#[])(z:t.place.size=n)(l:n<=t.mask):t.fits n=true:=by
 unfold SetTable.fits SetTable.fill;rw[d,z];simpa using l
def e3v(m:vP t.mask):t.gaveWay=false:=by
 unfold SetTable.gaveWay;rcases m with e|e <;> rw[e] <;> rfl
def Gu(S:HU P w A E s a o es ep t x){Q:(Array (Int×ah)×Nat×uj)->aq->Prop}(q:Q (es,ep,t) s):wpAny (model P w) A (setState a) Q E s:=wpAny_setState_of S.ho S.hd (Jw S.Cw S.sz (Eo S.lt)) q
theorem Nc(S:HU P w A E s a o es ep t x){R:SetFound->aq->Prop}(q:∀j,R (.free j false) s):∀(fuel d:Nat) (tf:aj SetTable.Probe) (p:SetTable.Probe),tf.getD (t.probeStart h)=p->d<fuel->d<10*SetTable.turns t.mask->p.dummy=none->t.slot (kz t d p).j=.empty->
  wpAny (model P w) A (setSearchFrom a x h true fuel tf) R E s
 |0,_,_,_,_,hf,_,_,_=>cz hf (Nat.not_lt_zero _)
 |fuel+1,d,tf,p,hs,hf,ht,hp,hh=>by
  show wpAny _ _ (setState a >>= _) _ _ _;refine ay (Gu S ?_);dsimp only;rw[e3v S.mo];simp only[lK,iC];rw[hs];rcases Ru S.Cw (ha:=λi=>(es[i]?.map (·.1)).getD 0) (h:=h) (10*SetTable.turns t.mask) d p ht hp hh with⟨j,g⟩|⟨j,i,c,r,g,sl,hc,hr,hz⟩
  .have g:t.probe (λi=>(es[i]?.map (·.1)).getD 0) h p=_:=g
   erw [g]
   exact aR (q j)
  .have g:t.probe (λi=>(es[i]?.map (·.1)).getD 0) h p=_:=g
   have hl:i<es.size:=by rw[<-S.sz];exact YA sl
   have ei:es[i]?=some es[i]:=qV hl;have he:es[i]∈es.toList:=Array.getElem_mem_toList hl;obtain⟨b,hb⟩:=S.rf _ he
   erw [g]
   dsimp only;refine YC (λR hR=>S.seen _ (λy hy=>?_) R hR) ?_
   .obtain⟨f,hf,rfl⟩:=eW.mp hy;have hf:f∈es/\f.1=h:=by simpa using hf
    exact⟨f,by simpa using hf.1,rfl⟩
   rw[ei];dsimp only;refine ay (jq (S.eqs _ he _ ?_));refine ay (Gu S ?_);dsimp only;simp only[Hw,lK,iC];rw[show t.sameMemory t.moves t.mask=some true by unfold SetTable.sameMemory;simp]
   dsimp only;rw[bx rfl,sl];dsimp only;rw[ei];dsimp only;rw[hb];refine ay (wpAny_isSame_ref_self (ay (aR ?_)));rw[bx rfl];dsimp only;exact Nc S q fuel c _ r rfl (by lia) (by lia) hr hz
def Q5{es':Array (Int×ah)}{t':uj}(ho:hp.get? a=some o)(hd:o.data=.set es ep t):(hp.update a (Obj.putSet es' t')).get? a=some { o with data:=.set es' (ep+1) t'}/\Heap.SameBut a hp (hp.update a (Obj.putSet es' t')):=by
 have z:=qJ (Obj.putSet es' t') ho (by rw[putSet_of es' t' hd];rfl)
 rw[putSet_of es' t' hd] at z;exact⟨z,Heap.SameBut.update _ a _⟩
abbrev xJ(t:uj)(n:Nat):Prop:=t.dummies=#[]/\t.place.size=n/\vP t.mask/\n*5<t.mask*3
def e3w(S:HU P w A E s a o es ep t x)(T:xJ t es.size)(h8:es.size<8)(hx:∃b,x=.ref b)(hv:∀(R:Bool->aq->Prop),(∀b,R b s)->wpAny (model P w) A (hashByValue 8 x) R E s)
  (q:∀(es':Array (Int×ah)) (lF:Nat) (t':uj),xJ t' es'.size->es'.size=es.size+1->(∀e,e∈es'.toList->e=(h,x)\/e∈es.toList)-> ∀h',Heap.SameBut a s.heap h'->h'.get? a=some { o with data:=.set es' lF t'}->Q true { s with heap:=h'}):wpAny (model P w) A (setAddHashed a x h) Q E s:=by
 obtain⟨b,rfl⟩:=hx;unfold setAddHashed setAddHashedIn;refine jq (ay (Gu S ?_));dsimp only;have hb:byScan (.ref b) es=false:=rfl;rw[hb];simp only[lK,iC];obtain⟨N,hN,hh⟩:=hole S.mo S.Cw (by rw[S.sz];exact Eo S.lt) h
 have hM:10*SetTable.turns t.mask<100000:=by unfold SetTable.turns;rcases S.mo with e|e <;> rw[e] <;> decide
 refine ay (Nc S (λj=>?_) 100000 N none _ rfl (by lia) hN rfl hh)
 dsimp only;refine ay (Gu S ?_);dsimp only;have ip:=SetTable.insertAt_perm es (t.put j).2 (h,Value.ref b);have p1:(t.put j).1.dummies=#[]/\(t.put j).1.place.size=es.size+1/\(t.put j).1.mask=t.mask:=by
  unfold SetTable.put;dsimp only;rw[yP S.Cw,<-S.sz];have:=(SetTable.insertAt_perm t.place (SetTable.below t.place j) j).length_eq;exact⟨S.Cw,by simpa using this,rfl⟩
 generalize t.put j=tp at *;obtain⟨t1,p⟩:=tp;dsimp only at *;have A6:(SetTable.insertAt es p (h,Value.ref b)).size=es.size+1:=by simpa using ip.length_eq
 have im:∀e,e∈(SetTable.insertAt es p (h,Value.ref b)).toList->e=(h,Value.ref b)\/e∈es.toList:=λe he=>by
  have:=ip.mem_iff.mp he;rw[Array.toList_push,dF,kH] at this;exact this.symm
 generalize SetTable.insertAt es p (h,Value.ref b)=t5 at *;have step:∀t2:uj,t2.dummies=#[]->t2.place.size=es.size+1->t2.mask=t.mask->wpAny (model P w) A (do
   storeSet a t5 t2
   if !false&&t2.tooFull then setRelay a (SetTable.grown (es.size+1))
   return true) Q E s:=by
  intro t2 d2 z2 m2;have k0:t5.size<=sizeLine:=by rw[sizeLine_eq];lia
  refine ay (wpAny_storeSet_of S.ho S.hd ?_ k0);obtain⟨g1,xg⟩:=Q5 (es':=t5) (t':=t2) S.ho S.hd;have fl:t2.tooFull=decide (t.mask*3<=(es.size+1)*5):=by unfold SetTable.tooFull SetTable.fill;rw[d2,z2,m2];rfl
  rw[fl];by_cases c:t.mask*3<=(es.size+1)*5
  .rw[qX c];simp only[lr,Bool.and_self,oS];have n4:es.size=4:=by rcases S.mo with e|e <;> have:=T.2.2.2 <;> lia
   obtain⟨t3,order,el,ez,em,e1,e2,e3⟩:=YB (m:=31) (fg:=t2.finger) (mv:=t2.movedTo 31) (ld:=t2.led) (pl:=t2.plain) (.inr rfl) t5 (by lia)
   refine ay ?_;unfold setRelay;refine ay (wpAny_setState_of g1 rfl (Jw d2 (z2.trans A6.symm) (by have:=S.lt;lia)) ?_)
   dsimp only;have er:t2.relaid (t5.map (·.1)) (SetTable.grown (es.size+1))=some (t3,order):=by
    unfold SetTable.relaid;rw[n4];exact el
   rw[er,bc (by rw[n4,sizeLine_eq];decide)]
   refine ay ?_;show wpAny _ _ (if(order.filterMap (t5[·]?)).size != t5.size then _ else pure (order.filterMap (t5[·]?),t3)) _ _ _
   rw[ez];simp only[bne_self_eq_false,lK,iC];generalize order.filterMap (t5[·]?)=RP at *
   refine aR ?_;dsimp only;refine wpAny_storeSet_of g1 rfl ?_ (by rw[ez];exact k0)
   obtain⟨g3,DI⟩:=Q5 (es':=RP) (t':=t3) g1 rfl;exact aR (q RP _ t3 ⟨e2,by rw[e3,ez],.inr e1,by rw[e1];lia⟩ (ez.trans A6) (λe he=>im e (em e he)) _ (xg.trans DI) g3)
  .rw[qK c];simp only[Hw,lK,iC];exact aR (q t5 _ t2 ⟨d2,by lia,by rw[m2];exact S.mo,by rw[m2];lia⟩ A6 im _ xg g1)
 split
 .refine ay (hv _ λb1=>?_)
  cases b1 with
  |true=>exact step t1 p1.1 p1.2.1 p1.2.2
  |false=>exact step { t1 with plain:=false} p1.1 p1.2.1 p1.2.2
 .exact ay (aR (step t1 p1.1 p1.2.1 p1.2.2))
end
section
variable{X:Cx}{aa:List (ai×Obj)}{Z:St}{H:Hp}
theorem Ja:∀{l:List TK} {ws:List V} {aE:List ah},l.all (TK.ok 0)=true->bf X.K H ws (TK.dl l)->Vals ws aE->∀v∈aE,(∀n,ofAClassStatement n v=pure false)/\∀n,∃b,hashByValue n v=pure b
 |[],_,_,_,r,rv,v,m=>by
  simp only[TK.dl] at r;cases r;cases rv;cases m
 |k::l,_,_,ok,r,rv,v,m=>by
  rw[qW,jD] at ok;simp only[TK.dl] at r;cases rv with
  |nil=>cases m
  |cons u us=>
   obtain⟨r1,r2⟩:=r.inv;rcases y0b.mp m with rfl|m
   .cases k with
    |tp l=>simp[TK.ok] at ok
    |_=>simp only[TK.d] at r1;cases r1.one with|flat q=>cases q;(first|obtain⟨t,rfl⟩:=u|cases u);exact⟨λn=>by cases n <;> rfl,λn=>⟨_,by cases n <;> rfl⟩⟩
   .exact Ja ok.2 r2 us v m
def P'(I:Inv X aa Z H s)(r:bf X.K H [.ref a] [TK.d (.tp l)])(ok:l.all (TK.ok 0)=true)(h:Q false s):wpAny (model X.prog X.w) A (ofAClassStatement 8 (.ref a)) Q E s:=by
 obtain⟨a0,ws,z0,q,i⟩:=ag.isTup r;cases z0;obtain⟨aE,rv,pl,_⟩:=I.tuple q;have fl:=Ja ok i rv;have hT:s.TypeIs (.ref a) "tuple":=pl.typeIs;obtain⟨o,g1,g2,nn,g3⟩:=pl;unfold ofAClassStatement;refine ay (wpAny_typeOf hT ?_);dsimp only;rw[bx (by decide)]
 refine ay (aR ?_);simp only[hV,lK,iC];refine ay (wpAny_seqItems g1 g3 (ay ?_));show wpAny _ _ (forIn aE.toArray _ _) _ _ s;rw[<-Mq];refine wpAny_forIn_list _ (λrest r s'=>r.1=none/\s'=s/\∀v∈rest,v∈aE) _ ?_ ?_ _ _ ⟨rfl,rfl,λv m=>m⟩
 .rintro v rest r s' ⟨hr,rfl,hm⟩;rw[(fl v (hm v (vK ..))).1];exact ay (aR (aR ⟨rfl,rfl,λv m=>hm v (n8 _ m)⟩))
 .rintro⟨r1,r2⟩ s' ⟨hr,rfl,_⟩;cases(show r1=none from hr);exact aR h
theorem YD(I:Inv X aa Z H s)(r:bf X.K H [.ref a] [TK.d (.tp l)])(ok:l.all (TK.ok 0)=true)(h:∀b,Q b s):wpAny (model X.prog X.w) A (hashByValue 8 (.ref a)) Q E s:=by
 obtain⟨a0,ws,z0,q,i⟩:=ag.isTup r;cases z0;obtain⟨aE,rv,pl,_⟩:=I.tuple q;have fl:=Ja ok i rv;have hT:s.TypeIs (.ref a) "tuple":=pl.typeIs;obtain⟨o,g1,g2,nn,g3⟩:=pl;show wpAny _ _ (specialOf (.ref a) "__hash__" >>= _) _ _ _;refine ay (wpAny_specialOf hT F.slot_tuple_hash.lookup ?_);dsimp only;refine ay (wpAny_seqItems g1 g3 (ay ?_));show wpAny _ _ (forIn aE.toArray _ _) _ _ s;rw[<-Mq];refine wpAny_forIn_list _ (λrest r s'=>s'=s/\∀v∈rest,v∈aE) _ ?_ ?_ _ _ ⟨rfl,λv m=>m⟩
 .rintro v rest r s' ⟨rfl,hm⟩;obtain⟨b,e⟩:=(fl v (hm v (vK ..))).2 7;rw[e];refine ay (aR ?_);cases b with
  |true=>exact aR ⟨rfl,λv m=>hm v (n8 _ m)⟩
  |false=>exact aR (aR (h _))
 .rintro⟨r1,r2⟩ s' ⟨rfl,_⟩;cases r1 <;> exact aR (h _)
structure ED (X:Cx) (H:Hp) (ks:List TK) (vs:List ah):Prop where
 len:vs.length=ks.length
 nd:ks.Nodup
 at_:∀(j:Nat) (k:TK),ks[j]?=some k->∃a l,vs[j]?=some (.ref a)/\bf X.K H [.ref a] [k.d]/\k=.tp l/\l.all (TK.ok 0)=true/\k.ok 8=true
def nI(es:Array (Int×ah))(ep:Nat)(t:uj):Obj:={ cls:=.type "set",dict:=none,data:=.set es ep t}
def lV(S:ai)(vs:List ah)(i:Nat)(hp:bT):Prop:=∃es ep t,hp.get? S=some (nI es ep t)/\xJ t es.size/\es.size=i/\∀e∈es.toList,∃j,j<i/\vs[j]?=some e.2
def YE{v:ah}(L:ED X H ks vs)(I:Inv X aa Z H s)(hu:A.units+9<cLine)(Zq:lV S vs i s.heap)(hi:i<8)
  (ev:vs[i]?=some v)  (q:∀(b:Bool) (h':bT) (t':Nat),Heap.SameBut S s.heap h'->lV S vs (i+1) h'->Q b { s with heap:=h',toks:=t'}):wpAny (model X.prog X.w) A (setAdd S v) Q E s:=by
 have key:∀(j:Nat) (u:ah),vs[j]?=some u->∃k a l,ks[j]?=some k/\u=.ref a/\bf X.K H [.ref a] [k.d]/\k=.tp l/\l.all (TK.ok 0)=true/\k.ok 8=true:=λj u e=>by
  have hj:=(fE.mp e).1;have ek:ks[j]?=some (ks[j]'(by rw[<-L.len];exact hj)):=iH _
  obtain⟨a,l,h1,h2,h3,h4,h5⟩:=L.at_ j _ ek;rw[e] at h1;cases h1;exact⟨_,a,l,ek,rfl,h2,h3,h4,h5⟩
 obtain⟨k,b,l,ek,rfl,rb,rfl,fl,ok⟩:=key i v ev;obtain⟨es,ep,t,g1,T,g4,g6⟩:=Zq;subst g4;unfold setAdd;refine jq (ay (IW 8 I rb ok rfl (by lia) λtk=>?_))
 have I':=I.tok tk;have lt:es.size<t.mask:=by have:=T.2.2.2;rcases T.2.2.1 with e|e <;> lia
 refine e3w (P:=X.prog) (w:=X.w) (s:={ s with toks:=tk}) (x:=.ref b) (o:=nI es ep t) ⟨g1,rfl,T.1,T.2.1,T.2.2.1,lt,λe he=>?_,λe he R hR=>?_,λst ko R hR=>?_⟩ T hi ⟨b,rfl⟩ (λR hR=>YD I' rb fl hR) λes' lF t' T' z' me h' sb gh=>q true h' tk sb ⟨es',lF,t',gh,T',z',λe he=>?_⟩
 .obtain⟨j,_,e1⟩:=g6 e he;obtain⟨_,a,_,_,e2,_⟩:=key j _ e1;exact⟨a,e2⟩
 .obtain⟨j,hj,e1⟩:=g6 e he;obtain⟨k',a,l',e2,e3,ra,_,_,oa⟩:=key j _ e1;rw[e3];refine(AF I' 8 8 ra rb (uE 8 oa) (uE 8 ok) rfl rfl (by lia)).1 X.prog X.w E R ?_
  rw[FV,qK λz=>?_]
  .exact hR
  .rw[z,<-ek] at e2;exact cz ((List.getElem?_inj (fE.mp ek).1 L.nd).mp e2.symm) (by lia)
 .unfold searchCouldBeSeen;refine ay (wpAny_forIn_list _ (λrest r s'=>r.1=none/\s'={ s with toks:=tk}/\∀y,y∈rest->∃e,e∈es.toList/\e.2=y) _ ?_ ?_ _ _ ⟨rfl,rfl,ko⟩)
  .rintro y rest r s' ⟨hr,rfl,hy⟩;obtain⟨e,he,rfl⟩:=hy _ (vK ..);obtain⟨j,hj,e1⟩:=g6 e he;obtain⟨k',a,l',e2,e3,ra,rfl,fa,oa⟩:=key j _ e1;have Ss:∀y,y∈rest->∃e,e∈es.toList/\e.2=y:=λy m=>hy y (n8 _ m)
   rw[e3];dsimp only;split
   .exact aR ⟨rfl,rfl,Ss⟩
   .refine ay (Fj 8 I' rb ok rfl ?_);simp only[hV,lK,iC];refine ay (Fj 8 I' ra oa rfl ?_);simp only[hV,lK,iC];refine ay (P' I' rb fl ?_);simp only[lK,iC];refine ay (P' I' ra fa ?_);simp only[lK,iC];exact aR ⟨rfl,rfl,Ss⟩
  .rintro⟨r1,r2⟩ s' ⟨hr,rfl,_⟩;cases(show r1=none from hr);exact aR hR
 .rcases me e he with z|z
  .exact⟨es.size,qH _,by rw[z];exact ev⟩
  .obtain⟨j,hj,e1⟩:=g6 e z;exact⟨j,uh hj,e1⟩
structure rH (z s:aq):Prop where
 eq:s={ z with heap:=s.heap,toks:=s.toks}
 keep:∀b u,z.heap.get? b=some u->s.heap.get? b=some u
def lV.move{AU:bT}(Zq:lV S vs i hp)(k:∀u,hp.get? S=some u->AU.get? S=some u):lV S vs i AU:=by
 obtain⟨es,ep,t,g,r⟩:=Zq;exact⟨es,ep,t,k _ g,r⟩
theorem Vb{R:Result->aq->Prop}{J l:ai}{z:aq}(L:ED X H ks vs)(I:Inv X aa Z H z)(hu:A.units+10<cLine)(hh:A.handled=none)(hn:vs.length<=8)(nS:z.heap.get? S=none)(nJ:z.heap.get? J=none)(Ko:S≠J)(hl:z.heap.IsList l vs.toArray)
  (fin:∀s,rH z s->lV S vs vs.length s.heap->R (.ok (.ret .none)) s) :
  ∀(d i:Nat) (s:aq),vs.length - i=d->i<=vs.length->rH z s->s.heap.IsListIter J l i->lV S vs i s.heap->codeAny (model X.prog X.w) A (.builtin "set.update.loop" ⟨[.ref S,.ref J],[]⟩) R s:=by
 intro d
 induction d with
 |zero=>
  intro i s hd hi g it Zq;have e:i=vs.length:=by lia
  subst e;refine codeAny_builtin F.entry_set_update_loop ?_;rw[Around.under_plainId F.plain_set_update_loop _];show wpAny _ A.in1 (pyNext (.ref J) >>= _) _ _ s;refine ay (wpAny_pyNext_list_end hh it (hl.at λo e=>g.keep _ _ e) (by simp) λh' GV=>?_)
  refine aR (fin _ ⟨by rw[g.eq],λb u e=>GV b u (λq=>by rw[q,nJ] at e;cases e) (g.keep b u e)⟩ (Zq.move λu e=>GV S u Ko e))
 |succ d ih=>
  intro i s hd hi g it Zq;have lt:i<vs.length:=by lia
  refine codeAny_builtin F.entry_set_update_loop ?_;rw[Around.under_plainId F.plain_set_update_loop _];show wpAny _ A.in1 (pyNext (.ref J) >>= _) _ _ s;refine ay (wpAny_pyNext_list_item it (hl.at λo e=>g.keep _ _ e) (x:=vs[i]) (by simp[lt]) λh' wD sb=>?_)
  have g':rH z { s with heap:=h'}:=⟨by rw[g.eq],λb u e=>(sb.extBut b u (λq=>by rw[q,nJ] at e;cases e) (g.keep b u e))⟩
  have I2:Inv X aa Z H { s with heap:=h'}:=by rw[g'.eq];exact I.kept g'.keep
  show wpAny _ A.in1 (holding [vs[i]] (setAdd S vs[i]) >>= _) _ _ _;refine ay (jq (YE L I2 (show A.in1.units+9<cLine from ?_) (Zq.move λu e=>sb.extBut S u Ko e) (by lia) (iH lt) λb h2 t2 s2 Z2=>?_))
  .have e:A.in1.units=A.units+1:=rfl;lia
  .refine aR ⟨plainId_quiet F.plain_set_update_loop _,ih (i+1) _ (by lia) lt ⟨by rw[g.eq],λb u e=>?_⟩ ?_ Z2⟩
   .rw[s2.2 b (λq=>by rw[q,nS] at e;cases e)]
    exact g'.keep b u e
   .exact wD.at λo e=>by rw[s2.2 J (Ne.symm Ko)];exact e
def OL{b:ai}(h:hp.objs.size<=b):hp.get? b=none:=by
 cases q:hp.get? b with
 |none=>rfl
 |some u=>exact cz (cQ q) (Nat.not_lt.mpr h)
def e3x:bootBuiltins "set"=some (.type "set"):=by decide +kernel
theorem Tc{l:ai}{Q:ah->aq->Prop}(L:ED X H ks vs)(I:Inv X aa Z H s)(hu:A.units+20<cLine)(hh:A.handled=none)(hn:vs.length<=8)(hl:s.heap.IsList l vs.toArray)
  (q:∀s',rH s s'->lV s.heap.objs.size vs vs.length s'.heap->Q (.ref s.heap.objs.size) s'):wpAny (model X.prog X.w) A (call (.type "set") [.ref l]) Q E s:=by
 obtain⟨c,tl,cm⟩:=F.called_set.mro;have ma:=F.called_set.made;have su:=F.called_set.sub;refine wpAny_call (codeAny_of_tree ?_);show wpAny _ _ (callAny (.type "set") _) _ _ _;refine aR ⟨Code.quiet_builtin _ (by decide +kernel),codeAny_builtin F.entry_type_call ?_⟩
 rw[Around.under_plain (weight_type_call_type "set" [.ref l] []) rfl];have h1:=F.called_set.notType;have h2:=F.called_set.canCreate;have h3:=F.typeCall_set_1 (.ref l)
 repeat (any_goals (first|assumption|wp_step))
 refine codeAny_mono (code_set_new_1 (.ref l) (E:=E) (Q₁:=λob z=>∃ld:Bool,ob=.ref s.heap.objs.size/\z={ s with heap:=s.heap.push (nI #[] 0 (.fresh 0 0 ld))}) λld=>⟨ld,rfl,rfl⟩) λr z hr=>?_
 cases r with
 |error e=>exact hr
 |ok fl=>
  cases fl with
  |ret ob=>
   obtain⟨ld,rfl,rfl⟩:=hr;have gS:(s.heap.push (nI #[] 0 (.fresh 0 0 ld))).get? s.heap.objs.size=some (nI #[] 0 (.fresh 0 0 ld)):=iZ _ rfl;have hT:Shared.TypeIs { s with heap:=s.heap.push (nI #[] 0 (.fresh 0 0 ld))} (.ref s.heap.objs.size) "set":=⟨_,gS,rfl⟩;have h4:=F.called_set.init.lookup;have h5:=F.called_set.init.bind (.ref s.heap.objs.size)
   repeat (any_goals (first|assumption|wp_step))
   refine codeAny_mono (codeAny_call_builtin (R:=wants (λr z=>r=.none/\rH s z/\lV s.heap.objs.size vs vs.length z.heap) E) F.called_set.init.plain F.entry_set_init (check_set_init_1 hT ?_)) λr z hr=>?_
   .have gl:(s.heap.push (nI #[] 0 (.fresh 0 0 ld))).IsList l vs.toArray:=hl.push _;obtain⟨ol,hol,qv,nl,R0⟩:=gl;obtain⟨ocls,odict,odata,oslots⟩:=ol;simp only at qv R0;subst qv;subst R0;have k1:=F.sub_list_set;have k2:=F.sub_list_frozenset;have k3:(Value.type "list" == Value.type "dict")=false:=by decide
    unfold Builtin.«set.__init__» noKeywords Builtin.Frozenset.updateFrom;unfold nI at *;generalize hPI:pyIter=PI
    wp_walk
    subst hPI;refine wpAny_pyIter_list ⟨_,hol,rfl,nl,rfl⟩ ?_;refine ay (wpAny_runValue ?_);have sz:(s.heap.push { cls:=.type "set",dict:=none,data:=.set #[] 0 (.fresh 0 0 ld)}).objs.size=s.heap.objs.size+1:=by simp[Heap.push]
    refine Vb (A:=A.in1.in1) (J:=(s.heap.push { cls:=.type "set",dict:=none,data:=.set #[] 0 (.fresh 0 0 ld)}).objs.size) L I ?_ (show A.in1.in1.handled=none from hh) hn (OL (bZ _)) (OL (by rw[sz];exact tI _)) (gH (by rw[sz];exact qH _)) hl (λz g Zq=>?_) (vs.length - 0) 0 _ rfl (kO _) ?_ ?_ ?_
    .simp only[Around.in1_units];lia
    .refine aR ?_;show wpAny _ _ (ret Value.none) _ _ _;exact aR ⟨rfl,g,Zq⟩
    .exact⟨rfl,λb u e=>cZ _ (cZ _ e)⟩
    .exact⟨_,iZ _ rfl,rfl,rfl⟩
    .exact⟨#[],0,_,cZ _ gS,⟨rfl,rfl,.inl rfl,by simp[SetTable.fresh]⟩,rfl,λe m=>by simp at m⟩
   .cases r with
    |error e=>exact hr
    |ok fl=>
     cases fl with
     |ret r=>
      obtain⟨rfl,g,Zq⟩:=hr
      repeat (any_goals (first|assumption|wp_step))
      exact q _ g Zq
     |_=>exact hr.elim
  |_=>exact hr.elim
def Qa(K:aJ):List V->Hp->VK->Prop:=λvs H Q=>∃a ws ks,vs=[.ref a]/\cW K H a ws/\bf K H ws (TK.dl ks)/\ks.Nodup/\ks.all (λk=>match k with|.tp l=>l.all (TK.ok 0)|_=>false)=true/\ks.length<=8/\Q (.int ks.length) H
def Vc{l:Expr}{ta:TA}(uZ:Gl X "len")(yT:X.mg "len"=none)(hg:Gl X "set")(hm:X.mg "set"=none)(ha:PA X [l] ta)(hc:X.calm=true)(hu:X.A.units+41<cLine)(hs:starEach [l] X.env=[(false,eval l X.env)])
  (qS:starEach [.Call (.Name "set" p1) [l] [] nH] X.env=[(false,eval (.Call (.Name "set" p1) [l] [] nH) X.env)]):PE X (.Call (.Name "len" p) [.Call (.Name "set" p1) [l] [] nH] [] pos) (LR (Qa X.K) ta):=by
 intro aa s Z H Q I h;refine Call_ (tR I uZ yT rZ (PyProof.Rows.callWith_builtin1 ?_ qS rfl));rw[qS];show wpAny _ _ (spliced ((false,eval (.Call (.Name "set" p1) [l] [] nH) X.env)::[])) _ _ s;refine Calls.spliced_cons (Call_ (tR I hg hm e3x (PyProof.Rows.callWith_type1 (bM (ha nH aa s Z H _ I h) λus s1 ⟨vs,H1,I1,r1,q1⟩=>?_) hs rfl)))
 obtain⟨a,ws,ks,e,hq,rk,nd,ok,hn,q⟩:=q1;subst e;obtain⟨u,rfl,ru⟩:=vals1 r1;cases ru;obtain⟨aE,rv,pl,hz⟩:=I1.list hq;rw[AG] at rk;have hl:aE.length=ks.length:=by have:=rk.length;have:=rv.length;simp at *;lia
 have L:ED X H1 ks aE:=⟨hl,nd,λj k e=>by
  obtain⟨y,h1,h2⟩:=rk.get (i:=j) (d:=k.d) (by rw[f9,e];rfl)
  obtain⟨u,u1,u2⟩:=BI j rv h1;have o:=jZ.mp ok k (qI e);cases k with
  |tp l=>
   obtain⟨a,ws,rfl,q,i⟩:=ag.isTup h2;cases u2;exact⟨a,l,u1,.tup q i .nil,rfl,o,by
    simp only[TK.ok,jZ] at o ⊢;exact λx m=>by cases x <;> first|rfl|(have:=o _ m;simp[TK.ok] at this)⟩
  |_=>cases o⟩
 refine Tc L I1 (by lia) (I1.ok.hd hc) (by rw[hl];exact hn) pl.isList λs' g ⟨es,ep,t,g1,T,g4,_⟩=>Calls.spliced_nil ?_
 refine call_len_set g1 ⟨rfl,rfl,rfl⟩ rfl (Jw T.1 T.2.1 (by have:=T.2.2.2;lia)) (by lia) ?_
 rw[g4,hl];have I2:Inv X aa Z H1 s':=by rw[g.eq];exact I1.kept g.keep
 exact⟨.int ks.length,H1,I2.tok _,⟨_,rfl⟩,q⟩
end
def nA:D->aj Rv
 |.lst l=>(jO l).bind λks=>if ks.Nodup/\ks.all (λk=>match k with|.tp l=>l.all (TK.ok 0)|_=>false)=true/\ks.length<=8 then some (rd (.int ks.length)) else none
 |_=>none
section
variable{X:Cx}{K:aJ}{W:XW}{q:Nat}
def YF:bV K (Qa K) (o1 nA):=qT λk H x a y Q le t e res=>by
 unfold nA at e;split at e
 .obtain⟨ks,q1,e⟩:=cy.mp e;split at e
  .rename_i hn
   cases e;obtain⟨p,ws,rfl,s,r⟩:=t.lst le;have el:=mG q1;refine⟨p,ws,ks,rfl,s,?_,hn.1,hn.2.1,hn.2.2,res.flat le rfl⟩;rw[el];refine Top.Lg (n:=8) r le ?_;rw[<-el,AG,Bb,jZ];intro k m;have o:=jZ.mp hn.2.1 k m;refine uE 8 ?_;cases k with
   |tp l=>
    simp only[TK.ok,jZ] at o ⊢;exact λx m=>by cases x <;> first|rfl|(have:=o _ m;simp[TK.ok] at this)
   |_=>cases o
  .cases e
 .cases e
def xLS{l:Expr}{fs:GA}(yT:X.mg "len"=none)(hm:X.mg "set"=none)(ha:PA X [l] (gG K W q fs))(hu:X.A.units+41<cLine)(hc:X.calm=true)(hK:X.K=K)(uZ:Gl X "len")(hg:Gl X "set")(hs:starEach [l] X.env=[(false,eval l X.env)])
  (qS:starEach [.Call (.Name "set" p1) [l] [] nH] X.env=[(false,eval (.Call (.Name "set" p1) [l] [] nH) X.env)]):PE X (.Call (.Name "len" p) [.Call (.Name "set" p1) [l] [] nH] [] pos) (tE K W q (gO (o1 nA) fs)):=by
 subst hK;exact(Vc uZ yT hg hm ha hc hu hs qS).mono λ_ _ _ t=>tY YF t
end
end L2
namespace L2
open PySem PySem.Spec PySem.W PyProof.Rows
end L2
namespace L2
open PySem Lean Meta
def Zz:List Name:=[``yG,``uT,``Cv,``yH,``wL,``wS,``wE,``wP,``wA,``wAI,``wAD,``wX,``wY,``wF,``r9,``xv,``xi,``xs,``xb,``xn,``xty,``xk,``xki,``xo,``Mh,``xc,``xix,``xsl,``xd,``xj,``jn,``jc,``xB,``xT,``xM,``xU,``xf,``xC,``xN,``xH,``xH0,``xLV,``xL,``yF,``yE,``r6,``uQ,``Ct,``Cu,``yD,``zz,``zc,``yC,``PW.pt,``Cz,``yJ,``yI,``yc,``ych,``yt,``ya1,``yo1,``yn,``y1,``uS,``uR,``sY,``vp,``pgn,``pgt,``sW,``vn,``vy,``zS,``tD,``vA,``sA,``LD,``sEn,``sI,``sR1,``sRT,``Ma,``Me,``Mc,``Ej,``Mb,``Md,``Wj,``Wq,``Wo,``Wn,``Wk,``Wl,``JV,``Wm,``JU,``K1,``K0,``KZ,``K2,``C_,``y8,``C9,``C8,``zj,``Dg,``vF,``vG,``vH,``Ee,``rZ,``o9,``PyProof.Rows.Boot.min,``PyProof.Rows.Boot.sum,``wM,``wN,``y0,``Dw,``cC.le,``qE,``vk,``vm,``y9,``xLS]
def Zy(tg N du:Lean.Expr):MetaM Lean.Expr:=do
 let nm (e:Lean.Expr):=e.getArg! 0
 let ts:=if tg.isAppOf ``Expr.Name then[nm tg] else((tg.getArg! 0).listLit?.map (·.2.map nm)).getD []
 let ns:=(((<-whnf N).listLit?).map (·.2)).getD []
 let cs:=((du.listLit?.map (·.2)).getD []).map λi=>ns.getD ((i.nat?).getD 0) (mkNatLit 0)
 mkListLit (mkConst ``Str) (ts++cs)
def l6{α:Type}(f:α->MetaM Bool):List α->MetaM Bool
 |[]=>return false
 |x::l=>do if <-f x then return true else l6 f l
def Cy:Nat->MVarId->MetaM Unit
 |0,_=>failure
 |n+1,g0=>do
  let (_,g) <-g0.intros
  g.withContext do
  let t:=(<-instantiateMVars (<-g.getType)).cleanupAnnotations.headBeta
  let run (s:MetaM Syntax):MetaM Bool:=do
   let st <-saveState
   try
    let (gs,_) <-Lean.Elab.runTactic g (<-s)
    unless gs.isEmpty do failure
    return true
   catch _=>st.restore;return false
  let use (fix:Lean.Expr->MetaM Unit) (f:Lean.Expr):MetaM Bool:=do
   let s <-saveState
   try
    let y <-whnfR (<-inferType f)
    unless y.getForallBody.getAppFn.constName? == t.getAppFn.constName? do failure
    let (ms,_,ty) <-forallMetaTelescope y
    unless <-isDefEq ty t do failure
    let each (h:Lean.Expr->MetaM Unit):=l6 (λm=>do
     unless <-m.mvarId!.isAssigned do h m
     return false) ms.toList
    discard <| each fix
    discard <| each λm=>do if <-isProp (<-inferType m) then Cy n m.mvarId!
    g.assign (mkAppN f ms)
    return true
   catch _=>s.restore;return false
  let tF:=use λ_=>pure ()
  let c:=t.getAppFn.constName?.getD .anonymous
  if c == ``Eq then
   let l:=t.appFn!.appArg!
   if l.isAppOf ``A1 || l.isAppOf ``gA then
    if <-run `(tactic| kernel_rfl) then return
   if <-(try g.refl;pure true catch _=>pure false) then return
  let env <-getEnv
  if c == ``d_ then
   if <-l6 (λd=>if d.isImplementationDetail then return false else tF d.toExpr) ((<-getLCtx).decls.toList.filterMap id) then return
   if <-l6 (l6 λ(k,i)=>do
    if k.getPrefix == `Carry&&(<-whnfR i.type).getForallBody.isAppOf ``d_ then tF (<-mkConstWithFreshMVarLevels k) else return false) [env.constants.map₂.toList,env.constants.map₁.toList] then return
   failure
  if <-l6 (λd=>do
   if d.isImplementationDetail then return false
   if <-tF d.toExpr then return true
   let some s:=d.type.getAppFn.constName?|return false
   unless isStructure env s&&s.getPrefix == `Carry do return false
   l6 (λf=>do tF (<-mkProjection d.toExpr f)) (getStructureFields env s).toList) ((<-getLCtx).decls.toList.filterMap id) then return
  if <-l6 (λr=>do
   let f <-mkConstWithFreshMVarLevels r
   if r == ``wX then
    l6 (λj=>use (λm=>do if(<-inferType m).isConstOf ``Nat then m.mvarId!.assign (mkNatLit j)) f) (List.range 12)
   else if r == ``xL || r == ``wL then
    use (λm=>do
     if(<-instantiateMVars (<-inferType m)).isAppOf ``List then
      let some lc:=t.find? (·.isAppOf ``Expr.ListComp)|failure
      let some gc:=t.find? (·.isAppOf ``bO)|failure
      let some co:=((lc.getArg! 1).listLit?.bind (·.2.head?))|failure
      m.mvarId!.assign (<-Zy (co.getArg! 0) (<-mkAppM ``Cx.N #[t.getArg! 0]) gc.appArg!)) f
   else tF f) Zz then return
  unless <-run `(tactic| first|rfl|exact Or.inl rfl|exact Or.inr rfl|exact Or.inr (Or.inl rfl)|exact Or.inr (Or.inr rfl)|decide|(intro _ _;rfl)|with_unfolding_all rfl) do failure
def Rl:Nat->Lean.Expr->MetaM (List Lean.Expr)
 |0,_=>failure
 |n+1,e=>do
  let a:=(<-whnf e).getAppArgs
  if a.size<3 then return []
  return (<-whnfCore a[1]!)::(<-Rl n a[2]!)
simproc_decl dv (i_ _ _ _):=λe=>do
 let a:=e.getAppArgs
 let b <-withDefault (whnf a[1]!)
 let N <-mkListLit (mkConst ``Str) (<-withDefault (Rl 99 (a[0]!.getArg! 6)))
 let m <-mkFreshExprMVar (mkApp3 e.getAppFn (mkAppN a[0]!.getAppFn (a[0]!.getAppArgs.set! 6 N)) b a[2]!)
 withDefault (Cy 200 m.mvarId!)
 return .done { expr:=mkConst ``True,proof?:=<-mkEqTrue (<-mkExpectedTypeHint (<-instantiateMVars m) e)}
end L2
namespace L2
open PySem PySem.Spec PyProof.Rows
variable{K:aJ}{C:aj ai}{x:Str}{f:ai}{st:Stmt}
noncomputable def fA (K:aJ) (C:aj ai) (x:Str):ai:=Classical.epsilon λf=>C.elim (PySem.W.nsIn K mainGlobals x) (λC=>PySem.W.findIn K (.ref C) x)=some (some (.ref f))
noncomputable def fF (K:aJ) (f:ai):lu:=Classical.epsilon λd=>∃oc od pH,K.lookup f=some ⟨oc,od,.func d,pH⟩
abbrev zA(st:Stmt):List Str:=(Au st).args.map (·.arg)
abbrev Lb(st:Stmt):List Str:=((qm st).names.filter λp=>p.2.casesOn true true false false false).map (·.1)
abbrev Df(K:aJ)(mg:Str->aj ah)(x:Str)(st:Stmt):Prop:=vO K mg x st (fA K none x) (fF K (fA K none x)) (zA st)
abbrev Mf(K:aJ)(C:ai)(x y:Str)(st:Stmt):Prop:=MethAt K C x y st (fA K (some C) x) (fF K (fA K (some C) x)) (zA st)
def CC{A:Type}{p:A->Prop}(a:A)(h:p a)(u:∀b,p b->a=b):@Classical.epsilon A ⟨a⟩ p=a:=(u _ (@Classical.epsilon_spec_aux A ⟨a⟩ p ⟨a,h⟩)).symm
def JZ(a:C.elim (PySem.W.nsIn K mainGlobals x) (λC=>PySem.W.findIn K (.ref C) x)=some (some (.ref f))):fA K C x=f:=CC f a λb e=>by cases a.symm.trans e;rfl
def Rw{y:Str}{fd:lu}(F:tN K x y st f fd):fF K f=fd:=by
 obtain⟨oc,od,_,_,_,_,_,_,pH,_,l,_⟩:=F.ex;exact CC fd ⟨oc,od,pH,l⟩ λb ⟨_,_,_,e⟩=>by cases l.symm.trans e;rfl
seal fA fF
abbrev HR(Tx:aJ->(Str->aj ah)->Prop)(C:aj ai)(x:Str)(st:Stmt)(k p:Nat)(M:Nat->GM):Prop:=∀{P:dq} {w:cF} {K:aJ} {mg:Str->aj ah} {base:bT} (T:Tx K mg) (q:Nat),d_ P w K mg base (mV P w) k (fA K C x) (fF K (fA K C x)) (zA st) (tO K q p (M q))
def cH{Tx:aJ->(Str->aj ah)->Prop}{k p n:Nat}{qual:Str}{m:Nat->GS}(F:∀{K:aJ} {mg:Str->aj ah},Tx K mg->tN K x qual st (fA K C x) (fF K (fA K C x)))(N:List Str:=Lb st)
  (hb:∀{P:dq} {w:cF} {K:aJ} {mg:Str->aj ah} {base:bT} (T:Tx K mg) (q:Nat) (gR:ah) (A:cP) (outer:List Env) (s:aq) (H:Hp) (E:XK),cC k (A.deeper (envOfC qual (qm st) s.heap.objs.size (fA K C x) gR))->(A.deeper (envOfC qual (qm st) s.heap.objs.size (fA K C x) gR)).units+41<cLine->i_ (lX (mV P w) P w K mg base N qual (qm st) (fA K C x) gR A outer s H E) (x_ st) (tS K (WF E) q (m q)):=by intros;simp only[dv])
  (S:iM N (zA st) (qm st):=by exact Kb) (hp:(zA st).length=p:=by rfl) (hn:N.length=n:=by rfl):HR Tx C x st (k+1) p (aX p n m):=λT q=>ζ (F T) S hp hn λgR A outer s H E hr=>hb T q gR A outer s H E hr (Yx hr)
end L2
namespace L2
open PySem PySem.Spec PySem.W PyProof.Rows
section
variable{K:fX}{mg:Str->aj ah}{h:bT}{x y:Str}{st:Stmt}{f C:ai}{fd:lu}{ps:List Str}
abbrev Q6(x y:Str)(st:Stmt)(ps:List Str):Prop:=∀(kV doc pm:ah) (an:aj ai) (gR ct:ah) (us:List ah),us.length=ps.length->bindArgs (PySem.W.fnOf x y (Au st) (x_ st) (qm st) .none kV doc pm an gR ct) ⟨us,[]⟩=pure (ps.zip us)
def dM(X:K.In h)(G:h.Ns mainGlobals mg)(a:nsIn K mainGlobals x=some (some (.ref f)))(F:tN K x x st f fd)(b:Q6 x x st (zA st)):Df K mg x st:=by
 unfold Df;rw[JZ (C:=none) a,Rw F];exact⟨F,mg_of X G a,F.binds b⟩
def mM(a:findIn K (.ref C) x=some (some (.ref f)))(n:isFn K (.ref f)=true)(F:tN K x y st f fd)(b:Q6 x y st (zA st)):Mf K C x y st:=by
 unfold Mf;rw[JZ (C:=some C) a,Rw F];exact⟨F,⟨a,n,F.kp⟩,F.binds b⟩
def mK(m:makesIn K C=true)(a:findIn K (.ref C) "__init__"=some (some (.ref f)))(n:isFn K (.ref f)=true)(k:keepIn K (.ref C)=true):Mk K C (fA K (some C) "__init__"):=by
 rw[JZ (C:=some C) a];exact⟨m,a,n,k⟩
def kM{v:Tok->ah}{t:Tok}(X:K.In h)(G:h.Ns mainGlobals mg)(a:nsIn K mainGlobals x=some (some (v t))):∃t,mg x=some (v t):=⟨t,mg_of X G a⟩
end
end L2
namespace L2
abbrev ak(x:D):aj Val:=some (.d x)
abbrev bJ(x:PySem.Str):aj Val:=some (.d (.str x))
abbrev cq(x:Int):aj Val:=some (.d (.int x))
abbrev aH(n:Nat):aj Val:=some (.c n)
abbrev dR(x:PySem.Str):Val:=.d (.str x)
abbrev aO(x:Int):Val:=.d (.int x)
abbrev bQ:aj Val:=some (.d (.ref 0))
abbrev eD:Val:=.d (.ref 0)
end L2
namespace Carry
open PySem L2
structure aw where
 name:Str
 long:Int
 ring:Bool
 outs:List Str
structure aF where
 af:List aw
 carts:List Str
noncomputable def mh(xs:List Str)(k:Nat)(y:Str):List Str:=xs.take k++y::xs.drop k
theorem FC(xs:List Str)(k:Nat)(y:Str):(mh xs k y).length=xs.length+1:=by
 unfold mh;rw[dU,kG,xr,A_];lia
theorem ky{xs:List Str}{k:Nat}{y z:Str}:z∈mh xs k y↔z=y\/z∈xs:=by
 unfold mh;rw[dF,y0b];constructor
 .rintro(h|h|h)
  .exact .inr (List.mem_of_mem_take h)
  .exact .inl h
  .exact .inr (List.mem_of_mem_drop h)
 .rintro(h|h)
  .exact .inr (.inl h)
  .rw[<-List.take_append_drop k xs,dF] at h;rcases h with h|h
   .exact .inl h
   .exact .inr (.inr h)
seal PE PA PT PS i_
noncomputable def top(i:Nat):Stmt:=PySem.Challenge.pw_carry_k68_whole_one_place_each.main.body.getD i (.Pass ⟨0,0,0,0⟩)
noncomputable abbrev jh:List (Str×ai):=[("NoName",44),("NoSize",56),("NoOut",68),("NoHand",80),("NoMoment",92),("NoFlight",104),("NoBelt",116),("NoRoom",128),("NoBag",140)]
abbrev cHall:ai:=454
noncomputable abbrev atrs:List (ai×Str):=[(cHall,"built"),(cHall,"told_rounds"),(cHall,"now"),(cHall,"book"),(cHall,"halts"),(cHall,"places"),(cHall,"readings"),(cHall,"rounded"),(cHall,"gone"),(cHall,"carted")]
structure Txt (K:aJ) (mg:Str->aj ah):Prop where
 p7:Df K mg "is_name" (top 15)
 kS:Df K mg "right_house" (top 17)
 kQ:Df K mg "check_carts" (top 18)
 kP:Df K mg "check_belts" (top 19)
 m_:Df K mg "take_name" (top 20)
 lP:Df K mg "check_outs" (top 21)
 lO:Df K mg "check_hand" (top 22)
 lL:Df K mg "belt_names" (top 23)
 qg:Df K mg "reached" (top 24)
 pZ:Df K mg "belt_of" (top 25)
 Bi:Df K mg "far" (top 27)
 qZ:Df K mg "begins" (top 28)
 Bh:Df K mg "arm" (top 29)
 rG:Df K mg "wanted" (top 31)
 lM:Df K mg "busy_belts" (top 32)
 oq:Df K mg "off_belt" (top 33)
 xE:Df K mg "turn" (top 34)
 jG:Df K mg "stand_stopped" (top 35)
 i7:Df K mg "stand_yielding" (top 36)
 j9:Df K mg "stand_behind" (top 37)
 q8:Df K mg "copied" (top 40)
 jE:Df K mg "check_closing" (top 41)
 rA:Df K mg "_law_cell" (top 43)
 qa:Df K mg "_law_digit" (top 44)
 rE:Df K mg "_law_pick" (top 45)
 qe:Df K mg "_law_other" (top 46)
 qf:Df K mg "_law_third" (top 47)
 rC:Df K mg "_law_name" (top 48)
 rD:Df K mg "_law_outs" (top 49)
 qc:Df K mg "_law_house" (top 50)
 jF:Df K mg "_law_flight_name" (top 51)
 lT:Df K mg "_law_bag_name" (top 52)
 m9:Df K mg "_law_closing" (top 53)
 p_:Df K mg "_law_deeds" (top 54)
 rq:Df K mg "_law_call" (top 55)
 rB:Df K mg "_law_done" (top 56)
 qb:Df K mg "_law_goals" (top 57)
 kR:Df K mg "_law_all_there" (top 58)
 qd:Df K mg "_law_moved" (top 59)
 j8:Df K mg "_law_turn_holds" (top 60)
 rF:Df K mg "law" (top 61)
 q_:Mf K cHall "__init__" "Hall.__init__" (jt (top 39) 0)
 oi:Mf K cHall "flight" "Hall.flight" (jt (top 39) 1)
 oh:Mf K cHall "change" "Hall.change" (jt (top 39) 2)
 lQ:Mf K cHall "call_off" "Hall.call_off" (jt (top 39) 3)
 uq:Mf K cHall "put" "Hall.put" (jt (top 39) 4)
 rj:Mf K cHall "read" "Hall.read" (jt (top 39) 5)
 rm:Mf K cHall "stop" "Hall.stop" (jt (top 39) 6)
 p5:Mf K cHall "start" "Hall.start" (jt (top 39) 7)
 i5:Mf K cHall "check_flight" "Hall.check_flight" (jt (top 39) 8)
 j7:Mf K cHall "check_belt" "Hall.check_belt" (jt (top 39) 9)
 i6:Mf K cHall "check_inside" "Hall.check_inside" (jt (top 39) 10)
 p4:Mf K cHall "house" "Hall.house" (jt (top 39) 11)
 oo:Mf K cHall "rounds" "Hall.rounds" (jt (top 39) 12)
 om:Mf K cHall "moment" "Hall.moment" (jt (top 39) 13)
 m6:Mf K cHall "flights" "Hall.flights" (jt (top 39) 14)
 m8:Mf K cHall "stopped" "Hall.stopped" (jt (top 39) 15)
 q9:Mf K cHall "bags" "Hall.bags" (jt (top 39) 16)
 uo:Mf K cHall "out" "Hall.out" (jt (top 39) 17)
 p6:Mf K cHall "where" "Hall.where" (jt (top 39) 19)
 mY:Mf K cHall "cart_of" "Hall.cart_of" (jt (top 39) 20)
 mZ:Mf K cHall "catches" "Hall.catches" (jt (top 39) 21)
 lR:Mf K cHall "in_order" "Hall.in_order" (jt (top 39) 22)
 rh:Mf K cHall "move" "Hall.move" (jt (top 39) 23)
 m7:Mf K cHall "move_on" "Hall.move_on" (jt (top 39) 24)
 lS:Mf K cHall "move_out" "Hall.move_out" (jt (top 39) 25)
 C_Hall:Cls K cHall
 Mk_Hall:Mk K cHall (fA K (some cHall) "__init__")
 mg_Hall:mg "Hall"=some (.ref cHall)
 atr:j5 K atrs
 er:pY K mg jh 31
 b_len:mg "len"=none
 b_isinstance:mg "isinstance"=none
 b_int:mg "int"=none
 b_bool:mg "bool"=none
 b_str:mg "str"=none
 b_list:mg "list"=none
 b_tuple:mg "tuple"=none
 b_range:mg "range"=none
 b_enumerate:mg "enumerate"=none
 b_reversed:mg "reversed"=none
 b_all:mg "all"=none
 b_sorted:mg "sorted"=none
 b_dict:mg "dict"=none
 b_min:mg "min"=none
 b_set:mg "set"=none
 c_LETTERS:∃t,mg "LETTERS"=some (.str "abcdefghijklmnopqrstuvwxyz" t)
 c_MOST_LETTERS:∃t,mg "MOST_LETTERS"=some (.int 8 t)
abbrev OD(x:Str)(i:Nat):=HR Txt none x (top i)
abbrev OM(x:Str)(i:Nat):=HR Txt (some cHall) x (jt (top 39) i)
def E4(n1:Nat):GE:=(bK kA 0 (gC (.str "abcdefghijklmnopqrstuvwxyz")))
def BK(q:Nat):GS:=(oH (cG (fP (cV (gO (o2 jk) (cv 0 (gC (.ty "str")))))) (aB (gC (.bl false)))) (cG (fP (gB (Gg G5 G5 (gI 1) (gO (o1 eS) (bq 0)) (gC (.int 8))))) (aB (gC (.bl false)))) (aB (gO (o1 (Cd zC)) (bq (bO q (bu false dY 0) 0 (λ_=>fD true) E4 1 [])))))
def nR:=aX 1 1 BK
theorem d9y:OD "is_name" 15 1 1 nR:=cH (λT=>T.p7.fn)
def MP(n1:Nat):GE:=(gX 0 (gI 0))
def M1(q:Nat):GS:=(cN (aB (bO q (bu false dY 0) 0 (λ_=>fD true) MP 1 [])))
def tQ:=aX 1 1 M1
theorem d0e:OD "belt_names" 23 1 1 tQ:=cH (λT=>T.lL.fn)
def Ah(n1:Nat):GS:=(cN (cG (gQ f6 (gX 2 (gI 0)) 1) (aB (aZ true (kj (gX 2 (gI 0)) (gX 2 (gI 1)) (gX 2 (gI 2)) (gO (o1 ku) (bq (gX 2 (gI 3)))))))))
def NZ(q:Nat):GS:=(iS (bN q (bu true dY (gX 0 (gI 0))) 2 Ah) (aB (gC .aM)))
def xY:=aX 2 3 NZ
theorem d9z:OD "belt_of" 25 1 2 xY:=cH (λT=>T.pZ.fn)
def Iy(n2:Nat):GT:=(gQ kA 0 1)
def Iz(n2:Nat):GE:=(gX 1 0)
def Ak(n1:Nat):GS:=(iS (au 7 false (bO n1 (bu false dY 6) 0 Iy Iz 1 [2])) (cG (cV 7) (cx n1 (bK bB 4 (gO (o1 (o8 iy)) (bq 7))) 2 3)))
def ON(q:Nat):GS:=(oH (au 2 true (ph (Ax [(1,(gI 0))]))) (bN q (bu true zJ (gX 0 (gI 0))) (a_ [3,4,5,6]) Ak) (aB 2))
def BQ:=aX 2 8 ON
theorem e3z:OD "begins" 28 1 2 BQ:=cH (λT=>T.qZ.fn)
def Ad(n1:Nat):GS:=(iS (au 8 false (gX 1 4)) (gY (gQ kA (gX 6 (gI 0)) 2) (cN (cx n1 (aZ true (cv (gC (.str "stopped")) (gX 6 (gI 0)))) 3 4)) (cN (cG (cX (cV (gO (o2 jk) (cv 8 (gC (.ty "tuple"))))) (gQ kA (gX 8 (gI 0)) 2)) (cx n1 (aZ true (cv (gC (.str "stopped")) (gX 8 (gI 0)))) 3 4)))))
def MM(q:Nat):GS:=(cN (bN q (bu true dY 0) (a_ [4,5,6,7]) Ad))
def EN:=aX 4 9 MM
theorem c1y:OD "stand_stopped" 35 1 4 EN:=cH (λT=>T.jG.fn)
def HX(n1:Nat):GT:=(cX (gQ jl (gX 0 (gI 0)) 1) (cV (gO (o2 jk) (cv (gX 2 (gX 0 (gI 0))) (gC (.ty "tuple"))))))
noncomputable def HY(n1:Nat):GE:=0
def Bq(n1:Nat):GS:=(iS (au 9 false (gX 1 5)) (cG (jK (gQ jl 9 4) (gQ f6 (gX 7 (gI 0)) (gX 9 (gI 0)))) (cx n1 5 4 9)))
def Br(n1:Nat):GS:=(iS (au 10 false (gX 4 (gX 1 5))) (cG (gQ wR 10 5) (cx n1 (aZ true (cv (gC (.str "yields")) 10)) 2 5)))
def MI(q:Nat):GS:=(t6 (au 3 false (bO q (bu false dY 0) 0 HX HY 1 [2,1])) (au 4 true o5) (bN q (bu true dY 3) (a_ [5,6,7,8]) Bq) (bN q (bu true dY 3) (a_ [5,6,7,8]) Br))
def EK:=aX 3 11 MI
theorem c1l:OD "stand_yielding" 36 1 3 EK:=cH (λT=>T.i7.fn)
def Bs(n1:Nat):GS:=(cN (cx n1 4 3 6))
def xP(n1:Nat):GS:=(iS (au 9 false (Ge "dict" (o2 pk) 3 (bq (gX 1 4)))) (gY (cX (gQ jl 4 2) (gQ kA 9 2)) (iS (cx n1 (aZ true (cv (gC (.str "behind")) 9)) 2 4) (au 8 false (gC (.bl true)))) ny))
def EL(q:Nat):GS:=(iS (au 8 false (gC (.bl false))) (bN q (bu true dY 1) 4 xP))
def MQ(q:Nat):GS:=(t6 (au 3 true o5) (bN q (bu true dY 0) (a_ [4,5,6,7]) Bs) (au 8 false (gC (.bl true))) (c_ (cV 8) (EL q) 1000))
def ES:=aX 3 10 MQ
theorem c5v:OD "stand_behind" 37 1 3 ES:=cH (λT=>T.j9.fn)
def MN(q:Nat):GS:=(cN (cG (gQ pL 0 (gI 0)) (nU 92 (gC (.str "a flight closes at a moment from 0 on")))))
def Bt:=aX 1 1 MN
theorem c1z:OD "check_closing" 41 1 1 Bt:=cH (λT=>T.jE.fn)
def Jb(q:Nat):GS:=(iS (cG (gQ pL 1 (gO (o1 eS) (bq 0))) (aB (gX 0 1))) (aB (gI 0)))
def oZ:=aX 2 2 Jb
theorem e4a:OD "_law_cell" 43 1 2 oZ:=cH (λT=>T.rA.fn)
def E5(n1:Nat):GT:=(gQ f6 (gX 0 (gI 0)) (gX 1 (gI 0)))
def E6(n1:Nat):GE:=0
def Im(n1:Nat):GE:=(yM (gQ kA 0 (gX 1 (gI 1))) 0 (aZ true (cv 0 (gI 0))))
def N0(q:Nat):GS:=(nv (au 2 false (gX (bO q (bu false dY (gX 0 (gI 0))) 0 E5 E6 1 [1]) (gI 0))) (cG (gQ pL (bK bB (gX 1 (gI 1)) (gI 1)) (gX 2 (gI 1))) (aB (aZ false (cv 1 (aZ true (cv (gX 2 (gI 0)) (bK bB (gX 1 (gI 1)) (gI 1)))))))) (au 3 true (bO q (bu false dY (gX 2 (gI 3))) 0 (λ_=>fD true) Im 1 [0])) (cG (cV (gX 2 (gI 2))) (dr (fU q "list" rV 3 (bq (aZ true (cv (gX 2 (gI 0)) (gI 0))))))) (aB (bK bB (aZ false (bq 1)) 3)))
def Fo:=aX 2 4 N0
theorem e0a:OD "_law_goals" 57 1 2 Fo:=cH (λT=>T.qb.fn) (N:=["_law_house_here","_law_place","_law_belt","_law_goals_here"])
def Nv(q:Nat):GS:=(cN (aB (bj atrs "told_rounds" 0)))
def Fd:=aX 1 1 Nv
theorem d7q:OM "rounds" 12 1 1 Fd:=cH (λT=>T.oo.fn)
def Nw(q:Nat):GS:=(cN (aB (bj atrs "now" 0)))
def BE:=aX 1 1 Nw
theorem d7r:OM "moment" 13 1 1 BE:=cH (λT=>T.om.fn)
noncomputable def eP (n1:Nat):GE:=(gX (bj atrs "book" 1) 0)
noncomputable def jz (q:Nat):GS:=(cN (aB (bO q (bu false dY (gO (o1 pR) (bq (bj atrs "book" 0)))) 0 (λ_=>fD true) eP 1 [0])))
noncomputable def eF:=aX 1 1 jz
theorem d3f:OM "flights" 14 1 1 eF:=cH (λT=>T.m6.fn)
def Qb(q:Nat):GS:=(cN (aB (gO (o1 ku) (bq (bj atrs "gone" 0)))))
def Ay:=aX 1 1 Qb
theorem e7d:OM "out" 17 1 1 Ay:=cH (λT=>T.uo.fn)
def M3(q:Nat):GS:=(nv (dr (fU q "dict" jy (bj atrs "places" 0) (bq 1))) (dr (fU q "dict" jy (bj atrs "readings" 0) (bq 1))) (dr (fU q "dict" jy (bj atrs "rounded" 0) (bq 1))) (cx q 2 (bj atrs "carted" 0) 1) (dr (fU q "list" rV (bj atrs "gone" 0) (bq (aZ true (eI 1 2 (bj atrs "now" 0)))))))
def Bw:=aX 3 3 M3
theorem d0f:OM "move_out" 25 1 3 Bw:=cH (λT=>T.lS.fn)
def Nd(q:Nat):GS:=(iS (cG (jK (fP (cV (av (nR q) (bq 0)))) (gQ kA 0 1)) (nU 44 (gC (.str "a belt or a cart has no name, or one that is taken")))) (cx q (gC (.bl true)) 1 0))
def Ai:=aX 2 2 Nd
theorem d3g:OD "take_name" 20 2 2 Ai:=cH (λT=>T.m_.fn)
def Bu(n2:Nat):GS:=(iS (cG (gQ jl 7 6) (nU 68 (yf (mL (gC (.str "belt ")) (mL (gO (o1 l5) (bq 4)) (mL (gC (.str " has an out that is no cart, no belt behind it, or there twice")) kl)))))) (dr (fU n2 "list" F0 6 (bq 7))))
def ET(n1:Nat):GS:=(nv (au 4 false (gX 3 (gI 0))) (au 5 false (yM (cV (gO (o2 jk) (cv (gX 3 (gI 3)) (gC (.ty "list"))))) (gX 3 (gI 3)) (aZ false gN))) (au 6 true (bK bB (av (tQ n1) (bq (uJ 0 (v7 (bK bB 2 (gI 1))) v5))) 1)) (bN n1 (bu true dY 5) 7 Bu) (cG (fP (cV 5)) (nU 68 (yf (mL (gC (.str "belt ")) (mL (gO (o1 l5) (bq 4)) (mL (gC (.str " has no outs")) kl)))))))
def M4(q:Nat):GS:=(cN (bN q (bu true J9 0) (a_ [2,3]) ET))
def EY:=aX 2 8 M4
theorem d0g:OD "check_outs" 21 2 2 EY:=cH (λT=>T.lP.fn)
def Bz(n2:Nat):GS:=(cN (cx n2 (gC (.bl true)) 2 7))
def Aj(n1:Nat):GS:=(cN (cG (jK (gQ f6 3 1) (gQ kA 3 2)) (bN n1 (bu true dY 6) 7 Bz)))
def Io(n1:Nat):GT:=(gQ kA 0 1)
noncomputable def Ip(n1:Nat):GE:=0
def N1(q:Nat):GS:=(oH (au 2 true o5) (bN q (bu true dY (gX 0 (gI 0))) (a_ [3,4,5,6]) Aj) (aB (bO q (bu false dY (bK bB (av (tQ q) (bq (gX 0 (gI 0)))) (gX 0 (gI 1)))) 0 Io Ip 1 [2])))
def Fp:=aX 2 8 N1
theorem e0b:OD "reached" 24 2 2 Fp:=cH (λT=>T.qg.fn) (N:=["house","belt","found","name","long","ring","outs","out"])
def Rx(q:Nat):GS:=(oH (au 3 false (av (BQ q) (cv 0 2))) (cG (gQ jl (gX 1 (gI 0)) 3) (aB (gC .aM))) (aB (bK qr (gX 3 (gX 1 (gI 0))) (gX 1 (gI 1)))))
def Gv:=aX 3 4 Rx
theorem e8u:OD "far" 27 2 3 Gv:=cH (λT=>T.Bi.fn)
def B4(n1:Nat):GS:=(cN (cG (cX (gQ kA 5 3) (jK (gQ Hg 4 (gC .aM)) (gQ pL (gX 3 5) (gX 3 4)))) (au 4 false 5)))
def Ry(q:Nat):GS:=(t6 (au 3 false (av (BQ q) (cv 0 2))) (au 4 false (gC .aM)) (bN q (bu true dY (gX (av (xY q) (cv 0 1)) (gI 3))) 5 B4) (aB 4))
def Gw:=aX 3 6 Ry
theorem e8v:OD "arm" 29 2 3 Gw:=cH (λT=>T.Bh.fn)
def IA(n1:Nat):GE:=(av (xY n1) (cv 1 0))
def OO(q:Nat):GS:=(iS (au 1 false (bO q (bu false dY (av (tQ q) (bq (gX 0 (gI 0))))) 0 (λ_=>fD true) IA 1 [0])) (aB (aZ true (cv 1 (gO (o1 ku) (bq (gX 0 (gI 1))))))))
def BR:=aX 1 2 OO
theorem e4d:OD "copied" 40 2 1 BR:=cH (λT=>T.q8.fn)
def IL(q:Nat):GS:=(t6 (au 4 false (av (oZ q) (cv 0 1))) (cG (gQ f6 (bK ir (av (oZ q) (cv 0 (gI 0))) (gI 2)) (gI 1)) (aB (bK ir (bK ir (bK rX 4 (gX (aZ false (mJ (gI 2) (kj (gI 128) (gI 8192) (gI 524288) (gI 33554432)))) 2)) (gI 64)) 3))) (au 5 false (bK ir (bK jI (bK bB (bK bB (bK bB (bK ir 4 (gI 1000003)) (bK jI 1 1)) (bK jI (gI 1009) 2)) (gI 7)) (gI 48271)) (gI 999983))) (aB (bK ir (bK ir (bK jI (bK bB (bK bB 5 (bK jI (gI 5) 1)) 2) (bK bB (gI 69621) (bK jI (gI 2) 2))) (gI 1000033)) 3)))
def iF:=aX 4 6 IL
theorem e0c:OD "_law_digit" 44 2 4 iF:=cH (λT=>T.qa.fn)
def Nx(q:Nat):GS:=(t6 (cG (jK (fP (cV (av (nR q) (bq 1)))) (gQ kA 1 (bj atrs "book" 0))) (nU 44 (gC (.str "a flight has no name, or one that another flight has")))) (cG (gQ jl 2 (uJ (gX (bj atrs "built" 0) (gI 1)) (v7 (gI 1)) v5)) (nU 68 (gC (.str "a flight's cart is none of the house, or the hand")))) (dr (av (Bt q) (bq 3))) (cx q (aZ true (eI 1 2 3)) (bj atrs "book" 0) 1))
def Fe:=aX 4 4 Nx
theorem d7s:OM "flight" 1 2 4 Fe:=cH (λT=>T.oi.fn)
def MJ(q:Nat):GS:=(cN (cG (jK (fP (cV (av (nR q) (bq 1)))) (gQ jl 1 (bj atrs "book" 0))) (nU 104 (gC (.str "no flight is called so")))))
def xQ:=aX 2 2 MJ
theorem c1m:OM "check_flight" 8 2 2 xQ:=cH (λT=>T.i5.fn)
def MR(q:Nat):GS:=(cN (cG (gQ jl 1 (av (tQ q) (bq (gX (bj atrs "built" 0) (gI 0))))) (nU 116 (gC (.str "no belt is called so")))))
def Af:=aX 2 2 MR
theorem c5x:OM "check_belt" 9 2 2 Af:=cH (λT=>T.j7.fn)
def HZ(q:Nat):GS:=(cN (cG (jK (fP (cV (av (nR q) (bq 1)))) (gQ jl 1 (bj atrs "places" 0))) (nU 140 (gC (.str "no bag in the house is called so")))))
def vS:=aX 2 2 HZ
theorem c1n:OM "check_inside" 10 2 2 vS:=cH (λT=>T.i6.fn)
def Ie(n1:Nat):GT:=(gQ kA 0 (bj atrs "halts" 1))
noncomputable def Ih(n1:Nat):GE:=0
def Nf(q:Nat):GS:=(cN (aB (bO q (bu false dY (av (tQ q) (bq (gX (bj atrs "built" 0) (gI 0))))) 0 Ie Ih 1 [0])))
def BA:=aX 1 1 Nf
theorem d3h:OM "stopped" 15 2 1 BA:=cH (λT=>T.m8.fn)
def H9(n1:Nat):GE:=(aZ true (eI (Ge "list" (o2 ji) 2 (bq (gX 1 (gI 0)))) (gX 1 (gI 1)) 0))
def H_(n1:Nat):GE:=(gX 0 (gI 2))
def Ii(q:Nat):GS:=(oH (au 1 false (av (tQ q) (bq (gX (bj atrs "built" 0) (gI 0))))) (au 2 false (bO q (bu false u_ (bj atrs "places" 0)) (a_ [0,1]) (λ_=>fD true) H9 2 [1])) (aB (bO q (bu false dY (gO (o1 pQ) (bq 2))) 0 (λ_=>fD true) H_ 1 [])))
def By:=aX 1 3 Ii
theorem d0j:OM "in_order" 22 2 1 By:=cH (λT=>T.lR.fn)
def Iq(q:Nat):GS:=(t6 (au 3 false (gX (bj atrs "places" 0) 1)) (au 4 false (av (xY q) (cv (bj atrs "built" 0) (gX 3 (gI 0))))) (cG (cX (cV (gX 4 (gI 2))) (cX (gQ f6 3 (aZ true (cv (gX 4 (gI 0)) (bK qr (gX 4 (gI 1)) (gI 1))))) (gQ f6 2 (aZ true (cv (gX 4 (gI 0)) (gI 0)))))) (JK q C2 (bj atrs "rounded" 0) 1 (gI 1))) (cx q 2 (bj atrs "places" 0) 1))
def vU:=aX 3 5 Iq
theorem d3i:OM "move_on" 24 2 3 vU:=cH (λT=>T.m7.fn)
def EO(n1:Nat):GS:=(cN (dr (av (Ai n1) (cv 2 1))))
def MV(q:Nat):GS:=(iS (bN q (bu true dY 0) 2 EO) (cG (fP (cV 0)) (nU 80 (gC (.str "a house has a cart at least, the hand")))))
def EU:=aX 2 3 MV
theorem c7t:OD "check_carts" 18 3 2 EU:=cH (λT=>T.kQ.fn)
def ER(n1:Nat):GS:=(oH (dr (av (Ai n1) (cv 2 1))) (au 6 false (yM (cV 4) (gI 2) (gI 1))) (cG (gQ pL 3 6) (nU 56 (yf (mL (gC (.str "belt ")) (mL (gO (o1 l5) (bq 2)) (mL (gC (.str " has fewer than ")) (mL (gO (o1 l5) (bq 6)) (mL (gC (.str " cells")) kl)))))))))
def MW(q:Nat):GS:=(cN (bN q (bu true dY 0) (a_ [2,3,4,5]) ER))
def EV:=aX 2 7 MW
theorem c7u:OD "check_belts" 19 3 2 EV:=cH (λT=>T.kP.fn)
def Ia(n1:Nat):GS:=(cN (cG (gQ jl 1 (av (Fp n1) (cv 0 2))) (nU 80 (yf (mL (gC (.str "the hand can not be come to from belt ")) (mL (gO (o1 l5) (bq 2)) kl))))))
def M5(q:Nat):GS:=(iS (au 1 false (gX (gX 0 (gI 1)) (gI 0))) (bN q (bu true dY (av (tQ q) (bq (gX 0 (gI 0))))) 2 Ia))
def EZ:=aX 1 3 M5
theorem d0k:OD "check_hand" 22 3 1 EZ:=cH (λT=>T.lO.fn)
def BF(q:Nat):GS:=(t6 (au 4 false (av (Gw q) (eI 0 (gX 1 (gI 0)) 2))) (cG (gQ kA 4 (gX 0 (gI 1))) (aB 4)) (cG (cX (cV (gX 1 (gI 2))) (gQ kA 4 3)) (aB (aZ true (cv (gX 1 (gI 0)) (gI 0))))) (aB (aZ true (cv 4 (gI 0)))))
def qO:=aX 4 5 BF
theorem d7t:OD "off_belt" 33 3 4 qO:=cH (λT=>T.oq.fn)
def OP(q:Nat):GS:=(cN (aB (av (iF q) (kj 0 1 (gI 0) 2))))
def kX:=aX 3 3 OP
theorem e4e:OD "_law_pick" 45 3 3 kX:=cH (λT=>T.rE.fn)
def N2(q:Nat):GS:=(cN (aB (av (iF q) (kj 0 1 (gI 1) 2))))
def jS:=aX 3 3 N2
theorem e0d:OD "_law_other" 46 3 3 jS:=cH (λT=>T.qe.fn)
def N3(q:Nat):GS:=(cN (aB (av (iF q) (kj 0 1 (gI 2) 2))))
def nc:=aX 3 3 N3
theorem e0e:OD "_law_third" 47 3 3 nc:=cH (λT=>T.qf.fn)
def Ny(q:Nat):GS:=(oH (dr (aW cHall "check_flight" (xQ q) 0 (bq 1))) (dr (av (Bt q) (bq 2))) (cx q (aZ true (eI 1 (gX (gX (bj atrs "book" 0) 1) (gI 1)) 2)) (bj atrs "book" 0) 1))
def Ff:=aX 3 3 Ny
theorem d7u:OM "change" 2 3 3 Ff:=cH (λT=>T.oh.fn)
def Bv(n1:Nat):GS:=(cN (cG (gQ f6 (gX (bj atrs "readings" 0) 2) 1) (cx n1 (gC .aM) (bj atrs "readings" 0) 2)))
def M6(q:Nat):GS:=(oH (dr (aW cHall "check_flight" (xQ q) 0 (bq 1))) (dr (fU q "dict" jy (bj atrs "book" 0) (bq 1))) (bN q (bu true dY (gO (o1 ku) (bq (bj atrs "readings" 0)))) 2 Bv))
def E0:=aX 2 3 M6
theorem d0l:OM "call_off" 3 3 2 E0:=cH (λT=>T.lQ.fn)
def Az(q:Nat):GS:=(eG (dr (aW cHall "check_belt" (Af q) 0 (bq 3))) (nv (au 4 false (aZ true (cv 3 (gI 0)))) (cG (gQ kA 4 (gO (o1 pT) (bq (bj atrs "places" 0)))) (nU 128 (yf (mL (gC (.str "cell 0 of belt ")) (mL (gO (o1 l5) (bq 3)) (mL (gC (.str " has a bag")) kl)))))) (cx q 4 (bj atrs "places" 0) 1) (cx q 2 (bj atrs "readings" 0) 1) (cx q (gI 0) (bj atrs "rounded" 0) 1)))
def uF(rest:GS)(q:Nat):GS:=(eG (cG (jK (fP (cV (av (nR q) (bq 1)))) (jK (gQ kA 1 (bj atrs "places" 0)) (gQ kA 1 (bj atrs "carted" 0)))) (nU 44 (gC (.str "a bag has no name, or one that a bag of this hall has or had")))) (eG (cG (gQ Dx 2 (gC .aM)) (dr (aW cHall "check_flight" (xQ q) 0 (bq 2)))) rest))
def B5(q:Nat):GS:=(uF (Az q) q)
def vY:=aX 4 5 B5
theorem e7e:OM "put" 4 3 4 vY:=cH (λT=>T.uq.fn)
def OQ(q:Nat):GS:=(oH (dr (aW cHall "check_inside" (vS q) 0 (bq 1))) (dr (aW cHall "check_flight" (xQ q) 0 (bq 2))) (cx q 2 (bj atrs "readings" 0) 1))
def FD:=aX 3 3 OQ
theorem e4f:OM "read" 5 3 3 FD:=cH (λT=>T.rj.fn)
def Jc(q:Nat):GS:=(iS (dr (aW cHall "check_belt" (Af q) 0 (bq 1))) (cx q (gC (.bl true)) (bj atrs "halts" 0) 1))
def BS:=aX 2 2 Jc
theorem e4g:OM "stop" 6 3 2 BS:=cH (λT=>T.rm.fn)
def IM(q:Nat):GS:=(iS (dr (aW cHall "check_belt" (Af q) 0 (bq 1))) (cG (gQ kA 1 (bj atrs "halts" 0)) (dr (fU q "dict" jy (bj atrs "halts" 0) (bq 1)))))
def Al:=aX 2 2 IM
theorem e0f:OM "start" 7 3 2 Al:=cH (λT=>T.p5.fn)
def N4(q:Nat):GS:=(cN (aB (av (BR q) (bq (bj atrs "built" 0)))))
def Fq:=aX 1 1 N4
theorem e0g:OM "house" 11 3 1 Fq:=cH (λT=>T.p4.fn)
def IB(n1:Nat):GE:=(aZ true (kj 0 (gX (bj atrs "readings" 1) 0) (gX (bj atrs "places" 1) 0) (gX (bj atrs "rounded" 1) 0)))
def OR(q:Nat):GS:=(cN (aB (bO q (bu false dY (aW cHall "in_order" (By q) 0 gN)) 0 (λ_=>fD true) IB 1 [0])))
def rS:=aX 1 1 OR
theorem e4h:OM "bags" 16 3 1 rS:=cH (λT=>T.q9.fn)
def IP(q:Nat):GS:=(oH (cG (cX (cV (av (nR q) (bq 1))) (gQ kA 1 (bj atrs "carted" 0))) (aB (gX (bj atrs "carted" 0) 1))) (dr (aW cHall "check_inside" (vS q) 0 (bq 1))) (aB (gX (bj atrs "places" 0) 1)))
def uA:=aX 2 2 IP
theorem e0h:OM "where" 19 3 2 uA:=cH (λT=>T.p6.fn)
def Ng(q:Nat):GS:=(t6 (cG (gQ Hg (gX (bj atrs "readings" 0) 1) (gC .aM)) (aB (gC (.bl false)))) (au 2 false (gX (bj atrs "book" 0) (gX (bj atrs "readings" 0) 1))) (au 3 false (av (Gv q) (eI (bj atrs "built" 0) (gX (bj atrs "places" 0) 1) (gX 2 (gI 1))))) (aB (yL (bK Dx 3 (gC .aM)) (bK qLe (bK bB (bj atrs "now" 0) 3) (gX 2 (gI 2))))))
def E7:=aX 2 4 Ng
theorem d3j:OM "catches" 21 3 2 E7:=cH (λT=>T.mZ.fn)
def xX(n1:Nat):GS:=(cN (gY (cV (gO (o2 jk) (cv 3 (gC (.ty "tuple"))))) (cN (dr (aW cHall "move_on" (vU n1) 0 (cv 2 3)))) (cN (dr (aW cHall "move_out" (Bw n1) 0 (cv 2 3))))))
def OS(q:Nat):GS:=(iS (JJ q C2 atrs "now" 0 (gI 1)) (bN q (bu true dY 1) (a_ [2,3]) xX))
def FE:=aX 2 4 OS
theorem e4i:OM "move" 23 3 2 FE:=cH (λT=>T.rh.fn)
def MX(q:Nat):GS:=(eG (au 1 false (gX 0 (gI 0))) (eG (au 2 false (gX 0 (gI 1))) (eG (au 3 true o5) (nv (dr (av (EU q) (cv 2 3))) (dr (av (EV q) (cv 1 3))) (dr (av (EY q) (cv 1 2))) (dr (av (EZ q) (bq 0))) (aB (gC (.bl true)))))))
def EX:=aX 1 4 MX
theorem c7v:OD "right_house" 17 4 1 EX:=cH (λT=>T.kS.fn)
def Ib(n1:Nat):GT:=(gQ f6 (gX (gX 0 (gI 2)) (gI 1)) (gI 0))
def Ic(n1:Nat):GE:=(gX (gX 0 (gI 2)) (gI 0))
def M7(q:Nat):GS:=(cN (aB (bK bB (aW cHall "stopped" (BA q) 0 gN) (bO q (bu false dY (aW cHall "bags" (rS q) 0 gN)) 0 Ib Ic 1 []))))
def E1:=aX 1 1 M7
theorem d0m:OD "busy_belts" 32 4 1 E1:=cH (λT=>T.lM.fn)
def Jd(q:Nat):GS:=(eG (au 3 false (gC (.str "abcdefghijklmnopqrstuvwxyz"))) (eG (au 4 false (av (kX q) (eI 0 1 (gI 26)))) (nv (cG (gQ f6 (av (jS q) (eI 0 1 (gI 3))) (gI 0)) (aB (bK jI (gX 3 (bK ir (bK bB 4 (bK rX 2 (gI 8))) (gI 26))) (bK bB (gI 1) (bK ir 2 (gI 8)))))) (au 5 false (bK bB (gI 1) (av (nc q) (eI 0 1 (gI 8))))) (au 6 false (av (jS q) (eI 0 1 5))) (au 7 false (gX 3 (av (iF q) (kj 0 1 (gI 3) (gI 26))))) (aB (bK bB (bK bB (bK jI 7 6) (gX 3 (bK ir (bK bB (bK jI (gI 7) 2) 4) (gI 26)))) (bK jI 7 (bK qr (bK qr 5 (gI 1)) 6)))))))
def qP:=aX 3 8 Jd
theorem e4j:OD "_law_name" 48 4 3 qP:=cH (λT=>T.rC.fn)
def uy(n1:Nat):GS:=(iS (au 9 false (gX 5 (av (iF n1) (kj 0 (bK bB (gI 6) 1) (bK bB (gI 1) 8) (gO (o1 eS) (bq 5)))))) (cG (gQ jl 9 6) (dr (fU n1 "list" B3 6 (cv (bK ir (bK ir (bK rX 7 (gX (aZ false (eI (gI 1) (gI 4) (gI 16))) 8)) (gI 4)) (bK bB (gO (o1 eS) (bq 6)) (gI 1))) 9)))))
def IC(n1:Nat):GT:=(gQ kA 0 1)
noncomputable def ID(n1:Nat):GE:=0
def FF(q:Nat):GS:=(eG (au 4 false (uJ 2 (v7 (bK bB 1 (gI 1))) v5)) (eG (au 5 false (bK bB 4 3)) (nv (au 6 true (aZ false gN)) (au 7 false (av (nc q) (eI 0 (bK bB (gI 1) 1) (gI 64)))) (bN q (kh oO (bq (bK bB (gI 1) (av (kX q) (eI 0 (bK bB (gI 6) 1) (gI 3)))))) 8 uy) (cG (cX (gQ jl (gX 3 (gI 0)) 6) (gQ f6 (gO (o1 eS) (bq (bO q (bu false dY 6) 0 IC ID 1 [4]))) (gI 0))) (dr (fU q "list" B3 6 (cv (av (iF q) (kj 0 (bK bB (gI 1) 1) (gI 3) (bK bB (gO (o1 eS) (bq 6)) (gI 1)))) (gX 3 (gI 0)))))) (aB 6))))
def qo:=aX 4 10 FF
theorem e4k:OD "_law_outs" 49 4 4 qo:=cH (λT=>T.rD.fn) (N:=["_law_script","_law_k","_law_names","_law_carts","_law_later","_law_some","_law_outs_here","_law_spots","_law_j","_law_out"])
def E8(q:Nat):GS:=(t6 (au 2 false (av (kX q) (eI 0 (bK bB 1 (gI 1)) (gI 10)))) (cG (gQ f6 2 (gI 0)) (aB (bK qr (gO (o1 vh) (bq (gI 1))) (bK ir (av (oZ q) (cv 0 1)) (bK Ck (gI 10) (gI 8)))))) (cG (gQ f6 2 (gI 1)) (aB (bK ir (av (oZ q) (cv 0 1)) (bK Ck (gI 10) (gI 9))))) (aB (av (iF q) (kj 0 (bK bB 1 (gI 1)) (gI 3) (gI 30)))))
def vV:=aX 2 3 E8
theorem d3k:OD "_law_closing" 53 4 2 vV:=cH (λT=>T.m9.fn)
def uB(q:Nat):GS:=(cN (gY (gQ f6 (gX 1 (gI 0)) (gC (.str "flight"))) (cN (dr (aW cHall "flight" (Fe q) 0 (eI (gX 1 (gI 1)) (gX 1 (gI 2)) (gX 1 (gI 3)))))) (cN (gY (gQ f6 (gX 1 (gI 0)) (gC (.str "change"))) (cN (dr (aW cHall "change" (Ff q) 0 (cv (gX 1 (gI 1)) (gX 1 (gI 2)))))) (cN (gY (gQ f6 (gX 1 (gI 0)) (gC (.str "off"))) (cN (dr (aW cHall "call_off" (E0 q) 0 (bq (gX 1 (gI 1)))))) (cN (gY (gQ f6 (gX 1 (gI 0)) (gC (.str "put"))) (cN (cG (gQ pL (gO (o1 eS) (bq (aW cHall "bags" (rS q) 0 gN))) (gI 8)) (dr (aW cHall "put" (vY q) 0 (eI (gX 1 (gI 1)) (gX 1 (gI 2)) (gX 1 (gI 3))))))) (cN (gY (gQ f6 (gX 1 (gI 0)) (gC (.str "read"))) (cN (dr (aW cHall "read" (FD q) 0 (cv (gX 1 (gI 1)) (gX 1 (gI 2)))))) (cN (gY (gQ f6 (gX 1 (gI 0)) (gC (.str "stop"))) (cN (dr (aW cHall "stop" (BS q) 0 (bq (gX 1 (gI 1)))))) (cN (cG (gQ f6 (gX 1 (gI 0)) (gC (.str "start"))) (dr (aW cHall "start" (Al q) 0 (bq (gX 1 (gI 1)))))))))))))))))))
def rT:=aX 2 2 uB
theorem e4l:OD "_law_call" 55 4 2 rT:=cH (λT=>T.rq.fn)
noncomputable def dw (n1:Nat):GE:=(aZ true (cv (gX 0 (gI 0)) (gX 0 (gI 2))))
noncomputable def dy (n1:Nat):GE:=(aZ true (cv (gX 0 (gI 0)) (gX 0 (gI 1))))
noncomputable def dz (n1:Nat):GE:=(gX 0 (gI 0))
noncomputable def bP (n1:Nat):GS:=(cN (cG (gQ wR (aW cHall "where" (uA n1) 0 (bq 6)) 7) (aB (gC (.bl false)))))
noncomputable def dA (n1:Nat):GE:=(gX 0 (gI 1))
noncomputable def dD (n2:Nat):GT:=(cX (gQ f6 (gX 0 (gI 0)) (gX 1 (gI 0))) (gB (Gg G5 Sg (gI 0) (gX 1 (gI 1)) (gX 0 (gI 1)))))
noncomputable def dB (n2:Nat):GE:=(gX 0 (gI 0))
noncomputable def cg (n1:Nat):GS:=(cN (cG (gQ wR (bO n1 (bu false dY (gX 1 (gI 0))) 0 dD dB 1 [9]) (aZ false (bq (gX 9 (gI 0))))) (aB (gC (.bl false)))))
noncomputable def dC (n1:Nat):GE:=(bK kA (gX 0 (gI 1)) (gX 1 (gI 1)))
noncomputable def ib (q:Nat):GS:=(eG (au 3 false (bO q (bu false dY (aW cHall "bags" (rS q) 0 gN)) 0 (λ_=>fD true) dw 1 [])) (eG (au 4 false (bO q (bu false dY (aW cHall "out" (Ay q) 0 gN)) 0 (λ_=>fD true) dy 1 [])) (eG (au 5 false (bK bB 3 4)) (nv (cG (gQ wR (gO (o1 nK) (bq (bO q (bu false dY 5) 0 (λ_=>fD true) dz 1 []))) (gO (o1 nK) (bq 2))) (aB (gC (.bl false)))) (bN q (bu true dY 5) (a_ [6,7]) bP) (au 8 false (bO q (bu false dY 3) 0 (λ_=>fD true) dA 1 [])) (bN q (bu true dY 8) 9 cg) (aB (yL (bK f6 (gO (o1 nA) (bq 8)) (gO (o1 eS) (bq 8))) (gO (o1 (Cd zC)) (bq (bO q (bu false dY 4) 0 (λ_=>fD true) dC 1 [1])))))))))
noncomputable def cJ:=aX 3 10 ib
theorem c7w:OD "_law_all_there" 58 4 3 cJ:=cH (λT=>T.kR.fn) (N:=["_law_hall","_law_house_here","_law_put","_law_inside","_law_outside","_law_spots","_law_bag","_law_spot","_law_cells","_law_place"])
def BB(n1:Nat):GS:=(iS (cG (gQ wR 9 (aW cHall "moment" (BE n1) 0 gN)) (aB (gC (.bl false)))) (cx n1 8 6 7))
def xW(n1:Nat):GS:=(oH (au 11 false (aW cHall "where" (uA n1) 0 (bq (gX 10 (gI 0))))) (cG (gQ jl 11 (av (Fo n1) (cv 1 (gX 10 (gI 2))))) (aB (gC (.bl false)))) (cG (cX (gQ kA (gX 10 (gI 0)) 6) (gQ wR 11 (gX (gX 1 (gI 1)) (gI 0)))) (cG (jK (gQ Hg (gX 10 (gI 1)) (gC .aM)) (jK (gQ wR (gX (gX 4 (gX 10 (gI 1))) (gI 0)) 11) (gQ pL (gX (gX 4 (gX 10 (gI 1))) (gI 1)) (aW cHall "moment" (BE n1) 0 gN)))) (aB (gC (.bl false))))))
def N5(q:Nat):GS:=(eG (au 5 false (aW cHall "out" (Ay q) 0 gN)) (nv (cG (gQ wR (uJ 5 v5 (v7 (gO (o1 eS) (bq 3)))) 3) (aB (gC (.bl false)))) (au 6 true o5) (bN q (bu true dY (uJ 5 (v7 (gO (o1 eS) (bq 3))) v5)) (a_ [7,8,9]) BB) (bN q (bu true dY 2) 10 xW) (aB (bK f6 (bK bB (gO (o1 eS) (bq 6)) (gO (o1 eS) (bq (aW cHall "bags" (rS q) 0 gN)))) (gO (o1 eS) (bq 2))))))
def Fs:=aX 5 12 N5
theorem e0i:OD "_law_moved" 59 4 5 Fs:=cH (λT=>T.qd.fn)
def Nh(q:Nat):GS:=(oH (dr (aW cHall "check_inside" (vS q) 0 (bq 1))) (cG (cV (aW cHall "catches" (E7 q) 0 (bq 1))) (aB (gX (gX (bj atrs "book" 0) (gX (bj atrs "readings" 0) 1)) (gI 1)))) (aB (gX (gX (bj atrs "built" 0) (gI 1)) (gI 0))))
def E9:=aX 2 2 Nh
theorem d3l:OM "cart_of" 20 4 2 E9:=cH (λT=>T.mY.fn)
def uz(n1:Nat):GS:=(oH (au 8 false (av (xY n1) (cv 1 (gX 6 (gI 0))))) (gY (gQ pL (bK bB (gX 6 (gI 1)) (gI 1)) (gX 8 (gI 1))) (cN (au 9 false (aZ true (cv (gX 6 (gI 0)) (bK bB (gX 6 (gI 1)) (gI 1)))))) (cN (gY (cX (cV (gX 8 (gI 2))) (cX (gQ Hg 5 (gC .aM)) (gQ pL 7 (aW cHall "rounds" (Fd n1) 0 gN)))) (cN (au 9 false (aZ true (cv (gX 6 (gI 0)) (gI 0))))) (cN (au 9 false (av (qO n1) (kj 1 8 (aW cHall "cart_of" (E9 n1) 0 (bq 4)) 2))))))) (dr (fU n1 "list" rV 3 (bq (aZ true (cv 4 9))))))
def OT(q:Nat):GS:=(nv (au 1 false (aW cHall "house" (Fq q) 0 gN)) (au 2 false (av (E1 q) (bq 0))) (au 3 true (aZ false gN)) (bN q (bu true dY (aW cHall "bags" (rS q) 0 gN)) (a_ [4,5,6,7]) uz) (aB 3))
def FG:=aX 1 10 OT
theorem e4m:OD "wanted" 31 5 1 FG:=cH (λT=>T.rG.fn)
def E_(n1:Nat):GE:=(av (qP n1) (eI 1 (gI 11) 0))
def E'(n1:Nat):GE:=(av (qP n1) (eI 1 (gI 11) (bK bB (gI 10) 0)))
def oY(n1:Nat):GS:=(nv (au 5 false (bK f6 (av (kX n1) (eI 0 (bK bB (gI 1) 4) (gI 3))) (gI 0))) (au 6 false (bK bB (gI 1) (av (jS n1) (eI 0 (bK bB (gI 1) 4) (gI 5))))) (cG (cX (gQ f6 4 (gI 0)) (cX (gQ pL (gO (o1 eS) (bq 1)) (gI 3)) (gQ f6 (av (nc n1) (eI 0 (gI 0) (gI 3))) (gI 1)))) (au 6 false (bK bB (gI 10) (av (iF n1) (kj 0 (gI 0) (gI 3) (gI 14)))))) (cG (cV 5) (au 6 false (bK bB 6 (gI 1)))) (dr (fU n1 "list" rV 3 (bq (aZ true (kj (gX 1 4) 6 5 (av (qo n1) (kj 0 4 1 2))))))))
def N6(q:Nat):GS:=(nv (au 1 false (bO q (kh oO (bq (bK bB (gI 1) (av (kX q) (eI 0 (gI 0) (gI 5)))))) 0 (λ_=>fD true) E_ 1 [0])) (au 2 false (bO q (kh oO (bq (bK bB (gI 1) (av (jS q) (eI 0 (gI 0) (gI 4)))))) 0 (λ_=>fD true) E' 1 [0])) (au 3 true (aZ false gN)) (bN q (kh oO (bq (gO (o1 eS) (bq 1)))) 4 oY) (aB (aZ true (cv 3 2))))
def Am:=aX 1 7 N6
theorem e0j:OD "_law_house" 50 5 1 Am:=cH (λT=>T.qc.fn) (N:=["_law_script","_law_names","_law_carts","_law_belts","_law_k","_law_ring","_law_long"])
def H0(q:Nat):GS:=(iS (cG (gQ f6 1 (gI 6)) (aB (gC (.str "A")))) (aB (av (qP q) (eI 0 (gX (aZ false (eI (gI 11) (gI 12) (gI 13))) (av (iF q) (kj 0 (gI 12) (gI 4) (gI 3)))) 1))))
def Ae:=aX 2 2 H0
theorem c2a:OD "_law_flight_name" 51 5 2 Ae:=cH (λT=>T.jF.fn)
def Ij(q:Nat):GS:=(iS (cG (gQ f6 1 (gI 12)) (aB (gC (.str "b1")))) (aB (av (qP q) (eI 0 (gX (aZ false (eI (gI 11) (gI 12) (gI 13))) (av (iF q) (kj 0 (gI 13) (gI 4) (gI 3)))) 1))))
def Ag:=aX 2 2 Ij
theorem d0n:OD "_law_bag_name" 52 5 2 Ag:=cH (λT=>T.lT.fn)
def Je(q:Nat):GS:=(oH (au 2 false (gC (.bl true))) (sk (cN (dr (av (rT q) (cv 0 1)))) [((wT jh),(cN (au 2 false (gC (.bl false)))))]) (aB 2))
def BU:=aX 2 3 Je
theorem e4n:OD "_law_done" 56 5 2 BU:=cH (λT=>T.rB.fn)
def OU(q:Nat):GS:=(eG (dr (av (EX q) (bq 1))) (eG (fO q atrs "built" (av (BR q) (bq 1)) 0) (eG (fO q atrs "told_rounds" 2 0) (eG (fO q atrs "now" (gI 0) 0) (eG (fO q atrs "book" (jw o5) 0) (eG (fO q atrs "halts" (jw o5) 0) (nv (fO q atrs "places" (jw o5) 0) (fO q atrs "readings" (jw o5) 0) (fO q atrs "rounded" (jw o5) 0) (fO q atrs "gone" (jw (aZ false gN)) 0) (fO q atrs "carted" (jw o5) 0))))))))
def BV:=aX 3 3 OU
theorem e4o:OM "__init__" 0 5 3 BV:=cH (λT=>T.q_.fn)
def BW(n1:Nat):GS:=(cN (gY (gQ kA 6 3) (cN (dr (fU n1 "list" rV 4 (bq (aZ true (kj 6 8 8 (gX 3 6))))))) (iS (dr (fU n1 "list" rV 4 (bq (aZ true (kj 6 8 (gX 2 6) (gC .aM)))))) (dr (fU n1 "list" rV 5 (bq (aZ true (cv 6 (gX 2 6)))))))))
def Q7(q:Nat):GS:=(eG (au 1 false (aW cHall "bags" (rS q) 0 gN)) (eG (au 2 false (gO (o1 pe) (bq (av (FG q) (bq 0))))) (eG (au 3 true o5) (eG (dr (av (EN q) (kj 1 2 (aW cHall "stopped" (BA q) 0 gN) 3))) (eG (dr (av (EK q) (eI 1 2 3))) (eG (dr (av (ES q) (eI 1 2 3))) (nv (au 4 true (aZ false gN)) (au 5 true (aZ false gN)) (bN q (bu true dY 1) (a_ [6,7,8,9]) BW) (dr (aW cHall "move" (FE q) 0 (bq 5))) (aB 4))))))))
def Gi:=aX 1 10 Q7
theorem e7z:OD "turn" 34 6 1 Gi:=cH (λT=>T.xE.fn)
def Fb(n1:Nat):GE:=(gX 0 (gI 0))
def rQ(q:Nat):GS:=(eG (cG (gQ pL 3 (gI 3)) (aB (aZ false (bq 10)))) (eG (cG (gQ f6 3 (gI 3)) (aB (aZ false (bq (aZ true (eI (gC (.str "change")) 5 (av (vV q) (cv 0 1)))))))) (eG (cG (gQ f6 3 (gI 4)) (aB (aZ false (bq (aZ true (cv (gC (.str "off")) 5)))))) (nv (cG (gQ f6 3 (gI 5)) (aB (aZ false (cv (aZ true (cv (gC (.str "off")) 5)) 10)))) (gY (gQ pL 3 (gI 11)) (iS (cG (gQ f6 (av (jS q) (eI 0 (bK bB 1 (gI 1)) (gI 3))) (gI 0)) (aB (aZ false (bq (aZ true (kj (gC (.str "put")) 6 (gC .aM) 8)))))) (aB (aZ false (bq (aZ true (kj (gC (.str "put")) 6 5 8)))))) ny) (cG (gQ f6 3 (gI 11)) (aB (aZ false (bq (aZ true (eI (gC (.str "read")) 6 5)))))) (cG (gQ pL 3 (gI 14)) (aB (aZ false (bq (aZ true (cv (gX (aZ false (cv (gC (.str "stop")) (gC (.str "start")))) (bK qr 3 (gI 12))) 8)))))) (aB (aZ false (bq (aZ true (cv (gC (.str "turn")) (bK bB (gI 1) (av (nc q) (eI 0 (bK bB 1 (gI 1)) (yM (gQ qGt (gX (gX (gX 2 (gI 0)) (gI 0)) (gI 1)) (gI 9)) (gI 12) (gI 4))))))))))))))
def IQ(rest:GS)(q:Nat):GS:=(eG (au 3 false (av (kX q) (eI 0 1 (gI 20)))) (eG (au 4 false (av (nc q) (eI 0 1 (gI 10)))) (eG (au 5 false (av (Ae q) (cv 0 (yM (gQ f6 4 (gI 9)) (gI 6) (bK ir 4 (gI 3)))))) (eG (au 6 false (av (Ag q) (cv 0 (av (jS q) (eI 0 1 (gI 13)))))) (eG (au 7 false (bO q (bu false dY (gX 2 (gI 0))) 0 (λ_=>fD true) Fb 1 [])) (eG (au 8 false (gX (bK bB (bK bB 7 7) (uJ (gX 2 (gI 1)) v5 (v7 (gI 1)))) (av (nc q) (eI 0 (bK bB 1 (gI 1)) (bK bB (bK jI (gI 2) (gO (o1 eS) (bq 7))) (gI 1)))))) (eG (au 9 false (bK bB (gX 2 (gI 1)) (uJ 7 v5 (v7 (gI 1))))) (eG (au 10 false (aZ true (kj (gC (.str "flight")) 5 (gX 9 (av (jS q) (eI 0 (bK bB 1 (gI 1)) (gO (o1 eS) (bq 9))))) (av (vV q) (cv 0 1))))) rest))))))))
def ql(q:Nat):GS:=(IQ (rQ q) q)
def xZ:=aX 3 11 ql
theorem e0k:OD "_law_deeds" 54 6 3 xZ:=cH (λT=>T.p_.fn) (N:=["_law_script","_law_k","_law_house_here","_law_kind","_law_mark","_law_flight","_law_bag","_law_belts","_law_belt","_law_carts","_law_told"])
noncomputable def bW (n1:Nat):GS:=(cN (cx n1 (aZ true (cv 6 7)) 4 5))
noncomputable def gm (q:Nat):GS:=(eG (au 2 false (aW cHall "bags" (rS q) 0 gN)) (nv (au 3 false (aW cHall "out" (Ay q) 0 gN)) (au 4 true o5) (bN q (bu true dY (aW cHall "flights" (eF q) 0 gN)) (a_ [5,6,7]) bW) (dr (av (Gi q) (bq 0))) (aB (av (Fs q) (mJ 0 (kj 1 2 3 4))))))
noncomputable def cA:=aX 2 8 gm
theorem c5y:OD "_law_turn_holds" 60 7 2 cA:=cH (λT=>T.j8.fn)
noncomputable def iO (n3:Nat):GS:=(cN (cG (fP (cV (av (cA n3) (cv 2 1)))) (aB (gC (.bl false)))))
noncomputable def c8 (n2:Nat):GS:=(iS (au 6 false (gO (o1 eS) (bq (aW cHall "bags" (rS n2) 2 gN)))) (gY (gQ f6 (gX 5 (gI 0)) (gC (.str "turn"))) (cN (bN n2 (kh oO (bq (gX 5 (gI 1)))) 7 iO)) (cN (cG (cX (cV (av (BU n2) (cv 2 5))) (cX (gQ f6 (gX 5 (gI 0)) (gC (.str "put"))) (gQ pL 6 (gI 8)))) (dr (fU n2 "list" rV 3 (bq (gX 5 (gI 1)))))))))
noncomputable def fJ (n1:Nat):GS:=(iS (bN n1 (bu true dY (av (xZ n1) (eI 0 4 1))) 5 c8) (cG (fP (cV (av (cJ n1) (eI 2 1 3)))) (aB (gC (.bl false)))))
noncomputable def nC (q:Nat):GS:=(nv (au 1 false (av (Am q) (bq 0))) (au 2 false (si cHall (BV q) (cv 1 (av (kX q) (eI 0 (gI 14) (gI 3)))))) (au 3 true (aZ false gN)) (bN q (kh zK (eI (gI 15) (bK bB (gI 23) (bK jI (gI 2) (av (jS q) (eI 0 (gI 14) (gI 20))))) (gI 2))) 4 fJ) (aB (gC (.bl true))))
noncomputable def oW:=aX 1 8 nC
theorem e4p:OD "law" 61 8 1 oW:=cH (λT=>T.rF.fn)
variable{i n:Nat}
abbrev Pr(M:Nat->GM)(vs:List Val)(r:Rv):Prop:=∀q S,M q vs S=some (.ok r S)
noncomputable abbrev br(ns:List Int):D:=.lst (ns.map D.int)
theorem qq0{α:Type _}{a:α}{l:List α}:(a::l)[0]?=some a:=rfl
theorem qq1{α:Type _}{a:α}{l:List α}:(a::l)[i+1]?=l[i]?:=rfl
theorem qq2{α:Type _}{a:α}{l:List α}:(a::l).length=l.length+1:=rfl
theorem qq3{α:Type _}:([]:List α).length=0:=rfl
theorem qq4{α:Type _}{x a:α}{l:List α}:(x::l).set 0 a=a::l:=rfl
theorem qq5{α:Type _}{x a:α}{l:List α}:(x::l).set (n+1) a=x::l.set n a:=rfl
theorem qq6{α β:Type _}{f:α->β}{a:α}{l:List α}:(a::l).map f=f a::l.map f:=rfl
theorem qq7{α β:Type _}{f:α->β}:([]:List α).map f=[]:=rfl
theorem qq8{α:Type _}{a:α}:List.replicate 0 a=[]:=rfl
theorem qq9{α:Type _}{a:α}:List.replicate (n+1) a=a::List.replicate n a:=rfl
theorem qqa{α:Type _}{a:α}{l:List α}:(a::l).take (i+1)=a::l.take i:=rfl
theorem qqb{α:Type _}{a:α}{l r:List α}:(a::l)++r=a::(l++r):=rfl
theorem qqc{α:Type _}(l:List α):[]++l=l:=rfl
theorem qqd{α:Type _}{l:List α}:l.take 0=[]:=rfl
theorem aI:(false=true)=False:=lK
theorem qqf(n:Nat):0+n=n:=EB n
theorem Vd(ns:List Int)(k v:Int)(h1:(k<(ns.length:Int))=True)(h2:eH (ns.map D.int) k=some (.int v)):Pr oZ [.d (br ns),aO k] (rd (.int v)):=by
 intro q S;unfold oZ Jb;simp only[↓ev,bw,h1,decide_true,h2,gE]
theorem Ve(ns:List Int)(k:Int)(h1:(k<(ns.length:Int))=False):Pr oZ [.d (br ns),aO k] (rd (.int 0)):=by
 intro q S;unfold oZ Jb;simp only[↓ev,bw,h1,decide_false,aI,gE]
theorem JL(ns:List Int)(k:Nat):∃v,Pr oZ [.d (br ns),aO k] (rd (.int v)):=by
 by_cases h:k<ns.length
 .exact⟨_,Vd ns k _ (bH (by lia)) (uC (by rw[f9,iH h];rfl))⟩
 .exact⟨_,Ve ns k (eq_false (by lia))⟩
noncomputable abbrev Sv:List D:=[.int 2,.int 128,.int 8192,.int 524288,.int 33554432]
theorem J4(ns:List Int)(k a b_ c0 c d:Int)(h0:Pr oZ [.d (br ns),aO 0] (rd (.int c0)))(hk:Pr oZ [.d (br ns),aO k] (rd (.int c)))(e:(c0%2 == 1)=true)
  (ha:eH Sv a=some (.int d)) (d0:(0<d)=True) (d1:(d<1073741824)=True) (m0:(0<b_)=True):Pr iF [.d (br ns),aO k,aO a,aO b_] (rd (.int (c / d%64%b_))):=by
 intro q S;unfold iF IL;simp only[↓ev,hk,aP,h0,decide_true,aI,fT,e,ha,d0,d1,and_self,m0,gE]
theorem J5(ns:List Int)(k a b_ c0 c:Int)(h0:Pr oZ [.d (br ns),aO 0] (rd (.int c0)))(hk:Pr oZ [.d (br ns),aO k] (rd (.int c)))(e:(c0%2 == 1)=false)
  (k0:0<=k) (k1:k<1000) (a0:0<=a) (a1:a<1000) (m0:(0<b_)=True):∃v,Pr iF [.d (br ns),aO k,aO a,aO b_] (rd (.int (v%b_))):=by
 have mk:((-(2^64)<k/\k<2^64 \/ -(2^64)<k/\k<2^64)=True):=bH (.inl ⟨by lia,by lia⟩)
 have m1:∀x:Int,(((-(2^64):Int)<1009/\(1009:Int)<2^64 \/ -(2^64)<x/\x<2^64)=True):=λx=>bH (.inl ⟨by decide,by decide⟩)
 have m2:∀x:Int,((-(2^64)<x/\x<2^64\/(-(2^64):Int)<48271/\(48271:Int)<2^64)=True):=λx=>bH (.inr ⟨by decide,by decide⟩)
 have m3:∀x:Int,(((-(2^64):Int)<5/\(5:Int)<2^64 \/ -(2^64)<x/\x<2^64)=True):=λx=>bH (.inl ⟨by decide,by decide⟩)
 have m4:∀x:Int,(((-(2^64):Int)<2/\(2:Int)<2^64 \/ -(2^64)<x/\x<2^64)=True):=λx=>bH (.inl ⟨by decide,by decide⟩)
 have m5:∀x:Int,((-(2^64)<x/\x<2^64\/(-(2^64):Int)<69621+2*a/\69621+2*a<2^64)=True):=λx=>bH (.inr ⟨by lia,by lia⟩)
 refine⟨((c%1000003+k*k+1009*a+7)*48271%999983+5*k+a)*(69621+2*a)%1000033,?_⟩;intro q S;unfold iF IL;simp only[↓ev,hk,aP,h0,decide_true,aI,fT,e,mk,m1,m2,m3,m4,m5,m0,gE]
def bF(ns:List Int)(k a:Nat)(b_:Int):Int:=match iF 0 [.d (br ns),aO k,aO a,aO b_] ⟨[],[]⟩ with
 |some (.ok (.v (.d (.int v))) _)=>v
 |_=>0
theorem e8a:∀a:Nat,a<5->∃d:Int,eH Sv (a:Int)=some (.int d)/\0<d/\d<1073741824
 |0,_=>⟨2,rfl,by decide,by decide⟩
 |1,_=>⟨128,rfl,by decide,by decide⟩
 |2,_=>⟨8192,rfl,by decide,by decide⟩
 |3,_=>⟨524288,rfl,by decide,by decide⟩
 |4,_=>⟨33554432,rfl,by decide,by decide⟩
 |n+5,h=>cz h (by lia)
theorem ik(ns:List Int)(k a:Nat)(b_:Int)(hk:k<1000)(ha:a<5)(m0:0<b_):Pr iF [.d (br ns),aO k,aO a,aO b_] (rd (.int (bF ns k a b_)))/\0<=bF ns k a b_/\bF ns k a b_<b_:=by
 obtain⟨c0,h0⟩:=JL ns 0;obtain⟨c,h1⟩:=JL ns k;obtain⟨v,e⟩:∃v,Pr iF [.d (br ns),aO k,aO a,aO b_] (rd (.int (v%b_))):=by
  cases e:(c0%2 == 1) with
  |true=>
   obtain⟨d,d1,d2,d3⟩:=e8a a ha;exact⟨_,J4 ns k a b_ c0 c d h0 h1 e d1 (bH d2) (bH d3) (bH m0)⟩
  |false=>exact J5 ns k a b_ c0 c h0 h1 e (by lia) (by lia) (by lia) (by lia) (bH m0)
 have z:bF ns k a b_=v%b_:=by unfold bF;rw[e]
 rw[z];exact⟨e,Int.emod_nonneg _ (by lia),Int.emod_lt_of_pos _ m0⟩
theorem yq(ns:List Int)(k:Nat)(b_:Int)(hk:k<1000)(m0:0<b_):Pr kX [.d (br ns),aO k,aO b_] (rd (.int (bF ns k 0 b_))):=by
 have h:=(ik ns k 0 b_ hk (by decide) m0).1
 have h:Pr iF [.d (br ns),aO k,aO 0,aO b_] _:=h;intro q S;unfold kX OP;simp only[↓ev,h,gE]
theorem vZ(ns:List Int)(k:Nat)(b_:Int)(hk:k<1000)(m0:0<b_):Pr jS [.d (br ns),aO k,aO b_] (rd (.int (bF ns k 1 b_))):=by
 have h:=(ik ns k 1 b_ hk (by decide) m0).1
 have h:Pr iF [.d (br ns),aO k,aO 1,aO b_] _:=h;intro q S;unfold jS N2;simp only[↓ev,h,gE]
theorem yg(ns:List Int)(k:Nat)(b_:Int)(hk:k<1000)(m0:0<b_):Pr nc [.d (br ns),aO k,aO b_] (rd (.int (bF ns k 2 b_))):=by
 have h:=(ik ns k 2 b_ hk (by decide) m0).1
 have h:Pr iF [.d (br ns),aO k,aO 2,aO b_] _:=h;intro q S;unfold nc N3;simp only[↓ev,h,gE]
variable{i:Nat}
noncomputable abbrev Fw:Str:="abcdefghijklmnopqrstuvwxyz"
abbrev iI:List Nat:=Fw.cps.toList
theorem y_:iI.length=26:=by decide +kernel
theorem Qc:(Fw.length<=1000000)=True:=bH (by decide +kernel)
theorem e4q:iI.Nodup:=by decide +kernel
theorem ym(k:Int)(h0:0<=k)(h1:k<26):eH iI k=some (iI.getD k.toNat 0):=VM 0 h0 (by rw[y_];exact h1)
theorem Dj:∀i:Nat,i<26->∀n:Nat,n<9->MulOk ⟨#[iI.getD i 0]⟩ (n:Int):=by decide +kernel
theorem Dk:∀i:Nat,i<26->∀n:Nat,n<9->Txt.mul ⟨#[iI.getD i 0]⟩ (n:Int)=⟨(List.replicate n (iI.getD i 0)).toArray⟩:=by decide +kernel
theorem zo(i:Nat)(hi:i<26)(n:Nat)(hn:n<9):MulOk ⟨#[iI.getD i 0]⟩ (n:Int)/\Txt.mul ⟨#[iI.getD i 0]⟩ (n:Int)=⟨(List.replicate n (iI.getD i 0)).toArray⟩:=⟨Dj i hi n hn,Dk i hi n hn⟩
theorem Qd(a b:List Nat):(⟨a.toArray⟩:Str)++(⟨b.toArray⟩:Str)=⟨(a++b).toArray⟩:=by
 show(⟨a.toArray++b.toArray⟩:Str)=_
 simp_all
theorem Dl(ns:List Int)(q n b m:Int)(c:Nat)(z:Str)(hp:Pr kX [.d (br ns),aO q,aO 26] (rd (.int b)))(ho:Pr jS [.d (br ns),aO q,aO 3] (rd (.int 0)))
  (t8:eH iI ((b+n / 8)%26)=some c) (em:1+n%8=m) (hm:MulOk ⟨#[c]⟩ m=True) (hz:Txt.mul ⟨#[c]⟩ m=z):Pr qP [.d (br ns),aO q,aO n] (rd (.str z)):=by
 intro q' S;unfold qP Jd;simp only[↓ev,aP,hp,ho,aI,fT,fG,and_self,decide_true,Qc,t8,em,hm,hz,gE]
theorem Dm(ns:List Int)(q n b v t sp r:Int)(cr cc:Nat)(z1 z2 z3 z4:Str)(hp:Pr kX [.d (br ns),aO q,aO 26] (rd (.int b)))(ho:Pr jS [.d (br ns),aO q,aO 3] (rd (.int v)))(hv:(v == 0)=false)
  (ht:Pr nc [.d (br ns),aO q,aO 8] (rd (.int t))) (hs:Pr jS [.d (br ns),aO q,aO (1+t)] (rd (.int sp))) (hr:Pr iF [.d (br ns),aO q,aO 3,aO 26] (rd (.int r)))
  (Kt:eH iI r=some cr) (hac:eH iI ((7*n+b)%26)=some cc) (h7:((-(2^64):Int)<7/\(7:Int)<2^64 \/ -(2^64)<n/\n<2^64)=True) (m1:MulOk ⟨#[cr]⟩ sp=True) (e1:Txt.mul ⟨#[cr]⟩ sp=z1) (m2:MulOk ⟨#[cr]⟩ (1+t - 1 - sp)=True) (e2:Txt.mul ⟨#[cr]⟩ (1+t - 1 - sp)=z2)
  (l1:(z1.length+(⟨#[cc]⟩:Str).length<=1000000)=True) (e3:z1++(⟨#[cc]⟩:Str)=z3) (l2:(z3.length+z2.length<=1000000)=True) (e4:z3++z2=z4):Pr qP [.d (br ns),aO q,aO n] (rd (.str z4)):=by
 intro q' S;unfold qP Jd;simp only[↓ev,aP,hp,ho,aI,fT,hv,ht,hs,hr,Qc,Kt,m1,e1,h7,decide_true,hac,l1,e3,m2,e2,l2,e4,gE]
def ub(ns:List Int)(q n:Nat):List Nat:=if bF ns q 1 3=0 then List.replicate (1+n%8) (iI.getD (((bF ns q 0 26).toNat+n / 8)%26) 0)
 else List.replicate (bF ns q 1 (1+bF ns q 2 8)).toNat (iI.getD (bF ns q 3 26).toNat 0)++iI.getD ((7*n+(bF ns q 0 26).toNat)%26) 0::List.replicate ((bF ns q 2 8).toNat - (bF ns q 1 (1+bF ns q 2 8)).toNat) (iI.getD (bF ns q 3 26).toNat 0)
def jA(ns:List Int)(q n:Nat):Str:=⟨(ub ns q n).toArray⟩
theorem uG(l:List Nat):(⟨l.toArray⟩:Str).length=l.length:=by show l.toArray.size=_;simp
theorem Gj(ns:List Int)(q:Nat)(hq:q<1000)(n:Nat)(hn:n<20):Pr qP [.d (br ns),aO q,aO n] (rd (.str (jA ns q n))):=by
 obtain⟨p1,p2,p3⟩:=ik ns q 0 26 hq (by decide) (by decide)
 obtain⟨o1,o2,o3⟩:=ik ns q 1 3 hq (by decide) (by decide)
 obtain⟨t1,t2,t3⟩:=ik ns q 2 8 hq (by decide) (by decide)
 obtain⟨r1,r2,r3⟩:=ik ns q 3 26 hq (by decide) (by decide)
 obtain⟨s1,s2,s3⟩:=ik ns q 1 (1+bF ns q 2 8) hq (by decide) (by lia)
 have hp:=yq ns q 26 hq (by decide)
 have ho:=vZ ns q 3 hq (by decide)
 have ht:=yg ns q 8 hq (by decide)
 have hs:=vZ ns q (1+bF ns q 2 8) hq (by lia)
 unfold jA ub;split
 .rename_i h
  rw[h] at ho;have ei:(((bF ns q 0 26).toNat+n / 8)%26:Nat)=((bF ns q 0 26+(n:Int) / 8)%26).toNat:=by lia
  rw[ei];obtain⟨q1,q2⟩:=zo ((bF ns q 0 26+(n:Int) / 8)%26).toNat (by lia) (1+n%8) (by lia)
  exact Dl ns q n _ ((1+n%8:Nat):Int) _ _ hp ho (ym _ (by lia) (by lia)) (by lia) (bH q1) q2
 .rename_i h
  have ei:((7*n+(bF ns q 0 26).toNat)%26:Nat)=((7*(n:Int)+bF ns q 0 26)%26).toNat:=by lia
  rw[ei];obtain⟨q1,q2⟩:=zo (bF ns q 3 26).toNat (by lia) (bF ns q 1 (1+bF ns q 2 8)).toNat (by lia)
  obtain⟨q3,q4⟩:=zo (bF ns q 3 26).toNat (by lia) ((bF ns q 2 8).toNat - (bF ns q 1 (1+bF ns q 2 8)).toNat) (by lia)
  rw[show(((bF ns q 1 (1+bF ns q 2 8)).toNat:Nat):Int)=bF ns q 1 (1+bF ns q 2 8) by lia] at q1 q2
  rw[show(((bF ns q 2 8).toNat - (bF ns q 1 (1+bF ns q 2 8)).toNat:Nat):Int)=1+bF ns q 2 8 - 1 - bF ns q 1 (1+bF ns q 2 8) by lia] at q3 q4
  refine Dm ns q n _ _ _ _ _ _ _ _ _ (⟨(List.replicate (bF ns q 1 (1+bF ns q 2 8)).toNat (iI.getD (bF ns q 3 26).toNat 0)++[iI.getD ((7*(n:Int)+bF ns q 0 26)%26).toNat 0]).toArray⟩:Str) _ hp ho (by simpa using h) ht hs r1 (ym _ r2 r3) (ym _ (by lia) (by lia)) (bH (.inl ⟨by decide,by decide⟩)) (bH q1) q2 (bH q3) q4 (bH ?_) ?_ (bH ?_) ?_
  .rw[uG,pW];show _+1<=_;lia
  .exact Qd _ [_]
  .rw[uG,uG,dU,pW,pW];simp only[qq2,qq3];lia
  .rw[Qd,lj];rfl
theorem FH{l:List Nat}(h:i<l.length):l.getD i 0∈l:=by
 simp_all
theorem OV(ns:List Int)(q:Nat)(hq:q<1000)(n:Nat):∀c∈ub ns q n,c∈iI:=by
 obtain⟨r1,r2,r3⟩:=ik ns q 3 26 hq (by decide) (by decide)
 intro c hc;unfold ub at hc;split at hc
 .rw[List.eq_of_mem_replicate hc];exact FH (by rw[y_];lia)
 .rw[dF,y0b] at hc;rcases hc with hc|hc|hc
  .rw[List.eq_of_mem_replicate hc];exact FH (by rw[y_];lia)
  .rw[hc];exact FH (by rw[y_];lia)
  .rw[List.eq_of_mem_replicate hc];exact FH (by rw[y_];lia)
theorem AI(ns:List Int)(q:Nat)(hq:q<1000)(n:Nat):1<=(ub ns q n).length/\(ub ns q n).length<=8:=by
 obtain⟨t1,t2,t3⟩:=ik ns q 2 8 hq (by decide) (by decide)
 obtain⟨s1,s2,s3⟩:=ik ns q 1 (1+bF ns q 2 8) hq (by decide) (by lia)
 unfold ub;split
 .rw[pW];lia
 .rw[dU,kG,pW,pW];lia
theorem OW{j:Nat}(hi:i<26)(hj:j<26)(e:iI.getD i 0=iI.getD j 0):i=j:=by
 have h1:i<iI.length:=by rw[y_];exact hi
 have h2:j<iI.length:=by rw[y_];exact hj
 rw[Bd,iH h1,Bd,iH h2] at e;exact(Er e4q).mp e
theorem Q8(ns:List Int)(q:Nat)(hq:q<1000)(n m:Nat)(hn:n<20)(hm:m<20)(e:jA ns q n=jA ns q m):n=m:=by
 obtain⟨p1,p2,p3⟩:=ik ns q 0 26 hq (by decide) (by decide)
 have e:ub ns q n=ub ns q m:=by
  have:=congrArg Str.cps e;simpa[jA] using this
 unfold ub at e;split at e
 .have l:=congrArg List.length e;rw[pW,pW] at l;have z:iI.getD (((bF ns q 0 26).toNat+n / 8)%26) 0=iI.getD (((bF ns q 0 26).toNat+m / 8)%26) 0:=by
   simp_all
  have:=OW (by lia) (by lia) z
  lia
 .have e:=List.append_cancel_left e;rw[List.cons.injEq] at e;have:=OW (by lia) (by lia) e.1
  lia
theorem YG:∀c∈iI,(Builtin.Str.occurrences Fw ⟨#[c]⟩ 0 Fw.length 1).isEmpty=false:=by decide +kernel
theorem e4r(c:Nat)(h:c∈iI):(Builtin.Str.occurrences (Str.ofString "abcdefghijklmnopqrstuvwxyz") (jJ c) 0 (Str.ofString "abcdefghijklmnopqrstuvwxyz").length 1).isEmpty=false:=YG c h
theorem OX:∀n:Nat,(List.replicate n true).all id=true
 |0=>rfl
 |n+1=>by rw[List.replicate_succ,qW,OX n];rfl
theorem IS:∀bs:List Bool,eO (bs.map D.bl)=some bs
 |[]=>rfl
 |b::bs=>by rw[cU];unfold eO;rw[IS bs];rfl
theorem N7(l:List Nat)(h1:1<=l.length)(h2:l.length<=8)(hc:∀c∈l,c∈iI):Pr nR [.d (.str ⟨l.toArray⟩)] (rd (.bl true)):=by
 have e:∀q S,bh (ae 0) (fD true) (E4 q) (l.map λc=>.str (jJ c)) [none] S []=some (.ok ((List.replicate l.length true).map D.bl) S):=λq S=>by
  rw[nW (λ_=>D.bl true) l (by lia) λc m=>⟨rd (.bl true),by
   have h:=e4r c (hc c m);unfold E4;simp only[↓ev,aI,h,lr],rfl⟩,List.map_replicate,List.map_const']
 have c1:(1<=((⟨l.toArray⟩:Str).length:Int))=True:=bH (by rw[uG];lia)
 have c2:(((⟨l.toArray⟩:Str).length:Int)<=8)=True:=bH (by rw[uG];lia)
 have c3:((⟨l.toArray⟩:Str).length<=1000000)=True:=bH (by rw[uG];lia)
 intro q S;unfold nR BK;simp only[↓ev,G7,aI,c3,c1,decide_true,c2,e,IS,OX,gE]
abbrev P0(M:Nat->GM)(vs:List Val)(r:Rv):Prop:=∀S,M 0 vs S=some (.ok r S)
noncomputable abbrev dS(xs:List Str):List D:=xs.map D.str
theorem ja(x:Str):∀xs:List Str,((dS xs).any λz=>eQ z (.str x))=xs.contains x
 |[]=>rfl
 |y::r=>by
  rw[dS,cU,List.any_cons,<-dS,ja x r,List.contains_cons,eV]
  congr 1
  exact BEq.comm
theorem jb(n:Nat)(xs:List Str):(dS xs).all (dX n)=true:=by
 rw[jZ];intro d hd;obtain⟨y,_,rfl⟩:=eW.mp hd;cases n <;> rfl
theorem Qe(xs:List Str)(i:Nat)(y:Str):(dS xs).take i++.str y::(dS xs).drop i=dS (mh xs i y):=by
 grind [mh,List.map_take,List.map_drop]
noncomputable abbrev bX(S:aV)(xs:List D):aV:=⟨S.s++[.o (.lst xs)],S.r⟩
section
variable{S:aV}{ns:List Int}{k j sp d ll:Int}{s2 s3 s4:aj Val}{xh:List D}{outs:List Str}{y:Str}{a9:aj Val}
theorem e8b(hl:(xh.length:Int)=ll)(hd:Pr iF [.d (br ns),aO (6+k),aO (1+j),aO ll] (rd (.int d)))(ha:eH xh d=some (.str y))(hc:outs.contains y=true):
  uy 0 [ak (br ns),cq k,s2,s3,s4,ak (.lst xh),aH S.s.length,cq sp,cq j,a9] (bX S (dS outs))=some (.nx [ak (br ns),cq k,s2,s3,s4,ak (.lst xh),aH S.s.length,cq sp,cq j,bJ y] (bX S (dS outs))):=by
 unfold uy;simp only[↓ev,hl,hd,ha,aP,eA,jb,ja,hc,hV,aI]
abbrev W3:List D:=[.int 1,.int 4,.int 16]
theorem e4s{w ol p:Int}{o2:List Str}(hl:(xh.length:Int)=ll)(hd:Pr iF [.d (br ns),aO (6+k),aO (1+j),aO ll] (rd (.int d)))(ha:eH xh d=some (.str y))(hc:outs.contains y=false)
  (hw:eH W3 j=some (.int w)) (w0:(0<w)=True) (w1:(w<1073741824)=True) (el:((dS outs).length:Int)=ol) (o0:(0<ol+1)=True) (hp:sp / w%4%(ol+1)=p) (p0:(0<=p)=True) (p1:(p<2^62)=True) (p2:((dS outs).length<1000000)=True) (h2:(dS outs).take p.toNat++.str y::(dS outs).drop p.toNat=dS o2) :
  uy 0 [ak (br ns),cq k,s2,s3,s4,ak (.lst xh),aH S.s.length,cq sp,cq j,a9] (bX S (dS outs))=some (.nx [ak (br ns),cq k,s2,s3,s4,ak (.lst xh),aH S.s.length,cq sp,cq j,bJ y] (bX S (dS o2))):=by
 unfold uy;simp only[↓ev,hl,hd,ha,aP,eA,jb,ja,hc,lr,aI,hw,w0,w1,and_self,decide_true,el,o0,hp,p0,p1,p2,h2,jB]
end
theorem Jf(ds:List D)(n:Nat):cutD ds (some (n:Int)) none=ds.drop n:=by
 unfold cutD;have e:HT.cO ds.length 0 (some (n:Int))=min n ds.length:=by
  unfold HT.cO;simp;lia
 have e2:HT.cO ds.length ds.length none=ds.length:=rfl;rw[e,e2];by_cases h:n<=ds.length
 .rw[Nat.min_eq_left h];exact Ew (by rw[A_];exact bZ _)
 .rw[Nat.min_eq_right (by lia),List.drop_eq_nil_of_le (bZ _),List.drop_eq_nil_of_le (by lia),List.take_nil]
theorem Vf(xs:List Str)(k:Nat)(y:Str):(mh xs k y).Perm (y::xs):=by
 unfold mh;refine(List.perm_middle (l₁:=xs.take k) (l₂:=xs.drop k)).trans ?_;rw[List.take_append_drop]
theorem Qf{xs:List Str}{k:Nat}{y:Str}(h:xs.Nodup)(hy:y∉xs):(mh xs k y).Nodup:=(Vf xs k y).nodup_iff.mpr (tJ.mpr ⟨hy,h⟩)
structure oz (later carts:List Str) (hd:Str) (outs:List Str):Prop where
 nd:outs.Nodup
 sub:∀o∈outs,o∈later++carts
 ne:outs≠[]
 hand:hd∈outs\/∃o∈outs,o∈later
 len:outs.length<=4
theorem F2{xs:List Str}{k:Int}(h0:0<=k)(h1:k<xs.length):eH (dS xs) k=some (.str (xs.getD k.toNat "")):=by
 have KA:k.toNat<xs.length:=by lia
 have e:(dS xs)[k.toNat]?=some (.str (xs.getD k.toNat "")):=by simp[KA]
 have z:=uC e
 rwa[show((k.toNat:Nat):Int)=k by lia] at z
theorem Vg{xs:List Str}{i:Nat}(h:i<xs.length):xs.getD i ""∈xs:=by
 simp_all
theorem e8c:∀j:Nat,j<3->∃d:Int,eH W3 (j:Int)=some (.int d)/\0<d/\d<1073741824
 |0,_=>⟨1,rfl,by decide,by decide⟩
 |1,_=>⟨4,rfl,by decide,by decide⟩
 |2,_=>⟨16,rfl,by decide,by decide⟩
 |n+3,h=>cz h (by lia)
abbrev nE(S:aV)(ns:List Int)(k sp:Int)(s2:aj Val)(carts later:List Str)(a8 a9:aj Val):Gm:=[ak (br ns),cq k,s2,ak (.lst (dS carts)),ak (.lst (dS later)),ak (.lst (dS (later++carts))),aH S.s.length,cq sp,a8,a9]
theorem YH(ns:List Int)(k j:Nat)(sp:Int)(s2:aj Val)(carts later outs:List Str)(a9:aj Val)(hk:k<5)(hj:j<3)(sl:0<(later++carts).length)(Hi:(later++carts).length<=100)(nd:outs.Nodup)(sb:∀o∈outs,o∈later++carts)(ol:outs.length<=j):
  ∃o2 y,o2.Nodup/\(∀o∈o2,o∈later++carts)/\o2.length<=j+1/\o2≠[]/\∀S,uy 0 (nE S ns k sp s2 carts later ((cq j)) a9) (bX S (dS outs))=some (.nx (nE S ns k sp s2 carts later ((cq j)) ((bJ y))) (bX S (dS o2))):=by
 obtain⟨d1,d2,d3⟩:=ik ns (6+k) (1+j) ((later++carts).length:Int) (by lia) (by lia) (by lia)
 rw[show((6+k:Nat):Int)=6+(k:Int) by lia,show((1+j:Nat):Int)=1+(j:Int) by lia] at d1
 have ha:=F2 (xs:=later++carts) d2 d3;have hm:(later++carts).getD (bF ns (6+k) (1+j) ((later++carts).length:Int)).toNat ""∈later++carts:=Vg (by lia)
 generalize(later++carts).getD (bF ns (6+k) (1+j) ((later++carts).length:Int)).toNat ""=y at ha hm;have hl:((dS (later++carts)).length:Int)=((later++carts).length:Int):=by rw[bw]
 cases hc:outs.contains y with
 |true=>
  refine⟨outs,y,nd,sb,by lia,λz=>?_,λS=>e8b hl d1 ha hc⟩
  simp_all
 |false=>
  obtain⟨w,w1,w2,w3⟩:=e8c j hj;have o0:(0:Int)<(outs.length:Int)+1:=by lia
  have el:((dS outs).length:Int)=(outs.length:Int):=by rw[bw]
  have p0:0<=sp / w%4%((outs.length:Int)+1):=Int.emod_nonneg _ (by lia)
  have p1:sp / w%4%((outs.length:Int)+1)<(outs.length:Int)+1:=Int.emod_lt_of_pos _ o0;have hy:y∉outs:=by simpa using hc
  refine⟨_,y,Qf (k:=(sp / w%4%((outs.length:Int)+1)).toNat) nd hy,λo ho=>?_,by rw[FC];lia,λz=>?_,λS=>e4s hl d1 ha hc w1 (bH w2) (bH w3) el (bH o0) rfl (bH p0) (bH (by lia)) (bH (by rw[bw];lia)) (Qe _ _ _)⟩
  .rcases ky.mp ho with z|z
   .rw[z];exact hm
   .exact sb o z
  grind [FC]
theorem Nz(q:Nat)(S:aV)(outs later:List Str)(h:outs.length<=1000):bh (ae 0) (IC q) (ID q) (dS outs) [none,ak (.lst (dS later))] S []=some (.ok (dS (outs.filter λo=>later.contains o)) S):=by
 rw[dS,uN (λo=>if later.contains o=true then some (.str o) else none) outs (by lia) λo m=>by
  unfold IC ID;cases hc:later.contains o with
  |true=>exact .inr ⟨rd (.str o),.str o,rfl,by simp only[↓ev,jb,aI,ja,hc],by simp only[↓ev],rfl⟩
  |false=>exact .inl ⟨rfl,by simp only[↓ev,jb,aI,ja,hc]⟩]
 congr 2
 induction outs with
 |nil=>rfl
 |cons o r ih=>
  grind
section
variable{S:aV}{ns:List Int}{k sp r:Int}{later carts o1 outs:List Str}{names:List D}{hand:Str}{a8 a9:aj Val}
structure ur (S:aV) (ns:List Int) (k sp r:Int) (later carts o1:List Str) (names:List D) (hand:Str) (a8 a9:aj Val):Prop where
 c1:cutD names (some (k+1)) none=dS later
 c2:((dS later).length+(dS carts).length<=1000000)=True
 ht:Pr nc [.d (br ns),aO (1+k),aO 64] (rd (.int sp))
 hp:Pr kX [.d (br ns),aO (6+k),aO 3] (rd (.int r))
 hi:Nat.ble (1+r).natAbs 1000000000000=true
 ap:dS later++dS carts=dS (later++carts)
 hl:aL (ae 8) (uy 0) (iY 0 (1+r).toNat) (nE S ns k sp ((ak (.lst names))) carts later none none) (bX S [])=some (.nx (nE S ns k sp ((ak (.lst names))) carts later a8 a9) (bX S (dS o1)))
 t8:eH (dS carts) 0=some (.str hand)
theorem YI(h:ur S ns k sp r later carts o1 names hand a8 a9)(hc:o1.contains hand=true):qo 0 [.d (br ns),aO k,.d (.lst names),.d (.lst (dS carts))] S=some (.ok (.o (.lst (dS o1))) S):=by
 obtain⟨c1,c2,ht,hp,hi,ap,hl,t8⟩:=h;unfold qo FF;simp only[↓ev,c1,aP,c2,ap,aI,ht,hp,hi,gK,hl,nE,bX,t8,eA,jb,ja,hc,hV,zh,o_]
theorem YJ(h:ur S ns k sp r later carts o1 names hand a8 a9)(hc:o1.contains hand=false)(hlen:o1.length<=1000){n:Int}(hn:((dS (o1.filter λo=>later.contains o)).length:Int)=n)(hz:(n == 0)=false):qo 0 [.d (br ns),aO k,.d (.lst names),.d (.lst (dS carts))] S=some (.ok (.o (.lst (dS o1))) S):=by
 obtain⟨c1,c2,ht,hp,hi,ap,hl,t8⟩:=h;have e:=λq S=>Nz q S o1 later hlen
 unfold qo FF;simp only[↓ev,c1,aP,c2,ap,aI,ht,hp,hi,gK,hl,nE,bX,t8,eA,jb,ja,hc,lr,e,hn,fT,hz,zh,o_]
theorem Wv(h:ur S ns k sp r later carts o1 names hand a8 a9)(hc:o1.contains hand=false)(hlen:o1.length<=1000)(hn:((dS (o1.filter λo=>later.contains o)).length:Int)=0){d ol:Int}(el:((dS o1).length:Int)=ol)(hd:Pr iF [.d (br ns),aO (1+k),aO 3,aO (ol+1)] (rd (.int d)))
  (p0:(0<=d)=True) (p1:(d<2^62)=True) (p2:((dS o1).length<1000000)=True) (h2:(dS o1).take d.toNat++.str hand::(dS o1).drop d.toNat=dS outs):qo 0 [.d (br ns),aO k,.d (.lst names),.d (.lst (dS carts))] S=some (.ok (.o (.lst (dS outs))) S):=by
 obtain⟨c1,c2,ht,hp,hi,ap,hl,t8⟩:=h;have e:=λq S=>Nz q S o1 later hlen
 unfold qo FF;simp only[↓ev,c1,aP,c2,ap,aI,ht,hp,hi,gK,hl,nE,bX,t8,eA,jb,ja,hc,lr,e,hn,fT,fG,el,hd,p0,p1,p2,and_self,h2,jB,zh,o_]
end
theorem Jg{n i:Nat}{d r:List Nat}(e:List.range n=d++i::r):d.length=i/\i<n:=by
 have h2:d.length<n:=by have:=congrArg List.length e;simp at this;lia
 have h1:=congrArg (λl=>l[d.length]?) e
 simp only[ue (bZ _),Mm,qq0] at h1;rw[zZ h2] at h1;have:=Option.some.inj h1;exact⟨this,this ▸ h2⟩
theorem s9(n:Nat):iY 0 n=(List.range n).map λ(i:Nat)=>D.int (i:Int):=by
 unfold iY;simp only[Int.zero_add]
theorem e4t(ns:List Int)(k:Nat)(names carts:List Str)(hand:Str)(hk:k<5)(hl:names.length<=5)(hh:carts.head?=some hand)(hc:carts.length<=4):
  ∃outs,oz (names.drop (k+1)) carts hand outs/\∀S,qo 0 [.d (br ns),aO k,.d (.lst (dS names)),.d (.lst (dS carts))] S=some (.ok (.o (.lst (dS outs))) S):=by
 have hc0:0<carts.length:=by cases carts with|nil=>cases hh|cons a b=>simp
 obtain⟨r1,r2,r3⟩:=ik ns (6+k) 0 3 (by lia) (by decide) (by decide)
 have hp:=yq ns (6+k) 3 (by lia) (by decide)
 have ht:=yg ns (1+k) 64 (by lia) (by decide)
 rw[show((6+k:Nat):Int)=6+(k:Int) by lia] at hp
 rw[show((1+k:Nat):Int)=1+(k:Int) by lia] at ht
 have sl:0<(names.drop (k+1)++carts).length:=by rw[dU];lia
 have Hi:(names.drop (k+1)++carts).length<=100:=by rw[dU,A_];lia
 obtain⟨⟨o1,a8,a9⟩,⟨nd,sb,ol,one⟩,e1⟩:=Q1 (gg:=ae 8) (body:=uy 0) (f:=λ(i:Nat)=>D.int (i:Int)) (λ(b:List Str×aj Val×aj Val) S=>(nE S ns k (bF ns (1+k) 2 64) ((ak (.lst (dS names)))) carts (names.drop (k+1)) b.2.1 b.2.2,bX S (dS b.1)))
  (λpre b=>b.1.Nodup/\(∀o∈b.1,o∈names.drop (k+1)++carts)/\b.1.length<=pre.length/\(pre≠[]->b.1≠[])) (List.range (1+bF ns (6+k) 0 3).toNat) ([],none,none)
  ⟨Hy,λo m=>(by cases m),bZ _,λz=>cz rfl z⟩ (by
   rintro d i r eq ⟨outs,a8,a9⟩ ⟨nd,sb,ol,_⟩;obtain⟨hq,hi⟩:=Jg eq;obtain⟨o2,y,n2,s2,l2,ne2,e2⟩:=YH ns k i (bF ns (1+k) 2 64) ((ak (.lst (dS names)))) carts (names.drop (k+1)) outs a9 hk (by lia) sl Hi nd sb (jo ol (Es hq))
   exact⟨(o2,cq i,(bJ y)),⟨n2,s2,by rw[dU,ug,hq];exact l2,λ_=>ne2⟩,λS=>⟨_,rfl,.inl (e2 S)⟩⟩)
 dsimp only at nd sb ol one e1;rw[xu] at ol;have one:o1≠[]:=one (by intro z;have:=congrArg List.length z;simp at this;lia)
 have e1:=λS=>(congrArg (λl=>aL (ae 8) (uy 0) l _ _) (s9 _)).trans (e1 S)
 have t8:eH (dS carts) 0=some (.str hand):=by
  cases carts with
  |nil=>cases hh
  |cons a b=>cases hh;exact uC (xs:=D.str hand::b.map D.str) (j:=0) rfl
 have hm:hand∈names.drop (k+1)++carts:=n9 _ (List.mem_of_mem_head? hh);have H:∀S,ur S ns k (bF ns (1+k) 2 64) (bF ns (6+k) 0 3) (names.drop (k+1)) carts o1 (dS names) hand a8 a9:=λS=>⟨by rw[show(k:Int)+1=((k+1:Nat):Int) by lia,Jf,dS,dS,HD],bH (by rw[bw,bw,A_];lia),ht,hp,MB (by lia),fR.symm,e1 S,t8⟩
 cases CM:o1.contains hand with
 |true=>exact⟨o1,⟨nd,sb,one,.inl (by simpa using CM),by lia⟩,λS=>YI (H S) CM⟩
 |false=>
  by_cases hf:(o1.filter λo=>(names.drop (k+1)).contains o).length=0
  .obtain⟨d1,d2,d3⟩:=ik ns (1+k) 3 ((o1.length:Int)+1) (by lia) (by decide) (by lia)
   rw[show((1+k:Nat):Int)=1+(k:Int) by lia] at d1
   have hy:hand∉o1:=by simpa using CM
   refine⟨_,⟨Qf (k:=(bF ns (1+k) 3 ((o1.length:Int)+1)).toNat) nd hy,λo ho=>?_,λz=>?_,.inl (ky.mpr (.inl rfl)),by rw[FC];lia⟩,λS=>Wv (H S) CM (by lia) (by rw[bw,hf];rfl) (by rw[bw]) d1 (bH d2) (bH (by lia)) (bH (by rw[bw];lia)) (Qe _ _ _)⟩
   .rcases ky.mp ho with z|z
    .rw[z];exact hm
    .exact sb o z
   .have:=FC o1 (bF ns (1+k) 3 ((o1.length:Int)+1)).toNat hand;rw[z] at this;simp at this
  .refine⟨o1,⟨nd,sb,one,.inr ?_,by lia⟩,λS=>YJ (H S) CM (by lia) rfl (by rw[bw];simp only[pX];lia)⟩
   simp_all
def ao(b:aw):D:=.tup [.str b.name,.int b.long,.bl b.ring,.lst (dS b.outs)]
def ax(h:aF):D:=.tup [.lst (h.af.map ao),.lst (dS h.carts)]
abbrev gZ(S:aV)(ns:List Int)(names carts:List Str)(k:Int)(a5 a6:aj Val):Gm:=[ak (br ns),ak (.lst (dS names)),ak (.lst (dS carts)),aH S.s.length,cq k,a5,a6]
section
variable{S:aV}{ns:List Int}{ki pv ov nl tv dv:Int}{names carts outs:List Str}{nm:Str}{bl:List D}{rg:Bool}{a5 a6:aj Val}
theorem hB0(hp:Pr kX [.d (br ns),aO (1+ki),aO 3] (rd (.int pv)))(hr:(pv == 0)=rg)(ho:Pr jS [.d (br ns),aO (1+ki),aO 5] (rd (.int ov)))(ha:eH (dS names) ki=some (.str nm))(hx:∀S,qo 0 [.d (br ns),aO ki,.d (.lst (dS names)),.d (.lst (dS carts))] S=some (.ok (.o (.lst (dS outs))) S))(hb:(bl.length<1000000)=True)(e1:(ki == 0)=false):oY 0 (gZ S ns names carts ki a5 a6) (bX S bl)=some (.nx (gZ S ns names carts ki ((ak (.bl rg))) ((cq (if rg=true then(1+ov)+1 else(1+ov))))) (bX S (bl++[.tup [.str nm,.int (if rg=true then(1+ov)+1 else(1+ov)),.bl rg,.lst (dS outs)]]))):=by
 unfold oY gZ bX;cases rg with
 |true=>simp only[↓ev,hp,aI,fT,hr,aP,ho,e1,eA,ha,hx,hb,jB]
 |false=>simp only[↓ev,hp,aI,fT,hr,aP,ho,e1,eA,ha,hx,hb,jB]
theorem hB1(hp:Pr kX [.d (br ns),aO (1+ki),aO 3] (rd (.int pv)))(hr:(pv == 0)=rg)(ho:Pr jS [.d (br ns),aO (1+ki),aO 5] (rd (.int ov)))(ha:eH (dS names) ki=some (.str nm))(hx:∀S,qo 0 [.d (br ns),aO ki,.d (.lst (dS names)),.d (.lst (dS carts))] S=some (.ok (.o (.lst (dS outs))) S))(hb:(bl.length<1000000)=True)(e1:(ki == 0)=true)(el:((dS names).length:Int)=nl)(e2:(nl<3)=False):oY 0 (gZ S ns names carts ki a5 a6) (bX S bl)=some (.nx (gZ S ns names carts ki ((ak (.bl rg))) ((cq (if rg=true then(1+ov)+1 else(1+ov))))) (bX S (bl++[.tup [.str nm,.int (if rg=true then(1+ov)+1 else(1+ov)),.bl rg,.lst (dS outs)]]))):=by
 unfold oY gZ bX;cases rg with
 |true=>simp only[↓ev,hp,aI,fT,hr,aP,ho,e1,el,e2,decide_false,eA,ha,hx,hb,jB]
 |false=>simp only[↓ev,hp,aI,fT,hr,aP,ho,e1,el,e2,decide_false,eA,ha,hx,hb,jB]
theorem hB2(hp:Pr kX [.d (br ns),aO (1+ki),aO 3] (rd (.int pv)))(hr:(pv == 0)=rg)(ho:Pr jS [.d (br ns),aO (1+ki),aO 5] (rd (.int ov)))(ha:eH (dS names) ki=some (.str nm))(hx:∀S,qo 0 [.d (br ns),aO ki,.d (.lst (dS names)),.d (.lst (dS carts))] S=some (.ok (.o (.lst (dS outs))) S))(hb:(bl.length<1000000)=True)(e1:(ki == 0)=true)(el:((dS names).length:Int)=nl)(e2:(nl<3)=True)(ht:Pr nc [.d (br ns),aO 0,aO 3] (rd (.int tv)))(e3:(tv == 1)=false):oY 0 (gZ S ns names carts ki a5 a6) (bX S bl)=some (.nx (gZ S ns names carts ki ((ak (.bl rg))) ((cq (if rg=true then(1+ov)+1 else(1+ov))))) (bX S (bl++[.tup [.str nm,.int (if rg=true then(1+ov)+1 else(1+ov)),.bl rg,.lst (dS outs)]]))):=by
 unfold oY gZ bX;cases rg with
 |true=>simp only[↓ev,hp,aI,fT,hr,aP,ho,e1,el,e2,decide_true,ht,e3,eA,ha,hx,hb,jB]
 |false=>simp only[↓ev,hp,aI,fT,hr,aP,ho,e1,el,e2,decide_true,ht,e3,eA,ha,hx,hb,jB]
theorem hB3(hp:Pr kX [.d (br ns),aO (1+ki),aO 3] (rd (.int pv)))(hr:(pv == 0)=rg)(ho:Pr jS [.d (br ns),aO (1+ki),aO 5] (rd (.int ov)))(ha:eH (dS names) ki=some (.str nm))(hx:∀S,qo 0 [.d (br ns),aO ki,.d (.lst (dS names)),.d (.lst (dS carts))] S=some (.ok (.o (.lst (dS outs))) S))(hb:(bl.length<1000000)=True)(e1:(ki == 0)=true)(el:((dS names).length:Int)=nl)(e2:(nl<3)=True)(ht:Pr nc [.d (br ns),aO 0,aO 3] (rd (.int tv)))(e3:(tv == 1)=true)(hd:Pr iF [.d (br ns),aO 0,aO 3,aO 14] (rd (.int dv))):oY 0 (gZ S ns names carts ki a5 a6) (bX S bl)=some (.nx (gZ S ns names carts ki ((ak (.bl rg))) ((cq (if rg=true then(10+dv)+1 else(10+dv))))) (bX S (bl++[.tup [.str nm,.int (if rg=true then(10+dv)+1 else(10+dv)),.bl rg,.lst (dS outs)]]))):=by
 unfold oY gZ bX;cases rg with
 |true=>simp only[↓ev,hp,aI,fT,hr,aP,ho,e1,el,e2,decide_true,ht,e3,hd,eA,ha,hx,hb,jB]
 |false=>simp only[↓ev,hp,aI,fT,hr,aP,ho,e1,el,e2,decide_true,ht,e3,hd,eA,ha,hx,hb,jB]
end
theorem YK(ns:List Int)(k:Nat)(names carts:List Str)(hand:Str)(bs:List aw)(a5 a6:aj Val)(hk:k<names.length)(hl:names.length<=5)(hh:carts.head?=some hand)(hc:carts.length<=4)(hb:bs.length<=100):
  ∃b:aw,b.name=names.getD k ""/\(1<=b.long/\b.long<=26/\(b.long<=6\/k=0/\names.length<3))/\(b.ring=true->2<=b.long)/\oz (names.drop (k+1)) carts hand b.outs/\∃Ig Ik,∀S,oY 0 (gZ S ns names carts k a5 a6) (bX S (bs.map ao))=some (.nx (gZ S ns names carts k Ig Ik) (bX S ((bs++[b]).map ao))):=by
 have hp:=yq ns (1+k) 3 (by lia) (by decide)
 have ho:=vZ ns (1+k) 5 (by lia) (by decide)
 obtain⟨o1,o2,o3⟩:=ik ns (1+k) 1 5 (by lia) (by decide) (by decide)
 rw[show((1+k:Nat):Int)=1+(k:Int) by lia] at hp ho
 obtain⟨outs,ok,eo⟩:=e4t ns k names carts hand (by lia) hl hh hc
 have ha:=F2 (xs:=names) (k:=(k:Int)) (by lia) (by lia)
 rw[Ml] at ha;have ht:Pr nc [.d (br ns),aO 0,aO 3] _:=yg ns 0 3 (by decide) (by decide)
 obtain⟨d1,d2,d3⟩:=ik ns 0 3 14 (by decide) (by decide) (by decide)
 have d1:Pr iF [.d (br ns),aO 0,aO 3,aO 14] _:=d1;have el:((dS names).length:Int)=(names.length:Int):=by rw[bw]
 have wj:((bs.map ao).length<1000000)=True:=bH (by rw[bw];lia)
 obtain⟨l',l1,e⟩:∃l':Int,(1<=l'/\l'<=25/\(l'<=5\/k=0/\names.length<3))/\∀S,oY 0 (gZ S ns names carts k a5 a6) (bX S (bs.map ao))=some (.nx (gZ S ns names carts k ((ak (.bl (bF ns (1+k) 0 3 == 0)))) ((cq (if(bF ns (1+k) 0 3 == 0)=true then l'+1 else l')))) (bX S (bs.map ao++[.tup [.str (names.getD k ""),.int (if(bF ns (1+k) 0 3 == 0)=true then l'+1 else l'),.bl (bF ns (1+k) 0 3 == 0),.lst (dS outs)]]))):=by
  cases e1:((k:Int) == 0) with
  |false=>exact⟨_,by lia,λS=>hB0 hp rfl ho ha eo wj e1⟩
  |true=>
   by_cases e2:(names.length:Int)<3
   .cases e3:(bF ns 0 2 3 == 1) with
    |false=>exact⟨_,by lia,λS=>hB2 hp rfl ho ha eo wj e1 el (bH e2) ht e3⟩
    |true=>exact⟨_,by have:=beq_iff_eq.mp e1;lia,λS=>hB3 hp rfl ho ha eo wj e1 el (bH e2) ht e3 d1⟩
   .exact⟨_,by lia,λS=>hB1 hp rfl ho ha eo wj e1 el (eq_false e2)⟩
 refine⟨aw.mk (names.getD k "") (if(bF ns (1+k) 0 3 == 0)=true then l'+1 else l') (bF ns (1+k) 0 3 == 0) outs,rfl,?_,λhr=>?_,ok,_,_,λS=>by rw[fR];exact e S⟩
 all_goals lia
theorem T9(q:Nat)(S:aV)(ns:List Int)(n:Nat)(hn:n<=14):bh (ae 0) (fD true) (E_ q) (iY 0 n) [none,ak (br ns)] S []=some (.ok (dS ((List.range n).map (jA ns 11))) S):=by
 rw[s9,nW (λk=>D.str (jA ns 11 k)) (List.range n) (by rw[xu];lia) λi m=>⟨rd (.str (jA ns 11 i)),by
  have h:Pr qP [.d (br ns),aO 11,aO i] _:=Gj ns 11 (by decide) i (by have:=tG.mp m;lia)
  unfold E_;generalize(i:Int)=ii at *;simp only[↓ev,h],rfl⟩,dS,fL]
 rfl
theorem T_(q:Nat)(S:aV)(ns:List Int)(n:Nat)(hn:n<=4):bh (ae 0) (fD true) (E' q) (iY 0 n) [none,ak (br ns)] S []=some (.ok (dS ((List.range n).map λi=>jA ns 11 (10+i))) S):=by
 rw[s9,nW (λk=>D.str (jA ns 11 (10+k))) (List.range n) (by rw[xu];lia) λi m=>⟨rd (.str (jA ns 11 (10+i))),by
  have h:Pr qP [.d (br ns),aO 11,aO ((10+i:Nat):Int)] _:=Gj ns 11 (by decide) (10+i) (by have:=tG.mp m;lia)
  rw[show((10+i:Nat):Int)=10+(i:Int) by lia] at h
  unfold E';generalize(i:Int)=ii at *;simp only[↓ev,h],rfl⟩,dS,fL]
 rfl
theorem Qg:∀{bs:List aw},(∀b∈bs,b.outs.length<=4)->(bs.map λx=>x.outs.length).sum<=4*bs.length
 |[],_=>bZ _
 |b::bs,h=>by
  rw[cU,MC,kG];have:=Qg λb m=>h b (n8 _ m)
  grind
theorem OY(ns:List Int)(l:List Nat)(nd:l.Nodup)(hl:∀i∈l,i<14):(l.map (jA ns 11)).Nodup:=by
 rw[List.Nodup,Em];exact nd.imp_of_mem λha hb ne z=>ne (Q8 ns 11 (by decide) _ _ (by have:=hl _ ha;lia) (by have:=hl _ hb;lia) z)
theorem Vh(S:aV)(ns:List Int)(n c:Int)(names carts:List Str)(a4 a5 a6:aj Val)(bs:List D)(hp:Pr kX [.d (br ns),aO 0,aO 5] (rd (.int n)))(ho:Pr jS [.d (br ns),aO 0,aO 4] (rd (.int c)))
  (i1:Nat.ble (1+n).natAbs 1000000000000=true) (i2:Nat.ble (1+c).natAbs 1000000000000=true) (nl:Int) (el:((dS names).length:Int)=nl) (i3:Nat.ble nl.natAbs 1000000000000=true)
  (e1:∀q S,bh (ae 0) (fD true) (E_ q) (iY 0 (1+n).toNat) [none,ak (br ns)] S []=some (.ok (dS names) S)) (e2:∀q S,bh (ae 0) (fD true) (E' q) (iY 0 (1+c).toNat) [none,ak (br ns)] S []=some (.ok (dS carts) S))
  (e3:aL (ae 4) (oY 0) (iY 0 nl.toNat) [ak (br ns),ak (.lst (dS names)),ak (.lst (dS carts)),aH S.s.length,none,none,none] (bX S [])=some (.nx [ak (br ns),ak (.lst (dS names)),ak (.lst (dS carts)),aH S.s.length,a4,a5,a6] (bX S bs))) :
  Am 0 [.d (br ns)] S=some (.ok (rd (.tup [.lst bs,.lst (dS carts)])) S):=by
 unfold Am N6;simp only[↓ev,hp,i1,gK,e1,aP,ho,i2,e2,aI,el,i3,e3,bX,eA,jB,o_]
variable{ks:List Str}
noncomputable def findB(bs:List aw)(n:Str):aj aw:=bs.find? λb=>b.name == n
structure rO (h:aF):Prop where
 bl:h.af.length<=100
 ct:h.carts.length<=100
 ou:(h.af.map λx=>x.outs.length).sum<=900
def lz(carts:List Str):List aw->Prop
 |[]=>True
 |b::bs=>(∀o∈b.outs,o∈bs.map aw.name\/o∈carts)/\b.name∉bs.map aw.name/\b.name∉carts/\lz carts bs
theorem Ap{carts:List Str}:∀{bs:List aw},lz carts bs->∀x∈bs,∀y∈bs,x.name=y.name->x=y
 |z::bs,f,x,hx,y,hy,e=>by
  rcases y0b.mp hx with ua|ua
  .rcases y0b.mp hy with yZ|yZ
   .rw[ua,yZ]
   .exact cz (mU (f:=aw.name) yZ) (by rw[<-e,ua];exact f.2.1)
  .rcases y0b.mp hy with yZ|yZ
   .exact cz (mU (f:=aw.name) ua) (by rw[e,yZ];exact f.2.1)
   .exact Ap f.2.2.2 x ua y yZ e
theorem BL{carts:List Str}:∀{bs:List aw},lz carts bs->∀c∈carts,c∉bs.map aw.name
 |[],_,c,_,h=>by cases h
 |b::bs,f,c,hc,h=>by
  rcases y0b.mp h with z|z
  .exact f.2.2.1 (by rw[<-z];exact hc)
  .exact BL f.2.2.2 c hc z
theorem BG{carts:List Str}:∀{xs ys:List aw},lz carts (xs++ys)->lz carts ys
 |[],_,f=>f
 |_::xs,ys,f=>BG (xs:=xs) f.2.2.2
abbrev oI(x:Str):Prop:=Pr nR [dR x] (rd (.bl true))
structure aG (h:aF):Prop where
 fwd:lz h.carts h.af
 sm:rO h
 nm:∀b∈h.af,oI b.name
 cm:∀c∈h.carts,oI c
 lg:∀b∈h.af,1<=b.long/\(b.ring=true->2<=b.long)
 hd:∀b∈h.af,h.carts.getD 0 ""∈b.outs\/∃o∈b.outs,o∈h.af.map aw.name
 cn:h.carts.Nodup
 c0:0<h.carts.length
 nd:∀b∈h.af,b.outs.Nodup
theorem yh(bs:List aw)(h:bs.length<=1000000):Pr tQ [.d (.lst (bs.map ao))] (.o (.lst (dS (bs.map aw.name)))):=by
 have e:∀q S,bh (ae 0) (fD true) (MP q) (bs.map ao) [none] S []=some (.ok (dS (bs.map aw.name)) S):=λq S=>by
  rw[nW (λb=>D.str (aw.name b)) bs h λb m=>⟨rd (.str b.name),by
   rfl,rfl⟩,dS,fL]
  rfl
 intro q S;unfold tQ M1;simp only[↓ev,e,gE]
def nz(ks:List Str):List (TK×D):=ks.map λk=>(TK.inr k,.bl true)
noncomputable def iq(ks:List Str)(k:Str):List Str:=if ks.contains k then ks else ks++[k]
theorem v8(x:Str):∀ks:List Str,(aQ (nz ks) (.inr x)).isSome=ks.contains x
 |[]=>rfl
 |k::ks=>by
  have ih:=v8 x ks;unfold aQ nz at *;rw[cU,Bc,List.contains_cons];by_cases e:k=x
  .rw[qX (by rw[e]),e,fG]
   rfl
  .rw[qK (λz=>e (TK.inr.inj z)),show(x == k)=false by rw[pX];exact λz=>e z.symm]
   rw[Bool.false_or];exact ih
theorem Gk(k:Str):∀ks:List Str,bY (nz ks) (.inr k) (.bl true)=nz (iq ks k)
 |[]=>rfl
 |j::ks=>by
  have ih:=Gk k ks
  grind [nz,bY,iq]
theorem JM(ks:List Str):(nz ks).length=ks.length:=by unfold nz;rw[bw]
theorem OZ(ks:List Str)(k:Str):(iq ks k).length<=ks.length+1:=by
 unfold iq;split
 .lia
 .rw[dU,ug];exact bZ _
theorem Ww{k n:Str}:n∈iq ks k↔n=k\/n∈ks:=by
 grind [iq]
theorem e4u{x:Str}{S:aV}{n:Nat}(hs:S.s[n]?=some (.o (.aA (nz ks))))(hn:oI x)(hx:ks.contains x=false)(hl:(ks.length<1000000)=True):Ai 0 [dR x,.c n] S=some (.ok (rd .aM) ⟨S.s.set n (.o (.aA (nz (iq ks x)))),S.r⟩):=by
 unfold Ai Nd;simp only[↓ev,hn,aI,hs,v8,hx,JM,hl,Gk,Qy]
variable{S:aV}{n:Nat}{ks carts:List Str}
noncomputable abbrev tk(S:aV)(n:Nat)(ks:List Str):aV:=⟨S.s.set n (.o (.aA (nz ks))),S.r⟩
theorem take1{x:Str}(hn:n<S.s.length)(hx:oI x)(h:x∉ks)(hl:ks.length<1000):Ai 0 [dR x,.c n] (tk S n ks)=some (.ok (rd .aM) (tk S n (ks++[x]))):=by
 have hc:ks.contains x=false:=by simpa using h
 rw[e4u (S:=tk S n ks) (n:=n) (vL hn) hx hc (bH (by lia))]
 grind [iq,List.set_set]
theorem Ua{d0 a:aj Val}(hn:n<S.s.length)(nm:∀c∈carts,oI c)(nd:(ks++carts).Nodup)(hl:ks.length+carts.length<1000):
  ∃a',aL (ae 2) (EO 0) (dS carts) [d0,aH n,a] (tk S n ks)=some (.nx [d0,aH n,a'] (tk S n (ks++carts))):=by
 obtain⟨U',S',e,a',rfl,rfl⟩:=ju (gg:=ae 2) (body:=EO 0) (f:=D.str) (U:=[d0,aH n,a]) (S:=tk S n ks) (λpre U S'=>∃a',U=[d0,aH n,a']/\S'=tk S n (ks++pre)) carts ⟨a,rfl,by rw[jQ]⟩ (by
  rintro d x r eq U S' ⟨a',rfl,rfl⟩;have h1:x∉ks++d:=by
   grind
  have h2:=congrArg List.length eq;rw[dU,kG] at h2;have h:=take1 hn (nm x (by rw[eq];simp)) h1 (by rw[dU];lia)
  refine⟨[d0,aH n,bJ x],[d0,aH n,bJ x],_,rfl,.inl ?_,_,rfl,rfl⟩;rw[<-lj];unfold EO;simp only[↓ev,h,yl])
 exact⟨a',e⟩
theorem YL(hn:n<S.s.length)(nm:∀c∈carts,oI c)(nd:(ks++carts).Nodup)(hl:ks.length+carts.length<1000)(h0:carts≠[]):EU 0 [.d (.lst (dS carts)),.c n] (tk S n ks)=some (.ok (rd .aM) (tk S n (ks++carts))):=by
 obtain⟨a',e⟩:=Ua (d0:=(ak (.lst (dS carts)))) (a:=none) hn nm nd hl;have z:(dS carts).isEmpty=false:=by cases carts with|nil=>exact cz rfl h0|cons _ _=>rfl
 have lc:∀wH,(tk S n wH).cut (tk S n ks).s.length=tk S n wH:=λwH=>by unfold aV.cut;simp only[xt];rw[Ew (by rw[xt];exact bZ _)]
 unfold EU MV;simp only[↓ev,gK,e,z,lr,aI,lc]
variable{S:aV}{n:Nat}{ks:List Str}
theorem e4v{c:Cell}{wH:List Str}:(tk S n wH).cut (S.s.set n c).length=tk S n wH:=by
 grind [aV.cut,List.take_of_length_le]
theorem Ub{bs:List aw}{d0 a2 a3 a4 a5 a6:aj Val}(hn:n<S.s.length)(nm:∀b∈bs,oI b.name)(lg:∀b∈bs,1<=b.long/\(b.ring=true->2<=b.long))(nd:(ks++bs.map aw.name).Nodup)(hl:ks.length+bs.length<1000):
  ∃b2 b3 b4 b5 b6,aL (a_ [(ae 2),(ae 3),(ae 4),(ae 5)]) (ER 0) (bs.map ao) [d0,aH n,a2,a3,a4,a5,a6] (tk S n ks)=some (.nx [d0,aH n,b2,b3,b4,b5,b6] (tk S n (ks++bs.map aw.name))):=by
 obtain⟨U',S',e,b2,b3,b4,b5,b6,rfl,rfl⟩:=ju (gg:=a_ [(ae 2),(ae 3),(ae 4),(ae 5)]) (body:=ER 0) (f:=ao) (U:=[d0,aH n,a2,a3,a4,a5,a6]) (S:=tk S n ks) (λpre U S'=>∃b2 b3 b4 b5 b6,U=[d0,aH n,b2,b3,b4,b5,b6]/\S'=tk S n (ks++pre.map aw.name)) bs ⟨a2,a3,a4,a5,a6,rfl,by rw[Et,jQ]⟩ (by
  rintro d x r eq U S' ⟨b2,b3,b4,b5,b6,rfl,rfl⟩;have h1:x.name∉ks++d.map aw.name:=by
   grind
  have h2:=congrArg List.length eq;rw[dU,kG] at h2;have mx:x∈bs:=by rw[eq];simp
  have h:=take1 hn (nm x mx) h1 (by rw[dU,bw];lia)
  obtain⟨l1,l2⟩:=lg x mx;have e1:∀b,a_ [(ae 2),(ae 3),(ae 4),(ae 5)] (ao x) [d0,aH n,b2,b3,b4,b5,b]=some [d0,aH n,bJ x.name,cq x.long,ak (.bl x.ring),ak (.lst (dS x.outs)),b]:=λ_=>rfl
  refine⟨_,[d0,aH n,bJ x.name,cq x.long,ak (.bl x.ring),ak (.lst (dS x.outs)),cq (if x.ring=true then 2 else 1)],_,e1 _,.inl ?_,_,_,_,_,_,rfl,rfl⟩
  rw[fR,cU,Et,<-lj];unfold ER;cases hr:x.ring with
  |true=>
   have z:(x.long<2)=False:=eq_false (by have:=l2 hr;lia)
   simp only[↓ev,h,yl,aP,z,decide_false,aI]
  |false=>
   have z:(x.long<1)=False:=eq_false (by lia)
   simp only[↓ev,h,yl,aI,aP,z,decide_false])
 exact⟨b2,b3,b4,b5,b6,e⟩
theorem YM{bs:List aw}(hn:n<S.s.length)(nm:∀b∈bs,oI b.name)(lg:∀b∈bs,1<=b.long/\(b.ring=true->2<=b.long))(nd:(ks++bs.map aw.name).Nodup)(hl:ks.length+bs.length<1000):EV 0 [.d (.lst (bs.map ao)),.c n] (tk S n ks)=some (.ok (rd .aM) (tk S n (ks++bs.map aw.name))):=by
 obtain⟨b2,b3,b4,b5,b6,e⟩:=Ub (d0:=(ak (.lst (bs.map ao)))) (a2:=none) (a3:=none) (a4:=none) (a5:=none) (a6:=none) hn nm lg nd hl;unfold EV MW;simp only[↓ev,gK,e,e4v]
variable{ks:List Str}
noncomputable abbrev iz(S:aV)(ks:List Str):aV:=⟨S.s++[.o (.aA (nz ks))],S.r⟩
def bR(b:Str)(ks:List Str)(x:aw):List Str:=if(x.name == b || ks.contains x.name)=true then x.outs.foldl iq ks else ks
theorem O0(outs:List Str):∀ks:List Str,(outs.foldl iq ks).length<=ks.length+outs.length:=by
 induction outs with
 |nil=>intro ks;exact bZ _
 |cons o outs ih=>
  grind [OZ]
section
variable{S:aV}{g0 g1 g3 g4 g5 g6 a:aj Val}
theorem Lu{o:Str}(hl:(ks.length<1000000)=True):Bz 0 [g0,g1,aH S.s.length,g3,g4,g5,g6,bJ o] (iz S ks)=some (.nx [g0,g1,aH S.s.length,g3,g4,g5,g6,bJ o] (iz S (iq ks o))):=by
 unfold Bz;simp only[↓ev,eA,JM,hl,Gk,jB]
theorem Wx(outs ks:List Str)(h:ks.length+outs.length<1000000):∃a',aL (ae 7) (Bz 0) (dS outs) [g0,g1,aH S.s.length,g3,g4,g5,g6,a] (iz S ks)=some (.nx [g0,g1,aH S.s.length,g3,g4,g5,g6,a'] (iz S (outs.foldl iq ks))):=by
 obtain⟨U',S',e,a',rfl,rfl⟩:=ju (gg:=ae 7) (body:=Bz 0) (f:=D.str) (U:=[g0,g1,aH S.s.length,g3,g4,g5,g6,a]) (S:=iz S ks) (λpre U S'=>∃a',U=[g0,g1,aH S.s.length,g3,g4,g5,g6,a']/\S'=iz S (pre.foldl iq ks)) outs ⟨a,rfl,rfl⟩ (by
  rintro d x r eq U S' ⟨a',rfl,rfl⟩;have h2:=congrArg List.length eq;rw[dU,kG] at h2;have:=O0 d ks;refine⟨_,_,_,rfl,.inl (Lu (bH (by lia))),_,rfl,by rw[Mv];rfl⟩)
 exact⟨a',e⟩
theorem Uc(b:Str)(bs:List aw)(ks:List Str)(a3 a4 a5 a6 a7:aj Val)(h:ks.length+(bs.map λx=>x.outs.length).sum<1000000):∃b3 b4 b5 b6 b7,aL (a_ [(ae 3),(ae 4),(ae 5),(ae 6)]) (Aj 0) (bs.map ao) [g0,bJ b,aH S.s.length,a3,a4,a5,a6,a7] (iz S ks)=some (.nx [g0,bJ b,aH S.s.length,b3,b4,b5,b6,b7] (iz S (bs.foldl (bR b) ks))):=by
 obtain⟨U',S',e,b3,b4,b5,b6,b7,rfl,rfl,_⟩:=ju (gg:=a_ [(ae 3),(ae 4),(ae 5),(ae 6)]) (body:=Aj 0) (f:=ao) (U:=[g0,bJ b,aH S.s.length,a3,a4,a5,a6,a7]) (S:=iz S ks) (λpre U S'=>∃b3 b4 b5 b6 b7,U=[g0,bJ b,aH S.s.length,b3,b4,b5,b6,b7]/\S'=iz S (pre.foldl (bR b) ks)/\(pre.foldl (bR b) ks).length<=ks.length+(pre.map λx=>x.outs.length).sum) bs ⟨a3,a4,a5,a6,a7,rfl,rfl,Hv _ _⟩ (by
  rintro d x r eq U S' ⟨b3,b4,b5,b6,b7,rfl,rfl,hl⟩;rw[eq,fR,cU,List.sum_append,MC] at h;have hf:=O0 x.outs (d.foldl (bR b) ks);have e1:a_ [(ae 3),(ae 4),(ae 5),(ae 6)] (ao x) [g0,bJ b,aH S.s.length,b3,b4,b5,b6,b7]=some [g0,bJ b,aH S.s.length,bJ x.name,cq x.long,ak (.bl x.ring),ak (.lst (dS x.outs)),b7]:=rfl;rw[Mv,fR,List.sum_append];show ∃U1 U' S',_/\_/\∃b3 b4 b5 b6 b7,U'=_/\S'=iz S (bR b (d.foldl (bR b) ks) x)/\(bR b (d.foldl (bR b) ks) x).length<=_+(_+(x.outs.length+0));obtain⟨a',e2⟩:=Wx (S:=S) (g0:=g0) (g1:=(bJ b)) (g3:=(bJ x.name)) (g4:=(cq x.long)) (g5:=(ak (.bl x.ring))) (g6:=(ak (.lst (dS x.outs)))) (a:=b7) x.outs (d.foldl (bR b) ks) (by lia)
  generalize d.foldl (bR b) ks=ks1 at *;unfold bR;cases c1:x.name == b with
  |true=>
   refine⟨_,_,_,e1,.inl (by unfold Aj;simp only[↓ev,aI,eV,c1,gK,e2] <;> rfl),_,_,_,_,_,rfl,?_,?_⟩
   all_goals lia
  |false=>
   cases c2:ks1.contains x.name with
   |true=>
    refine⟨_,_,_,e1,.inl (by unfold Aj;simp only[↓ev,aI,eV,c1,eA,v8,c2,gK,e2] <;> rfl),_,_,_,_,_,rfl,?_,?_⟩
    .rw[MD,bx rfl]
    .rw[MD,bx rfl];lia
   |false=>
    refine⟨_,_,_,e1,.inl (by unfold Aj;simp only[↓ev,aI,eV,c1,eA,v8,c2] <;> rfl),_,_,_,_,_,rfl,?_,?_⟩
    all_goals lia)
 exact⟨b3,b4,b5,b6,b7,e⟩
theorem Tj(q:Nat)(xs:List Str)(h:xs.length<=1000000):bh (ae 0) (Io q) (Ip q) (dS xs) [none,aH S.s.length] (iz S ks) []=some (.ok (dS (xs.filter λo=>ks.contains o)) (iz S ks)):=by
 rw[dS,uN (λo=>if ks.contains o=true then some (.str o) else none) xs (by lia) λo m=>by
  unfold Io Ip;cases hc:ks.contains o with
  |true=>exact .inr ⟨rd (.str o),.str o,rfl,by simp only[↓ev,eA,aI,v8,hc],by simp only[↓ev],rfl⟩
  |false=>exact .inl ⟨rfl,by simp only[↓ev,eA,aI,v8,hc]⟩]
 congr 2
 induction xs with
 |nil=>rfl
 |cons o r ih=>
  grind
theorem Vi{h:aF}(sm:rO h)(b:Str):P0 Fp [.d (ax h),dR b] (.o (.lst (dS ((h.af.map aw.name++h.carts).filter λx=>(h.af.foldl (bR b) []).contains x)))):=by
 intro S;have h1:=sm.bl;have h2:=sm.ct;have h3:=sm.ou;obtain⟨b3,b4,b5,b6,b7,e⟩:=Uc (S:=S) (g0:=(ak (ax h))) b h.af [] none none none none none (by rw[Ba];lia)
 have hn:=yh h.af (by lia)
 have hc:=λq=>Tj (S:=S) (ks:=h.af.foldl (bR b) []) q (h.af.map aw.name++h.carts) (by rw[dU,bw];lia)
 have ap:dS (h.af.map aw.name)++dS h.carts=dS (h.af.map aw.name++h.carts):=fR.symm;have le:((dS (h.af.map aw.name)).length+(dS h.carts).length<=1000000)=True:=bH (by rw[bw,bw,bw];lia)
 have hD:ax h=.tup [.lst (h.af.map ao),.lst (dS h.carts)]:=rfl;rw[show iz S []=⟨S.s++[.o (.aA [])],S.r⟩ from rfl] at e;rw[hD] at e ⊢;unfold Fp N1;simp only[↓ev,aP,bU,gK,e,iz,hn,cL,le,ap,hc,o_]
end
variable{outs:List Str}{b n:Str}{h:aF}
def Q9(bs:List aw)(b:Str):List Str:=bs.foldl (bR b) []
inductive RR (bs:List aw) (outs:List Str):Str->Prop
 |base {n:Str}:n∈outs->RR bs outs n
 |step {m n:Str} {b:aw}:RR bs outs m->b∈bs->b.name=m->n∈b.outs->RR bs outs n
theorem iW:∀{ks:List Str} {n:Str},n∈outs.foldl iq ks↔n∈outs\/n∈ks:=by
 induction outs with
 |nil=>intro ks n;simp
 |cons o outs ih=>
  grind [Ww]
theorem Vj{ks:List Str}{x:aw}(h:n∈ks):n∈bR b ks x:=by
 unfold bR;split
 .exact iW.mpr (.inr h)
 .exact h
theorem Vk{bs:List aw}:∀{ks:List Str} {n:Str},n∈ks->n∈bs.foldl (bR b) ks:=by
 induction bs with
 |nil=>intro ks n h;exact h
 |cons x bs ih=>intro ks n h;exact ih (Vj h)
theorem N8{carts:List Str}{b:Str}:∀{bs:List aw} {ks:List Str} {n:Str},lz carts bs->n∈bs.foldl (bR b) ks->n∈ks\/n∈bs.tail.map aw.name\/n∈carts
 |[],ks,n,_,h=>.inl h
 |x::bs,ks,n,f,h=>by
  rcases N8 f.2.2.2 h with z|z|z
  .unfold bR at z;split at z
   .rcases iW.mp z with z|z
    .rcases f.1 n z with z|z
     .exact .inr (.inl z)
     .exact .inr (.inr z)
    .exact .inl z
   .exact .inl z
  .refine .inr (.inl ?_);cases bs with
   |nil=>exact z
   |cons y bs=>exact n8 _ z
  .exact .inr (.inr z)
theorem Il{carts:List Str}{b:Str}:∀{bs:List aw} {ks:List Str},lz carts bs->∀x∈bs,(x.name=b\/x.name∈bs.foldl (bR b) ks)->∀o∈x.outs,o∈bs.foldl (bR b) ks
 |y::bs,ks,f,x,hx,hn,o,ho=>by
  rcases y0b.mp hx with rfl|hx
  .have h1:(x.name == b || ks.contains x.name)=true:=by
    rcases hn with hn|hn
    .lia
    .rcases N8 (b:=b) f hn with z|z|z
     .simp_all
     .exact cz z f.2.1
     .exact cz z f.2.2.1
   show o∈bs.foldl (bR b) (bR b ks x);refine Vk ?_;unfold bR;rw[bx h1];exact iW.mpr (.inl ho)
  .exact Il (ks:=bR b ks y) f.2.2.2 x hx hn o ho
theorem O1{Cp:List aw}{b:aw}(hb:b∈Cp)(hu:∀x∈Cp,x.name=b.name->x=b):∀{bs:List aw} {ks:List Str},(∀x∈bs,x∈Cp)->(∀n∈ks,RR Cp b.outs n)->∀n∈bs.foldl (bR b.name) ks,RR Cp b.outs n
 |[],ks,_,h,n,hn=>h n hn
 |x::bs,ks,hs,h,n,hn=>O1 hb hu (λy hy=>hs y (n8 _ hy)) (λm hm=>by
   unfold bR at hm;split at hm
   .rename_i hc
    rcases iW.mp hm with z|z
    .rw[Bool.or_eq_true,beq_iff_eq,lq] at hc;rcases hc with hc|hc
     .rw[hu x (hs x vK) hc] at z;exact .base z
     .exact .step (h _ hc) (hs x vK) rfl z
    .exact h m z
   .exact h m hm) n hn
theorem Vl(f:lz h.carts h.af){b:aw}(hb:b∈h.af)(n:Str):n∈Q9 h.af b.name↔RR h.af b.outs n:=by
 unfold Q9;constructor
 .exact O1 hb (λx hx e=>Ap f x hx b hb e) (λ_ m=>m) (λ_ m=>by cases m) n
 .intro r
  induction r with
  |base m=>exact Il f b hb (.inl rfl) _ m
  |step r hx hn hm ih=>exact Il f _ hx (.inr (by rw[hn];exact ih)) _ hm
theorem Wy{bs:List aw}{w:aw}(hw:w∈bs)(r:RR bs outs w.name)(r2:RR bs w.outs n):RR bs outs n:=by
 induction r2 with
 |base m=>exact .step r hw rfl m
 |step _ hb hn hm ih=>exact .step ih hb hn hm
theorem Jx{h:aF}(g:aG h):∀{bs pre:List aw},h.af=pre++bs->∀b∈bs,RR h.af b.outs (h.carts.getD 0 "")
 |x::bs,pre,eq,b,hb=>by
  have AK:h.af=(pre++[x])++bs:=by rw[eq];simp
  rcases y0b.mp hb with rfl|hb
  .have GN:b∈h.af:=by rw[eq];simp
   have fx:lz h.carts (b::bs):=BG (by rw[<-eq];exact g.fwd)
   rcases g.hd b GN with z|⟨o,z1,z2⟩
   .exact .base z
   .rcases fx.1 o z1 with y|y
    .obtain⟨w,hw,ew⟩:=eW.mp y;exact Wy (w:=w) (by rw[AK];simp[hw]) (by rw[ew];exact .base z1) (Jx g AK w hw)
    .exact cz z2 (BL g.fwd o y)
  .exact Jx g AK b hb
theorem AA(g:aG h):h.carts.getD 0 ""∈h.carts/\eH (dS h.carts) 0=some (.str (h.carts.getD 0 "")):=by
 have:=g.c0;cases GR:h.carts with
 |nil=>rw[GR] at this;simp at this
 |cons c cs=>exact⟨by simp,uC (j:=0) rfl⟩
theorem e4w(g:aG h):P0 EZ [.d (ax h)] (rd .aM):=by
 intro S;have bl:=g.sm.bl;obtain⟨hc,i0⟩:=AA g;have e1:=yh h.af (by lia)
 obtain⟨U',S',e,a,rfl,rfl⟩:=ju (gg:=ae 2) (body:=Ia 0) (f:=D.str) (U:=[ak (ax h),bJ (h.carts.getD 0 ""),none]) (S:=S) (λ_ U S'=>∃a,U=[ak (ax h),bJ (h.carts.getD 0 ""),a]/\S'=S) (h.af.map aw.name) ⟨_,rfl,rfl⟩ (by
  rintro d x r eq U S' ⟨a,rfl,rfl⟩;obtain⟨b,hb,rfl⟩:∃b∈h.af,b.name=x:=eW.mp (by rw[eq];simp)
  have e1:=Vi g.sm b.name;have hm:((h.af.map aw.name++h.carts).filter λx=>(h.af.foldl (bR b.name) []).contains x).contains (h.carts.getD 0 "")=true:=by
   rw[lq,pV];exact⟨n9 _ hc,lq.mpr ((Vl g.fwd hb _).mpr (Jx g (pre:=[]) rfl b hb))⟩
  refine⟨[ak (ax h),bJ (h.carts.getD 0 ""),bJ b.name],_,_,rfl,.inl ?_,bJ b.name,rfl,rfl⟩;unfold Ia;generalize((h.af.map aw.name++h.carts).filter λx=>(h.af.foldl (bR b.name) []).contains x)=l at *
  generalize h.carts.getD 0 ""=hand at *;simp only[↓ev,e1,jb,ja,hm,hV,aI])
 have hD:ax h=.tup [.lst (h.af.map ao),.lst (dS h.carts)]:=rfl;generalize h.carts.getD 0 ""=hand at *;rw[hD] at e ⊢;unfold EZ M5;simp only[↓ev,cL,i0,aP,bU,e1,gK,e,gE]
theorem M8{x z:Str}:∀{ys:List Str} {j:Nat},ys[j]?=some z->x∈ys->x≠z->x∈ys.eraseIdx j
 |y::ys,0,e,hx,gF=>by
  simp_all
 |y::ys,j+1,e,hx,gF=>by
  rw[List.getElem?_cons_succ] at e;show x∈y::ys.eraseIdx j;rcases y0b.mp hx with rfl|hx
  .exact .head _
  .exact .tail _ (M8 e hx gF)
 |[],_,_,hx,_=>by cases hx
theorem Ft{z:Str}{ys:List Str}(h:z∈ys):∃j,findS ys z=some j:=by
 cases q:findS ys z with
 |some j=>exact⟨j,rfl⟩
 |none=>
  unfold findS at q;rw[List.findIdx?_eq_none_iff] at q;have:=q z h;simp at this
theorem Wz(L:List Str)(j:Nat):(dS L).eraseIdx j=dS (L.eraseIdx j):=by
 grind [List.eraseIdx_eq_take_drop_succ,List.map_take,List.map_drop]
section
variable{S:aV}{s0 s1 s2 s3 s4 s5 a7:aj Val}
theorem Ly{L:List Str}{x:Str}{j:Nat}(hc:L.contains x=true)(hj:findS L x=some j):Bu 0 [s0,s1,s2,s3,s4,s5,aH S.s.length,bJ x] (bX S (dS L))=some (.nx [s0,s1,s2,s3,s4,s5,aH S.s.length,bJ x] (bX S (dS (L.eraseIdx j)))):=by
 have h:=NW L;unfold Bu;simp only[↓ev,bX,eA,jb,ja,hc,hV,aI,h,hj,Wz,jB]
theorem YN(outs L:List Str)(nd:outs.Nodup)(hs:∀o∈outs,o∈L):∃L' b7,aL (ae 7) (Bu 0) (dS outs) [s0,s1,s2,s3,s4,s5,aH S.s.length,a7] (bX S (dS L))=some (.nx [s0,s1,s2,s3,s4,s5,aH S.s.length,b7] (bX S (dS L'))):=by
 obtain⟨U',S',e,L',b7,rfl,rfl,_⟩:=ju (gg:=ae 7) (body:=Bu 0) (f:=D.str) (U:=[s0,s1,s2,s3,s4,s5,aH S.s.length,a7]) (S:=bX S (dS L)) (λpre U S'=>∃L' b7,U=[s0,s1,s2,s3,s4,s5,aH S.s.length,b7]/\S'=bX S (dS L')/\∀o∈outs,o∉pre->o∈L') outs ⟨L,a7,rfl,rfl,λo ho _=>hs o ho⟩ (by
  rintro q x post eq U S' ⟨L',b7,rfl,rfl,hL⟩;have hxq:x∉q:=λz=>by
   rw[eq] at nd;exact(lJ.mp nd).2.2 x z x (.head _) rfl
  have hx:x∈L':=hL x (by rw[eq];simp) hxq
  obtain⟨j,hj⟩:=Ft hx;refine⟨_,_,_,rfl,.inl (Ly (lq.mpr hx) hj),L'.eraseIdx j,bJ x,rfl,rfl,λo ho hq=>?_⟩
  simp only[dF,kH,not_or] at hq;exact M8 (BD hj).1 (hL o ho hq.1) hq.2)
 exact⟨L',b7,e⟩
end
theorem WA(q:List aw)(x:aw)(post:List aw)(i:Int)(hi:i=(q.length:Nat)):cutD ((q++x::post).map ao) (some (i+1)) none=post.map ao:=by
 unfold cutD;have e4:HT.cO ((q++x::post).map ao).length 0 (some (i+1))=q.length+1:=by
  grind [HT.cO]
 have e5:HT.cO ((q++x::post).map ao).length ((q++x::post).map ao).length none=((q++x::post).map ao).length:=rfl;have e6:((q++x::post).map ao).drop (q.length+1)=post.map ao:=by
  rw[<-HD,show q++x::post=(q++[x])++post by simp,List.drop_left' (by simp)]
 grind
section
variable{S:aV}{h:aF}
theorem WB{d0:List D}{cs:List Str}{i:Int}{x:aw}{post:List aw}{a4 a5 a6 a7:aj Val}(hs:cutD d0 (some (i+1)) none=post.map ao)(hp:post.length<=1000)(hc:cs.length<=1000)(nd:x.outs.Nodup)(sb:∀o∈x.outs,o∈post.map aw.name++cs)(ne:x.outs≠[]):
  ∃L' b7,ET 0 [ak (.lst d0),ak (.lst (dS cs)),cq i,ak (ao x),a4,a5,a6,a7] S=some (.nx [ak (.lst d0),ak (.lst (dS cs)),cq i,ak (ao x),bJ x.name,ak (.lst (dS x.outs)),aH S.s.length,b7] (bX S (dS L'))):=by
 obtain⟨L',b7,e⟩:=YN (S:=S) (s0:=(ak (.lst d0))) (s1:=(ak (.lst (dS cs)))) (s2:=(cq i)) (s3:=(ak (ao x))) (s4:=(bJ x.name)) (s5:=(ak (.lst (dS x.outs)))) (a7:=a7) x.outs (post.map aw.name++cs) nd sb;have e1:=yh post (by lia)
 have ap:dS (post.map aw.name)++dS cs=dS (post.map aw.name++cs):=fR.symm;have le:((dS (post.map aw.name)).length+(dS cs).length<=1000000)=True:=bH (by rw[bw,bw,bw];lia)
 have z:(dS x.outs).isEmpty=false:=by cases hz:x.outs with|nil=>exact cz hz ne|cons _ _=>rfl
 have hD:ao x=.tup [.str x.name,.int x.long,.bl x.ring,.lst (dS x.outs)]:=rfl;refine⟨L',b7,?_⟩;rw[hD] at e ⊢;unfold ET;simp only[↓ev,bU,aP,uK,is4,hs,e1,le,ap,gK,e,z,lr,aI]
theorem Vm(g:aG h)(ho:∀b∈h.af,b.outs≠[]):P0 EY [.d (.lst (h.af.map ao)),.d (.lst (dS h.carts))] (rd .aM):=by
 intro S;have bl:=g.sm.bl;have ct:=g.sm.ct;have fw:=g.fwd;obtain⟨U',S',e,a2,a3,a4,a5,a6,a7,L,rfl,rfl⟩:=e7y (gg:=a_ [(ae 2),(ae 3)]) (body:=ET 0) (U:=[ak (.lst (h.af.map ao)),ak (.lst (dS h.carts)),none,none,none,none,none,none]) (S:=S) ao (λpre U S'=>∃a2 a3 a4 a5 a6 a7 L,U=[ak (.lst (h.af.map ao)),ak (.lst (dS h.carts)),a2,a3,a4,a5,a6,a7]/\S'=⟨S.s++L,S.r⟩) h.af ⟨_,_,_,_,_,_,[],rfl,by rw[jQ]⟩ (by
  rintro q x post eq U S' ⟨a2,a3,a4,a5,a6,a7,L,rfl,rfl⟩;have hb:x∈h.af:=by rw[eq];simp
  have hl:=congrArg List.length eq;rw[dU,kG] at hl;have fx:lz h.carts (x::post):=BG (by rw[<-eq];exact fw)
  have hs:=WA q x post (q.length:Nat) rfl;rw[<-eq] at hs;obtain⟨L',b7,e⟩:=WB (S:=⟨S.s++L,S.r⟩) (a4:=a4) (a5:=a5) (a6:=a6) (a7:=a7) (cs:=h.carts) hs (by lia) (by lia) (g.nd x hb) (λo m=>by
   rcases fx.1 o m with z|z
   .exact Ep _ z
   .exact n9 _ z) (ho x hb)
  exact⟨_,_,_,rfl,e,_,_,_,_,_,_,L++[.o (.lst (dS L'))],rfl,by unfold bX;rw[lj]⟩)
 unfold EY M4;simp only[↓ev,gK,e,o_]
theorem NA(g:aG h):(h.carts++h.af.map aw.name).Nodup:=by
 refine lJ.mpr ⟨g.cn,?_,λa ha b hb e=>BL g.fwd a ha (e ▸ hb)⟩
 have:∀{bs:List aw},lz h.carts bs->(bs.map aw.name).Nodup:=by
  intro bs
  induction bs with
  |nil=>intro _;exact .nil
  |cons b bs ih=>intro f;exact tJ.mpr ⟨f.2.1,ih f.2.2.2⟩
 exact this g.fwd
theorem YO(g:aG h):P0 EX [.d (ax h)] (rd (.bl true)):=by
 intro S;have ho:∀b∈h.af,b.outs≠[]:=λb hb z=>by
  rcases g.hd b hb with y|⟨o,y,_⟩
  all_goals simp_all
 have bl:=g.sm.bl;have ct:=g.sm.ct;have nd:=NA g;have c0:h.carts≠[]:=λz=>by have:=g.c0;rw[z] at this;cases this
 have ln:∀c,S.s.length<(S.s++[c]:List Cell).length:=λc=>by rw[dU];exact qH _
 have e1:=YL (S:=⟨S.s++[.o (.aA [])],S.r⟩) (n:=S.s.length) (ks:=[]) (carts:=h.carts) (ln _) g.cm (by rw[El];exact g.cn) (by rw[Ba];lia) c0
 have e2:=YM (S:=⟨S.s++[.o (.aA [])],S.r⟩) (n:=S.s.length) (ks:=h.carts) (bs:=h.af) (ln _) g.nm g.lg nd (by lia)
 have se:∀c:Cell,(S.s++[Cell.o (.aA [])]).set S.s.length c=S.s++[c]:=λc=>jB
 simp only[tk,se,qqc] at e1 e2;have k0:nz []=[]:=rfl;rw[k0] at e1;have e3:=Vm g ho;have e4:=e4w g;have hD:ax h=.tup [.lst (h.af.map ao),.lst (dS h.carts)]:=rfl;rw[hD] at e4 ⊢;unfold EX MX;simp only[↓ev,bU,aP,cL,e1,e2,e3,e4,o_]
end
theorem N9(names carts:List Str)(nd:names.Nodup)(dj:∀x∈names,x∉carts):∀(bs:List aw) (j:Nat),j+bs.length=names.length->(∀i b,bs[i]?=some b->b.name=names.getD (j+i) ""/\∀o∈b.outs,o∈names.drop (j+i+1)++carts)->lz carts bs/\bs.map aw.name=names.drop j
 |[],j,hl,_=>⟨tK,by rw[List.drop_eq_nil_of_le (by simp at hl;lia)];rfl⟩
 |b::bs,j,hl,h=>by
  rw[kG] at hl;obtain⟨f,e⟩:=N9 names carts nd dj bs (j+1) (by lia) λi b hb=>by
   have:=h (i+1) b (by simpa using hb)
   rw[show j+(i+1)=j+1+i by lia] at this
   exact this
  obtain⟨h1,h2⟩:=h 0 b rfl;rw[Nat.add_zero] at h1 h2;have hj:j<names.length:=by lia
  have ed:names.drop j=names[j]::names.drop (j+1):=Mo hj;have en:b.name=names[j]:=by rw[h1,Bd,iH hj];rfl
  have nd':(names.drop j).Nodup:=nd.sublist (List.drop_sublist _ _);rw[ed] at nd';refine⟨⟨λo ho=>?_,?_,?_,f⟩,by rw[cU,e,en,ed]⟩
  all_goals grind
noncomputable def qD(bs:List aw):Int:=(bs.map aw.long).sum
theorem DY:∀{bs:List aw},(∀b∈bs,b.long<=6)->qD bs<=6*bs.length
 |[],_=>by unfold qD;simp
 |b::bs,h=>by
  have h1:=h b (.head _);have h2:=DY (bs:=bs) λx m=>h x (.tail _ m)
  unfold qD at *;rw[cU,MC,kG];lia
theorem DX{bs:List aw}(hl:bs.length<=5)(h:∀(i:Nat) (b:aw),bs[i]?=some b->b.long<=26/\(b.long<=6\/i=0/\bs.length<3)):qD bs<=39:=by
 by_cases z:bs.length<3
 .clear hl;unfold qD;cases bs with
  |nil=>simp
  |cons a l=>
   have:=h 0 a rfl;cases l with
   |nil=>simp;lia
   |cons b l=>
    have:=h 1 b rfl;cases l with
    |nil=>simp;lia
    |cons c l=>simp at z;lia
 .have:=DY (bs:=bs) λb m=>by
   obtain⟨i,hi⟩:=zW.mp m;have:=h i b hi;lia
  lia
theorem YQ(ns:List Int):∃h:aF,aG h/\qD h.af<=39/\0<h.af.length/\h.af.length<=5/\h.carts.length<=4/\P0 Am [.d (br ns)] (rd (ax h)):=by
 obtain⟨p1,p2,p3⟩:=ik ns 0 0 5 (by decide) (by decide) (by decide)
 obtain⟨q1,q2,q3⟩:=ik ns 0 1 4 (by decide) (by decide) (by decide)
 have hp:=yq ns 0 5 (by decide) (by decide)
 have ho:=vZ ns 0 4 (by decide) (by decide)
 have e1:=λq S=>T9 q S ns (1+bF ns 0 0 5).toNat (by lia)
 have e2:=λq S=>T_ q S ns (1+bF ns 0 1 4).toNat (by lia)
 have nl:((List.range (1+bF ns 0 0 5).toNat).map (jA ns 11)).length=(1+bF ns 0 0 5).toNat:=by simp
 have cl:((List.range (1+bF ns 0 1 4).toNat).map λi=>jA ns 11 (10+i)).length=(1+bF ns 0 1 4).toNat:=by simp
 have nnd:((List.range (1+bF ns 0 0 5).toNat).map (jA ns 11)).Nodup:=OY ns _ Mr λi m=>by have:=tG.mp m;lia
 have Wr:((List.range (1+bF ns 0 1 4).toNat).map λi=>jA ns 11 (10+i)).Nodup:=by
  rw[show(λi=>jA ns 11 (10+i))=jA ns 11∘(10+·) from rfl,<-fL]
  refine OY ns _ ?_ λi m=>?_
  .rw[List.Nodup,Em];exact Mr.imp λne z=>ne (by lia)
  grind
 have dj:∀x∈(List.range (1+bF ns 0 0 5).toNat).map (jA ns 11),x∉(List.range (1+bF ns 0 1 4).toNat).map λi=>jA ns 11 (10+i):=λx hx hc=>by
  obtain⟨i,hi,rfl⟩:=eW.mp hx;obtain⟨j,hj,e⟩:=eW.mp hc;have h1:=tG.mp hi;have h2:=tG.mp hj;have:=Q8 ns 11 (by decide) _ _ (by lia) (by lia) e
  lia
 have Lb:∀x∈(List.range (1+bF ns 0 0 5).toNat).map (jA ns 11),oI x:=λx hx=>by
  obtain⟨i,hi,rfl⟩:=eW.mp hx;exact N7 _ (AI ns 11 (by decide) i).1 (AI ns 11 (by decide) i).2 (OV ns 11 (by decide) i)
 have nmC:∀x∈(List.range (1+bF ns 0 1 4).toNat).map (λi=>jA ns 11 (10+i)),oI x:=λx hx=>by
  obtain⟨i,hi,rfl⟩:=eW.mp hx;exact N7 _ (AI ns 11 (by decide) (10+i)).1 (AI ns 11 (by decide) (10+i)).2 (OV ns 11 (by decide) (10+i))
 generalize(List.range (1+bF ns 0 0 5).toNat).map (jA ns 11)=names at *;generalize((List.range (1+bF ns 0 1 4).toNat).map λi=>jA ns 11 (10+i))=carts at *
 obtain⟨hand,hh⟩:∃x,carts.head?=some x:=by
  cases carts with
  |nil=>simp at cl;lia
  |cons a b=>exact⟨a,rfl⟩
 obtain⟨⟨bs,a4,a5,a6⟩,⟨bl,bp⟩,e3⟩:=Q1 (gg:=ae 4) (body:=oY 0) (f:=λ(i:Nat)=>D.int (i:Int)) (λ(b:List aw×aj Val×aj Val×aj Val) S=>([ak (br ns),ak (.lst (dS names)),ak (.lst (dS carts)),aH S.s.length,b.2.1,b.2.2.1,b.2.2.2],bX S (b.1.map ao)))
  (λpre b=>b.1.length=pre.length/\(∀i x,b.1[i]?=some x->x.name=names.getD i ""/\(1<=x.long/\x.long<=26/\(x.long<=6\/i=0/\names.length<3))/\(x.ring=true->2<=x.long)/\oz (names.drop (i+1)) carts hand x.outs)) (List.range (names.length:Int).toNat) ([],none,none,none) ⟨rfl,λi b e=>(by simp at e)⟩ (by
   rintro q i post eq ⟨bs,a4,a5,a6⟩ ⟨bl,bp⟩;obtain⟨hq,hi⟩:=Jg eq;dsimp only at bl bp;have hi:i<names.length:=by lia
   obtain⟨b,b1,b2,b3,b4,Ig,Ik,e⟩:=YK ns i names carts hand bs a5 a6 hi (by lia) hh (by lia) (by lia)
   refine⟨(bs++[b],cq i,Ig,Ik),⟨by show(bs++[b]).length=_;rw[dU,dU,bl];rfl,λj b' mQ=>?_⟩,λS=>⟨_,rfl,.inl (e S)⟩⟩
   have mQ:(bs++[b])[j]?=some b':=mQ;by_cases hj:j<bs.length
   .rw[uf hj] at mQ;exact bp j b' mQ
   .rw[ue (by lia)] at mQ
    have:j - bs.length=0:=by
     have:=(fE.mp mQ).1;simp at this;lia
    rw[this] at mQ;cases mQ;have ej:j=i:=by lia
    rw[ej];exact⟨b1,b2,b3,b4⟩)
 dsimp only at bl bp e3;rw[xu] at bl;have e3:=λS=>(congrArg (λl=>aL (ae 4) (oY 0) l _ _) (s9 _)).trans (e3 S)
 obtain⟨fw,en⟩:=N9 names carts nnd dj bs 0 (by lia) λi b hb=>by
  rw[EB];exact⟨(bp i b hb).1,(bp i b hb).2.2.2.sub⟩
 rw[List.drop_zero] at en;have gi:∀b∈bs,∃i,bs[i]?=some b:=λb hb=>zW.mp hb
 have hg:carts.getD 0 ""=hand:=by
  cases carts with
  |nil=>cases hh
  |cons a b=>cases hh;rfl
 refine⟨⟨bs,carts⟩,⟨fw,⟨by show bs.length<=100;lia,by show carts.length<=100;lia,?_⟩,λb hb=>?_,nmC,λb hb=>?_,λb hb=>?_,Wr,by show 0<carts.length;lia,λb hb=>?_⟩,DX (bs:=bs) (by lia) λi b hi=>(by have:=bp i b hi;lia),by show 0<bs.length;lia,by show bs.length<=5;lia,by show carts.length<=4;lia,λS=>Vh S ns _ _ names carts a4 a5 a6 _ hp ho (MB (by lia)) (MB (by lia)) (names.length:Int) (by rw[bw]) (MB (by lia)) e1 e2 (e3 S)⟩
 .have:=Qg (bs:=bs) λb hb=>by
   obtain⟨i,hi⟩:=gi b hb;exact(bp i b hi).2.2.2.len
  lia
 .exact Lb _ (by rw[<-en];exact mU hb)
 .obtain⟨i,hi⟩:=gi b hb;exact⟨(bp i b hi).2.1.1,(bp i b hi).2.2.1⟩
 .obtain⟨i,hi⟩:=gi b hb;show carts.getD 0 ""∈b.outs\/∃o∈b.outs,o∈bs.map aw.name;rw[hg,en];rcases(bp i b hi).2.2.2.hand with z|⟨o,z1,z2⟩
  .exact .inl z
  .exact .inr ⟨o,z1,List.mem_of_mem_drop z2⟩
 .obtain⟨i,hi⟩:=gi b hb;exact(bp i b hi).2.2.2.nd
section
variable{h:aF}
theorem e8d{q:Nat}{S:aV}{n:Str}{b:aw}{d0:aj Val}(hb:(b.name == n)=false):Ah q [d0,bJ n,ak (ao b)] S=some (.nx [d0,bJ n,ak (ao b)] S):=by
 unfold Ah ao;simp only[↓ev,bU,aI,eV,hb]
theorem e4x{q:Nat}{S:aV}{n:Str}{b:aw}{d0:aj Val}(hb:(b.name == n)=true):Ah q [d0,bJ n,ak (ao b)] S=some (.rt (rd (ao b)) S):=by
 unfold Ah ao;simp only[↓ev,bU,aI,eV,hb,cL,h_,uK,aP]
theorem Aq(g:aG h){b:aw}(hb:b∈h.af):Pr xY [.d (ax h),dR b.name] (rd (ao b)):=by
 intro q S;obtain⟨d,r,eq⟩:=List.append_of_mem hb;have e:aL (ae 2) (Ah q) (h.af.map ao) [ak (ax h),bJ b.name,none] S=some (.rt (rd (ao b)) S):=by
  rw[eq];refine P1 (f:=ao) (λ_ U S'=>∃a,U=[ak (ax h),bJ b.name,a]/\S'=S) d [] _ _ ⟨_,rfl,rfl⟩ ?_ ?_
  .rintro d' y r' e' U S' ⟨a,rfl,rfl⟩;refine⟨_,_,_,rfl,.inl (e8d ?_),_,rfl,rfl⟩;rw[pX];intro z;have hy:y∈d:=by rw[El] at e';rw[e'];simp
   have e2:=Ap g.fwd y (by rw[eq];simp[hy]) b hb z
   have nd:=(lJ.mp (NA g)).2.1
   grind
  .rintro U S' ⟨a,rfl,rfl⟩;exact⟨_,rfl,e4x (fG _)⟩
 have hD:ax h=.tup [.lst (h.af.map ao),.lst (dS h.carts)]:=rfl;rw[hD] at e ⊢;unfold xY NZ;simp only[↓ev,bU,Nat.max_zero,e,gE]
theorem O2(g:aG h):Pr BR [.d (ax h)] (rd (ax h)):=by
 intro q S;have bl:=g.sm.bl;have hn:=yh h.af (by lia)
 have e:∀q S,bh (ae 0) (fD true) (IA q) (dS (h.af.map aw.name)) [none,ak (ax h)] S []=some (.ok (h.af.map ao) S):=λq S=>by
  rw[dS,fL,nW ao h.af (by lia) λb m=>⟨rd (ao b),by
   have hb:=Aq g m;unfold IA;simp only[↓ev,Function.comp,hb],rfl⟩]
 have hD:ax h=.tup [.lst (h.af.map ao),.lst (dS h.carts)]:=rfl;rw[hD] at e ⊢;unfold BR OO;simp only[↓ev,bU,hn,e,aP,cL,gE]
end
theorem mI:atrs.contains (cHall,("built":Str))=true:=by decide +kernel
theorem MS:atrs.contains (cHall,("told_rounds":Str))=true:=by decide +kernel
theorem Ce:atrs.contains (cHall,("now":Str))=true:=by decide +kernel
theorem o4:atrs.contains (cHall,("book":Str))=true:=by decide +kernel
theorem Ar:atrs.contains (cHall,("halts":Str))=true:=by decide +kernel
theorem kI:atrs.contains (cHall,("places":Str))=true:=by decide +kernel
theorem qk:atrs.contains (cHall,("readings":Str))=true:=by decide +kernel
theorem BH:atrs.contains (cHall,("rounded":Str))=true:=by decide +kernel
theorem Jy:atrs.contains (cHall,("gone":Str))=true:=by decide +kernel
theorem vW:atrs.contains (cHall,("carted":Str))=true:=by decide +kernel
section
variable{d0 d1 d2 d3 d4 d5 d6 d7 d8 d9 v:D}
theorem Li:gu "told_rounds" v [(("built":Str),d0)]=[(("built":Str),d0),(("told_rounds":Str),v)]:=by kernel_rfl
theorem Lj:gu "now" v [(("built":Str),d0),(("told_rounds":Str),d1)]=[(("built":Str),d0),(("told_rounds":Str),d1),(("now":Str),v)]:=by kernel_rfl
theorem Lk:gu "book" v [(("built":Str),d0),(("told_rounds":Str),d1),(("now":Str),d2)]=[(("built":Str),d0),(("told_rounds":Str),d1),(("now":Str),d2),(("book":Str),v)]:=by kernel_rfl
theorem Ll:gu "halts" v [(("built":Str),d0),(("told_rounds":Str),d1),(("now":Str),d2),(("book":Str),d3)]=[(("built":Str),d0),(("told_rounds":Str),d1),(("now":Str),d2),(("book":Str),d3),(("halts":Str),v)]:=by kernel_rfl
theorem Lm:gu "places" v [(("built":Str),d0),(("told_rounds":Str),d1),(("now":Str),d2),(("book":Str),d3),(("halts":Str),d4)]=[(("built":Str),d0),(("told_rounds":Str),d1),(("now":Str),d2),(("book":Str),d3),(("halts":Str),d4),(("places":Str),v)]:=by kernel_rfl
theorem Ln:gu "readings" v [(("built":Str),d0),(("told_rounds":Str),d1),(("now":Str),d2),(("book":Str),d3),(("halts":Str),d4),(("places":Str),d5)]=[(("built":Str),d0),(("told_rounds":Str),d1),(("now":Str),d2),(("book":Str),d3),(("halts":Str),d4),(("places":Str),d5),(("readings":Str),v)]:=by kernel_rfl
theorem Lo:gu "rounded" v [(("built":Str),d0),(("told_rounds":Str),d1),(("now":Str),d2),(("book":Str),d3),(("halts":Str),d4),(("places":Str),d5),(("readings":Str),d6)]=[(("built":Str),d0),(("told_rounds":Str),d1),(("now":Str),d2),(("book":Str),d3),(("halts":Str),d4),(("places":Str),d5),(("readings":Str),d6),(("rounded":Str),v)]:=by kernel_rfl
theorem Lp:gu "gone" v [(("built":Str),d0),(("told_rounds":Str),d1),(("now":Str),d2),(("book":Str),d3),(("halts":Str),d4),(("places":Str),d5),(("readings":Str),d6),(("rounded":Str),d7)]=[(("built":Str),d0),(("told_rounds":Str),d1),(("now":Str),d2),(("book":Str),d3),(("halts":Str),d4),(("places":Str),d5),(("readings":Str),d6),(("rounded":Str),d7),(("gone":Str),v)]:=by kernel_rfl
theorem Lq:gu "carted" v [(("built":Str),d0),(("told_rounds":Str),d1),(("now":Str),d2),(("book":Str),d3),(("halts":Str),d4),(("places":Str),d5),(("readings":Str),d6),(("rounded":Str),d7),(("gone":Str),d8)]=[(("built":Str),d0),(("told_rounds":Str),d1),(("now":Str),d2),(("book":Str),d3),(("halts":Str),d4),(("places":Str),d5),(("readings":Str),d6),(("rounded":Str),d7),(("gone":Str),d8),(("carted":Str),v)]:=by kernel_rfl
end
def hF(hd:D)(r now:Int)(n:Nat):List (Str×D):=[("built",hd),("told_rounds",.int r),("now",.int now),("book",.ref (n+1)),("halts",.ref (n+2)),("places",.ref (n+3)),("readings",.ref (n+4)),("rounded",.ref (n+5)),("gone",.ref (n+6)),("carted",.ref (n+7))]
section
variable{S:aV}{h:aF}{r:Int}
theorem e4y(g:aG h):BV 0 [.d (.ref S.r.length),.d (ax h),aO r] ⟨S.s,S.r++[.ins cHall []]⟩=some (.ok (rd .aM) ⟨S.s,S.r++[.ins cHall (hF (ax h) r 0 S.r.length),.o (.aA []),.o (.aA []),.o (.aA []),.o (.aA []),.o (.aA []),.o (.lst []),.o (.aA [])]⟩):=by
 have e1:=YO g;have e2:=O2 g;generalize ax h=hd at *;unfold BV OU hF;simp only[↓ev,e1,e2,eA,mI,jB,MS,Li,Ce,Lj,A0,yl,o4,Lk,Ar,Ll,kI,Lm,qk,Ln,BH,Lo,aP,aI,Jy,Lp,vW,Lq,gE]
end
theorem YR(a b:Str):decide ((TK.inr a:TK)=TK.inr b)=(a == b):=by
 lia
theorem Fu{α:Type}(e:TK×α)(es:List (TK×α))(k:TK)(v:α):bY (e::es) k v=if e.1=k then(e.1,v)::es else e::bY es k v:=rfl
section
variable{α:Type}{k:α->Str}{v:α->D}{xs:List α}{b:Str}{y:D}
def td(k:α->Str)(v:α->D)(xs:List α):List (TK×D):=xs.map λx=>(.inr (k x),v x)
theorem lD:(td k v xs).length=xs.length:=bw ..
theorem Cf(b:Str):∀xs:List α,aQ (td k v xs) (.inr b)=(xs.find? λx=>k x == b).map v
 |[]=>rfl
 |x::xs=>by
  have ih:=Cf b xs;unfold aQ td at *;rw[cU,Bc,Bc];dsimp only;rw[YR];cases(k x == b) with
  |true=>rfl
  |false=>exact ih
theorem jv{x:α}(nd:(xs.map k).Nodup)(hx:x∈xs):aQ (td k v xs) (.inr (k x))=some (v x):=by
 rw[Cf];have:xs.find? (λz=>k z == k x)=some x:=by
  induction xs with
  |nil=>cases hx
  |cons z zs ih=>
   grind
 simp_all
theorem JN(b:Str)(xs:List α):(b∉xs.map k/\aQ (td k v xs) (.inr b)=none)\/∃x∈xs,k x=b/\aQ (td k v xs) (.inr b)=some (v x):=by
 rw[Cf];cases e:xs.find? (λx=>k x == b) with
 |none=>
  simp_all
 |some x=>exact .inr ⟨x,En e,by have:=HC e;exact beq_iff_eq.mp this,rfl⟩
theorem Cg(h:b∉xs.map k):bY (td k v xs) (.inr b) y=td k v xs++[(.inr b,y)]:=by
 induction xs with
 |nil=>rfl
 |cons x xs ih=>
  grind [td,Fu]
theorem Ci(nd:(xs.map k).Nodup)(h:b∈xs.map k):bY (td k v xs) (.inr b) y=td k (λx=>if k x=b then y else v x) xs:=by
 induction xs with
 |nil=>cases h
 |cons x xs ih=>
  rw[cU,tJ] at nd;unfold td at *;rw[cU,cU,Fu];dsimp only;by_cases e:k x=b
  .rw[bx (by rw[e]),bx e]
   congr 1
   refine nQ λz m=>?_
   rw[bc λe2=>nd.1 (by rw[e,<-e2];exact mU m)]
  .rw[bc (λe2=>e (TK.inr.inj e2)),bc e,ih nd.2]
   rcases y0b.mp h with z|z
   .exact cz z.symm e
   .exact z
theorem B6:dW (td k v xs) b=td k v (xs.filter λx=>decide (k x≠b)):=by
 unfold dW td;rw[List.filter_map]
 congr 1
 refine List.filter_congr λx _=>?_
 unfold iX;dsimp only[Function.comp];exact decide_eq_decide.mpr (not_congr ⟨λz=>TK.inr.inj z,λz=>congrArg TK.inr z⟩)
theorem Jz:(td k v xs).map (·.1.d)=dS (xs.map k):=by
 unfold td dS;rw[fL,fL];refine nQ λx _=>?_
 simp[TK.d]
theorem v9:fK (td k v xs)=true:=by
 unfold td fK;rw[Bb];exact jZ.mpr λx _=>rfl
end
section
variable{hd:D}{r nw v:Int}{n:Nat}
theorem ng:List.lookup ("built":Str) (hF hd r nw n)=some (hd):=by kernel_rfl
theorem S8:List.lookup ("told_rounds":Str) (hF hd r nw n)=some (.int r):=by kernel_rfl
theorem Gn:List.lookup ("now":Str) (hF hd r nw n)=some (.int nw):=by kernel_rfl
theorem qp:List.lookup ("book":Str) (hF hd r nw n)=some (.ref (n+1)):=by kernel_rfl
theorem BX:List.lookup ("halts":Str) (hF hd r nw n)=some (.ref (n+2)):=by kernel_rfl
theorem kW:List.lookup ("places":Str) (hF hd r nw n)=some (.ref (n+3)):=by kernel_rfl
theorem qN:List.lookup ("readings":Str) (hF hd r nw n)=some (.ref (n+4)):=by kernel_rfl
theorem Fg:List.lookup ("rounded":Str) (hF hd r nw n)=some (.ref (n+5)):=by kernel_rfl
theorem Qh:List.lookup ("gone":Str) (hF hd r nw n)=some (.ref (n+6)):=by kernel_rfl
theorem x6:List.lookup ("carted":Str) (hF hd r nw n)=some (.ref (n+7)):=by kernel_rfl
theorem e4z:gu "now" (.int v) (hF hd r nw n)=hF hd r v n:=by kernel_rfl
end
variable{hd:D}
section
variable{hd:D}{r nw:Int}{n:Nat}
theorem N_:Cell.jx cHall ("flight":Str) (.ins cHall (hF hd r nw n))=true:=by kernel_rfl
theorem Oa:Cell.jx cHall ("change":Str) (.ins cHall (hF hd r nw n))=true:=by kernel_rfl
theorem Ni:Cell.jx cHall ("call_off":Str) (.ins cHall (hF hd r nw n))=true:=by kernel_rfl
theorem Qi:Cell.jx cHall ("read":Str) (.ins cHall (hF hd r nw n))=true:=by kernel_rfl
theorem Qj:Cell.jx cHall ("stop":Str) (.ins cHall (hF hd r nw n))=true:=by kernel_rfl
theorem O3:Cell.jx cHall ("start":Str) (.ins cHall (hF hd r nw n))=true:=by kernel_rfl
theorem Q_:Cell.jx cHall ("put":Str) (.ins cHall (hF hd r nw n))=true:=by kernel_rfl
theorem ux:Cell.jx cHall ("check_flight":Str) (.ins cHall (hF hd r nw n))=true:=by kernel_rfl
theorem vT:Cell.jx cHall ("check_belt":Str) (.ins cHall (hF hd r nw n))=true:=by kernel_rfl
theorem xR:Cell.jx cHall ("check_inside":Str) (.ins cHall (hF hd r nw n))=true:=by kernel_rfl
theorem WC:Cell.jx cHall ("house":Str) (.ins cHall (hF hd r nw n))=true:=by kernel_rfl
theorem Ob:Cell.jx cHall ("rounds":Str) (.ins cHall (hF hd r nw n))=true:=by kernel_rfl
theorem Oc:Cell.jx cHall ("moment":Str) (.ins cHall (hF hd r nw n))=true:=by kernel_rfl
theorem Ud:Cell.jx cHall ("flights":Str) (.ins cHall (hF hd r nw n))=true:=by kernel_rfl
theorem NB:Cell.jx cHall ("stopped":Str) (.ins cHall (hF hd r nw n))=true:=by kernel_rfl
theorem nV:Cell.jx cHall ("bags":Str) (.ins cHall (hF hd r nw n))=true:=by kernel_rfl
theorem JO:Cell.jx cHall ("out":Str) (.ins cHall (hF hd r nw n))=true:=by kernel_rfl
theorem BY:Cell.jx cHall ("where":Str) (.ins cHall (hF hd r nw n))=true:=by kernel_rfl
theorem IE:Cell.jx cHall ("cart_of":Str) (.ins cHall (hF hd r nw n))=true:=by kernel_rfl
theorem IF:Cell.jx cHall ("catches":Str) (.ins cHall (hF hd r nw n))=true:=by kernel_rfl
theorem Ts:Cell.jx cHall ("in_order":Str) (.ins cHall (hF hd r nw n))=true:=by kernel_rfl
theorem YS:Cell.jx cHall ("move":Str) (.ins cHall (hF hd r nw n))=true:=by kernel_rfl
theorem Ue:Cell.jx cHall ("move_on":Str) (.ins cHall (hF hd r nw n))=true:=by kernel_rfl
theorem Tt:Cell.jx cHall ("move_out":Str) (.ins cHall (hF hd r nw n))=true:=by kernel_rfl
end
structure Row where
 bag:Str
 b:Str
 i:Int
 fl:aj Str
 gn:Int
instance:Inhabited Row:=⟨"","",0,none,0⟩
structure Hl where
 now:Int
 book:List (Str×Str×Int)
 halts:List Str
 rows:List Row
 gone:List (Str×Str×Int)
def aS:aj Str->D
 |none=>.aM
 |some x=>.str x
abbrev pl(b:Str)(i:Int):D:=.tup [.str b,.int i]
def t3(p:Str×Str×Int):D:=.tup [.str p.1,.str p.2.1,.int p.2.2]
def jg(l:List (Str×Str×Int)):List (TK×D):=td (·.1) t3 l
def g_(l:List Row):List (TK×D):=td Row.bag (λr=>pl r.b r.i) l
def iB(l:List Row):List (TK×D):=td Row.bag (λr=>aS r.fl) l
def kN(l:List Row):List (TK×D):=td Row.bag (λr=>.int r.gn) l
def uP(l:List (Str×Str×Int)):List (TK×D):=td (·.1) (λp=>.str p.2.1) l
def dI(l:List (Str×Str×Int)):List D:=l.map t3
abbrev hR(hd:D)(r:Int)(x:Hl):List Cell:=[.ins cHall (hF hd r x.now 0),.o (.aA (jg x.book)),.o (.aA (nz x.halts)),.o (.aA (g_ x.rows)),.o (.aA (iB x.rows)),.o (.aA (kN x.rows)),.o (.lst (dI x.gone)),.o (.aA (uP x.gone))]
noncomputable abbrev hS(hd:D)(r:Int)(x:Hl)(s:List Cell):aV:=⟨s,hR hd r x⟩
section
variable{s:List Cell}{h:aF}{r:Int}{x:Hl}{q:Nat}{b:Str}
theorem WD(g:aG h):Fq q [eD] (hS (ax h) r x s)=some (.ok (rd (ax h)) (hS (ax h) r x s)):=by
 have e2:=O2 g;unfold Fq N4;generalize ax h=hd at *;simp only[↓ev,hR,mI,ng,e2,ck]
theorem Od:Fd q [eD] (hS hd r x s)=some (.ok (rd (.int r)) (hS hd r x s)):=by
 unfold Fd Nv;simp only[↓ev,hR,MS,S8,ck]
theorem JP:Ay q [eD] (hS hd r x s)=some (.ok (.o (.lst (dI x.gone))) (hS hd r x s)):=by
 unfold Ay Qb;simp only[↓ev,hR,Jy,Qh,aP,ck]
theorem An(g:aG h){v:Bool}(hb:(h.af.map aw.name).contains b=v):Af q [eD,dR b] (hS (ax h) r x s)=some (if v=true then .ok (rd .aM) (hS (ax h) r x s) else .ex 116 none (hS (ax h) r x s)):=by
 have bl:=g.sm.bl;have hn:=yh h.af (by lia)
 unfold Af MR ax;cases v with
 |true=>simp only[↓ev,hR,mI,ng,bU,hn,jb,ja,hb,hV,aI,ck]
 |false=>simp only[↓ev,hR,mI,ng,bU,hn,jb,ja,hb,lr,ck,aI]
theorem yr{α:Type}{k:α->Str}{v:α->D}{xs:List α}{b:Str}:(aQ (td k v xs) (.inr b)).isSome=(xs.map k).contains b:=by
 grind [JN]
theorem WE(q:Nat)(ns:List Str)(hl:ns.length<=1000):bh (ae 0) (Ie q) (Ih q) (dS ns) [none,bQ] (hS hd r x s) []=some (.ok (dS (ns.filter λn=>x.halts.contains n)) (hS hd r x s)):=by
 rw[dS,uN (λo=>if x.halts.contains o=true then some (.str o) else none) ns (by lia) λo m=>by
  have v:=v8 o x.halts;unfold Ie Ih;cases hc:x.halts.contains o with
  |true=>
   rw[hc] at v;exact .inr ⟨rd (.str o),.str o,rfl,by simp only[↓ev,hR,Ar,BX,aP,aI,v],by simp only[↓ev],rfl⟩
  |false=>
   rw[hc] at v;exact .inl ⟨rfl,by simp only[↓ev,hR,Ar,BX,aP,aI,v]⟩]
 congr 2
 induction ns with
 |nil=>rfl
 |cons o ns ih=>
  grind
noncomputable def df(h:aF)(x:Hl):List Str:=(h.af.map aw.name).filter λn=>x.halts.contains n
theorem Oe(g:aG h):BA q [eD] (hS (ax h) r x s)=some (.ok (.o (.lst (dS (df h x)))) (hS (ax h) r x s)):=by
 have bl:=g.sm.bl;have hn:=yh h.af (by lia)
 have e:=λq=>WE (s:=s) (r:=r) (x:=x) (hd:=ax h) q (h.af.map aw.name) (by rw[bw];lia)
 unfold BA Nf df ax at *;simp only[↓ev,hR,mI,ng,bU,hn,e,ck]
end
variable{h:aF}{b:Str}{S:aV}
noncomputable def rk(h:aF)(b:Str):Int:=((findS (h.af.map aw.name) b).getD 0:Nat)
theorem BZ:∀xs:List Str,dh (dS xs)=some xs
 |[]=>rfl
 |x::xs=>by
  have ih:=BZ xs;show(dh (D.str x::dS xs))=_;unfold dh;rw[ih];rfl
theorem e5a(hb:b∈h.af.map aw.name):ji (.lst (dS (h.af.map aw.name))) (.str b)=some (rd (.int (rk h b))):=by
 obtain⟨j,hj⟩:=Ft hb;show(dh (dS _)).bind _=_;unfold rk;rw[BZ,zY,hj];rfl
theorem e5b{c:Str}(hb:b∈h.af.map aw.name)(hc:c∈h.af.map aw.name)(e:rk h b=rk h c):b=c:=by
 obtain⟨j,hj⟩:=Ft hb;obtain⟨k,hk⟩:=Ft hc;unfold rk at e;rw[hj,hk] at e;have e:((j:Nat):Int)=(k:Nat):=e;have e:j=k:=by lia
 have h1:=(BD hj).1;have h2:=(BD hk).1;rw[e,h2] at h1;exact(Option.some.inj h1).symm
def lC(h:aF)(r:Row):Prop:=∃bt∈h.af,bt.name=r.b/\0<=r.i/\r.i<bt.long/\0<=r.gn
theorem lC.nm{r:Row}(o:lC h r):r.b∈h.af.map aw.name:=by
 obtain⟨bt,hb,e,_⟩:=o;rw[<-e];exact mU hb
def nN(h:aF)(r:Row):D:=.tup [.int (rk h r.b),.int r.i,.str r.bag]
def mi(h:aF)(r:Row):Int×Int:=(rk h r.b,r.i)
def ord(h:aF)(rows:List Row):List Row:=if rows.length<2 then rows else(dN (rows.map (mi h))).map λj=>rows.getD j default
theorem O4(h:aF):∀rows:List Row,kr (rows.map (nN h))=some (rows.map (mi h))
 |[]=>rfl
 |r::rows=>by
  have ih:=O4 h rows;show kr (D.tup [.int (rk h r.b),.int r.i,.str r.bag]::rows.map (nN h))=_;show(kr (rows.map (nN h))).map _=_;rw[ih];rfl
theorem O6{rows:List Row}(nd:(rows.map (mi h)).Nodup):(ord h rows).Perm rows:=by
 unfold ord;split
 .rfl
 .rename_i hl
  obtain⟨p,_⟩:=FA nd (by rw[bw];lia)
  rw[bw] at p;refine(p.map _).trans ?_;have:(List.range rows.length).map (λj=>rows.getD j default)=rows:=by
   refine Mu λi=>?_
   rw[f9];by_cases hi:i<rows.length
   .rw[zZ hi,iH hi];simp[hi]
   .rw[z7 (by simp;lia),z7 (by lia)]
    rfl
  rw[this]
theorem e5c(rows:List Row):(List.range (g_ rows).length).map (λi=>D.tup ((((g_ rows)[i]?).map λp=>[p.1.d,p.2]).getD []))=rows.map λr=>.tup [.str r.bag,pl r.b r.i]:=by
 unfold g_;refine Mu λi=>?_
 rw[lD,f9,f9];by_cases hi:i<rows.length
 .rw[zZ hi,iH hi];unfold td;rw[Ey,Ey,f9,iH hi];simp[TK.d]
 .rw[z7 (by simp;lia),z7 (by lia)]
  rfl
section
variable{s:List Cell}{h:aF}{r:Int}{x:Hl}{q:Nat}
theorem YT(q:Nat)(rows:List Row)(hl:rows.length<=1000)(ho:∀w∈rows,lC h w):bh (a_ [(ae 0),(ae 1)]) (fD true) (H9 q) (rows.map λw=>.tup [.str w.bag,pl w.b w.i]) [none,none,ak (.lst (dS (h.af.map aw.name)))] S []=some (.ok (rows.map (nN h)) S):=by
 rw[Gh (λw=>some (nN h w)) (λU=>∃a b,U=[a,b,ak (.lst (dS (h.af.map aw.name)))]) rows _ [] ⟨_,_,rfl⟩ (by rw[Ba];lia) λw m U ⟨a,b,hU⟩=>⟨[bJ w.bag,ak (pl w.b w.i),ak (.lst (dS (h.af.map aw.name)))],by rw[hU];rfl,⟨_,_,rfl⟩,.inr ⟨rd (nN h w),nN h w,rfl,rfl,by
   have hi:=e5a (ho w m).nm;unfold H9 nN;simp only[↓ev,bU,hi,cL,aP],rfl⟩⟩,List.filterMap_eq_map',El]
theorem YU(q:Nat)(l:List Row)(hl:l.length<=1000):bh (ae 0) (fD true) (H_ q) (l.map (nN h)) [none] S []=some (.ok (dS (l.map Row.bag)) S):=by
 rw[nW (λw=>.str w.bag) l (by lia) λw m=>⟨rd (.str w.bag),by unfold H_ nN;simp only[↓ev,h_],rfl⟩]
 unfold dS;rw[fL];rfl
theorem YV(g:aG h)(nd:(x.rows.map (mi h)).Nodup)(hl:x.rows.length<64)(ho:∀w∈x.rows,lC h w):By q [eD] (hS (ax h) r x s)=some (.ok (.o (.lst (dS ((ord h x.rows).map Row.bag)))) (hS (ax h) r x s)):=by
 have bl:=g.sm.bl;have hn:=yh h.af (by lia)
 have e1:=λq=>YT (S:=hS (ax h) r x s) q x.rows (by lia) ho
 have e2:=e5c x.rows;have pl:=(O6 nd).length_eq;have e3:=λq=>YU (h:=h) (S:=hS (ax h) r x s) q (ord h x.rows) (by lia)
 have e0:fK (g_ x.rows)=true:=v9;by_cases lt:x.rows.length<2
 .have h1:((x.rows.map (nN h)).length<2)=True:=bH (by rw[bw];exact lt)
  have h2:ord h x.rows=x.rows:=bx lt;rw[h2] at e3 ⊢;unfold By Ii ax at *;generalize(x.rows.map (nN h))=l1 at *;simp only[↓ev,hR,mI,ng,bU,hn,aP,kI,kW,e0,e2,e1,h1,e3,ck]
 .have h1:((x.rows.map (nN h)).length<2)=False:=eq_false (by rw[bw];exact lt)
  have h2:=O4 h x.rows;have h3:((x.rows.map (mi h)).Nodup/\(x.rows.map (mi h)).length<64)=True:=bH ⟨nd,by rw[bw];exact hl⟩
  have h4:lG (x.rows.map (nN h)) (dN (x.rows.map (mi h)))=(ord h x.rows).map (nN h):=by
   unfold ord lG;rw[bc lt,fL];refine nQ λj m=>?_
   have p:=(FA nd (by rw[bw];lia)).1
   have hj:j<x.rows.length:=by
    have:=tG.mp (p.mem_iff.mp m)
    rwa[bw] at this
   simp[hj]
  unfold By Ii ax at *;generalize(x.rows.map (nN h))=l1 at *;generalize((ord h x.rows).map (nN h))=l2 at *;generalize(x.rows.map (mi h))=ks at *;simp only[↓ev,hR,mI,ng,bU,hn,aP,kI,kW,e0,e2,e1,h1,h2,h3,h4,e3,ck]
end
variable{hd:D}
structure Ok (h:aF) (n:Nat) (x:Hl):Prop where
 rw:∀w∈x.rows,lC h w/\oI w.bag/\∀f,w.fl=some f->f∈x.book.map (·.1)
 nd:(x.rows.map Row.bag++x.gone.map (·.1)).Nodup
 un:(x.rows.map λw=>(w.b,w.i)).Nodup
 bk:∀p∈x.book,p.2.1∈h.carts.drop 1
 bn:(x.book.map (·.1)).Nodup
 gi:∀p∈x.gone,oI p.1
 rl:x.rows.length<=8
 sz:x.book.length+x.halts.length+x.rows.length+x.gone.length<=n
noncomputable def aU(w:Row):D:=.tup [.str w.bag,aS w.fl,pl w.b w.i,.int w.gn]
section
variable{s:List Cell}{h:aF}{r:Int}{x:Hl}{q n:Nat}{w:Row}
theorem Ok.nb(o:Ok h n x):(x.rows.map Row.bag).Nodup:=(lJ.mp o.nd).1
theorem Ok.nk(o:Ok h n x):(x.rows.map (mi h)).Nodup:=by
 have e:=o.un;rw[List.Nodup,Em] at e ⊢;refine e.imp_of_mem λ{a b} ma mb ne z=>ne ?_
 have h1:=congrArg Prod.fst z;have h2:=congrArg Prod.snd z;rw[show a.b=b.b from e5b (o.rw a ma).1.nm (o.rw b mb).1.nm h1,show a.i=b.i from h2]
theorem Ok.perm(o:Ok h n x):(ord h x.rows).Perm x.rows:=O6 o.nk
theorem Ok.mem(o:Ok h n x):w∈ord h x.rows↔w∈x.rows:=o.perm.mem_iff
theorem Vn(q:Nat)(nb:(x.rows.map Row.bag).Nodup)(l:List Row)(hl:l.length<=1000)(hm:∀w∈l,w∈x.rows):bh (ae 0) (fD true) (IB q) (dS (l.map Row.bag)) [none,bQ] (hS hd r x s) []=some (.ok (l.map aU) (hS hd r x s)):=by
 rw[show dS (l.map Row.bag)=l.map λw=>.str w.bag by unfold dS;rw[fL];rfl,nW aU l (by lia) λw m=>⟨rd (aU w),by
  have h1:aQ (g_ x.rows) (.inr w.bag)=_:=jv nb (hm w m);have h2:aQ (iB x.rows) (.inr w.bag)=_:=jv nb (hm w m);have h3:aQ (kN x.rows) (.inr w.bag)=_:=jv nb (hm w m);unfold IB aU;generalize aS w.fl=ff at *;simp only[↓ev,hR,qk,qN,aP,h2,kI,kW,h1,BH,Fg,h3],rfl⟩]
theorem v_(g:aG h)(o:Ok h n x):rS q [eD] (hS (ax h) r x s)=some (.ok (.o (.lst ((ord h x.rows).map aU))) (hS (ax h) r x s)):=by
 have rl:=o.rl;have e1:=λq=>YV (s:=s) (r:=r) (q:=q) g o.nk (by lia) λw m=>(o.rw w m).1
 have e2:=λq=>Vn (s:=s) (r:=r) (hd:=ax h) q o.nb (ord h x.rows) (by rw[o.perm.length_eq];lia) λw m=>o.mem.mp m
 generalize ax h=hd at *;unfold rS OR;simp only[↓ev,hR,cM,Ts,e1,e2,ck]
theorem Qk(q:Nat)(hn:oI w.bag)(hw:w∈x.rows)(nb:(x.rows.map Row.bag).Nodup):vS q [eD,dR w.bag] (hS hd r x s)=some (.ok (rd .aM) (hS hd r x s)):=by
 have h1:aQ (g_ x.rows) (.inr w.bag)=_:=jv nb hw;unfold vS HZ;simp only[↓ev,hn,aI,hR,kI,kW,aP,h1,hV,ck]
end
noncomputable def nZ(kn:List (Str×Int)):List (TK×D):=kn.map λp=>(.inr p.1,.int p.2)
noncomputable def atS(kn:List (Str×Int))(n:Str):aj Int:=(kn.find? λp=>p.1 == n).map (·.2)
theorem Ql(x:Str):atS [] x=none:=rfl
theorem x9(k:Str)(v:Int)(kn:List (Str×Int))(x:Str):atS ((k,v)::kn) x=if k=x then some v else atS kn x:=by
 grind [atS]
theorem FI(k:Str)(v:Int)(x:Str):∀kn:List (Str×Int),atS (kn++[(k,v)]) x=(atS kn x).or (if k=x then some v else none)
 |[]=>by rw[El,x9,Ql,Option.none_or]
 |(k',v')::kn=>by
  rw[List.cons_append,x9,x9,FI k v x kn];split
  .rfl
  .rfl
theorem B7(x:Str):∀kn:List (Str×Int),aQ (nZ kn) (.inr x)=(atS kn x).map .int
 |[]=>rfl
 |(k,v)::kn=>by
  have ih:=B7 x kn
  grind [x9,aQ,nZ]
theorem pg0{a:TK}{y:D}:bY [] a y=[(a,y)]:=rfl
theorem Qm:∀(kn:List (Str×Int)) (k:Str) (v:Int),atS kn k=none->bY (nZ kn) (.inr k) (.int v)=nZ (kn++[(k,v)])
 |[],_,_,_=>rfl
 |(k',v')::kn,k,v,h=>by
  rw[x9] at h;have e:¬k'=k:=λz=>by rw[bx z] at h;cases h
  rw[bc e] at h;show bY ((TK.inr k',D.int v')::nZ kn) (.inr k) (.int v)=(TK.inr k',D.int v')::nZ (kn++[(k,v)]);rw[<-Qm kn k v h,Fu,bc (λz=>e (TK.inr.inj z))]
def eB(kn:List (Str×Int))(outs:List Str):List Int:=outs.filterMap (atS kn)
def bo(aY:Str):List aw->List (Str×Int)
 |[]=>[(aY,0)]
 |b::bs=>if eB (bo aY bs) b.outs=[] then bo aY bs else bo aY bs++[(b.name,b.long+iy (eB (bo aY bs) b.outs))]
theorem O7(aY:Str):∀bs:List aw,(bo aY bs).length<=bs.length+1
 |[]=>bZ _
 |b::bs=>by
  have:=O7 aY bs;unfold bo;split
  .rw[kG];lia
  .rw[dU,ug,kG];lia
theorem FJ{aY:Str}:∀{bs:List aw} {n:Str},n≠aY->n∉bs.map aw.name->atS (bo aY bs) n=none
 |[],n,h1,_=>by
  show atS [(aY,0)] n=none
  grind [x9,Ql]
 |b::bs,n,h1,h2=>by
  rw[cU] at h2;have h3:n≠b.name:=λz=>h2 (by rw[z];exact .head _)
  have ih:=FJ (aY:=aY) (bs:=bs) h1 λz=>h2 (.tail _ z)
  unfold bo;split
  .exact ih
  .rw[FI,ih,bc (λz=>h3 z.symm)];rfl
theorem YW(kn:List (Str×Int)):∀outs:List Str,(outs.filterMap λo=>(atS kn o).map D.int)=(eB kn outs).map D.int
 |[]=>rfl
 |o::outs=>by
  grind [eB]
abbrev mn(S:aV)(kn:List (Str×Int)):aV:=⟨S.s++[.o (.aA (nZ kn))],S.r⟩
section
variable{S:aV}{kn:List (Str×Int)}{outs:List Str}{g0 g1 a7:aj Val}{x:aw}
theorem O8(q:Nat)(h:outs.length<=1000):bh (ae 0) (Iy q) (Iz q) (dS outs) [none,aH S.s.length] (mn S kn) []=some (.ok ((eB kn outs).map D.int) (mn S kn)):=by
 rw[dS,uN (λo=>(atS kn o).map D.int) outs (by lia) λo m=>by
  have v:=B7 o kn;unfold Iy Iz;cases hc:atS kn o with
  |some w=>
   rw[hc] at v;exact .inr ⟨rd (.int w),.int w,rfl,by simp only[↓ev,eA,aI,v,vN],by simp only[↓ev,eA,v],rfl⟩
  |none=>
   rw[hc] at v;exact .inl ⟨rfl,by simp only[↓ev,eA,aI,v,z6]⟩,YW]
theorem e5d(ho:x.outs.length<=1000)(hb:eB kn x.outs=[]):Ak 0 [g0,g1,aH S.s.length,bJ x.name,cq x.long,ak (.bl x.ring),ak (.lst (dS x.outs)),a7] (mn S kn)=some (.nx [g0,g1,aH S.s.length,bJ x.name,cq x.long,ak (.bl x.ring),ak (.lst (dS x.outs)),ak (.lst [])] (mn S kn)):=by
 have e:=λq=>O8 (S:=S) (kn:=kn) q ho
 rw[hb] at e;unfold Ak;simp only[↓ev,e,aP,aI]
theorem YX(ho:x.outs.length<=1000){i:Int}{is:List Int}(hb:eB kn x.outs=i::is)(hn:atS kn x.name=none)(hl:((nZ kn).length<1000000)=True):Ak 0 [g0,g1,aH S.s.length,bJ x.name,cq x.long,ak (.bl x.ring),ak (.lst (dS x.outs)),a7] (mn S kn)=some (.nx [g0,g1,aH S.s.length,bJ x.name,cq x.long,ak (.bl x.ring),ak (.lst (dS x.outs)),ak (.lst ((i::is).map D.int))] (mn S (kn++[(x.name,x.long+iy (i::is))]))):=by
 have e:=λq=>O8 (S:=S) (kn:=kn) q ho
 rw[hb] at e;have p:=Qm kn x.name (x.long+iy (i::is)) hn;have z:((i::is).map D.int).isEmpty=false:=rfl;have m:=NU (i::is);have ne:((i::is)=[])=False:=eq_false (List.cons_ne_nil _ _);generalize(i::is).map D.int=l at *;unfold Ak;simp only[↓ev,e,aP,z,lr,m,ne,eA,hl,p,jB]
theorem O9{h:aF}(g:aG h){aY:Str}(hc:aY∈h.carts):P0 BQ [.d (ax h),dR aY] (.o (.aA (nZ (bo aY h.af)))):=by
 intro S;have bl:=g.sm.bl;have ou:=g.sm.ou;have f:=g.fwd;obtain⟨U',S',e,a3,a4,a5,a6,a7,rfl,rfl⟩:=ju (gg:=a_ [(ae 3),(ae 4),(ae 5),(ae 6)]) (body:=Ak 0) (f:=ao) (U:=[ak (ax h),bJ aY,aH S.s.length,none,none,none,none,none]) (S:=mn S (bo aY [])) (λpre U S'=>∃a3 a4 a5 a6 a7,U=[ak (ax h),bJ aY,aH S.s.length,a3,a4,a5,a6,a7]/\S'=mn S (bo aY pre.reverse)) h.af.reverse ⟨_,_,_,_,_,rfl,rfl⟩ (by
  rintro q x post eq U S' ⟨a3,a4,a5,a6,a7,rfl,rfl⟩;have eb:h.af=post.reverse++x::q.reverse:=by
   simp_all
  have fx:lz h.carts (x::q.reverse):=BG (by rw[<-eb];exact f)
  have ho:x.outs.length<=1000:=by
   grind
  have hn:atS (bo aY q.reverse) x.name=none:=FJ (λz=>fx.2.2.1 (z ▸ hc)) fx.2.1
  have hl:(bo aY q.reverse).length<=1000:=by
   grind [O7]
  rw[List.reverse_append,List.reverse_singleton,List.singleton_append];have ebg:bo aY (x::q.reverse)=if eB (bo aY q.reverse) x.outs=[] then bo aY q.reverse else bo aY q.reverse++[(x.name,x.long+iy (eB (bo aY q.reverse) x.outs))]:=by
   rfl
  rw[ebg];generalize bo aY q.reverse=kn at *;cases hb:eB kn x.outs with
  |nil=>exact⟨_,_,_,rfl,.inl (e5d ho hb),_,_,_,_,_,rfl,by rw[bx rfl]⟩
  |cons i is=>exact⟨_,_,_,rfl,.inl (YX ho hb hn (bH (by unfold nZ;rw[bw];lia))),_,_,_,_,_,rfl,by rw[bc (List.cons_ne_nil _ _)]⟩)
 rw[List.reverse_reverse,List.map_reverse,show mn S (bo aY [])=⟨S.s++[.o (.aA [(.inr aY,.int 0)])],S.r⟩ from rfl] at e;have hD:ax h=.tup [.lst (h.af.map ao),.lst (dS h.carts)]:=rfl;have tl:∀c:Cell,(S.s++[c]).take S.s.length=S.s:=λc=>List.take_left
 rw[hD] at e ⊢;unfold BQ ON;simp only[↓ev,A0,eA,aP,HA,pg0,List.foldl_nil,tl,bU,gK,e,zh,o_]
end
variable{aY:Str}{kn:List (Str×Int)}{outs:List Str}{best:aj Str}
theorem Jh{carts:List Str}:∀{bs:List aw},lz carts bs->∀b∈bs,∀o∈b.outs,o∈bs.map aw.name\/o∈carts
 |x::bs,f,b,hb,o,ho=>by
  rcases y0b.mp hb with rfl|hb
  .rcases f.1 o ho with z|z
   .exact .inl (.tail _ z)
   .exact .inr z
  .rcases Jh f.2.2.2 b hb o ho with z|z
   .exact .inl (.tail _ z)
   .exact .inr z
theorem Fc{x:aw}{bs:List aw}{n:Str}(h:n≠x.name):atS (bo aY (x::bs)) n=atS (bo aY bs) n:=by
 grind [bo,FI]
theorem NC{kn':List (Str×Int)}(h:∀o∈outs,atS kn o=atS kn' o):eB kn outs=eB kn' outs:=by
 unfold eB
 induction outs with
 |nil=>rfl
 |cons o outs ih=>
  have:=ih λz hz=>h z (.tail _ hz)
  rw[qG,qG,h o (.head _),this]
theorem F3{carts:List Str}{aY:Str}(hc:aY∈carts):∀{bs:List aw},lz carts bs->∀b∈bs,atS (bo aY bs) b.name=if eB (bo aY bs) b.outs=[] then none else some (b.long+iy (eB (bo aY bs) b.outs))
 |x::bs,f,b,hb=>by
  rcases y0b.mp hb with rfl|hb
  .have ho:∀o∈b.outs,o≠b.name:=λo ho z=>by
    rcases f.1 o ho with y|y
    .exact f.2.1 (by rw[<-z];exact y)
    .exact f.2.2.1 (by rw[<-z];exact y)
   have e:=NC (kn:=bo aY (b::bs)) (kn':=bo aY bs) (outs:=b.outs) λo m=>Fc (ho o m)
   rw[e]
   conv=>lhs;unfold bo
   have hn:atS (bo aY bs) b.name=none:=FJ (λz=>f.2.2.1 (by rw[z];exact hc)) f.2.1
   split
   .exact hn
   .rw[FI,hn,bx rfl];rfl
  .have hn:b.name≠x.name:=λz=>f.2.1 (by rw[<-z];exact mU (f:=aw.name) hb)
   have ho:∀o∈b.outs,o≠x.name:=λo ho z=>by
    rcases Jh f.2.2.2 b hb o ho with y|y
    .exact f.2.1 (by rw[<-z];exact y)
    .exact f.2.2.1 (by rw[<-z];exact y)
   have e:=NC (kn:=bo aY (x::bs)) (kn':=bo aY bs) (outs:=b.outs) λo m=>Fc (ho o m)
   rw[e,Fc hn];exact F3 hc f.2.2.2 b hb
theorem Qn{carts:List Str}{aY:Str}(hc:aY∈carts):∀{bs:List aw},lz carts bs->atS (bo aY bs) aY=some 0
 |[],_=>by show atS [(aY,0)] aY=some 0;rw[x9,bx rfl]
 |x::bs,f=>by rw[Fc (λz=>f.2.2.1 (by rw[<-z];exact hc))];exact Qn hc f.2.2.2
theorem WG{carts:List Str}{c:Str}{bs:List aw}(f:lz carts bs)(hc:c∈carts)(h:c≠aY):atS (bo aY bs) c=none:=FJ h (BL f c hc)
def yK(h:aF)(aY n:Str)(c:Int):D:=match atS (bo aY h.af) n with
 |none=>.aM
 |some v=>.int (v - c)
def nh(kn:List (Str×Int))(best:aj Str)(o:Str):aj Str:=match atS kn o with
 |none=>best
 |some v=>match best with
  |none=>some o
  |some p=>if v<(atS kn p).getD 0 then some o else best
def gP(kn:List (Str×Int))(outs:List Str):aj Str:=outs.foldl (nh kn) none
def yu(kn:List (Str×Int))(best:aj Str):Prop:=∀p,best=some p->∃v,atS kn p=some v
theorem ND(h:yu kn best)(o:Str):yu kn (nh kn best o):=by
 intro p e;unfold nh at e;cases q:atS kn o with
 |none=>rw[q] at e;exact h p e
 |some v=>
  rw[q] at e;dsimp only at e;cases best with
  |none=>cases e;exact⟨v,q⟩
  |some p'=>
   dsimp only at e;split at e
   .simp_all
   .exact h p e
theorem Qo{kn:List (Str×Int)}:∀{outs:List Str} {best:aj Str},yu kn best->yu kn (outs.foldl (nh kn) best)
 |[],_,h=>h
 |o::outs,best,h=>Qo (outs:=outs) (ND h o)
theorem Ji{kn:List (Str×Int)}:∀{outs:List Str} {best:aj Str},yu kn best->
  (outs.foldl (nh kn) best=none↔best=none/\eB kn outs=[])/\
  ∀a,outs.foldl (nh kn) best=some a->(best=some a\/a∈outs)/\∃v,atS kn a=some v/\(∀o∈outs,∀w,atS kn o=some w->v<=w)/\∀p w,best=some p->atS kn p=some w->v<=w
 |[],best,h=>by
  refine⟨⟨λe=>⟨e,rfl⟩,λe=>e.1⟩,λa e=>?_⟩
  obtain⟨v,hv⟩:=h a e;refine⟨.inl e,v,hv,λo m=>(by cases m),λp w e1 e2=>?_⟩
  have e:best=some a:=e;rw[e] at e1;cases e1;rw[hv] at e2;cases e2;exact Hx _
 |o::outs,best,h=>by
  obtain⟨i1,i2⟩:=Ji (outs:=outs) (ND h o);rw[HA];constructor
  .rw[i1];unfold nh eB;cases q:atS kn o with
   |none=>rw[List.filterMap_cons_none q]
   |some v=>
    rw[List.filterMap_cons_some q];constructor
    .rintro⟨e,_⟩;exfalso;cases best with
     |none=>cases e
     |some p=>dsimp only at e;split at e <;> cases e
    .rintro⟨_,e⟩;cases e
  .intro a e;obtain⟨j1,v,j2,j3,j4⟩:=i2 a e;cases q:atS kn o with
   |none=>
    have es:nh kn best o=best:=by unfold nh;rw[q]
    rw[es] at j1 j4;refine⟨?_,v,j2,λo' m w e'=>?_,j4⟩
    .rcases j1 with z|z
     .exact .inl z
     .exact .inr (.tail _ z)
    .rcases y0b.mp m with rfl|m
     .rw[q] at e';cases e'
     .exact j3 o' m w e'
   |some u=>
    cases best with
    |none=>
     have es:nh kn none o=some o:=by unfold nh;rw[q]
     rw[es] at j1 j4;refine⟨.inr ?_,v,j2,λo' m w e'=>?_,λp w e'=>(by cases e')⟩
     .rcases j1 with z|z
      .cases z;exact .head _
      .exact .tail _ z
     .rcases y0b.mp m with rfl|m
      .rw[q] at e';cases e';exact j4 o' u rfl q
      .exact j3 o' m w e'
    |some p=>
     obtain⟨pv,hp⟩:=h p rfl;by_cases md:u<pv
     .have es:nh kn (some p) o=some o:=by unfold nh;rw[q];dsimp only;rw[hp,ME,bx md]
      rw[es] at j1 j4;refine⟨.inr ?_,v,j2,λo' m w e'=>?_,λp' w e1 e2=>?_⟩
      all_goals grind
     .have es:nh kn (some p) o=some p:=by unfold nh;rw[q];dsimp only;rw[hp,ME,bc md]
      rw[es] at j1 j4;refine⟨?_,v,j2,λo' m w e'=>?_,j4⟩
      all_goals grind
theorem gq{v:Int}:v∈eB kn outs↔∃o∈outs,atS kn o=some v:=mT
theorem lE:gP kn outs=none↔eB kn outs=[]:=by
 have:=(Ji (kn:=kn) (outs:=outs) (best:=none) (λp e=>by cases e)).1
 grind [gP]
theorem Of{a:Str}(e:gP kn outs=some a):a∈outs/\atS kn a=some (iy (eB kn outs)):=by
 obtain⟨j1,v,j2,j3,_⟩:=(Ji (kn:=kn) (outs:=outs) (best:=none) (λp e=>by cases e)).2 a e
 have ha:a∈outs:=by
  lia
 have gF:eB kn outs≠[]:=λz=>by rw[lE.mpr z] at e;cases e
 obtain⟨m1,m2⟩:=Fl gF;obtain⟨o,ho,eo⟩:=gq.mp m1;have c1:=j3 o ho _ eo;have c2:=m2 v (gq.mpr ⟨a,ha,j2⟩)
 grind
section
variable{h:aF}{aY n:Str}{c:Int}
theorem e8e(g:aG h)(hc:aY∈h.carts):P0 Gv [.d (ax h),.d (.tup [.str n,.int c]),dR aY] (rd (yK h aY n c)):=by
 intro S;have e:=O9 g hc;have v:=B7 n (bo aY h.af);unfold Gv Rx yK;generalize ax h=hd at *;cases hk:atS (bo aY h.af) n with
 |none=>
  rw[hk] at v;simp only[↓ev,e,aP,bU,v,z6,lr,gE]
 |some w=>
  rw[hk] at v;simp only[↓ev,e,aP,bU,v,vN,hV,aI,cL,gE]
theorem WH{S:aV}(ok:yu kn best)(o:Str){g0 g1 g2:aj Val}:B4 0 [g0,g1,g2,ak (.aA (nZ kn)),ak (aS best),bJ o] S=some (.nx [g0,g1,g2,ak (.aA (nZ kn)),ak (aS (nh kn best o)),bJ o] S):=by
 have v:=B7 o kn;unfold B4 nh;cases hk:atS kn o with
 |none=>
  rw[hk] at v;simp only[↓ev,aI,v,z6]
 |some w=>
  rw[hk] at v;cases best with
  |none=>
   unfold aS;simp only[↓ev,aI,v,vN,aP]
  |some p=>
   obtain⟨u,hu⟩:=ok p rfl;have v2:=B7 p kn;rw[hu] at v2;unfold aS;by_cases hl:w<u
   .have l_:=bH hl;simp only[↓ev,aI,v,vN,v2,l_,decide_true,aP,hu]
   .have l_:=eq_false hl;simp only[↓ev,aI,v,vN,v2,l_,decide_false,hu]
theorem WI{S:aV}{kn:List (Str×Int)}{outs:List Str}{g0 g1 g2 a:aj Val}:∃a',aL (ae 5) (B4 0) (dS outs) [g0,g1,g2,ak (.aA (nZ kn)),ak .aM,a] S=some (.nx [g0,g1,g2,ak (.aA (nZ kn)),ak (aS (gP kn outs)),a'] S):=by
 obtain⟨U',S',e,a',rfl,rfl⟩:=ju (gg:=ae 5) (body:=B4 0) (f:=D.str) (U:=[g0,g1,g2,ak (.aA (nZ kn)),ak .aM,a]) (S:=S) (λpre U S'=>∃a',U=[g0,g1,g2,ak (.aA (nZ kn)),ak (aS (gP kn pre)),a']/\S'=S) outs ⟨a,rfl,rfl⟩ (by
  rintro d x r eq U S' ⟨a',rfl,rfl⟩;have ok:yu kn (gP kn d):=Qo λp z=>by cases z
  refine⟨_,_,_,rfl,.inl (WH ok x),bJ x,?_,rfl⟩;unfold gP;rw[Mv];rfl)
 exact⟨a',e⟩
theorem Gy(g:aG h){b:aw}(hb:b∈h.af)(hc:aY∈h.carts):P0 Gw [.d (ax h),dR b.name,dR aY] (rd (aS (gP (bo aY h.af) b.outs))):=by
 intro S;have e1:=O9 g hc;have e2:=Aq g hb;obtain⟨a',e⟩:=WI (S:=S) (kn:=bo aY h.af) (outs:=b.outs) (g0:=(ak (ax h))) (g1:=(bJ b.name)) (g2:=(bJ aY)) (a:=none);have hD:ao b=.tup [.str b.name,.int b.long,.bl b.ring,.lst (dS b.outs)]:=rfl;rw[hD] at e2;unfold Gw Ry;generalize ax h=hd at *;simp only[↓ev,e1,aP,e2,uK,gK,e,gE]
end
noncomputable abbrev e_(h:aF):Str:=h.carts.getD 0 ""
def oF(h:aF)(ct:Str)(nw cl:Int)(b:Str)(i:Int):Bool:=match atS (bo ct h.af) b with
 |none=>false
 |some v=>decide (nw+(v - i)<=cl)
noncomputable def sg(x:Hl)(w:Row):aj (Str×Int):=w.fl.bind λf=>(x.book.find? λp=>p.1 == f).map (·.2)
def yz(h:aF)(x:Hl)(w:Row):Bool:=match sg x w with
 |none=>false
 |some (ct,cl)=>oF h ct x.now cl w.b w.i
def eX(h:aF)(x:Hl)(w:Row):Str:=match sg x w with
 |none=>e_ h
 |some (ct,cl)=>if oF h ct x.now cl w.b w.i=true then ct else e_ h
section
variable{s:List Cell}{h:aF}{r:Int}{x:Hl}{n:Nat}{w:Row}
theorem Fv(o:Ok h n x)(hw:w∈x.rows):(w.fl=none/\sg x w=none)\/∃f ct cl,w.fl=some f/\sg x w=some (ct,cl)/\ct∈h.carts/\aQ (jg x.book) (.inr f)=some (.tup [.str f,.str ct,.int cl]):=by
 unfold sg;cases hf:w.fl with
 |none=>exact .inl ⟨rfl,rfl⟩
 |some f=>
  have v:aQ (jg x.book) (.inr f)=_:=Cf f x.book;cases e:x.book.find? (λp=>p.1 == f) with
  |none=>
   obtain⟨p,hp,ep⟩:=eW.mp ((o.rw w hw).2.2 f hf);have:=Ms.mp e p hp;rw[ep,fG] at this;exact cz rfl this
  |some p=>
   have e1:=HC e;have e1:p.1=f:=beq_iff_eq.mp e1;refine .inr ⟨f,p.2.1,p.2.2,rfl,by rw[zY,e];rfl,List.mem_of_mem_drop (o.bk p (En e)),?_⟩
   rw[v,e,<-e1];rfl
theorem YY(g:aG h)(o:Ok h n x)(hw:w∈x.rows):E7 0 [eD,dR w.bag] (hS (ax h) r x s)=some (.ok (rd (.bl (yz h x w))) (hS (ax h) r x s)):=by
 have h1:aQ (g_ x.rows) (.inr w.bag)=_:=jv o.nb hw;have h2:aQ (iB x.rows) (.inr w.bag)=_:=jv o.nb hw;unfold E7 Ng yz;rcases Fv o hw with⟨e1,e2⟩|⟨f,ct,cl,e1,e2,hc,hk⟩
 .rw[e1] at h2;rw[e2];unfold aS at h2;generalize ax h=hd at *;simp only[↓ev,hR,qk,qN,aP,h2,aI,ck]
 .rw[e1] at h2;rw[e2];unfold aS at h2;have e:=e8e (n:=w.b) (c:=w.i) g hc;unfold yK at e;dsimp only;unfold oF;cases hv:atS (bo ct h.af) w.b with
  |none=>
   rw[hv] at e;generalize ax h=hd at *;simp only[↓ev,hR,qk,qN,aP,h2,aI,o4,qp,hk,mI,ng,kI,kW,h1,cL,e,ck]
  |some v=>
   rw[hv] at e;generalize ax h=hd at *;simp only[↓ev,hR,qk,qN,aP,h2,aI,o4,qp,hk,mI,ng,kI,kW,h1,cL,e,Ce,Gn,h_,ck]
theorem e5e(g:aG h)(o:Ok h n x)(hw:w∈x.rows):E9 0 [eD,dR w.bag] (hS (ax h) r x s)=some (.ok (rd (.str (eX h x w))) (hS (ax h) r x s)):=by
 have h2:aQ (iB x.rows) (.inr w.bag)=_:=jv o.nb hw;have e1:=λq=>Qk (s:=s) (r:=r) q (hd:=ax h) (o.rw w hw).2.1 hw o.nb
 have e2:=YY (s:=s) (r:=r) g o hw;obtain⟨_,ha⟩:=AA g;have hD:ax h=.tup [.lst (h.af.map ao),.lst (dS h.carts)]:=rfl;rw[hD] at e1 e2 ⊢;unfold E9 Nh eX;unfold yz at e2;rcases Fv o hw with⟨e3,e4⟩|⟨f,ct,cl,e3,e4,hc,hk⟩
 .rw[e4] at e2 ⊢;unfold e_;generalize h.carts.getD 0 ""=hnd at *;simp only[↓ev,hR,cM,xR,e1,IF,e2,aI,mI,ng,cL,ha,ck]
 .rw[e4] at e2 ⊢;rw[e3] at h2;unfold aS at h2;dsimp only at e2 ⊢;unfold e_;generalize h.carts.getD 0 ""=hnd at *;cases hb:oF h ct x.now cl w.b w.i with
  |true=>
   rw[hb] at e2;simp only[↓ev,hR,cM,xR,e1,IF,e2,o4,qp,aP,qk,qN,h2,hk,cL,ck]
  |false=>
   rw[hb] at e2;simp only[↓ev,hR,cM,xR,e1,IF,e2,aI,mI,ng,cL,ha,ck]
theorem Jj(g:aG h):∀{bs pre:List aw},h.af=pre++bs->∀b∈bs,∃v,atS (bo (e_ h) h.af) b.name=some v
 |x::bs,pre,eq,b,hb=>by
  have AK:h.af=(pre++[x])++bs:=by rw[eq];simp
  rcases y0b.mp hb with rfl|hb
  .have GN:b∈h.af:=by rw[eq];simp
   have fx:lz h.carts (b::bs):=BG (by rw[<-eq];exact g.fwd)
   have key:∀o∈b.outs,∀v,atS (bo (e_ h) h.af) o=some v->∃v,atS (bo (e_ h) h.af) b.name=some v:=λo m v e=>by
    have hm:=gq.mpr ⟨o,m,e⟩;rw[F3 (AA g).1 g.fwd b GN,bc λz=>by rw[z] at hm;cases hm]
    exact⟨_,rfl⟩
   rcases g.hd b GN with z|⟨o,z1,z2⟩
   .exact key _ z _ (Qn (AA g).1 g.fwd)
   .rcases fx.1 o z1 with y|y
    .obtain⟨w,hw,rfl⟩:=eW.mp y;obtain⟨v,e⟩:=Jj g AK w hw;exact key _ z1 v e
    .exact cz z2 (BL g.fwd o y)
  .exact Jj g AK b hb
theorem Qp(g:aG h)(o:Ok h n x)(hw:w∈x.rows):eX h x w∈h.carts/\∃v,atS (bo (eX h x w) h.af) w.b=some v:=by
 obtain⟨bt,hb,eb,_⟩:=(o.rw w hw).1;have hh:e_ h∈h.carts/\∃v,atS (bo (e_ h) h.af) w.b=some v:=⟨(AA g).1,by rw[<-eb];exact Jj g (pre:=[]) (bs:=h.af) rfl bt hb⟩
 unfold eX;rcases Fv o hw with⟨e3,e4⟩|⟨f,ct,cl,e3,e4,hc,hk⟩
 .rw[e4];exact hh
 .rw[e4];dsimp only;split
  .rename_i l7
   refine⟨hc,?_⟩;unfold oF at l7;cases hv:atS (bo ct h.af) w.b with
   |none=>rw[hv] at l7;cases l7
   |some v=>exact⟨v,rfl⟩
  .exact hh
end
variable{bt:aw}{o:Str}{busy:List Str}
abbrev Goal:=Str×aj Int
def gD:Goal->D
 |(c,none)=>.str c
 |(b,some i)=>pl b i
section
variable{s:List Cell}{h:aF}{r:Int}{x:Hl}{n:Nat}{w:Row}{ct:Str}
theorem e5f(g:aG h)(hb:bt∈h.af)(hc:ct∈h.carts)(ho:gP (bo ct h.af) bt.outs=some o)(hi:h.carts.contains o=true){busy:D}:P0 qO [.d (ax h),.d (ao bt),dR ct,.d busy] (rd (.str o)):=by
 intro S;have e:=Gy g hb hc;rw[ho] at e;have hD:ax h=.tup [.lst (h.af.map ao),.lst (dS h.carts)]:=rfl;have hB:ao bt=.tup [.str bt.name,.int bt.long,.bl bt.ring,.lst (dS bt.outs)]:=rfl;rw[hD] at e ⊢;rw[hB];unfold qO BF;unfold aS at e;simp only[↓ev,bU,e,aP,cL,jb,aI,ja,hi,gE]
theorem e5g(g:aG h)(hb:bt∈h.af)(hc:ct∈h.carts)(ho:gP (bo ct h.af) bt.outs=some o)(hi:h.carts.contains o=false)(hy:busy.contains o=false):P0 qO [.d (ax h),.d (ao bt),dR ct,.d (.lst (dS busy))] (rd (pl o 0)):=by
 intro S;have e:=Gy g hb hc;rw[ho] at e;have hD:ax h=.tup [.lst (h.af.map ao),.lst (dS h.carts)]:=rfl;have hB:ao bt=.tup [.str bt.name,.int bt.long,.bl bt.ring,.lst (dS bt.outs)]:=rfl;rw[hD] at e ⊢;rw[hB];unfold qO BF;unfold aS at e;cases hr:bt.ring with
 |true=>simp only[↓ev,bU,e,aP,cL,jb,aI,ja,hi,h_,hy,gE]
 |false=>simp only[↓ev,bU,e,aP,cL,jb,aI,ja,hi,h_,gE]
theorem e5h(g:aG h)(hb:bt∈h.af)(hc:ct∈h.carts)(ho:gP (bo ct h.af) bt.outs=some o)(hi:h.carts.contains o=false)(hr:bt.ring=true)(hy:busy.contains o=true):P0 qO [.d (ax h),.d (ao bt),dR ct,.d (.lst (dS busy))] (rd (pl bt.name 0)):=by
 intro S;have e:=Gy g hb hc;rw[ho] at e;have hD:ax h=.tup [.lst (h.af.map ao),.lst (dS h.carts)]:=rfl;have hB:ao bt=.tup [.str bt.name,.int bt.long,.bl bt.ring,.lst (dS bt.outs)]:=rfl;rw[hD] at e ⊢;rw[hB,hr];unfold qO BF;unfold aS at e;simp only[↓ev,bU,e,aP,cL,jb,aI,ja,hi,h_,hy,gE]
theorem e5i(g:aG h)(hb:bt∈h.af)(hc:ct∈h.carts)(ho:gP (bo ct h.af) bt.outs=some o)(hi:h.carts.contains o=false)(hr:bt.ring=false):P0 qO [.d (ax h),.d (ao bt),dR ct,.d (.lst (dS busy))] (rd (pl o 0)):=by
 intro S;have e:=Gy g hb hc;rw[ho] at e;have hD:ax h=.tup [.lst (h.af.map ao),.lst (dS h.carts)]:=rfl;have hB:ao bt=.tup [.str bt.name,.int bt.long,.bl bt.ring,.lst (dS bt.outs)]:=rfl;rw[hD] at e ⊢;rw[hB,hr];unfold qO BF;unfold aS at e;simp only[↓ev,bU,e,aP,cL,jb,aI,ja,hi,h_,gE]
def gj(h:aF)(x:Hl):List Str:=df h x++(ord h x.rows).filterMap λw=>if(w.i == 0)=true then some w.b else none
theorem Vo(q:Nat)(l:List Row)(hl:l.length<=1000){S:aV}:bh (ae 0) (Ib q) (Ic q) (l.map aU) [none] S []=some (.ok (dS (l.filterMap λw=>if(w.i == 0)=true then some w.b else none)) S):=by
 rw[uN (λw=>(if(w.i == 0)=true then some w.b else none).map D.str) l (by lia) λw m=>by
  unfold Ib Ic aU;generalize aS w.fl=ff at *;cases hc:(w.i == 0) with
  |true=>exact .inr ⟨rd (.str w.b),.str w.b,rfl,by simp only[↓ev,h_,cL,aI,fT,hc],by simp only[↓ev,h_,bU],rfl⟩
  |false=>exact .inl ⟨rfl,by simp only[↓ev,h_,cL,aI,fT,hc]⟩]
 congr 2
 unfold dS;rw[List.map_filterMap]
theorem e5j(g:aG h)(o:Ok h n x):E1 0 [eD] (hS (ax h) r x s)=some (.ok (.o (.lst (dS (gj h x)))) (hS (ax h) r x s)):=by
 have rl:=o.rl;have e1:=λq=>Oe (s:=s) (r:=r) (q:=q) (x:=x) g
 have e2:=λq=>v_ (s:=s) (r:=r) (q:=q) g o
 have e3:=λq=>Vo (S:=hS (ax h) r x s) q (ord h x.rows) (by rw[o.perm.length_eq];lia)
 have hl:((dS (df h x)).length+(dS ((ord h x.rows).filterMap λw=>if(w.i == 0)=true then some w.b else none)).length<=1000000)=True:=bH (by
  have h1:(df h x).length<=(h.af.map aw.name).length:=xw _ _;have h2:=HF (λw:Row=>if(w.i == 0)=true then some w.b else none) (ord h x.rows)
  have h3:=o.perm.length_eq;have h4:=g.sm.bl
  grind)
 generalize ax h=hd at *;unfold E1 M7 gj;rw[dS,fR,<-dS,<-dS];simp only[↓ev,hR,cM,NB,e1,nV,e2,e3,hl,ck]
def nD(h:aF)(x:Hl)(bt:aw)(o:Str):Goal:=if h.carts.contains o=true then(o,none) else if(bt.ring&&(gj h x).contains o)=true then(bt.name,some 0) else(o,some 0)
def iR(h:aF)(r:Int)(x:Hl)(w:Row)(bt:aw):Goal:=if w.i+1<bt.long then(bt.name,some (w.i+1)) else if bt.ring=true/\w.fl=none/\w.gn<r then(bt.name,some 0) else nD h x bt ((gP (bo (eX h x w) h.af) bt.outs).getD "")
def ar(h:aF)(r:Int)(x:Hl)(w:Row):Goal:=match findB h.af w.b with
 |none=>(w.b,none)
 |some bt=>iR h r x w bt
theorem BM(g:aG h)(hb:bt∈h.af):findB h.af bt.name=some bt:=by
 unfold findB;cases e:h.af.find? (λb=>b.name == bt.name) with
 |none=>
  grind
 |some c=>
  have h1:=HC e;rw[Ap g.fwd c (En e) bt hb (beq_iff_eq.mp h1)]
theorem Gq(g:aG h)(o:Ok h n x)(hw:w∈x.rows)(hb:bt∈h.af)(eb:bt.name=w.b):∃a,gP (bo (eX h x w) h.af) bt.outs=some a/\a∈bt.outs:=by
 obtain⟨hc,v,hv⟩:=Qp g o hw;have bg:=F3 hc g.fwd bt hb;rw[eb,hv] at bg;have gF:¬eB (bo (eX h x w) h.af) bt.outs=[]:=λz=>by rw[bx z] at bg;cases bg
 cases e:gP (bo (eX h x w) h.af) bt.outs with
 |none=>exact cz (lE.mp e) gF
 |some a=>exact⟨a,rfl,(Of e).1⟩
theorem WJ(g:aG h)(hb:bt∈h.af)(hc:ct∈h.carts)(ho:gP (bo ct h.af) bt.outs=some o):P0 qO [.d (ax h),.d (ao bt),dR ct,.d (.lst (dS (gj h x)))] (rd (gD (nD h x bt o))):=by
 unfold nD;cases e1:h.carts.contains o with
 |true=>exact e5f g hb hc ho e1
 |false=>
  rw[bc (by decide)]
  cases e2:bt.ring with
  |false=>exact e5i g hb hc ho e1 e2
  |true=>
   cases e3:(gj h x).contains o with
   |true=>exact e5h g hb hc ho e1 e2 e3
   |false=>exact e5g g hb hc ho e1 e3
end
section
variable{s:List Cell}{h:aF}{r:Int}{x:Hl}{n:Nat}{w:Row}{bt:aw}{ba:List D}{a8 a9:aj Val}{bz:D}
abbrev wS(hd:D)(r:Int)(x:Hl)(s:List Cell)(ba:List D):aV:=⟨s++[.o (.lst ba)],hR hd r x⟩
theorem L8(g:aG h)(hb:bt∈h.af)(eb:bt.name=w.b)(hl:(w.i+1<bt.long)=True)(ha:(ba.length<1000000)=True):uz 0 [bQ,ak (ax h),ak bz,aH s.length,bJ w.bag,ak (aS w.fl),ak (pl w.b w.i),cq w.gn,a8,a9] (wS (ax h) r x s ba)=some (.nx [bQ,ak (ax h),ak bz,aH s.length,bJ w.bag,ak (aS w.fl),ak (pl w.b w.i),cq w.gn,ak (ao bt),ak (pl bt.name (w.i+1))] (wS (ax h) r x s (ba++[.tup [.str w.bag,pl bt.name (w.i+1)]]))):=by
 have e4:=Aq g hb;have hB:ao bt=.tup [.str bt.name,.int bt.long,.bl bt.ring,.lst (dS bt.outs)]:=rfl;rw[hB] at e4 ⊢;rw[eb] at e4 ⊢;generalize ax h=hd at *;generalize aS w.fl=ff at *;unfold uz;simp only[↓ev,bU,e4,aP,cL,hl,decide_true,eA,ha,jB]
theorem L9(g:aG h)(hb:bt∈h.af)(eb:bt.name=w.b)(hl:(w.i+1<bt.long)=False)(hr:bt.ring=true)(hf:w.fl=none)(hg:(w.gn<r)=True)(ha:(ba.length<1000000)=True):uz 0 [bQ,ak (ax h),ak bz,aH s.length,bJ w.bag,ak (aS w.fl),ak (pl w.b w.i),cq w.gn,a8,a9] (wS (ax h) r x s ba)=some (.nx [bQ,ak (ax h),ak bz,aH s.length,bJ w.bag,ak (aS w.fl),ak (pl w.b w.i),cq w.gn,ak (ao bt),ak (pl bt.name 0)] (wS (ax h) r x s (ba++[.tup [.str w.bag,pl bt.name 0]]))):=by
 have e4:=Aq g hb;have e5:=λq s=>Od (s:=s) (hd:=ax h) (r:=r) (q:=q) (x:=x)
 have hB:ao bt=.tup [.str bt.name,.int bt.long,.bl bt.ring,.lst (dS bt.outs)]:=rfl;rw[hB,hr] at e4 ⊢;rw[eb] at e4 ⊢;rw[hf];generalize ax h=hd at *;unfold uz aS;simp only[↓ev,bU,e4,aP,cL,hl,decide_false,aI,h_,hR,cM,Ob,e5,hg,decide_true,eA,ha,jB]
theorem L_(g:aG h)(o:Ok h n x)(hw:w∈x.rows)(hb:bt∈h.af)(eb:bt.name=w.b)(hl:(w.i+1<bt.long)=False){goal:D}(ho:P0 qO [.d (ax h),.d (ao bt),dR (eX h x w),.d bz] (rd goal))(hc:bt.ring=false\/(∃f,w.fl=some f)\/w.fl=none/\¬w.gn<r)(ha:(ba.length<1000000)=True):uz 0 [bQ,ak (ax h),ak bz,aH s.length,bJ w.bag,ak (aS w.fl),ak (pl w.b w.i),cq w.gn,a8,a9] (wS (ax h) r x s ba)=some (.nx [bQ,ak (ax h),ak bz,aH s.length,bJ w.bag,ak (aS w.fl),ak (pl w.b w.i),cq w.gn,ak (ao bt),ak goal] (wS (ax h) r x s (ba++[.tup [.str w.bag,goal]]))):=by
 have e4:=Aq g hb;have e5:=λq s=>Od (s:=s) (hd:=ax h) (r:=r) (q:=q) (x:=x)
 have e6:=λs=>e5e (s:=s) (r:=r) g o hw
 have hB:ao bt=.tup [.str bt.name,.int bt.long,.bl bt.ring,.lst (dS bt.outs)]:=rfl;rw[hB] at e4 ho ⊢;rw[eb] at e4 ho ⊢;generalize ax h=hd at *;generalize eX h x w=ct at *;unfold uz;cases er:bt.ring with
 |false=>
  rw[er] at e4 ho;generalize aS w.fl=ff at *;simp only[↓ev,bU,e4,aP,cL,hl,decide_false,aI,h_,hR,cM,IE,e6,ho,eA,ha,jB]
 |true=>
  rw[er] at e4 ho;rcases hc with z|⟨f,hf⟩|⟨hf,hg⟩
  .rw[er] at z;cases z
  .rw[hf];unfold aS;simp only[↓ev,bU,e4,aP,cL,hl,decide_false,aI,h_,hR,cM,IE,e6,ho,eA,ha,jB]
  .rw[hf];unfold aS;have hg:=eq_false hg;simp only[↓ev,bU,e4,aP,cL,hl,decide_false,aI,h_,hR,cM,Ob,e5,hg,IE,e6,ho,eA,ha,jB]
theorem e5k(g:aG h)(o:Ok h n x)(hw:w∈x.rows)(ha:ba.length<1000)(s:List Cell):∃b8 b9,uz 0 [bQ,ak (ax h),ak (.lst (dS (gj h x))),aH s.length,bJ w.bag,ak (aS w.fl),ak (pl w.b w.i),cq w.gn,a8,a9] (wS (ax h) r x s ba)=some (.nx [bQ,ak (ax h),ak (.lst (dS (gj h x))),aH s.length,bJ w.bag,ak (aS w.fl),ak (pl w.b w.i),cq w.gn,b8,b9] (wS (ax h) r x s (ba++[.tup [.str w.bag,gD (ar h r x w)]]))):=by
 obtain⟨bt,hb,eb,_,_⟩:=(o.rw w hw).1;have Ks:(ba.length<1000000)=True:=bH (by lia)
 have eg:ar h r x w=iR h r x w bt:=by unfold ar;rw[<-eb,BM g hb]
 rw[eg];unfold iR;by_cases hl:w.i+1<bt.long
 .rw[bx hl];exact⟨_,_,L8 g hb eb (bH hl) Ks⟩
 .rw[bc hl];by_cases hc:bt.ring=true/\w.fl=none/\w.gn<r
  .rw[bx hc];exact⟨_,_,L9 g hb eb (eq_false hl) hc.1 hc.2.1 (bH hc.2.2) Ks⟩
  .rw[bc hc];obtain⟨a,ea,_⟩:=Gq g o hw hb eb;rw[ea,ME];refine⟨_,_,L_ g o hw hb eb (eq_false hl) (WJ g hb (Qp g o hw).1 ea) ?_ Ks⟩;cases er:bt.ring with
   |false=>exact .inl rfl
   |true=>
    cases ef:w.fl with
    |some f=>exact .inr (.inl ⟨f,rfl⟩)
    |none=>exact .inr (.inr ⟨rfl,λz=>hc ⟨er,ef,z⟩⟩)
def pU(h:aF)(r:Int)(x:Hl)(w:Row):D:=.tup [.str w.bag,gD (ar h r x w)]
theorem WK(g:aG h)(o:Ok h n x):FG 0 [eD] (hS (ax h) r x s)=some (.ok (.o (.lst ((ord h x.rows).map (pU h r x)))) (hS (ax h) r x s)):=by
 have rl:=o.rl;have e1:=λq s=>WD (s:=s) (r:=r) (q:=q) (x:=x) g
 have e2:=λs=>e5j (s:=s) (r:=r) g o
 have e3:=λq s=>v_ (s:=s) (r:=r) (q:=q) g o
 have pl:=o.perm.length_eq;obtain⟨U',S',e,⟨a4,a5,a6,a7,a8,a9,rfl⟩,rfl⟩:=ju (gg:=a_ [(ae 4),(ae 5),(ae 6),(ae 7)]) (body:=uz 0) (f:=aU) (U:=[bQ,ak (ax h),ak (.lst (dS (gj h x))),aH s.length,none,none,none,none,none,none]) (S:=wS (ax h) r x s []) (λpre U S'=>(∃a4 a5 a6 a7 a8 a9,U=[bQ,ak (ax h),ak (.lst (dS (gj h x))),aH s.length,a4,a5,a6,a7,a8,a9])/\S'=wS (ax h) r x s (pre.map (pU h r x))) (ord h x.rows) ⟨⟨_,_,_,_,_,_,rfl⟩,rfl⟩ (by
  rintro d w post eq U S' ⟨⟨a4,a5,a6,a7,a8,a9,rfl⟩,rfl⟩;have hw:w∈x.rows:=o.mem.mp (by rw[eq];simp)
  have hd:d.length<1000:=by
   grind
  obtain⟨b8,b9,e⟩:=e5k (r:=r) (a8:=a8) (a9:=a9) g o hw (ba:=d.map (pU h r x)) (by rw[bw];exact hd) s
  refine⟨_,_,_,rfl,.inl e,⟨_,_,_,_,_,_,rfl⟩,?_⟩;rw[fR];rfl)
 generalize ax h=hd at *;generalize dS (gj h x)=bz at *;unfold FG OT;simp only[↓ev,hR,cM,WC,e1,aP,e2,aI,nV,e3,gK,e,zh,eA,o_]
end
variable{W W':List (Str×D)}{b:Str}{S:aV}{n:Nat}
noncomputable def cI(W:List (Str×D)):List (TK×D):=td (·.1) (·.2) W
noncomputable def cK(G:Row->Goal)(L:List Row):List (TK×D):=td Row.bag (λw=>gD (G w)) L
abbrev tw(S:aV)(n:Nat)(W:List (Str×D)):aV:=⟨S.s.set n (.o (.aA (cI W))),S.r⟩
theorem JQ{y:D}(h:b∉W.map (·.1)):bY (cI W) (.inr b) y=cI (W++[(b,y)]):=by
 unfold cI;rw[Cg h];unfold td;rw[fR];rfl
theorem AJ:(aQ (cI W) (.inr b)).isSome=(W.map (·.1)).contains b:=yr
theorem J0(hn:n<S.s.length):(S.s.set n (.o (.aA (cI W))))[n]?=some (.o (.aA (cI W))):=vL hn
theorem JR:(S.s.set n (.o (.aA (cI W)))).set n (.o (.aA (cI W')))=S.s.set n (.o (.aA (cI W'))):=HE ..
theorem e5l:(tw S n W').cut (S.s.set n (.o (.aA (cI W)))).length=tw S n W':=by
 grind [aV.cut,List.take_of_length_le]
noncomputable def lH(st:List Str)(G:Row->Goal)(w:Row):aj D:=if st.contains w.b=true then some (.tup [.str "stopped",.str w.b]) else match G w with
 |(b,some _)=>if st.contains b=true then some (.tup [.str "stopped",.str b]) else none
 |(_,none)=>none
def cY(st:List Str)(G:Row->Goal)(L:List Row):List (Str×D):=L.filterMap λw=>(lH st G w).map λy=>(w.bag,y)
section
variable{S:aV}{n:Nat}{st:List Str}{G:Row->Goal}{L:List Row}{w:Row}{W:List (Str×D)}{a8 bg:aj Val}
theorem WL(hn:n<S.s.length)(hv:aQ (cK G L) (.inr w.bag)=some (gD (G w)))(hW:w.bag∉W.map (·.1))(hl:W.length<1000):∃b8,Ad 0 [bg,ak (.aA (cK G L)),ak (.lst (dS st)),aH n,bJ w.bag,ak (aS w.fl),ak (pl w.b w.i),cq w.gn,a8] (tw S n W)=some (.nx [bg,ak (.aA (cK G L)),ak (.lst (dS st)),aH n,bJ w.bag,ak (aS w.fl),ak (pl w.b w.i),cq w.gn,b8] (tw S n (W++((lH st G w).map λy=>(w.bag,y)).toList))):=by
 have ta:=J0 (W:=W) hn;have ts:=λW'=>JR (S:=S) (n:=n) (W:=W) (W':=W')
 have hp:=λy=>JQ (y:=y) hW
 have l_:((cI W).length<1000000)=True:=bH (by unfold cI;rw[lD];lia)
 unfold lH;cases h1:st.contains w.b with
 |true=>
  refine⟨(ak (gD (G w))),?_⟩;generalize gD (G w)=gg at *;generalize aS w.fl=ff at *;show _=some (Fr.nx _ (tw S n (W++[(w.bag,_)])));unfold Ad;simp only[↓ev,hv,aP,bU,jb,aI,ja,h1,ta,l_,hp,ts]
 |false=>
  rw[bc (by decide)]
  generalize aS w.fl=ff at *;obtain⟨c,gi⟩:∃c,G w=c:=⟨_,rfl⟩;rw[gi] at hv ⊢;obtain⟨c,i⟩:=c;cases i with
  |none=>
   refine⟨(bJ c),?_⟩;show _=some (Fr.nx _ (tw S n (W++[])));rw[jQ];unfold Ad;unfold gD at hv;simp only[↓ev,hv,aP,bU,jb,aI,ja,h1,KU]
  |some i=>
   refine⟨(ak (pl c i)),?_⟩;unfold Ad;unfold gD at hv;dsimp only at hv ⊢;cases h2:st.contains c with
   |true=>
    show _=some (Fr.nx _ (tw S n (W++[(w.bag,_)])));simp only[↓ev,hv,aP,bU,jb,aI,ja,h1,G8,h2,ta,l_,hp,ts]
   |false=>
    show _=some (Fr.nx _ (tw S n (W++[])));rw[jQ];simp only[↓ev,hv,aP,bU,jb,aI,ja,h1,G8,h2]
theorem Ug(st:List Str)(G:Row->Goal)(L:List Row):∀b∈(cY st G L).map (·.1),b∈L.map Row.bag:=λb m=>by
 obtain⟨p,hp,rfl⟩:=eW.mp m;obtain⟨w,hw,e⟩:=mT.mp hp;obtain⟨y,_,rfl⟩:=dm.mp e;exact mU hw
theorem Jk{d post:List Row}(eq:L=d++w::post)(nd:(L.map Row.bag).Nodup):w.bag∉d.map Row.bag:=by
 grind
theorem YZ(hn:n<S.s.length)(nd:(L.map Row.bag).Nodup)(hl:L.length<100):EN 0 [.d (.lst (L.map aU)),.d (.aA (cK G L)),.d (.lst (dS st)),.c n] (tw S n [])=some (.ok (rd .aM) (tw S n (cY st G L))):=by
 obtain⟨U',S',e,⟨a4,a5,a6,a7,a8,rfl⟩,rfl⟩:=ju (gg:=a_ [(ae 4),(ae 5),(ae 6),(ae 7)]) (body:=Ad 0) (f:=aU) (U:=[ak (.lst (L.map aU)),ak (.aA (cK G L)),ak (.lst (dS st)),aH n,none,none,none,none,none]) (S:=tw S n []) (λpre U S'=>(∃a4 a5 a6 a7 a8,U=[ak (.lst (L.map aU)),ak (.aA (cK G L)),ak (.lst (dS st)),aH n,a4,a5,a6,a7,a8])/\S'=tw S n (cY st G pre)) L ⟨⟨_,_,_,_,_,rfl⟩,rfl⟩ (by
  rintro d w post eq U S' ⟨⟨a4,a5,a6,a7,a8,rfl⟩,rfl⟩;have hw:w∈L:=by rw[eq];simp
  have hv:aQ (cK G L) (.inr w.bag)=some (gD (G w)):=jv nd hw;have hd:d.length<100:=by
   grind
  obtain⟨b8,e⟩:=WL (st:=st) (a8:=a8) (bg:=(ak (.lst (L.map aU)))) hn hv (W:=cY st G d) (λm=>Jk eq nd (Ug st G d _ m)) (Mn (HF _ _) (by lia))
  refine⟨_,_,_,rfl,.inl e,⟨_,_,_,_,_,rfl⟩,?_⟩;unfold cY;rw[MF];rw[show List.filterMap (λw=>(lH st G w).map λy=>(w.bag,y)) [w]=((lH st G w).map λy=>(w.bag,y)).toList by rw[qG,Be];cases(lH st G w) <;> rfl])
 have cu:=e5l (S:=S) (n:=n) (W:=[]) (W':=cY st G L);generalize cY st G L=W2 at *;unfold EN MM;simp only[↓ev,gK,e,cu]
end
abbrev bC:=Str×Int
noncomputable def kC(p:bC):TK:=.tp [.inr p.1,.inl p.2]
theorem Ra{p q:bC}(e:kC p=kC q):p=q:=by
 grind [kC]
def ia(C:List (bC×Str)):List (TK×D):=C.map λe=>(kC e.1,.str e.2)
noncomputable def look(C:List (bC×Str))(k:bC):aj Str:=(C.find? λe=>e.1 == k).map (·.2)
noncomputable def ke:List (bC×Str)->bC->Str->List (bC×Str)
 |[],k,v=>[(k,v)]
 |e::es,k,v=>if e.1=k then(e.1,v)::es else e::ke es k v
theorem x8{e:bC×Str}{es:List (bC×Str)}{k:bC}:look (e::es) k=if e.1=k then some e.2 else look es k:=by
 grind [look]
theorem O_(k:bC)(v:Str)(k':bC):∀C:List (bC×Str),look (ke C k v) k'=if k=k' then some v else look C k'
 |[]=>by show look [(k,v)] k'=_;rw[x8]
 |e::es=>by
  unfold ke;by_cases h:e.1=k
  .rw[bx h,x8,x8,h];split <;> rfl
  .rw[bc h,x8,O_ k v k' es,x8]
   lia
theorem Cj(k:bC):∀C:List (bC×Str),aQ (ia C) (kC k)=(look C k).map D.str
 |[]=>rfl
 |e::es=>by
  have ih:=Cj k es
  grind [x8,aQ,ia,Ra]
theorem JS(k:bC)(v:Str):∀C:List (bC×Str),bY (ia C) (kC k) (.str v)=ia (ke C k v)
 |[]=>rfl
 |e::es=>by
  have ih:=JS k v es
  grind [ia,Fu,ke,Ra]
theorem Pa(k:bC)(v:Str):∀C:List (bC×Str),(ke C k v).length<=C.length+1
 |[]=>by unfold ke;exact bZ _
 |e::es=>by
  have ih:=Pa k v es;unfold ke;split
  .rw[kG,kG];lia
  .rw[kG,kG];lia
noncomputable def gk(G:Row->Goal)(w:Row):bC:=((G w).1,(G w).2.getD 0)
def ask(G:Row->Goal)(W:List (Str×D))(L:List Row):List Row:=L.filter λw => !(W.map (·.1)).contains w.bag&&(G w).2.isSome
theorem Rz{G:Row->Goal}{w:Row}(h:(G w).2.isSome=true):gD (G w)=pl (gk G w).1 (gk G w).2:=by
 unfold gk gD;generalize G w=p at *;obtain⟨c,i⟩:=p;cases i with
 |none=>cases h
 |some i=>rfl
theorem kp{o:Str}{j:Int}:jO [.str o,.int j]=some [.inr o,.inl j]:=by simp[jO,qF]
def Cs(G:Row->Goal)(C:List (bC×Str))(w:Row):List (bC×Str):=if look C (gk G w)=none\/w.b=(gk G w).1 then ke C (gk G w) w.bag else C
section
variable{S:aV}{n m:Nat}{G:Row->Goal}{L:List Row}{w:Row}{W:List (Str×D)}{C:List (bC×Str)}{a8 a9 a10 g0 g3:aj Val}{t rr:List Cell}
theorem e5n(hv:aQ (cK G L) (.inr w.bag)=some (gD (G w)))(hs:(G w).2.isSome=true)(ht:t[m]?=some (.o (.aA (ia C))))(hl:C.length<1000):Bq 0 [g0,ak (.aA (cK G L)),aH n,g3,aH m,bJ w.bag,ak (aS w.fl),ak (pl w.b w.i),cq w.gn,a9,a10] ⟨t,rr⟩=some (.nx [g0,ak (.aA (cK G L)),aH n,g3,aH m,bJ w.bag,ak (aS w.fl),ak (pl w.b w.i),cq w.gn,ak (gD (G w)),a10] ⟨t.set m (.o (.aA (ia (Cs G C w)))),rr⟩):=by
 rw[Rz hs] at hv ⊢;have v:=Cj (gk G w) C;have pu:=JS (gk G w) w.bag C;have l_:((ia C).length<1000000)=True:=bH (by unfold ia;rw[bw];lia)
 have lt:(m<t.length)=True:=bH (fE.mp ht).1;have se:t.set m (.o (.aA (ia C)))=t:=by
  obtain⟨h1,h2⟩:=fE.mp ht;rw[<-h2,MG]
 unfold Cs;unfold kC at v pu;generalize aS w.fl=ff at *;unfold Bq;cases hk:look C (gk G w) with
 |none=>
  rw[bx (.inl rfl)];rw[hk] at v;simp only[↓ev,hv,aP,ht,v,z6,lr,l_,pu]
 |some b=>
  rw[hk] at v;cases he:(w.b == (gk G w).1) with
  |true=>
   rw[bx (.inr (beq_iff_eq.mp he))];simp only[↓ev,hv,aP,ht,v,vN,hV,aI,bU,eV,he,l_,pu]
  |false=>
   rw[bc (by rw[not_or];exact⟨λz=>(by cases z),λz=>(by rw[z,fG] at he;cases he)⟩),se]
   simp only[↓ev,hv,aP,ht,v,vN,hV,aI,bU,eV,he]
theorem WM(q:Nat)(nd:(L.map Row.bag).Nodup)(hl:L.length<=1000)(hn:t[n]?=some (.o (.aA (cI W)))):bh (ae 0) (HX q) (HY q) (L.map aU) [none,aH n,ak (.aA (cK G L))] ⟨t,rr⟩ []=some (.ok ((ask G W L).map aU) ⟨t,rr⟩):=by
 rw[uN (λw=>if(!(W.map (·.1)).contains w.bag&&(G w).2.isSome)=true then some (aU w) else none) L (by lia) λw m=>by
  have v:aQ (cK G L) (.inr w.bag)=_:=jv nd m;have i:=AJ (W:=W) (b:=w.bag);unfold HX HY;cases h1:(W.map (·.1)).contains w.bag with
  |true=>
   refine .inl ⟨rfl,?_⟩;rw[h1] at i;unfold aU;generalize aS w.fl=ff at *;generalize gD (G w)=gg at *;simp only[↓ev,bU,hn,i,hV,aI]
  |false=>
   rw[h1] at i;cases h2:(G w).2 with
   |none=>
    have e:gD (G w)=.str (G w).1:=by unfold gD;generalize G w=p at *;obtain⟨c,j⟩:=p;cases h2;rfl
    rw[e] at v;refine .inl ⟨rfl,?_⟩;unfold aU;generalize aS w.fl=ff at *;simp only[↓ev,bU,hn,i,lr,v,KU]
   |some j=>
    have e:gD (G w)=pl (G w).1 j:=by unfold gD;generalize G w=p at *;obtain⟨c,j⟩:=p;cases h2;rfl
    rw[e] at v;refine .inr ⟨rd (aU w),aU w,rfl,?_,?_,rfl⟩
    .unfold aU;generalize aS w.fl=ff at *;simp only[↓ev,bU,hn,i,lr,v,G8]
    rfl]
 congr 2
 unfold ask;clear nd hl
 induction L with
 |nil=>rfl
 |cons w L ih=>
  rw[qG,Eu,ih];cases(!(W.map (·.1)).contains w.bag&&(G w).2.isSome) <;> rfl
end
variable{G:Row->Goal}
def mW(G:Row->Goal)(d:List Row)(C:List (bC×Str)):Prop:=(∀k b,look C k=some b->∃c∈d,c.bag=b/\gk G c=k/\((∃z∈d,gk G z=k/\z.b=k.1)->c.b=k.1))/\(∀w∈d,look C (gk G w)≠none)/\C.length<=d.length
theorem e5o:mW G [] []:=⟨λk b e=>(by cases e),λw m=>(by cases m),bZ _⟩
theorem Y0{d:List Row}{C:List (bC×Str)}(o:mW G d C)(w:Row):mW G (d++[w]) (Cs G C w):=by
 obtain⟨o1,o2,o3⟩:=o;have me:∀{z},z∈d++[w]↔z∈d\/z=w:=λ{z}=>by rw[dF,kH]
 unfold Cs;by_cases hc:look C (gk G w)=none\/w.b=(gk G w).1
 .rw[bx hc];refine⟨λk b e=>?_,λz m=>?_,?_⟩
  all_goals grind [O_,Pa]
 .rw[bc hc];rw[not_or] at hc;refine⟨λk b e=>?_,λz m=>?_,by rw[dU];lia⟩
  .obtain⟨c,mc,e1,e2,e3⟩:=o1 k b e;refine⟨c,me.mpr (.inl mc),e1,e2,λ⟨z,mz,e4,e5⟩=>e3 ?_⟩
   rcases me.mp mz with mz|rfl
   .exact⟨z,mz,e4,e5⟩
   .exact cz (by rw[e4];exact e5) hc.2
  .rcases me.mp m with m|rfl
   .exact o2 z m
   .exact hc.1
def fY(G:Row->Goal)(C:List (bC×Str))(w:Row):aj (Str×D):=match look C (gk G w) with
 |none=>none
 |some c=>if c=w.bag then none else some (w.bag,.tup [.str "yields",.str c])
section
variable{S:aV}{n m:Nat}{G:Row->Goal}{L A:List Row}{w:Row}{W:List (Str×D)}{C:List (bC×Str)}{a8 a9 a10 g0 g3:aj Val}{t rr:List Cell}
theorem e5p(hv:aQ (cK G L) (.inr w.bag)=some (gD (G w)))(hs:(G w).2.isSome=true)(hm:t[m]?=some (.o (.aA (ia C))))(hn:t[n]?=some (.o (.aA (cI W))))(hW:w.bag∉W.map (·.1))(hl:W.length<1000){c:Str}(hk:look C (gk G w)=some c):Br 0 [g0,ak (.aA (cK G L)),aH n,g3,aH m,bJ w.bag,ak (aS w.fl),ak (pl w.b w.i),cq w.gn,a9,a10] ⟨t,rr⟩=some (.nx [g0,ak (.aA (cK G L)),aH n,g3,aH m,bJ w.bag,ak (aS w.fl),ak (pl w.b w.i),cq w.gn,a9,bJ c] ⟨t.set n (.o (.aA (cI (W++(fY G C w).toList)))),rr⟩):=by
 rw[Rz hs] at hv;have v:=Cj (gk G w) C;rw[hk] at v;have hp:=λy=>JQ (y:=y) hW
 have l_:((cI W).length<1000000)=True:=bH (by unfold cI;rw[lD];lia)
 have lt:(n<t.length)=True:=bH (fE.mp hn).1;have se:t.set n (.o (.aA (cI W)))=t:=by
  obtain⟨h1,h2⟩:=fE.mp hn;rw[<-h2,MG]
 unfold fY;rw[hk];dsimp only;unfold kC at v;generalize aS w.fl=ff at *;unfold Br;cases he:(c == w.bag) with
 |true=>
  rw[bx (beq_iff_eq.mp he)];show _=some (Fr.nx _ ⟨t.set n (.o (.aA (cI (W++[])))),rr⟩);rw[jQ,se];simp only[↓ev,hv,hm,v,aP,eV,he,hV,aI]
 |false=>
  rw[bc (by rw[pX] at he;exact he)]
  show _=some (Fr.nx _ ⟨t.set n (.o (.aA (cI (W++[(w.bag,.tup [.str "yields",.str c])])))),rr⟩);simp only[↓ev,hv,hm,v,aP,eV,he,lr,hn,l_,hp]
theorem o6:w∈ask G W L↔w∈L/\w.bag∉W.map (·.1)/\(G w).2.isSome=true:=by
 unfold ask;rw[pV,jD,Mx,z8,ne_eq,lq]
theorem WN(C:List (bC×Str))(A:List Row):∀b∈(A.filterMap (fY G C)).map (·.1),b∈A.map Row.bag:=λb m=>by
 grind [fY]
theorem Y1(nd:(L.map Row.bag).Nodup)(hl:L.length<100)(hA:∀w∈A,w∈L/\(G w).2.isSome=true)(GF:A.length<100)(t:List Cell):∃C,mW G A C/\∃a5 a6 a7 a8 a9,aL (a_ [(ae 5),(ae 6),(ae 7),(ae 8)]) (Bq 0) (A.map aU) [g0,ak (.aA (cK G L)),aH n,g3,aH t.length,none,none,none,none,none,none] ⟨t++[.o (.aA [])],rr⟩=some (.nx [g0,ak (.aA (cK G L)),aH n,g3,aH t.length,a5,a6,a7,a8,a9,none] ⟨t++[.o (.aA (ia C))],rr⟩):=by
 obtain⟨U',S',e,⟨a5,a6,a7,a8,a9,rfl⟩,C,oC,rfl⟩:=ju (gg:=a_ [(ae 5),(ae 6),(ae 7),(ae 8)]) (body:=Bq 0) (f:=aU) (U:=[g0,ak (.aA (cK G L)),aH n,g3,aH t.length,none,none,none,none,none,none]) (S:=⟨t++[.o (.aA [])],rr⟩) (λpre U S'=>(∃a5 a6 a7 a8 a9,U=[g0,ak (.aA (cK G L)),aH n,g3,aH t.length,a5,a6,a7,a8,a9,none])/\∃C,mW G pre C/\S'=⟨t++[.o (.aA (ia C))],rr⟩) A ⟨⟨_,_,_,_,_,rfl⟩,[],e5o,rfl⟩ (by
  rintro d w post eq U S' ⟨⟨a5,a6,a7,a8,a9,rfl⟩,C,oC,rfl⟩;obtain⟨hw,hs⟩:=hA w (by rw[eq];simp)
  have hd:d.length<100:=by
   grind
  have:=oC.2.2;refine⟨_,_,_,rfl,.inl (e5n (jv nd hw) hs eA (by lia)),⟨_,_,_,_,_,rfl⟩,Cs G C w,Y0 oC w,?_⟩
  rw[jB];rfl)
 exact⟨C,oC,a5,a6,a7,a8,a9,e⟩
theorem Y2(nd:(L.map Row.bag).Nodup)(La:(A.map Row.bag).Nodup)(hA:∀w∈A,w∈L/\w.bag∉W.map (·.1)/\(G w).2.isSome=true)(GF:A.length<100)(Kr:W.length<100)(oC:mW G A C){t:List Cell}(hn:t[n]?=some (.o (.aA (cI W))))(hm:t[m]?=some (.o (.aA (ia C))))(nm:n≠m){a5 a6 a7 a8 a9:aj Val}:∃b5 b6 b7 b8 oE,aL (a_ [(ae 5),(ae 6),(ae 7),(ae 8)]) (Br 0) (A.map aU) [g0,ak (.aA (cK G L)),aH n,g3,aH m,a5,a6,a7,a8,a9,none] ⟨t,rr⟩=some (.nx [g0,ak (.aA (cK G L)),aH n,g3,aH m,b5,b6,b7,b8,a9,oE] ⟨t.set n (.o (.aA (cI (W++A.filterMap (fY G C))))),rr⟩):=by
 have lt:=(fE.mp hn).1;have se:t.set n (.o (.aA (cI (W++[]))))=t:=by
  obtain⟨h1,h2⟩:=fE.mp hn;rw[jQ,<-h2,MG]
 obtain⟨U',S',e,⟨b5,b6,b7,b8,oE,rfl⟩,rfl⟩:=ju (gg:=a_ [(ae 5),(ae 6),(ae 7),(ae 8)]) (body:=Br 0) (f:=aU) (U:=[g0,ak (.aA (cK G L)),aH n,g3,aH m,a5,a6,a7,a8,a9,none]) (S:=⟨t,rr⟩) (λpre U S'=>(∃b5 b6 b7 b8 oE,U=[g0,ak (.aA (cK G L)),aH n,g3,aH m,b5,b6,b7,b8,a9,oE])/\S'=⟨t.set n (.o (.aA (cI (W++pre.filterMap (fY G C))))),rr⟩) A ⟨⟨_,_,_,_,_,rfl⟩,by rw[Be,se]⟩ (by
  rintro d w post eq U S' ⟨⟨b5,b6,b7,b8,oE,rfl⟩,rfl⟩;have Sd:w∈A:=by rw[eq];simp
  obtain⟨hw,hwW,hs⟩:=hA w Sd;have hd:d.length<100:=by
   have:=congrArg List.length eq;rw[dU] at this;lia
  obtain⟨c,hc⟩:=Option.ne_none_iff_exists'.mp (oC.2.1 w Sd);have hlen:=HF (fY G C) d;refine⟨_,_,_,rfl,.inl (e5p (jv nd hw) hs (by rw[A9 nm];exact hm) (by rw[vL lt]) (W:=W++d.filterMap (fY G C)) (λz=>?_) (by rw[dU];lia) hc),⟨_,_,_,_,_,rfl⟩,?_⟩
  .rw[fR,dF] at z;rcases z with z|z
   .exact hwW z
   .exact Jk eq La (WN C d _ z)
  .rw[HE,MF,lj,show List.filterMap (fY G C) [w]=(fY G C w).toList by rw[qG,Be];cases fY G C w <;> rfl])
 exact⟨b5,b6,b7,b8,oE,e⟩
theorem Y3(hn:n<S.s.length)(nd:(L.map Row.bag).Nodup)(hl:L.length<100)(Kr:W.length<100):∃C,mW G (ask G W L) C/\EK 0 [.d (.lst (L.map aU)),.d (.aA (cK G L)),.c n] (tw S n W)=some (.ok (rd .aM) (tw S n (W++(ask G W L).filterMap (fY G C)))):=by
 have ta:=J0 (W:=W) hn;have hA:∀w∈ask G W L,w∈L/\w.bag∉W.map (·.1)/\(G w).2.isSome=true:=λw m=>o6.mp m
 have GF:(ask G W L).length<100:=Mn (xw _ _) hl;have La:((ask G W L).map Row.bag).Nodup:=nd.sublist (List.Sublist.map _ Ez);have e1:=λq=>WM (G:=G) (rr:=S.r) q nd (by lia) ta
 obtain⟨C,oC,a5,a6,a7,a8,a9,e2⟩:=Y1 (n:=n) (rr:=S.r) (g0:=(ak (.lst (L.map aU)))) (g3:=(ak (.lst ((ask G W L).map aU)))) nd hl (λw m=>⟨(hA w m).1,(hA w m).2.2⟩) GF (S.s.set n (.o (.aA (cI W))))
 have md:n<(S.s.set n (.o (.aA (cI W)))).length:=by rw[xt];exact hn
 obtain⟨b5,b6,b7,b8,oE,e3⟩:=Y2 (n:=n) (m:=(S.s.set n (.o (.aA (cI W)))).length) (rr:=S.r) (g0:=(ak (.lst (L.map aU)))) (g3:=(ak (.lst ((ask G W L).map aU)))) (a5:=a5) (a6:=a6) (a7:=a7) (a8:=a8) (a9:=a9) nd La hA GF Kr oC (t:=S.s.set n (.o (.aA (cI W)))++[.o (.aA (ia C))]) (by rw[uf md];exact ta) eA (by lia)
 refine⟨C,oC,?_⟩;generalize(ask G W L).filterMap (fY G C)=Y at *;rw[List.set_append_left _ _ md,JR] at e3;have cu:aV.cut ⟨S.s.set n (.o (.aA (cI (W++Y))))++[.o (.aA (ia C))],S.r⟩ (S.s.set n (.o (.aA (cI W)))).length=tw S n (W++Y):=by
  grind [aV.cut]
 generalize(ask G W L).map aU=al at *;unfold EK MI;simp only[↓ev,gK,e1,aP,e2,e3,cu]
end
variable{C:List (bC×Str)}
noncomputable def iG(L:List Row):List (bC×Str):=L.map λw=>((w.b,w.i),w.bag)
theorem Pb{k:bC}{v:Str}:∀{C:List (bC×Str)},k∉C.map (·.1)->ke C k v=C++[(k,v)]
 |[],_=>rfl
 |e::es,h=>by
  rw[cU,y0b,not_or] at h;unfold ke;rw[bc λz=>h.1 z.symm,Pb h.2]
  rfl
theorem WO{k:bC}{b:Str}(nd:(C.map (·.1)).Nodup)(h:(k,b)∈C):look C k=some b:=by
 induction C with
 |nil=>cases h
 |cons e es ih=>
  grind [x8]
def hold(G:Row->Goal)(L:List Row)(w:Row):aj Str:=match(G w).2 with
 |none=>none
 |some i=>look (iG L) ((G w).1,i)
noncomputable def Co(o:Str):D:=.tup [.str "behind",.str o]
def ka(G:Row->Goal)(L:List Row)(X:List (Str×D))(w:Row)(o:Str):Prop:=w.bag∉X.map (·.1)/\hold G L w=some o/\o∈X.map (·.1)
inductive mH (G:Row->Goal) (L:List Row) (W:List (Str×D)):List (Str×D)->Prop
 |base:mH G L W W
 |step {X:List (Str×D)} {w:Row} {o:Str}:mH G L W X->w∈L->ka G L X w o->mH G L W (X++[(w.bag,Co o)])
theorem mH.trans{G:Row->Goal}{L:List Row}{W X Y:List (Str×D)}(a:mH G L W X)(b:mH G L X Y):mH G L W Y:=by
 induction b with
 |base=>exact a
 |step _ hw hc ih=>exact .step ih hw hc
section
variable{S:aV}{n m:Nat}{G:Row->Goal}{L:List Row}{w:Row}{W X:List (Str×D)}{a5 a6 a7 a9 g0:aj Val}{t rr:List Cell}{gr:Bool}
theorem e5q{d:List Row}(ht:t[m]?=some (.o (.aA (ia (iG d)))))(hl:d.length<1000)(hk:(w.b,w.i)∉d.map λw=>(w.b,w.i)){g1 g2 a8:aj Val}:Bs 0 [g0,g1,g2,aH m,bJ w.bag,ak (aS w.fl),ak (pl w.b w.i),cq w.gn,a8,a9] ⟨t,rr⟩=some (.nx [g0,g1,g2,aH m,bJ w.bag,ak (aS w.fl),ak (pl w.b w.i),cq w.gn,a8,a9] ⟨t.set m (.o (.aA (ia (iG (d++[w]))))),rr⟩):=by
 have pu:=JS (w.b,w.i) w.bag (iG d);rw[Pb (by unfold iG;rw[fL];exact hk),show iG d++[((w.b,w.i),w.bag)]=iG (d++[w]) by unfold iG;rw[fR];rfl] at pu
 have l_:((ia (iG d)).length<1000000)=True:=bH (by unfold ia iG;rw[bw,bw];lia)
 have lt:(m<t.length)=True:=bH (fE.mp ht).1;unfold kC at pu;dsimp only at pu;generalize aS w.fl=ff at *;unfold Bs;simp only[↓ev,ht,l_,pu]
theorem WQ{t:List Cell}{n:Nat}{c:Cell}(h:t[n]?=some c):t.set n c=t:=by
 obtain⟨h1,h2⟩:=fE.mp h;rw[<-h2,MG]
theorem e5r{c:Str}:aQ (ia C) (.inr c)=none:=by
 grind [aQ,ia,kC]
theorem e5s{α:Type}{k:α->Str}{v:α->D}{xs:List α}:aQ (td k v xs) TK.aM=none:=by
 grind [aQ,td]
theorem e8f(hv:aQ (cK G L) (.inr w.bag)=some (gD (G w)))(hm:t[m]?=some (.o (.aA (ia (iG L)))))(hn:t[n]?=some (.o (.aA (cI X))))(hc:∀o,¬ka G L X w o):∃b9,xP 0 [g0,ak (.aA (cK G L)),aH n,aH m,bJ w.bag,a5,a6,a7,ak (.bl gr),a9] ⟨t,rr⟩=some (.nx [g0,ak (.aA (cK G L)),aH n,aH m,bJ w.bag,a5,a6,a7,ak (.bl gr),b9] ⟨t,rr⟩):=by
 have i:=AJ (W:=X) (b:=w.bag);have nn:aQ (cI X) TK.aM=none:=e5s;unfold ka hold at hc;unfold xP;generalize G w=p at *;obtain⟨c,j⟩:=p;cases j with
 |none=>
  unfold gD at hv;have v:=e5r (C:=iG L) (c:=c);refine⟨(ak .aM),?_⟩;cases h1:(X.map (·.1)).contains w.bag with
  |true=>
   rw[h1] at i;simp only[↓ev,hm,hv,v,aP,hn,i,hV,aI]
  |false=>
   rw[h1] at i;simp only[↓ev,hm,hv,v,aP,hn,i,lr,aI,nn,z6]
 |some j=>
  unfold gD at hv;dsimp only at hc hv;have v:=Cj (c,j) (iG L);unfold kC at v;dsimp only at v;cases hk:look (iG L) (c,j) with
  |none=>
   rw[hk] at v;refine⟨(ak .aM),?_⟩;cases h1:(X.map (·.1)).contains w.bag with
   |true=>
    rw[h1] at i;simp only[↓ev,hm,hv,v,aP,hn,i,hV,aI]
   |false=>
    rw[h1] at i;simp only[↓ev,hm,hv,v,aP,hn,i,lr,aI,nn,z6]
  |some o=>
   rw[hk] at v;refine⟨(bJ o),?_⟩;cases h1:(X.map (·.1)).contains w.bag with
   |true=>
    rw[h1] at i;simp only[↓ev,hm,hv,v,aP,hn,i,hV,aI]
   |false=>
    rw[h1] at i;have i2:=AJ (W:=X) (b:=o);have h2:(X.map (·.1)).contains o=false:=by
     rw[z8];intro z;exact hc o ⟨λy=>(by rw[lq.mpr y] at h1;cases h1),hk,lq.mp z⟩
    rw[h2] at i2;simp only[↓ev,hm,hv,v,aP,hn,i,lr,aI,i2]
theorem e5t(hv:aQ (cK G L) (.inr w.bag)=some (gD (G w)))(hm:t[m]?=some (.o (.aA (ia (iG L)))))(hn:t[n]?=some (.o (.aA (cI X)))){o:Str}(hc:ka G L X w o)(hl:X.length<1000):xP 0 [g0,ak (.aA (cK G L)),aH n,aH m,bJ w.bag,a5,a6,a7,ak (.bl gr),a9] ⟨t,rr⟩=some (.nx [g0,ak (.aA (cK G L)),aH n,aH m,bJ w.bag,a5,a6,a7,ak (.bl true),bJ o] ⟨t.set n (.o (.aA (cI (X++[(w.bag,Co o)])))),rr⟩):=by
 have i:=AJ (W:=X) (b:=w.bag);have i2:=AJ (W:=X) (b:=o);obtain⟨c1,c2,c3⟩:=hc;rw[show(X.map (·.1)).contains w.bag=false by rw[z8];exact λz=>c1 (lq.mp z)] at i
 rw[lq.mpr c3] at i2;have hp:=JQ (y:=Co o) c1;have l_:((cI X).length<1000000)=True:=bH (by unfold cI;rw[lD];lia)
 have lt:(n<t.length)=True:=bH (fE.mp hn).1;unfold hold at c2;unfold xP;generalize G w=p at *;obtain⟨c,j⟩:=p;cases j with
 |none=>cases c2
 |some j=>
  unfold gD at hv;dsimp only at c2 hv;have v:=Cj (c,j) (iG L);unfold kC at v;dsimp only at v;rw[c2] at v;unfold Co at hp ⊢;simp only[↓ev,hm,hv,v,aP,hn,i,lr,aI,i2,l_,hp]
end
variable{X:List (Str×D)}{w:Row}{L:List Row}
noncomputable def nk(X:List (Str×D))(w:Row):Bool := !(X.map (·.1)).contains w.bag
theorem mj:nk X w=true↔w.bag∉X.map (·.1):=by
 unfold nk;rw[Mx,z8,ne_eq,lq]
def mu(L:List Row)(X:List (Str×D)):Nat:=(L.filter (nk X)).length
theorem Y4{y:D}(hw:w∈L)(h:w.bag∉X.map (·.1)):mu L (X++[(w.bag,y)])<mu L X:=by
 unfold mu;have e:L.filter (nk (X++[(w.bag,y)]))=(L.filter (nk X)).filter λz=>decide (z.bag≠w.bag):=by
  rw[List.filter_filter];refine List.filter_congr λz _=>?_
  rw[A',mj,jD,mj,y9a,fR,dF,List.map_singleton,kH];exact⟨λz=>⟨λy=>z (.inr y),λy=>z (.inl y)⟩,λz y=>y.elim z.2 z.1⟩
 rw[e,List.length_filter_lt_length_iff_exists];exact⟨w,pV.mpr ⟨hw,mj.mpr h⟩,by simp⟩
theorem mH.zT{G:Row->Goal}{W:List (Str×D)}(a:mH G L W X):X.length+mu L X<=W.length+mu L W:=by
 induction a with
 |base=>exact bZ _
 |@step X w o _ hw hc ih=>
  have:=Y4 (y:=Co o) hw hc.1;rw[dU];simp;lia
theorem RC:mu L X<=L.length:=xw _ _
section
variable{S:aV}{n m:Nat}{G:Row->Goal}{L:List Row}{w:Row}{W X:List (Str×D)}{a4 a5 a6 a7 a9 g0:aj Val}{t rr:List Cell}
theorem WR(nd:(L.map Row.bag).Nodup)(hl:L.length<100)(hX:X.length<200)(nm:n≠m)(hm:t[m]?=some (.o (.aA (ia (iG L)))))(hn:t[n]?=some (.o (.aA (cI X)))):∃X' gr b4 b9,mH G L X X'/\(gr=true->X.length<X'.length)/\(gr=false->X'=X/\∀w∈L,∀o,¬ka G L X w o)/\aL (ae 4) (xP 0) (dS (L.map Row.bag)) [g0,ak (.aA (cK G L)),aH n,aH m,a4,a5,a6,a7,ak (.bl false),a9] ⟨t,rr⟩=some (.nx [g0,ak (.aA (cK G L)),aH n,aH m,b4,a5,a6,a7,ak (.bl gr),b9] ⟨t.set n (.o (.aA (cI X'))),rr⟩):=by
 have lt:=(fE.mp hn).1;rw[show dS (L.map Row.bag)=L.map λw=>.str w.bag by unfold dS;rw[fL];rfl]
 obtain⟨U',S',e,X',gr,b4,b9,rfl,rfl,i1,i2,i3⟩:=ju (gg:=ae 4) (body:=xP 0) (f:=λw:Row=>.str w.bag) (U:=[g0,ak (.aA (cK G L)),aH n,aH m,a4,a5,a6,a7,ak (.bl false),a9]) (S:=⟨t,rr⟩) (λpre U S'=>∃X' gr b4 b9,U=[g0,ak (.aA (cK G L)),aH n,aH m,b4,a5,a6,a7,ak (.bl gr),b9]/\S'=⟨t.set n (.o (.aA (cI X'))),rr⟩/\mH G L X X'/\(gr=true->X.length<X'.length)/\(gr=false->X'=X/\∀w∈pre,∀o,¬ka G L X w o)) L ⟨X,false,_,_,rfl,by rw[WQ hn],.base,λz=>(by cases z),λ_=>⟨rfl,λw m=>(by cases m)⟩⟩ (by
  rintro d w post eq U S' ⟨X',gr,b4,b9,rfl,rfl,i1,i2,i3⟩;have hw:w∈L:=by rw[eq];simp
  have hv:aQ (cK G L) (.inr w.bag)=some (gD (G w)):=jv nd hw;have R8:(t.set n (.o (.aA (cI X'))))[m]?=some (.o (.aA (ia (iG L)))):=by rw[A9 nm];exact hm
  have GZ:(t.set n (.o (.aA (cI X'))))[n]?=some (.o (.aA (cI X'))):=vL lt;have tt:=i1.zT;have ml:=RC (L:=L) (X:=X);by_cases hc:∃o,ka G L X' w o
  .obtain⟨o,hc⟩:=hc;refine⟨_,_,_,rfl,.inl (e5t hv R8 GZ hc (by lia)),_,true,_,_,rfl,by rw[HE],.step i1 hw hc,λ_=>?_,λz=>(by cases z)⟩
   have:=(mH.step i1 hw hc).zT;rw[dU];have h2:X.length<=X'.length:=by
    grind
   simp;lia
  .obtain⟨c9,e⟩:=e8f (gr:=gr) (a5:=a5) (a6:=a6) (a7:=a7) (a9:=b9) (g0:=g0) (rr:=rr) hv R8 GZ λo z=>hc ⟨o,z⟩
   refine⟨_,_,_,rfl,.inl e,X',gr,_,_,rfl,rfl,i1,i2,λz=>⟨(i3 z).1,λw' mw o co=>?_⟩⟩
   rcases dF.mp mw with mw|mw
   .exact(i3 z).2 w' mw o co
   .rw[kH.mp mw] at co;exact hc ⟨o,by rw[(i3 z).1];exact co⟩)
 exact⟨X',gr,b4,b9,i1,i2,i3,e⟩
theorem WS(nd:(L.map Row.bag).Nodup)(hl:L.length<100)(hX:X.length<200)(nm:n≠m)(hm:t[m]?=some (.o (.aA (ia (iG L)))))(hn:t[n]?=some (.o (.aA (cI X)))){a8:aj Val}:∃X' gr b4 b9,mH G L X X'/\(gr=true->X.length<X'.length)/\(gr=false->X'=X/\∀w∈L,∀o,¬ka G L X w o)/\EL 0 [g0,ak (.aA (cK G L)),aH n,aH m,a4,a5,a6,a7,a8,a9] ⟨t,rr⟩=some (.nx [g0,ak (.aA (cK G L)),aH n,aH m,b4,a5,a6,a7,ak (.bl gr),b9] ⟨t.set n (.o (.aA (cI X'))),rr⟩):=by
 obtain⟨X',gr,b4,b9,i1,i2,i3,e⟩:=WR (G:=G) (a4:=a4) (a5:=a5) (a6:=a6) (a7:=a7) (a9:=a9) (g0:=g0) (rr:=rr) nd hl hX nm hm hn;refine⟨X',gr,b4,b9,i1,i2,i3,?_⟩;have k:(cK G L).map (·.1.d)=dS (L.map Row.bag):=Jz
 unfold EL;simp only[↓ev,aP,k,gK,e]
theorem Og(nd:(L.map Row.bag).Nodup)(hl:L.length<100)(nm:n≠m):∀(f:Nat) {X:List (Str×D)} {t:List Cell} {a4 a9:aj Val},X.length+mu L X<200->mu L X+2<=f->t[m]?=some (.o (.aA (ia (iG L))))->t[n]?=some (.o (.aA (cI X)))->∃X' b4 b9,mH G L X X'/\(∀w∈L,∀o,¬ka G L X' w o)/\c_ (cV (sj 8)) (EL 0) f [g0,ak (.aA (cK G L)),aH n,aH m,a4,a5,a6,a7,ak (.bl true),a9] ⟨t,rr⟩=some (.nx [g0,ak (.aA (cK G L)),aH n,aH m,b4,a5,a6,a7,ak (.bl false),b9] ⟨t.set n (.o (.aA (cI X'))),rr⟩)
 |0,X,t,a4,a9,h1,h2,hm,hn=>by lia
 |f+1,X,t,a4,a9,h1,h2,hm,hn=>by
  have lt:=(fE.mp hn).1;obtain⟨X',gr,b4,b9,i1,i2,i3,e⟩:=WS (G:=G) (a4:=a4) (a5:=a5) (a6:=a6) (a7:=a7) (a8:=(ak (.bl true))) (a9:=a9) (g0:=g0) (rr:=rr) nd hl (by lia) nm hm hn
  have tt:=i1.zT;cases gr with
  |true=>
   have l1:=i2 rfl;obtain⟨Y,c4,c9,j1,j2,e2⟩:=Og nd hl nm f (X:=X') (t:=t.set n (.o (.aA (cI X')))) (a4:=b4) (a9:=b9) (by lia) (by lia) (by rw[A9 nm];exact hm) (vL lt)
   rw[HE] at e2;refine⟨Y,c4,c9,i1.trans j1,j2,?_⟩;unfold c_;simp only[↓ev,e,e2]
  |false=>
   obtain⟨j1,j2⟩:=i3 rfl;subst j1;obtain⟨f',rfl⟩:∃f',f=f'+1:=⟨f - 1,by lia⟩
   refine⟨X',b4,b9,i1,j2,?_⟩;unfold c_;simp only[↓ev,e];rfl
end
section
variable{S:aV}{n:Nat}{G:Row->Goal}{L:List Row}{W:List (Str×D)}{g0 g1 g2:aj Val}{t rr:List Cell}
theorem Y5(un:(L.map λw=>(w.b,w.i)).Nodup)(hl:L.length<100)(t:List Cell):∃b4 b5 b6 b7,aL (a_ [(ae 4),(ae 5),(ae 6),(ae 7)]) (Bs 0) (L.map aU) [g0,g1,g2,aH t.length,none,none,none,none,none,none] ⟨t++[.o (.aA [])],rr⟩=some (.nx [g0,g1,g2,aH t.length,b4,b5,b6,b7,none,none] ⟨t++[.o (.aA (ia (iG L)))],rr⟩):=by
 obtain⟨U',S',e,⟨b4,b5,b6,b7,rfl⟩,rfl⟩:=ju (gg:=a_ [(ae 4),(ae 5),(ae 6),(ae 7)]) (body:=Bs 0) (f:=aU) (U:=[g0,g1,g2,aH t.length,none,none,none,none,none,none]) (S:=⟨t++[.o (.aA [])],rr⟩) (λpre U S'=>(∃b4 b5 b6 b7,U=[g0,g1,g2,aH t.length,b4,b5,b6,b7,none,none])/\S'=⟨t++[.o (.aA (ia (iG pre)))],rr⟩) L ⟨⟨_,_,_,_,rfl⟩,rfl⟩ (by
  rintro d w post eq U S' ⟨⟨b4,b5,b6,b7,rfl⟩,rfl⟩;have hd:d.length<100:=by
   grind
  have hk:(w.b,w.i)∉d.map λw=>(w.b,w.i):=by
   grind
  refine⟨_,_,_,rfl,.inl (e5q eA (by lia) hk),⟨_,_,_,_,rfl⟩,?_⟩
  rw[jB];rfl)
 exact⟨b4,b5,b6,b7,e⟩
theorem WT(hn:n<S.s.length)(nd:(L.map Row.bag).Nodup)(un:(L.map λw=>(w.b,w.i)).Nodup)(hl:L.length<100)(Kr:W.length<100):∃X,mH G L W X/\(∀w∈L,∀o,¬ka G L X w o)/\ES 0 [.d (.lst (L.map aU)),.d (.aA (cK G L)),.c n] (tw S n W)=some (.ok (rd .aM) (tw S n X)):=by
 have ta:=J0 (W:=W) hn;have md:n<(S.s.set n (.o (.aA (cI W)))).length:=by rw[xt];exact hn
 obtain⟨b4,b5,b6,b7,e1⟩:=Y5 (g0:=(ak (.lst (L.map aU)))) (g1:=(ak (.aA (cK G L)))) (g2:=(aH n)) (rr:=S.r) un hl (S.s.set n (.o (.aA (cI W))));have ml:=RC (L:=L) (X:=W);obtain⟨X,c4,c9,i1,i2,e2⟩:=Og (G:=G) (n:=n) (m:=(S.s.set n (.o (.aA (cI W)))).length) (g0:=(ak (.lst (L.map aU)))) (a5:=b5) (a6:=b6) (a7:=b7) (rr:=S.r) nd hl (by lia) 1000 (X:=W) (t:=S.s.set n (.o (.aA (cI W)))++[.o (.aA (ia (iG L)))]) (a4:=b4) (a9:=none) (by lia) (by lia) eA (by rw[uf md];exact ta)
 refine⟨X,i1,i2,?_⟩;rw[List.set_append_left _ _ md,JR] at e2;have cu:aV.cut ⟨S.s.set n (.o (.aA (cI X)))++[.o (.aA (ia (iG L)))],S.r⟩ (S.s.set n (.o (.aA (cI W)))).length=tw S n X:=by
  grind [aV.cut]
 unfold ES MQ;simp only[↓ev,aP,gK,e1,e2,cu]
end
variable{a bag o:Str}{x j gn:Int}{z:Row}
theorem AL{b:Str}{y:Int}:eQ (pl a x) (pl b y)=(a == b&&(x == y)):=by
 show dO [.str a,.int x] [.str b,.int y]=_;show(eQ (.str a) (.str b)&&(eQ (.int x) (.int y)&&true))=_;rw[eV,fT,Mp]
theorem He:dX 40 (pl a x)=true:=rfl
noncomputable def fW(bag o:Str)(j gn:Int)(z:Row):Row:=if z.bag=bag then{ z with b:=o,i:=j,gn:=gn} else z
theorem FK:(fW bag o j gn z).bag=z.bag:=by unfold fW;split <;> rfl
theorem Y6:(fW bag o j gn z).fl=z.fl:=by unfold fW;split <;> rfl
theorem rW{α β:Type}{f:α->β}{l:List α}(nd:(l.map f).Nodup){a b:α}(ha:a∈l)(hb:b∈l)(e:f a=f b):a=b:=by
 induction l with
 |nil=>cases ha
 |cons z l ih=>
  grind
section
variable{rows:List Row}{bag o:Str}{j gn:Int}{w:Row}
theorem Rb(nb:(rows.map Row.bag).Nodup)(hb:bag∈rows.map Row.bag):bY (g_ rows) (.inr bag) (pl o j)=g_ (rows.map (fW bag o j gn)):=by
 unfold g_;rw[Ci nb hb];unfold td;rw[fL];refine nQ λz _=>?_
 dsimp only[Function.comp];rw[FK];unfold fW;split <;> rfl
theorem e5v(nb:(rows.map Row.bag).Nodup)(hb:bag∈rows.map Row.bag):bY (kN rows) (.inr bag) (.int gn)=kN (rows.map (fW bag o j gn)):=by
 unfold kN;rw[Ci nb hb];unfold td;rw[fL];refine nQ λz _=>?_
 dsimp only[Function.comp];rw[FK];unfold fW;split <;> rfl
theorem Y7(nb:(rows.map Row.bag).Nodup)(hw:w∈rows):kN (rows.map (fW w.bag o j w.gn))=kN rows:=by
 unfold kN td;rw[fL];refine nQ λz mz=>?_
 dsimp only[Function.comp];rw[FK];unfold fW;split
 .rename_i e
  rw[rW nb mz hw e]
 .rfl
theorem Rc:iB (rows.map (fW bag o j gn))=iB rows:=by
 unfold iB td;rw[fL];refine nQ λz _=>?_
 dsimp only[Function.comp];rw[FK,Y6]
end
section
variable{s:List Cell}{h:aF}{r:Int}{x:Hl}{w:Row}{bt:aw}{o c:Str}{j:Int}
noncomputable def kB(bt:aw)(i:Int)(o:Str)(j:Int):Bool:=bt.ring&&((i == bt.long - 1)&&(o == bt.name&&(j == 0)))
theorem e5w(g:aG h)(nb:(x.rows.map Row.bag).Nodup)(hw:w∈x.rows)(hb:bt∈h.af)(eb:bt.name=w.b)(hl:x.rows.length<1000):vU 0 [eD,dR w.bag,.d (pl o j)] (hS (ax h) r x s)=some (.ok (rd .aM) (hS (ax h) r { x with rows:=x.rows.map (fW w.bag o j (if kB bt w.i o j=true then w.gn+1 else w.gn))} s)):=by
 have e:=Aq g hb;have hB:ao bt=.tup [.str bt.name,.int bt.long,.bl bt.ring,.lst (dS bt.outs)]:=rfl;rw[hB] at e;have hm:=mU (f:=Row.bag) hw;have h1:aQ (g_ x.rows) (.inr w.bag)=_:=jv nb hw;have h2:aQ (kN x.rows) (.inr w.bag)=_:=jv nb hw;have l1:((g_ x.rows).length<1000000)=True:=bH (by unfold g_;rw[lD];lia)
 have l2:((kN x.rows).length<1000000)=True:=bH (by unfold kN;rw[lD];lia)
 rw[<-eb] at h1;generalize ax h=hd at *;have yes:kB bt w.i o j=true->vU 0 [eD,dR w.bag,.d (pl o j)] (hS hd r x s)=some (.ok (rd .aM) (hS hd r { x with rows:=x.rows.map (fW w.bag o j (if kB bt w.i o j=true then w.gn+1 else w.gn))} s)):=λhc=>by
  rw[bx hc];have p1:=Rb (o:=o) (j:=j) (gn:=w.gn+1) nb hm;have p2:=e5v (o:=o) (j:=j) (gn:=w.gn+1) nb hm;have p3:=Rc (rows:=x.rows) (bag:=w.bag) (o:=o) (j:=j) (gn:=w.gn+1);unfold kB at hc;rw[jD,jD] at hc;obtain⟨c1,c2,c3⟩:=hc;unfold vU Iq;rw[c1] at e;simp only[↓ev,hS,hR,kI,kW,aP,h1,mI,ng,bU,e,h_,cL,He,aI,AL,fG,c2,c3,BH,Fg,h2,l2,p2,l1,p1,ck,p3]
 have no:kB bt w.i o j=false->vU 0 [eD,dR w.bag,.d (pl o j)] (hS hd r x s)=some (.ok (rd .aM) (hS hd r { x with rows:=x.rows.map (fW w.bag o j (if kB bt w.i o j=true then w.gn+1 else w.gn))} s)):=λhc=>by
  rw[bc (by rw[hc];decide)]
  have p1:=Rb (o:=o) (j:=j) (gn:=w.gn) nb hm;have p2:=Y7 (o:=o) (j:=j) nb hw;have p3:=Rc (rows:=x.rows) (bag:=w.bag) (o:=o) (j:=j) (gn:=w.gn);unfold kB at hc;unfold vU Iq;cases er:bt.ring with
  |false=>
   rw[er] at e;simp only[↓ev,hS,hR,kI,kW,aP,h1,mI,ng,bU,e,h_,aI,l1,p1,ck,p3,p2]
  |true=>
   rw[er] at e hc;rw[Bool.true_and] at hc;cases c2:(w.i == bt.long - 1) with
   |false=>simp only[↓ev,hS,hR,kI,kW,aP,h1,mI,ng,bU,e,h_,cL,He,aI,AL,fG,c2,l1,p1,ck,p3,p2]
   |true=>
    rw[c2,Bool.true_and] at hc;simp only[↓ev,hS,hR,kI,kW,aP,h1,mI,ng,bU,e,h_,cL,He,aI,AL,fG,c2,hc,l1,p1,ck,p3,p2]
 cases hc:kB bt w.i o j with
 |true=>have:=yes hc;rw[hc] at this;exact this
 |false=>have:=no hc;rw[hc] at this;exact this
end
section
variable{s:List Cell}{h:aF}{r:Int}{x:Hl}{w:Row}{c:Str}
theorem e5x{l:List (Str×Str×Int)}{b:Str}{nw:Int}(hb:b∉l.map (·.1)):bY (uP l) (.inr b) (.str c)=uP (l++[(b,c,nw)]):=by
 unfold uP;rw[Cg hb];unfold td;rw[fR];rfl
theorem Y8{hd:D}(nb:(x.rows.map Row.bag).Nodup)(hw:w∈x.rows)(hg:w.bag∉x.gone.map (·.1))(hl:x.gone.length<2000):Bw 0 [eD,dR w.bag,dR c] (hS hd r x s)=some (.ok (rd .aM) (hS hd r { x with rows:=x.rows.filter λz=>decide (z.bag≠w.bag),gone:=x.gone++[(w.bag,c,x.now)]} s)):=by
 have h1:aQ (g_ x.rows) (.inr w.bag)=_:=jv nb hw;have h2:aQ (kN x.rows) (.inr w.bag)=_:=jv nb hw;have h3:aQ (iB x.rows) (.inr w.bag)=_:=jv nb hw;have d1:dW (g_ x.rows) w.bag=g_ (x.rows.filter λz=>decide (z.bag≠w.bag)):=B6
 have d2:dW (kN x.rows) w.bag=kN (x.rows.filter λz=>decide (z.bag≠w.bag)):=B6
 have d3:dW (iB x.rows) w.bag=iB (x.rows.filter λz=>decide (z.bag≠w.bag)):=B6
 have p1:=e5x (c:=c) (nw:=x.now) hg;have l1:((uP x.gone).length<1000000)=True:=bH (by unfold uP;rw[lD];lia)
 have l2:((dI x.gone).length<1000000)=True:=bH (by unfold dI;rw[bw];lia)
 have p2:dI x.gone++[.tup [.str w.bag,.str c,.int x.now]]=dI (x.gone++[(w.bag,c,x.now)]):=by unfold dI;rw[fR];rfl
 have t1:fK (g_ x.rows)=true:=v9;have t2:fK (kN x.rows)=true:=v9;have t3:fK (iB x.rows)=true:=v9;generalize aS w.fl=ff at *;unfold Bw M3;simp only[↓ev,hS,hR,kI,kW,aP,t1,h1,d1,qk,qN,t3,h3,d3,BH,Fg,t2,h2,d2,vW,x6,l1,p1,Jy,Qh,Ce,Gn,l2,p2,ck]
end
variable{z:Row}
def mR(h:aF)(G:Row->Goal)(z:Row):aj Row:=match(G z).2 with
 |none=>none
 |some j=>some { z with b:=(G z).1,i:=j,gn:=match findB h.af z.b with
  |none=>z.gn
  |some bt=>if kB bt z.i (G z).1 j=true then z.gn+1 else z.gn}
def je(h:aF)(G:Row->Goal)(p:Row->Bool)(rows:List Row):List Row:=rows.filterMap λz=>if p z=true then mR h G z else some z
noncomputable def de(G:Row->Goal)(nw:Int)(w:Row):aj (Str×Str×Int):=match(G w).2 with
 |none=>some (w.bag,(G w).1,nw)
 |some _=>none
def gM(h:aF)(G:Row->Goal)(p:Row->Bool)(M:List Row)(x:Hl):Hl:={ x with now:=x.now+1,rows:=je h G p x.rows,gone:=x.gone++M.filterMap (de G (x.now+1))}
section
variable{s:List Cell}{h:aF}{r:Int}{x:Hl}{w:Row}{G:Row->Goal}{p p':Row->Bool}{rows:List Row}
theorem Pc{α β:Type}{f g:α->aj β}{l:List α}(h:∀x∈l,f x=g x):l.filterMap f=l.filterMap g:=by
 induction l with
 |nil=>rfl
 |cons x l ih=>rw[qG,qG,h x (.head _),ih λy m=>h y (.tail _ m)]
theorem F4{z':Row}(e:mR h G z=some z'):z'.bag=z.bag/\z'.fl=z.fl:=by
 unfold mR at e;split at e
 .cases e
 .cases e;exact⟨rfl,rfl⟩
theorem FL(p:Row->Bool)(rows:List Row):((je h G p rows).map Row.bag).Sublist (rows.map Row.bag):=by
 unfold je
 induction rows with
 |nil=>exact .slnil
 |cons z rows ih=>
  grind [F4]
theorem JA(hz:z∈rows)(hp:p z=false):z∈je h G p rows:=mT.mpr ⟨z,hz,by rw[hp];rfl⟩
theorem Y9(nb:(rows.map Row.bag).Nodup)(hw:w∈rows)(hp:p w=false)(AU:∀z,p' z=(p z || z.bag == w.bag))(hG:(G w).2=none):(je h G p rows).filter (λz=>decide (z.bag≠w.bag))=je h G p' rows:=by
 unfold je;rw[List.filter_filterMap];refine Pc λz mz=>?_
 rw[AU z];by_cases e:z.bag=w.bag
 .have ez:=rW nb mz hw e;subst ez;rw[hp,fG,MD,bc (by decide),bx rfl,show mR h G z=none by unfold mR;rw[hG]]
  show Option.filter _ (some z)=none;unfold Option.filter;simp
 .rw[show(z.bag == w.bag)=false by rw[pX];exact e,Bool.or_false]
  split
  .cases em:mR h G z with
   |none=>rfl
   |some z'=>
    unfold Option.filter;dsimp only;exact bx (qX (by rw[(F4 em).1];exact e))
  .unfold Option.filter;dsimp only;exact bx (qX e)
theorem e5y(nb:(rows.map Row.bag).Nodup)(hw:w∈rows)(hp:p w=false)(AU:∀z,p' z=(p z || z.bag == w.bag)){j:Int}(hG:(G w).2=some j){bt:aw}(hb:findB h.af w.b=some bt):(je h G p rows).map (fW w.bag (G w).1 j (if kB bt w.i (G w).1 j=true then w.gn+1 else w.gn))=je h G p' rows:=by
 obtain⟨gv,R3⟩:∃gv,(if kB bt w.i (G w).1 j=true then w.gn+1 else w.gn)=gv:=⟨_,rfl⟩
 rw[R3];unfold je;rw[List.map_filterMap];refine Pc λz mz=>?_
 rw[AU z];by_cases e:z.bag=w.bag
 .have ez:=rW nb mz hw e;subst ez;rw[hp,fG,MD,bc (by decide),bx rfl]
  unfold mR fW;rw[hG,hb,Ey,bx rfl];dsimp only;rw[R3]
 .rw[show(z.bag == w.bag)=false by rw[pX];exact e,Bool.or_false]
  split
  .cases em:mR h G z with
   |none=>rfl
   |some z'=>
    rw[Ey];unfold fW;rw[bc (by rw[(F4 em).1];exact e)]
  .rw[Ey];unfold fW;rw[bc e]
end
variable{S2:aV}{hd:D}
noncomputable def kK(d:List Row)(z:Row):Bool:=(d.map Row.bag).contains z.bag
noncomputable def n6(G:Row->Goal)(w:Row):D:=.tup [.str w.bag,gD (G w)]
section
variable{s:List Cell}{h:aF}{r:Int}{x:Hl}{w:Row}{G:Row->Goal}{n:Nat}{M:List Row}{g1 a2 a3:aj Val}
theorem e8g{j:Int}(hG:(G w).2=some j)(e:vU 0 [eD,dR w.bag,.d (pl (G w).1 j)] (hS hd r x s)=some (.ok (rd .aM) S2)):xX 0 [bQ,g1,bJ w.bag,ak (gD (G w))] (hS hd r x s)=some (.nx [bQ,g1,bJ w.bag,ak (gD (G w))] S2):=by
 have e1:gD (G w)=pl (G w).1 j:=by unfold gD;generalize G w=p at *;obtain⟨c,i⟩:=p;cases hG;rfl
 rw[e1];unfold xX;simp only[↓ev,G8,hR,cM,Ue,e]
theorem e5z(hG:(G w).2=none)(e:Bw 0 [eD,dR w.bag,.d (.str (G w).1)] (hS hd r x s)=some (.ok (rd .aM) S2)):xX 0 [bQ,g1,bJ w.bag,ak (gD (G w))] (hS hd r x s)=some (.nx [bQ,g1,bJ w.bag,ak (gD (G w))] S2):=by
 have e1:gD (G w)=.str (G w).1:=by unfold gD;generalize G w=p at *;obtain⟨c,i⟩:=p;cases hG;rfl
 rw[e1];unfold xX;simp only[↓ev,KU,aI,hR,cM,Tt,e]
theorem Pd(d:List Row)(w z:Row):kK (d++[w]) z=(kK d z || z.bag == w.bag):=by
 grind [kK]
theorem Y_(g:aG h)(o:Ok h n x)(hM:∀w∈M,w∈x.rows)(nM:(M.map Row.bag).Nodup)(RW:M.length<=x.rows.length)(hn:n<1000):∃b2 b3,aL (a_ [(ae 2),(ae 3)]) (xX 0) (M.map (n6 G)) [bQ,g1,none,none] (hS (ax h) r { x with now:=x.now+1} s)=some (.nx [bQ,g1,b2,b3] (hS (ax h) r (gM h G (kK M) M x) s)):=by
 obtain⟨U',S',e,⟨b2,b3,rfl⟩,rfl⟩:=ju (gg:=a_ [(ae 2),(ae 3)]) (body:=xX 0) (f:=n6 G) (U:=[bQ,g1,none,none]) (S:=hS (ax h) r { x with now:=x.now+1} s) (λpre U S'=>(∃b2 b3,U=[bQ,g1,b2,b3])/\S'=hS (ax h) r (gM h G (kK pre) pre x) s) M ⟨⟨_,_,rfl⟩,by
   have e1:gM h G (kK []) [] x={ x with now:=x.now+1}:=by
    unfold gM je;rw[Be,jQ,show(λz:Row=>if kK [] z=true then mR h G z else some z)=some from funext λz=>by rw[bc (by unfold kK;simp)],List.filterMap_some]
   rw[e1]⟩ (by
  rintro d w post eq U S' ⟨⟨b2,b3,rfl⟩,rfl⟩;have hw:w∈x.rows:=hM w (by rw[eq];simp)
  have hwd:w.bag∉d.map Row.bag:=Jk eq nM;have hp:kK d w=false:=by unfold kK;rw[z8];exact λz=>hwd (lq.mp z)
  have nb:((gM h G (kK d) d x).rows.map Row.bag).Nodup:=o.nb.sublist (FL _ _);have Se:w∈(gM h G (kK d) d x).rows:=JA hw hp;have ll:(gM h G (kK d) d x).rows.length<=x.rows.length:=by
   have:=(FL (h:=h) (G:=G) (kK d) x.rows).length_le;rw[bw,bw] at this;exact this
  have rl:=o.rl;have sz:=o.sz;obtain⟨bt,hb,eb,_⟩:=(o.rw w hw).1;have fb:=BM g hb;rw[eb] at fb;cases hG:(G w).2 with
  |some j=>
   refine⟨_,_,_,rfl,.inl (e8g hG (e5w g nb Se hb eb (by lia))),⟨_,_,rfl⟩,?_⟩
   unfold gM;dsimp only;rw[e5y o.nb hw hp (Pd d w) hG fb,MF,show List.filterMap (de G (x.now+1)) [w]=[] by rw[qG,Be];unfold de;rw[hG],jQ]
  |none=>
   have hgd:w.bag∉(gM h G (kK d) d x).gone.map (·.1):=by
    unfold gM;dsimp only;rw[fR,dF];rintro(z|z)
    .exact(lJ.mp o.nd).2.2 _ (mU hw) _ z rfl
    grind [de]
   have uZ:(gM h G (kK d) d x).gone.length<2000:=by
    grind [gM]
   refine⟨_,_,_,rfl,.inl (e5z hG (Y8 nb Se hgd uZ)),⟨_,_,rfl⟩,?_⟩;unfold gM;dsimp only;rw[Y9 o.nb hw hp (Pd d w) hG,MF,show List.filterMap (de G (x.now+1)) [w]=[(w.bag,(G w).1,x.now+1)] by rw[qG,Be];unfold de;rw[hG],lj])
 exact⟨b2,b3,e⟩
end
section
variable{s:List Cell}{h:aF}{r:Int}{x:Hl}{w:Row}{G:Row->Goal}{n m:Nat}{M L:List Row}{X:List (Str×D)}{hd:D}
theorem hlen{nw':Int}{m:Nat}:Nat.blt (hF hd r nw' m).length 1000=true:=rfl
theorem e6a(g:aG h)(o:Ok h n x)(hM:∀w∈M,w∈x.rows)(nM:(M.map Row.bag).Nodup)(RW:M.length<=x.rows.length)(hn:n<1000)(hs:s[m]?=some (.o (.lst (M.map (n6 G))))):FE 0 [eD,.c m] (hS (ax h) r x s)=some (.ok (rd .aM) (hS (ax h) r (gM h G (kK M) M x) (s.set m (.z (.lst (M.map (n6 G))))))):=by
 obtain⟨b2,b3,e⟩:=Y_ (G:=G) (r:=r) (s:=s.set m (.z (.lst (M.map (n6 G))))) (g1:=(aH m)) g o hM nM RW hn;generalize M.map (n6 G)=ml at *;generalize ax h=hd at *;unfold FE OS;simp only[↓ev,hS,hR,Ce,Gn,fG,hlen,e4z,hs,gK,e,Qy]
noncomputable def nB(X:List (Str×D))(G:Row->Goal)(w:Row):D:=match X.find? λp=>p.1 == w.bag with
 |some p=>.tup [.str w.bag,pl w.b w.i,pl w.b w.i,p.2]
 |none=>.tup [.str w.bag,pl w.b w.i,gD (G w),.aM]
abbrev tS(hd:D)(r:Int)(x:Hl)(s:List Cell)(X:List (Str×D))(lg mv:List D):aV:=⟨s++[.o (.aA (cI X)),.o (.lst lg),.o (.lst mv)],hR hd r x⟩
theorem Y'(X:List (Str×D))(w:Row):(X.find? (λp=>p.1 == w.bag)=none/\nk X w=true/\aQ (cI X) (.inr w.bag)=none)\/∃p,X.find? (λp=>p.1 == w.bag)=some p/\nk X w=false/\aQ (cI X) (.inr w.bag)=some p.2:=by
 have v:aQ (cI X) (.inr w.bag)=_:=Cf w.bag X;have i:=AJ (W:=X) (b:=w.bag);rw[v] at i ⊢;unfold nk;rw[<-i];cases X.find? (λp=>p.1 == w.bag) with
 |none=>exact .inl ⟨rfl,rfl,rfl⟩
 |some p=>exact .inr ⟨p,rfl,rfl,rfl⟩
theorem e6b{lg mv:List D}{g1:aj Val}(hv:aQ (cK G L) (.inr w.bag)=some (gD (G w)))(l1:lg.length<1000)(l2:mv.length<1000):BW 0 [bQ,g1,ak (.aA (cK G L)),aH s.length,aH (s.length+1),aH (s.length+2),bJ w.bag,ak (aS w.fl),ak (pl w.b w.i),cq w.gn] (tS hd r x s X lg mv)=some (.nx [bQ,g1,ak (.aA (cK G L)),aH s.length,aH (s.length+1),aH (s.length+2),bJ w.bag,ak (aS w.fl),ak (pl w.b w.i),cq w.gn] (tS hd r x s X (lg++[nB X G w]) (if nk X w=true then mv++[n6 G w] else mv))):=by
 have Sk:(lg.length<1000000)=True:=bH (by lia)
 have l2':(mv.length<1000000)=True:=bH (by lia)
 unfold nB n6;generalize aS w.fl=ff at *;generalize gD (G w)=gg at *;unfold BW;rcases Y' X w with⟨e1,e2,e3⟩|⟨p,e1,e2,e3⟩
 .rw[e1,e2,bx rfl];simp only[↓ev,tS,eA,aI,e3,z6,Fx,hv,aP,Sk,LF,l2']
 .rw[e1,e2,bc (by decide)]
  dsimp only;generalize p.2=py at *;simp only[↓ev,tS,eA,aI,e3,vN,Fx,aP,Sk,LF]
theorem Za{g1:aj Val}(nd:(L.map Row.bag).Nodup)(hl:L.length<100):∃a6 a7 a8 a9,aL (a_ [(ae 6),(ae 7),(ae 8),(ae 9)]) (BW 0) (L.map aU) [bQ,g1,ak (.aA (cK G L)),aH s.length,aH (s.length+1),aH (s.length+2),none,none,none,none] (tS hd r x s X [] [])=some (.nx [bQ,g1,ak (.aA (cK G L)),aH s.length,aH (s.length+1),aH (s.length+2),a6,a7,a8,a9] (tS hd r x s X (L.map (nB X G)) ((L.filter (nk X)).map (n6 G)))):=by
 obtain⟨U',S',e,⟨a6,a7,a8,a9,rfl⟩,rfl⟩:=ju (gg:=a_ [(ae 6),(ae 7),(ae 8),(ae 9)]) (body:=BW 0) (f:=aU) (U:=[bQ,g1,ak (.aA (cK G L)),aH s.length,aH (s.length+1),aH (s.length+2),none,none,none,none]) (S:=tS hd r x s X [] []) (λpre U S'=>(∃a6 a7 a8 a9,U=[bQ,g1,ak (.aA (cK G L)),aH s.length,aH (s.length+1),aH (s.length+2),a6,a7,a8,a9])/\S'=tS hd r x s X (pre.map (nB X G)) ((pre.filter (nk X)).map (n6 G))) L ⟨⟨_,_,_,_,rfl⟩,rfl⟩ (by
  rintro d w post eq U S' ⟨⟨a6,a7,a8,a9,rfl⟩,rfl⟩;have hd:d.length<100:=by
   grind
  have hf:=xw (nk X) d;refine⟨_,_,_,rfl,.inl (e6b (jv nd (by rw[eq];simp)) (by rw[bw];lia) (by rw[bw];lia)),⟨_,_,_,_,rfl⟩,?_⟩
  grind)
 exact⟨a6,a7,a8,a9,e⟩
theorem Qq:∀L:List Row,iA (L.map (n6 G))=some (cK G L)
 |[]=>rfl
 |w::L=>by
  have ih:=Qq L;rw[cU];show(jM (.str w.bag)).bind (λk=>(iA (L.map (n6 G))).map ((k,gD (G w))::·))=_
  rw[ih];rfl
theorem Zb(nd:(L.map Row.bag).Nodup):(cK G L).foldl (λa p=>bY a p.1 p.2) []=cK G L:=by
 have key:∀(M N:List Row),((N++M).map Row.bag).Nodup->(cK G M).foldl (λa p=>bY a p.1 p.2) (cK G N)=cK G (N++M):=by
  intro M
  induction M with
  |nil=>intro N _;rw[jQ];rfl
  |cons w M ih=>
   intro N nd;have hw:w.bag∉N.map Row.bag:=by
    grind
   have e:bY (cK G N) (.inr w.bag) (gD (G w))=cK G (N++[w]):=by
    unfold cK;rw[Cg hw];unfold td;rw[fR];rfl
   show(cK G M).foldl _ (bY (cK G N) (.inr w.bag) (gD (G w)))=_;rw[e,ih (N++[w]) (by rw[lj];exact nd),lj]
   rfl
 exact key L [] nd
end
def kU(h:aF)(r:Int)(x:Hl)(X:List (Str×D)):Prop:=∃C,mW (ar h r x) (ask (ar h r x) (cY (df h x) (ar h r x) (ord h x.rows)) (ord h x.rows)) C/\mH (ar h r x) (ord h x.rows) (cY (df h x) (ar h r x) (ord h x.rows)++(ask (ar h r x) (cY (df h x) (ar h r x) (ord h x.rows)) (ord h x.rows)).filterMap (fY (ar h r x) C)) X/\∀w∈ord h x.rows,∀o,¬ka (ar h r x) (ord h x.rows) X w o
def cB(h:aF)(x:Hl)(X:List (Str×D)):List Row:=(ord h x.rows).filter (nk X)
def aT(h:aF)(r:Int)(x:Hl)(X:List (Str×D)):Hl:=gM h (ar h r x) (kK (cB h x X)) (cB h x X) x
section
variable{s:List Cell}{h:aF}{r:Int}{x:Hl}{n:Nat}
theorem AB{s:List Cell}{rr:List Cell}{W W':List (Str×D)}:tw ⟨s++[.o (.aA (cI W))],rr⟩ s.length W'=⟨s++[.o (.aA (cI W'))],rr⟩:=by
 simp_all
theorem e6c(g:aG h)(o:Ok h n x)(hn:n<1000):∃X,kU h r x X/\Gi 0 [eD] (hS (ax h) r x s)=some (.ok (.o (.lst ((ord h x.rows).map (nB X (ar h r x))))) (hS (ax h) r (aT h r x X) s)):=by
 have rl:=o.rl;have pl:=o.perm.length_eq;have nd:((ord h x.rows).map Row.bag).Nodup:=(o.perm.map _).nodup_iff.mpr o.nb;have un:((ord h x.rows).map λw=>(w.b,w.i)).Nodup:=(o.perm.map _).nodup_iff.mpr o.un
 have e1:=λq s=>v_ (s:=s) (r:=r) (q:=q) g o
 have e2:=λs=>WK (s:=s) (r:=r) g o
 have e3:=λq s=>Oe (s:=s) (r:=r) (q:=q) (x:=x) g
 have ln:s.length<(s++[Cell.o (.aA (cI []))]).length:=by rw[dU];exact qH _
 have e5:=YZ (S:=⟨s++[.o (.aA (cI []))],hR (ax h) r x⟩) (n:=s.length) (st:=df h x) (G:=ar h r x) (L:=ord h x.rows) ln nd (by lia)
 rw[AB,AB] at e5;have lw:(cY (df h x) (ar h r x) (ord h x.rows)).length<=(ord h x.rows).length:=HF _ _;obtain⟨C,oC,e6⟩:=Y3 (S:=⟨s++[.o (.aA (cI []))],hR (ax h) r x⟩) (n:=s.length) (W:=cY (df h x) (ar h r x) (ord h x.rows)) (G:=ar h r x) (L:=ord h x.rows) ln nd (by lia) (by lia)
 rw[AB,AB] at e6;have ly:((ask (ar h r x) (cY (df h x) (ar h r x) (ord h x.rows)) (ord h x.rows)).filterMap (fY (ar h r x) C)).length<=(ord h x.rows).length:=jo (HF _ _) (xw _ _);obtain⟨X,i1,i2,e7⟩:=WT (S:=⟨s++[.o (.aA (cI []))],hR (ax h) r x⟩) (n:=s.length) (W:=cY (df h x) (ar h r x) (ord h x.rows)++(ask (ar h r x) (cY (df h x) (ar h r x) (ord h x.rows)) (ord h x.rows)).filterMap (fY (ar h r x) C)) (G:=ar h r x) (L:=ord h x.rows) ln nd un (by lia) (by rw[dU];lia)
 rw[AB,AB] at e7;obtain⟨a6,a7,a8,a9,e8⟩:=Za (s:=s) (hd:=ax h) (r:=r) (x:=x) (X:=X) (G:=ar h r x) (L:=ord h x.rows) (g1:=(ak (.lst ((ord h x.rows).map aU)))) nd (by lia)
 have e4:=e6a (r:=r) (G:=ar h r x) (M:=cB h x X) (m:=s.length+2) (s:=s++[.o (.aA (cI X)),.o (.lst ((ord h x.rows).map (nB X (ar h r x)))),.o (.lst ((cB h x X).map (n6 (ar h r x))))]) g o (λw m=>o.mem.mp (pV.mp m).1) (nd.sublist (List.Sublist.map _ Ez)) (by rw[<-pl];exact xw _ _) hn Fx
 rw[LF] at e4;refine⟨X,⟨C,oC,i1,i2⟩,?_⟩;have pw:=Qq (G:=ar h r x) (ord h x.rows);have fg:=Zb (G:=ar h r x) nd;have ll:((cK (ar h r x) (ord h x.rows)).length<1000)=True:=bH (by unfold cK;rw[lD];lia)
 have ew:(ord h x.rows).map (pU h r x)=(ord h x.rows).map (n6 (ar h r x)):=rfl;have w0:cI []=[]:=rfl;rw[w0] at e5;unfold aT;rw[ew] at e2;clear i1 i2 oC;generalize cY (df h x) (ar h r x) (ord h x.rows)=W1 at *;generalize W1++(ask (ar h r x) W1 (ord h x.rows)).filterMap (fY (ar h r x) C)=W2 at *;generalize gM h (ar h r x) (kK (cB h x X)) (cB h x X) x=x2 at *;unfold cB at e4;generalize(ord h x.rows).map (n6 (ar h r x))=l1 at *;generalize((ord h x.rows).filter (nk X)).map (n6 (ar h r x))=l2 at *;generalize(ord h x.rows).map (nB X (ar h r x))=l3 at *;generalize(ord h x.rows).map aU=l4 at *;generalize cK (ar h r x) (ord h x.rows)=gs at *;generalize ax h=hd at *;unfold Gi Q7;simp only[↓ev,hR,cM,nV,e1,aP,e2,pw,ll,fg,NB,e3,e5,e6,e7,aI,A0,yl,gK,e8,YS,e4,lt2,Fx,o_]
end
variable{G:Row->Goal}{j:Int}
theorem Qr{α:Type}[DecidableEq α]:∀{l1 l2:List α},l1.Nodup->(∀a∈l1,a∈l2)->l1.length<=l2.length
 |[],_,_,_=>kO _
 |a::l1,l2,nd,h=>by
  rw[tJ] at nd;have ha:=h a (.head _);have ih:=Qr (l1:=l1) (l2:=l2.erase a) nd.2 λb m=>by
   grind
  grind
section
variable{h:aF}{r:Int}{x:Hl}{n:Nat}{X:List (Str×D)}{w z:Row}
theorem Zc(g:aG h)(o:Ok h n x)(hw:w∈x.rows):((ar h r x w).2=none->(ar h r x w).1∈h.carts)/\∀j,(ar h r x w).2=some j->∃bt∈h.af,bt.name=(ar h r x w).1/\0<=j/\j<bt.long:=by
 obtain⟨bt,hb,eb,i0,i1,_⟩:=(o.rw w hw).1;have lo:=(g.lg bt hb).1;have eg:ar h r x w=iR h r x w bt:=by unfold ar;rw[<-eb,BM g hb]
 rw[eg];unfold iR;split
 .exact⟨λz=>(by cases z),λj e=>⟨bt,hb,rfl,by cases e;lia,by cases e;assumption⟩⟩
 .split
  .exact⟨λz=>(by cases z),λj e=>⟨bt,hb,rfl,by cases e;lia,by cases e;lia⟩⟩
  .obtain⟨a,ea,ha⟩:=Gq g o hw hb eb;rw[ea,ME];unfold nD;split
   .simp_all
   .rename_i hc
    split
    .exact⟨λz=>(by cases z),λj e=>⟨bt,hb,rfl,by cases e;lia,by cases e;lia⟩⟩
    .have hm:a∈h.af.map aw.name:=(Jh g.fwd bt hb a ha).resolve_right λz=>hc (lq.mpr z)
     obtain⟨b2,uX,e2⟩:=eW.mp hm;have l2:=(g.lg b2 uX).1;exact⟨λz=>(by cases z),λj e=>⟨b2,uX,e2,by cases e;lia,by cases e;lia⟩⟩
theorem mH.sub{L:List Row}{W X:List (Str×D)}(a:mH G L W X):∀b∈W.map (·.1),b∈X.map (·.1):=by
 induction a with
 |base=>exact λ_ m=>m
 |step _ _ _ ih=>exact λb m=>by rw[fR];exact dF.mpr (.inl (ih b m))
theorem yi(o:Ok h n x):w∈cB h x X↔w∈x.rows/\w.bag∉X.map (·.1):=by
 unfold cB;rw[pV,o.mem,mj]
theorem WU(o:Ok h n x)(t:kU h r x X):∃C:List (bC×Str),∀w∈cB h x X,(ar h r x w).2.isSome=true->look C (gk (ar h r x) w)=some w.bag:=by
 obtain⟨C,oC,gr,fn⟩:=t;refine⟨C,λw hw hs=>?_⟩
 obtain⟨hr,hX⟩:=(yi o).mp hw;have h1:w.bag∉(cY (df h x) (ar h r x) (ord h x.rows)).map (·.1):=λm=>hX (gr.sub _ (by rw[fR];exact dF.mpr (.inl m)))
 have ha:w∈ask (ar h r x) (cY (df h x) (ar h r x) (ord h x.rows)) (ord h x.rows):=o6.mpr ⟨o.mem.mpr hr,h1,hs⟩;obtain⟨c,hc⟩:=Option.ne_none_iff_exists'.mp (oC.2.1 w ha);rw[hc];by_cases e:c=w.bag
 .rw[e]
 .refine cz (gr.sub w.bag ?_) hX
  grind [fY]
theorem RF(e:(G w).2=some j):gk G w=((G w).1,j):=by unfold gk;rw[e];rfl
theorem Uh(o:Ok h n x)(t:kU h r x X)(hw:w∈cB h x X)(hz:z∈cB h x X){k:Int}(ew:(ar h r x w).2=some j)(ez:(ar h r x z).2=some k)(e:((ar h r x w).1,j)=((ar h r x z).1,k)):w=z:=by
 obtain⟨C,hC⟩:=WU o t;have h1:=hC w hw (by rw[ew];rfl)
 have h2:=hC z hz (by rw[ez];rfl)
 rw[RF ew,e,<-RF ez,h2] at h1;exact rW o.nb ((yi o).mp hw).1 ((yi o).mp hz).1 (Option.some.inj h1).symm
theorem Zd(un:(x.rows.map λw=>(w.b,w.i)).Nodup)(o:Ok h n x)(hz:z∈x.rows)(ew:(G w).2=some j)(e:((G w).1,j)=(z.b,z.i)):hold G (ord h x.rows) w=some z.bag:=by
 unfold hold;rw[ew];dsimp only;rw[e];refine WO ?_ (eW.mpr ⟨z,o.mem.mpr hz,rfl⟩);unfold iG;rw[fL];exact(o.perm.map _).nodup_iff.mpr un
theorem WV(o:Ok h n x)(t:kU h r x X)(hw:w∈cB h x X)(hz:z∈x.rows)(ew:(ar h r x w).2=some j)(e:((ar h r x w).1,j)=(z.b,z.i)):z∈cB h x X:=by
 obtain⟨C,oC,gr,fn⟩:=t;obtain⟨hr,hX⟩:=(yi o).mp hw;refine(yi o).mpr ⟨hz,λm=>fn w (o.mem.mpr hr) z.bag ⟨hX,Zd o.un o hz ew e,m⟩⟩
theorem yj(o:Ok h n x)(hz:z∈x.rows):kK (cB h x X) z=true↔z∈cB h x X:=by
 unfold kK;rw[lq,eW];constructor
 .rintro⟨u,hu,e⟩;rw[<-rW o.nb ((yi o).mp hu).1 hz e];exact hu
 .exact λm=>⟨z,m,rfl⟩
end
section
variable{h:aF}{r:Int}{x:Hl}{n:Nat}{X:List (Str×D)}{w z z':Row}
theorem Pe(o:Ok h n x)(hz:z'∈(aT h r x X).rows):∃z∈x.rows,z'.bag=z.bag/\z'.fl=z.fl/\((z∉cB h x X/\z'=z)\/(z∈cB h x X/\mR h (ar h r x) z=some z')):=by
 obtain⟨z,KR,e⟩:=mT.mp hz;refine⟨z,KR,?_⟩;split at e
 .rename_i hm
  obtain⟨e1,e2⟩:=F4 e;exact⟨e1,e2,.inr ⟨(yj o KR).mp hm,e⟩⟩
 .rename_i hm
  cases e;exact⟨rfl,rfl,.inl ⟨λm=>hm ((yj o KR).mpr m),rfl⟩⟩
theorem e6e{G:Row->Goal}(e:mR h G z=some z')(h0:0<=z.gn):0<=z'.gn:=by
 grind [mR]
theorem JT{G:Row->Goal}(e:mR h G z=some z'):∃j,(G z).2=some j/\z'.b=(G z).1/\z'.i=j:=by
 grind [mR]
theorem JB{nw:Int}{p:Str×Str×Int}(o:Ok h n x)(hp:p∈(cB h x X).filterMap (de (ar h r x) nw)):∃u∈x.rows,u∈cB h x X/\(ar h r x u).2=none/\p=(u.bag,(ar h r x u).1,nw):=by
 grind [yi,de]
theorem Qs{G:Row->Goal}{nw:Int}:∀M:List Row,((M.filterMap (de G nw)).map (·.1)).Sublist (M.map Row.bag)
 |[]=>.slnil
 |u::M=>by
  have ih:=Qs (G:=G) (nw:=nw) M;rw[cU];cases e:(G u).2 with
  |none=>
   rw[List.filterMap_cons_some (b:=(u.bag,(G u).1,nw)) (by unfold de;rw[e])]
   exact ih.cons₂ _
  |some j=>
   rw[List.filterMap_cons_none (by unfold de;rw[e])]
   exact ih.cons _
theorem Ok.turn(g:aG h)(o:Ok h n x)(t:kU h r x X):Ok h n (aT h r x X):=by
 have nM:((cB h x X).map Row.bag).Nodup:=(((o.perm.map _).nodup_iff.mpr o.nb:((ord h x.rows).map Row.bag).Nodup)).sublist (List.Sublist.map _ Ez);have sb:((aT h r x X).rows.map Row.bag).Sublist (x.rows.map Row.bag):=FL _ _;have sU:∀b∈((cB h x X).filterMap (de (ar h r x) (x.now+1))).map (·.1),∃u∈x.rows,u∈cB h x X/\(ar h r x u).2=none/\b=u.bag:=λb m=>by
  obtain⟨p,hp,rfl⟩:=eW.mp m;obtain⟨u,h1,h2,h3,rfl⟩:=JB o hp;exact⟨u,h1,h2,h3,rfl⟩
 have dj:∀b∈(aT h r x X).rows.map Row.bag,b∉((cB h x X).filterMap (de (ar h r x) (x.now+1))).map (·.1):=λb mb mo=>by
  obtain⟨z',G4,rfl⟩:=eW.mp mb;obtain⟨u,hu,hum,hn,e⟩:=sU _ mo;obtain⟨z,hz,eb,_,st⟩:=Pe o G4;have ezu:z=u:=rW o.nb hz hu (by rw[<-eb,e])
  grind [JT]
 have ndo:(((cB h x X).filterMap (de (ar h r x) (x.now+1))).map (·.1)).Nodup:=by
  exact nM.sublist (Qs _)
 have nd:((aT h r x X).rows.map Row.bag++(aT h r x X).gone.map (·.1)).Nodup:=by
  have o1:=lJ.mp o.nd;have eg:(aT h r x X).gone.map (·.1)=x.gone.map (·.1)++((cB h x X).filterMap (de (ar h r x) (x.now+1))).map (·.1):=by
   show(x.gone++_).map _=_
   simp_all
  rw[eg,lJ];refine⟨o1.1.sublist sb,lJ.mpr ⟨o1.2.1,ndo,λa ma b mb e=>?_⟩,λa ma b mb e=>?_⟩
  .obtain⟨u,hu,_,_,eu⟩:=sU b mb;exact o1.2.2 u.bag (mU hu) a ma (by rw[e,eu])
  .rcases dF.mp mb with mb|mb
   .exact o1.2.2 a (sb.subset ma) b mb e
   .exact dj a ma (by rw[e];exact mb)
 refine⟨λz' G4=>?_,nd,?_,o.bk,o.bn,λp hp=>?_,?_,?_⟩
 .obtain⟨z,hz,eb,ef,st⟩:=Pe o G4;obtain⟨k1,k2,k3⟩:=o.rw z hz;refine⟨?_,by rw[eb];exact k2,by rw[ef];exact k3⟩
  rcases st with⟨_,rfl⟩|⟨_,s2⟩
  .exact k1
  .obtain⟨j,ej,e1,e2⟩:=JT s2;obtain⟨bt,hb,e3,e4,e5⟩:=(Zc g o hz).2 j ej;obtain⟨_,_,_,_,_,Ki⟩:=k1;exact⟨bt,hb,by rw[e1];exact e3,by rw[e2];exact e4,by rw[e2];exact e5,e6e s2 Ki⟩
 .show((je h (ar h r x) (kK (cB h x X)) x.rows).map _).Nodup;unfold je;rw[List.Nodup,Em,List.pairwise_filterMap];have un:=o.un;have nb:=o.nb;rw[List.Nodup,Em] at un nb;refine(un.and nb).imp_of_mem λ{a b} ma mb ne a' ea b' eb' e=>?_
  grind [JT,yj,WV,Uh]
 .rcases dF.mp (show p∈x.gone++(cB h x X).filterMap (de (ar h r x) (x.now+1)) from hp) with m|m
  .exact o.gi p m
  .obtain⟨u,hu,_,_,rfl⟩:=JB o m;exact(o.rw u hu).2.1
 .have:=sb.length_le;rw[bw,bw] at this;exact jo this o.rl
 .have:=Qr nd (l2:=x.rows.map Row.bag++x.gone.map (·.1)) λa m=>by
   rcases dF.mp m with m|m
   .exact dF.mpr (.inl (sb.subset m))
   .have m:a∈(x.gone++(cB h x X).filterMap (de (ar h r x) (x.now+1))).map (·.1):=m
    rw[fR,dF] at m;rcases m with m|m
    .exact dF.mpr (.inr m)
    .obtain⟨u,hu,_,_,e⟩:=sU a m;exact dF.mpr (.inl (by rw[e];exact mU hu))
  rw[dU,dU,bw,bw,bw,bw] at this;have sz:=o.sz;show x.book.length+x.halts.length+_+_<=n;lia
end
variable{l:List Str}
abbrev k8(z:Str)(v:Bool):Prop:=Pr nR [dR z] (rd (.bl v))
def Ext(x x':Hl)(bs:List Str):Prop:=x'.gone=x.gone/\x'.rows.map Row.bag=x.rows.map Row.bag++bs
theorem Ext.same{x x':Hl}(h1:x'.gone=x.gone)(h2:x'.rows.map Row.bag=x.rows.map Row.bag):Ext x x' []:=⟨h1,h2.trans (jQ _).symm⟩
def Dn(h:aF)(r:Int)(n:Nat)(x:Hl)(s:List Cell)(bs:List Str)(res:aj (Rs Rv)):Prop:=(∃x',res=some (.ok (rd .aM) (hS (ax h) r x' s))/\Ok h (n+1) x'/\Ext x x' bs)\/∃C,res=some (.ex C none (hS (ax h) r x s))/\wT jh C=some true
section
variable{s:List Cell}{h:aF}{r:Int}{x:Hl}{n q:Nat}{f ct b:Str}{cl:Int}{v:Bool}
theorem B8{hd:D}(q:Nat)(hv:k8 f v):xQ q [eD,dR f] (hS hd r x s)=some (if(v&&(x.book.map (·.1)).contains f)=true then .ok (rd .aM) (hS hd r x s) else .ex 104 none (hS hd r x s)):=by
 have i:(aQ (jg x.book) (.inr f)).isSome=_:=yr;unfold xQ MJ;cases v with
 |false=>simp only[↓ev,hv,ck,hR,aI]
 |true=>
  cases hc:(x.book.map (·.1)).contains f with
  |true=>rw[hc] at i;simp only[↓ev,hv,aI,hR,o4,qp,aP,i,hV,ck]
  |false=>rw[hc] at i;simp only[↓ev,hv,aI,hR,o4,qp,aP,i,lr,ck]
theorem Oh(q:Nat){S:aV}:Bt q [aO cl] S=some (if cl<0 then .ex 92 none S else .ok (rd .aM) S):=by
 unfold Bt MN;by_cases hl:cl<0
 .rw[bx hl];have hl:=bH hl;simp only[↓ev,hl,decide_true,gE]
 .rw[bc hl];have hl:=eq_false hl;simp only[↓ev,hl,decide_false,aI,gE]
theorem Ok.up(o:Ok h n x):Ok h (n+1) x:=⟨o.rw,o.nd,o.un,o.bk,o.bn,o.gi,o.rl,Nat.le_succ_of_le o.sz⟩
theorem xS(h:l.contains b=true):b∈l:=lq.mp h
theorem IG(h:l.contains b=false):b∉l:=λm=>by rw[lq.mpr m] at h;cases h
theorem WW(g:aG h)(o:Ok h n x)(hn:n<1000)(hv:k8 f v):Dn h r n x s [] (Fe 0 [eD,dR f,dR ct,aO cl] (hS (ax h) r x s)):=by
 have i:(aQ (jg x.book) (.inr f)).isSome=_:=yr;have cu:cutD (dS h.carts) (some 1) none=dS (h.carts.drop 1):=by rw[show(1:Int)=((1:Nat):Int) from rfl,Jf,dS,dS,HD]
 have e1:=λq S=>Oh (cl:=cl) (S:=S) q
 have hD:ax h=.tup [.lst (h.af.map ao),.lst (dS h.carts)]:=rfl;unfold Dn;rw[hD];unfold Fe Nx;cases v with
 |false=>
  refine .inr ⟨44,?_,rfl⟩;simp only[↓ev,hv,ck,hR]
 |true=>
  cases h1:(x.book.map (·.1)).contains f with
  |true=>
   rw[h1] at i;refine .inr ⟨44,?_,rfl⟩;simp only[↓ev,hv,aI,hR,o4,qp,aP,i,ck]
  |false=>
   rw[h1] at i;cases h2:(h.carts.drop 1).contains ct with
   |false=>
    refine .inr ⟨68,?_,rfl⟩;simp only[↓ev,hv,aI,hR,o4,qp,aP,i,mI,ng,cL,cu,jb,ja,h2,lr,ck]
   |true=>
    by_cases hl:cl<0
    .simp only[bx hl] at e1;refine .inr ⟨92,?_,rfl⟩;simp only[↓ev,hv,aI,hR,o4,qp,aP,i,mI,ng,cL,cu,jb,ja,h2,hV,e1,ck]
    .simp only[bc hl] at e1;have hf:=IG h1;have p:bY (jg x.book) (.inr f) (.tup [.str f,.str ct,.int cl])=jg (x.book++[(f,ct,cl)]):=by
      unfold jg;rw[Cg hf];unfold td;rw[fR];rfl
     have sz:=o.sz;have l1:((jg x.book).length<1000000)=True:=bH (by unfold jg;rw[lD];lia)
     refine .inl ⟨{ x with book:=x.book++[(f,ct,cl)]},?_,⟨λw m=>⟨(o.rw w m).1,(o.rw w m).2.1,λf' e=>?_⟩,o.nd,o.un,λp m=>?_,?_,o.gi,o.rl,?_⟩,.same rfl rfl⟩
     .simp only[↓ev,hS,hR,hv,aI,o4,qp,aP,i,mI,ng,cL,cu,jb,ja,h2,hV,e1,l1,p,ck]
     .rw[fR];exact dF.mpr (.inl ((o.rw w m).2.2 f' e))
     .rcases dF.mp m with m|m
      .exact o.bk p m
      .rw[kH.mp m];exact xS h2
     .rw[fR,lJ];refine⟨o.bn,by simp,λa ma b mb e=>hf ?_⟩
      have:b=f:=by simpa using mb
      rw[<-this,<-e];exact ma
     .dsimp only;rw[dU,ug];lia
theorem WX(g:aG h)(o:Ok h n x)(hn:n<1000)(hv:k8 f v):Dn h r n x s [] (Ff 0 [eD,dR f,aO cl] (hS (ax h) r x s)):=by
 have e0:=λq=>B8 (s:=s) (hd:=ax h) (r:=r) (x:=x) q hv
 have e1:=λq S=>Oh (cl:=cl) (S:=S) q
 unfold Dn;generalize ax h=hd at *;unfold Ff Ny;cases hc:(v&&(x.book.map (·.1)).contains f) with
 |false=>
  simp only[hc,aI,iC] at e0;refine .inr ⟨104,?_,rfl⟩;simp only[↓ev,hR,cM,ux,e0,ck]
 |true=>
  simp only[hc,oS] at e0;by_cases hl:cl<0
  .simp only[bx hl] at e1;refine .inr ⟨92,?_,rfl⟩;simp only[↓ev,hR,cM,ux,e0,e1,ck]
  .simp only[bc hl] at e1;rw[jD] at hc;have hm:=xS hc.2;obtain⟨p,hp,ep⟩:=eW.mp hm;have v0:aQ (jg x.book) (.inr f)=some (.tup [.str p.1,.str p.2.1,.int p.2.2]):=by rw[<-ep];exact jv o.bn hp
   have pu:bY (jg x.book) (.inr f) (.tup [.str f,.str p.2.1,.int cl])=jg (x.book.map λz=>if z.1=f then(f,z.2.1,cl) else z):=by
    unfold jg;rw[Ci o.bn hm];unfold td;rw[fL];refine nQ λz mz=>?_
    dsimp only[Function.comp];by_cases e:z.1=f
    .rw[bx e,bx e,rW (f:=λp:Str×Str×Int=>p.1) o.bn mz hp (by rw[e,ep]),ep]
     rfl
    .rw[bc e,bc e]
   have sz:=o.sz;have l1:((jg x.book).length<1000000)=True:=bH (by unfold jg;rw[lD];lia)
   have ek:(x.book.map λz=>if z.1=f then(f,z.2.1,cl) else z).map (·.1)=x.book.map (·.1):=by
    rw[fL];refine nQ λz _=>?_
    dsimp only[Function.comp];split
    .rename_i e;exact e.symm
    .rfl
   refine .inl ⟨{ x with book:=x.book.map λz=>if z.1=f then(f,z.2.1,cl) else z},?_,⟨λw m=>⟨(o.rw w m).1,(o.rw w m).2.1,λf' e=>?_⟩,o.nd,o.un,λp m=>?_,?_,o.gi,o.rl,?_⟩,.same rfl rfl⟩
   .simp only[↓ev,hS,hR,cM,ux,e0,e1,o4,qp,aP,v0,cL,l1,pu,ck]
   .show f'∈(x.book.map _).map _;rw[ek];exact(o.rw w m).2.2 f' e
   .obtain⟨z,mz,rfl⟩:=eW.mp m;split
    .exact o.bk z mz
    .exact o.bk z mz
   .show((x.book.map _).map _).Nodup;rw[ek];exact o.bn
   grind
theorem e6f(g:aG h)(o:Ok h n x)(hn:n<1000):Dn h r n x s [] (BS 0 [eD,dR b] (hS (ax h) r x s)):=by
 cases hb:(h.af.map aw.name).contains b with
 |false=>
  have e0:=λq=>An (s:=s) (r:=r) (x:=x) (q:=q) g hb
  simp only[aI,iC] at e0;refine .inr ⟨116,?_,rfl⟩;generalize ax h=hd at *;unfold BS Jc;simp only[↓ev,hR,cM,vT,e0,ck]
 |true=>
  have e0:=λq=>An (s:=s) (r:=r) (x:=x) (q:=q) g hb
  simp only[oS] at e0;have sz:=o.sz;have l1:((nz x.halts).length<1000000)=True:=bH (by rw[JM];lia)
  have p:=Gk b x.halts;refine .inl ⟨{ x with halts:=iq x.halts b},?_,⟨o.rw,o.nd,o.un,o.bk,o.bn,o.gi,o.rl,?_⟩,.same rfl rfl⟩
  .generalize ax h=hd at *;unfold BS Jc;simp only[↓ev,hS,hR,cM,vT,e0,Ar,BX,aP,l1,p,ck]
  grind [OZ]
theorem Ze(b:Str)(ks:List Str):dW (nz ks) b=nz (ks.filter λk=>decide (k≠b)):=B6 (k:=λk=>k) (v:=λ_=>.bl true)
theorem Zf(g:aG h)(o:Ok h n x)(hb:(h.af.map aw.name).contains b=true):Al 0 [eD,dR b] (hS (ax h) r x s)=some (.ok (rd .aM) (hS (ax h) r { x with halts:=x.halts.filter λk=>decide (k≠b)} s)):=by
 have e0:=λq=>An (s:=s) (r:=r) (x:=x) (q:=q) g hb
 simp only[oS] at e0;have i:=v8 b x.halts;have d:=Ze b x.halts;have t1:fK (nz x.halts)=true:=v9 (k:=λk=>k) (v:=λ_=>.bl true)
 generalize ax h=hd at *;unfold Al IM;cases hc:x.halts.contains b with
 |true=>
  rw[hc] at i;obtain⟨y,hy⟩:=Option.isSome_iff_exists.mp i;simp only[↓ev,hS,hR,cM,vT,e0,Ar,BX,aP,aI,hy,vN,t1,d,ck]
 |false=>
  rw[hc] at i;have hf:x.halts.filter (λk=>decide (k≠b))=x.halts:=List.filter_eq_self.mpr λk m=>qX λe=>IG hc (by rw[<-e];exact m)
  simp only[↓ev,hS,hR,cM,vT,e0,Ar,BX,aP,aI,i,ck,hf]
theorem Ok.start(o:Ok h n x):Ok h n { x with halts:=x.halts.filter λk=>decide (k≠b)}:=⟨o.rw,o.nd,o.un,o.bk,o.bn,o.gi,o.rl,by
 have:=xw (λk=>decide (k≠b)) x.halts
 have sz:=o.sz
 lia⟩
theorem WY(g:aG h)(o:Ok h n x):Dn h r n x s [] (Al 0 [eD,dR b] (hS (ax h) r x s)):=by
 cases hb:(h.af.map aw.name).contains b with
 |false=>
  have e0:=λq=>An (s:=s) (r:=r) (x:=x) (q:=q) g hb
  simp only[aI,iC] at e0;refine .inr ⟨116,?_,rfl⟩;generalize ax h=hd at *;unfold Al IM;simp only[↓ev,hR,cM,vT,e0,ck]
 |true=>exact .inl ⟨_,Zf g o hb,o.start.up,.same rfl rfl⟩
end
theorem Zg{b:Str}(hn:oI b):b.length<=8:=by
 refine HG λz=>?_
 have e:=hn 0 ⟨[],[]⟩;have h2:((b.length:Int)<=8)=False:=eq_false (by lia)
 have h3:(1<=(b.length:Int))=True:=bH (by lia)
 by_cases hl:b.length<=1000000
 .have h4:=bH hl;have e2:nR 0 [dR b] ⟨[],[]⟩=some (.ok (rd (.bl false)) ⟨[],[]⟩):=by
   unfold nR BK;simp only[↓ev,G7,aI,h4,h3,decide_true,h2,decide_false];rfl
  lia
 .have h4:=eq_false hl;have e2:nR 0 [dR b] ⟨[],[]⟩=none:=by
   unfold nR BK;simp only[↓ev,G7,aI,h4];rfl
  lia
noncomputable def Hc(rows:List Row)(b:Str):Bool:=rows.any λw=>w.b == b&&w.i == 0
theorem WZ(b:Str)(rows:List Row):((g_ rows).map (·.2)).any (λz=>eQ z (pl b 0))=Hc rows b:=by
 unfold g_ td Hc;rw[fL,List.any_map]
 congr 1
 funext w;exact AL
theorem Zh(rows:List Row):((g_ rows).map (·.2)).all (dX 40)=true:=by
 unfold g_ td;rw[fL,Bb];exact jZ.mpr λw _=>rfl
theorem B9{α:Type}{k:α->Str}{v:α->D}{xs:List α}{x:α}(h:k x∉xs.map k):bY (td k v xs) (.inr (k x)) (v x)=td k v (xs++[x]):=by
 rw[Cg h];unfold td;rw[fR];rfl
section
variable{s:List Cell}{h:aF}{r:Int}{x:Hl}{n q:Nat}{f b bag:Str}{v v2:Bool}{fl:aj Str}
theorem JC{S:aV}{res:Rs Rv}{ff:D}(pre:∀rest:GS,uF rest 0 [bQ,bJ bag,ak ff,bJ b,none] S=rest [bQ,bJ bag,ak ff,bJ b,none] S)(e:(Az 0 [bQ,bJ bag,ak ff,bJ b,none] S).bind (leave S.s.length)=some res):vY 0 [eD,dR bag,.d ff,dR b] S=some res:=by
 rw[<-pre (Az 0)] at e;exact e
theorem e8h(g:aG h)(o:Ok h n x)(hn:n<1000)(hv:k8 bag v)(hf:∀f,fl=some f->k8 f v2)(h8:x.rows.length<8):Dn h r n x s [bag] (vY 0 [eD,dR bag,.d (aS fl),dR b] (hS (ax h) r x s)):=by
 have i1:(aQ (g_ x.rows) (.inr bag)).isSome=_:=yr;have i2:(aQ (uP x.gone) (.inr bag)).isSome=_:=yr;cases v with
 |false=>
  refine .inr ⟨44,?_,rfl⟩;generalize ax h=hd at *;generalize aS fl=ff at *;unfold vY B5 uF;simp only[↓ev,hv,ck,hR]
 |true=>
 cases h1:(x.rows.map Row.bag).contains bag with
 |true=>
  rw[h1] at i1;refine .inr ⟨44,?_,rfl⟩;generalize ax h=hd at *;generalize aS fl=ff at *;unfold vY B5 uF;simp only[↓ev,hv,aI,hR,kI,kW,aP,i1,ck]
 |false=>
 rw[h1] at i1;cases h2:(x.gone.map (·.1)).contains bag with
 |true=>
  rw[h2] at i2;refine .inr ⟨44,?_,rfl⟩;generalize ax h=hd at *;generalize aS fl=ff at *;unfold vY B5 uF;simp only[↓ev,hv,aI,hR,kI,kW,aP,i1,vW,x6,i2,ck]
 |false=>
 rw[h2] at i2;have fz:(∃f,fl=some f/\(v2&&(x.book.map (·.1)).contains f)=false)\/(fl=none\/∃f,fl=some f/\(v2&&(x.book.map (·.1)).contains f)=true):=by
  cases fl with
  |none=>exact .inr (.inl rfl)
  |some f=>
   cases hc:(v2&&(x.book.map (·.1)).contains f) with
   |true=>exact .inr (.inr ⟨f,rfl,hc⟩)
   |false=>exact .inl ⟨f,rfl,hc⟩
 rcases fz with⟨f,rfl,hc⟩|fz
 .have e0:=λq=>B8 (s:=s) (hd:=ax h) (r:=r) (x:=x) q (hf f rfl)
  simp only[hc,aI,iC] at e0;refine .inr ⟨104,?_,rfl⟩;generalize ax h=hd at *;unfold vY B5 uF aS;simp only[↓ev,hv,aI,hR,kI,kW,aP,i1,vW,x6,i2,cM,ux,e0,ck]
 .have hfl:∀f,fl=some f->f∈x.book.map (·.1):=λf e=>by
   simp_all
  have pre:∀rest:GS,uF rest 0 [bQ,bJ bag,ak (aS fl),bJ b,none] (hS (ax h) r x s)=rest [bQ,bJ bag,ak (aS fl),bJ b,none] (hS (ax h) r x s):=λrest=>by
   rcases fz with rfl|⟨f,rfl,hc⟩
   .generalize ax h=hd at *;unfold uF aS;simp only[↓ev,hv,aI,hR,kI,kW,aP,i1,vW,x6,i2]
   .have e0:=λq=>B8 (s:=s) (hd:=ax h) (r:=r) (x:=x) q (hf f rfl)
    simp only[hc,oS] at e0;generalize ax h=hd at *;unfold uF aS;simp only[↓ev,hv,aI,hR,kI,kW,aP,i1,vW,x6,i2,cM,ux,e0]
  cases hb:(h.af.map aw.name).contains b with
  |false=>
   have e1:=λq=>An (s:=s) (r:=r) (x:=x) (q:=q) g hb
   simp only[aI,iC] at e1;refine .inr ⟨116,JC pre ?_,rfl⟩;generalize ax h=hd at *;generalize aS fl=ff at *;unfold Az;simp only[↓ev,hR,cM,vT,e1,ck]
  |true=>
   have e1:=λq=>An (s:=s) (r:=r) (x:=x) (q:=q) g hb
   simp only[oS] at e1;have t1:fK (g_ x.rows)=true:=v9;have va:=WZ b x.rows;have vo:=Zh x.rows;obtain⟨bt,GP,RN⟩:=eW.mp (xS hb);have lb:=Zg (g.nm bt GP);rw[RN] at lb;have l1:(b.length<=1000000)=True:=bH (by lia)
   have l2:((Str.empty++("cell 0 of belt ":Str)).length<=1000000)=True:=bH (by decide +kernel)
   have l3:((Str.empty++("cell 0 of belt ":Str)++b).length<=1000000)=True:=bH (by
    rw[Str.length_append];have:(Str.empty++("cell 0 of belt ":Str)).length<=100:=by decide +kernel
    lia)
   have l4:((Str.empty++("cell 0 of belt ":Str)++b++(" has a bag":Str)).length<=1000000)=True:=bH (by
    rw[Str.length_append,Str.length_append];have:(Str.empty++("cell 0 of belt ":Str)).length<=100:=by decide +kernel
    have:(" has a bag":Str).length<=100:=by decide +kernel
    lia)
   cases ho:Hc x.rows b with
   |true=>
    rw[ho] at va;refine .inr ⟨128,JC pre ?_,rfl⟩;generalize ax h=hd at *;generalize aS fl=ff at *;unfold Az;simp only[↓ev,hR,cM,vT,e1,aP,kI,kW,t1,vo,aI,va,l2,l1,l3,l4,ck]
   |false=>
    rw[ho] at va;have yQ:=IG h1;have p1:bY (g_ x.rows) (.inr bag) (pl b 0)=g_ (x.rows++[⟨bag,b,0,fl,0⟩]):=B9 (x:=(⟨bag,b,0,fl,0⟩:Row)) yQ;have p2:bY (iB x.rows) (.inr bag) (aS fl)=iB (x.rows++[⟨bag,b,0,fl,0⟩]):=B9 (x:=(⟨bag,b,0,fl,0⟩:Row)) yQ;have p3:bY (kN x.rows) (.inr bag) (.int 0)=kN (x.rows++[⟨bag,b,0,fl,0⟩]):=B9 (x:=(⟨bag,b,0,fl,0⟩:Row)) yQ;have m1:((g_ x.rows).length<1000000)=True:=bH (by unfold g_;rw[lD];lia)
    have m2:((iB x.rows).length<1000000)=True:=bH (by unfold iB;rw[lD];lia)
    have m3:((kN x.rows).length<1000000)=True:=bH (by unfold kN;rw[lD];lia)
    have sz:=o.sz;have lo:=(g.lg bt GP).1;refine .inl ⟨{ x with rows:=x.rows++[⟨bag,b,0,fl,0⟩]},JC pre ?_,⟨λw m=>?_,?_,?_,o.bk,o.bn,o.gi,?_,?_⟩,rfl,fR⟩
    .generalize ax h=hd at *;generalize aS fl=ff at *;unfold Az;simp only[↓ev,hS,hR,cM,vT,e1,aP,kI,kW,t1,vo,aI,va,m1,p1,qk,qN,m2,p2,BH,Fg,m3,p3,ck]
    .rcases dF.mp m with m|m
     .exact o.rw w m
     .rw[kH.mp m];exact⟨⟨bt,GP,RN,Hx _,by show(0:Int)<_;lia,Hx _⟩,hv,hfl⟩
    .dsimp only;rw[fR,lj];have o1:=lJ.mp o.nd
     grind
    .dsimp only;rw[fR];refine lJ.mpr ⟨o.un,by simp,λa ma c mc e=>?_⟩
     grind [Hc]
    .dsimp only;rw[dU,ug];lia
    .dsimp only;rw[dU,ug];lia
end
variable{hd:D}
noncomputable def gw(p:Row->Bool)(y:aj Str)(z:Row):Row:=if p z=true then{ z with fl:=y} else z
section
variable{s:List Cell}{h:aF}{r:Int}{x:Hl}{n q:Nat}{f bag:Str}{v v2:Bool}{p:Row->Bool}{y:aj Str}{rows:List Row}
theorem F5:(rows.map (gw p y)).map Row.bag=rows.map Row.bag:=by
 rw[fL];refine nQ λz _=>?_
 dsimp only[Function.comp];unfold gw;split <;> rfl
theorem Rf:g_ (rows.map (gw p y))=g_ rows:=by
 unfold g_ td;rw[fL];refine nQ λz _=>?_
 dsimp only[Function.comp];unfold gw;split <;> rfl
theorem Rg:kN (rows.map (gw p y))=kN rows:=by
 unfold kN td;rw[fL];refine nQ λz _=>?_
 dsimp only[Function.comp];unfold gw;split <;> rfl
theorem Ok.read(o:Ok h n x){bk:List (Str×Str×Int)}(hb:∀q∈bk,q∈x.book)(hbn:(bk.map (·.1)).Nodup)(hl:bk.length<=x.book.length)(hf:∀w∈x.rows,∀f,(gw p y w).fl=some f->f∈bk.map (·.1)):Ok h (n+1) { x with book:=bk,rows:=x.rows.map (gw p y)}:=by
 have sz:=o.sz;refine⟨λw m=>?_,?_,?_,λq m=>o.bk q (hb q m),hbn,o.gi,?_,?_⟩
 .obtain⟨z,mz,rfl⟩:=eW.mp m;obtain⟨k1,k2,k3⟩:=o.rw z mz;refine⟨?_,?_,hf z mz⟩
  .unfold gw;split
   .exact k1
   .exact k1
  .unfold gw;split
   .exact k2
   .exact k2
 .dsimp only;rw[F5];exact o.nd
 .dsimp only;have:(x.rows.map (gw p y)).map (λw=>(w.b,w.i))=x.rows.map λw=>(w.b,w.i):=by
   rw[fL];refine nQ λz _=>?_
   dsimp only[Function.comp];unfold gw;split <;> rfl
  rw[this];exact o.un
 .dsimp only;rw[bw];exact o.rl
 grind
theorem W4(q:Nat)(hv:k8 bag v):vS q [eD,dR bag] (hS hd r x s)=some (if(v&&(x.rows.map Row.bag).contains bag)=true then .ok (rd .aM) (hS hd r x s) else .ex 140 none (hS hd r x s)):=by
 have i:(aQ (g_ x.rows) (.inr bag)).isSome=_:=yr;unfold vS HZ;cases v with
 |false=>simp only[↓ev,hv,ck,hR,aI]
 |true=>
  cases hc:(x.rows.map Row.bag).contains bag with
  |true=>rw[hc] at i;simp only[↓ev,hv,aI,hR,kI,kW,aP,i,hV,ck]
  |false=>rw[hc] at i;simp only[↓ev,hv,aI,hR,kI,kW,aP,i,lr,ck]
theorem e6g(g:aG h)(o:Ok h n x)(hn:n<1000)(hv:k8 bag v)(pG:k8 f v2):Dn h r n x s [] (FD 0 [eD,dR bag,dR f] (hS (ax h) r x s)):=by
 have e0:=λq=>W4 (s:=s) (hd:=ax h) (r:=r) (x:=x) q hv
 have e1:=λq=>B8 (s:=s) (hd:=ax h) (r:=r) (x:=x) q pG
 unfold Dn;generalize ax h=hd at *;unfold FD OQ;cases hc:(v&&(x.rows.map Row.bag).contains bag) with
 |false=>
  simp only[hc,aI,iC] at e0;refine .inr ⟨140,?_,rfl⟩;simp only[↓ev,hR,cM,xR,e0,ck]
 |true=>
  simp only[hc,oS] at e0;cases sv:(v2&&(x.book.map (·.1)).contains f) with
  |false=>
   simp only[sv,aI,iC] at e1;refine .inr ⟨104,?_,rfl⟩;simp only[↓ev,hR,cM,xR,e0,ux,e1,ck]
  |true=>
   simp only[sv,oS] at e1;rw[jD] at hc sv;have hm:=xS hc.2;have p1:bY (iB x.rows) (.inr bag) (.str f)=iB (x.rows.map (gw (λz=>z.bag == bag) (some f))):=by
    unfold iB;rw[Ci o.nb hm];unfold td;rw[fL];refine nQ λz _=>?_
    dsimp only[Function.comp];unfold gw;by_cases e:z.bag=bag
    .rw[bx e,bx (beq_iff_eq.mpr e)];rfl
    .rw[bc e,bc (by rw[beq_iff_eq];exact e)]
   have p2:=Rf (p:=λz=>z.bag == bag) (y:=some f) (rows:=x.rows)
   have p3:=Rg (p:=λz=>z.bag == bag) (y:=some f) (rows:=x.rows)
   have rl:=o.rl;have m2:((iB x.rows).length<1000000)=True:=bH (by unfold iB;rw[lD];lia)
   refine .inl ⟨_,?_,o.read (p:=λz=>z.bag == bag) (y:=some f) (λ_ m=>m) o.bn (bZ _) λw mw f' e=>?_,.same rfl F5⟩
   .simp only[↓ev,hS,hR,cM,xR,e0,ux,e1,qk,qN,aP,m2,p1,ck,p2,p3]
   .unfold gw at e;split at e
    .cases e;exact xS sv.2
    .exact(o.rw w mw).2.2 f' e
theorem e6h{rs:List Row}{w:Row}(nb:(rs.map Row.bag).Nodup)(hw:w∈rs)(hl:rs.length<1000){x:Hl}{a2:aj Val}:Bv 0 [bQ,bJ f,bJ w.bag] (hS hd r { x with rows:=rs} s)=some (.nx [bQ,bJ f,bJ w.bag] (hS hd r { x with rows:=rs.map (gw (λz=>z.bag == w.bag&&z.fl == some f) none)} s)):=by
 have v0:aQ (iB rs) (.inr w.bag)=some (aS w.fl):=jv nb hw;have p2:=Rf (p:=λz=>z.bag == w.bag&&z.fl == some f) (y:=none) (rows:=rs)
 have p3:=Rg (p:=λz=>z.bag == w.bag&&z.fl == some f) (y:=none) (rows:=rs)
 have m2:((iB rs).length<1000000)=True:=bH (by unfold iB;rw[lD];lia)
 have same:w.fl≠some f->rs.map (gw (λz=>z.bag == w.bag&&z.fl == some f) none)=rs:=λne=>by
  conv=>rhs;rw[<-List.map_id rs]
  refine nQ λz mz=>?_
  unfold gw;rw[bc λe=>?_]
  .rfl
  .rw[jD,beq_iff_eq,beq_iff_eq] at e;rw[rW nb mz hw e.1] at e;exact ne e.2
 unfold Bv;cases hf:w.fl with
 |none=>
  rw[hf] at v0;rw[same (by rw[hf];intro z;cases z)]
  unfold aS at v0;have en:eQ .aM (.str f)=false:=rfl;simp only[↓ev,hR,qk,qN,aP,v0,aI,en]
 |some f'=>
  rw[hf] at v0;unfold aS at v0;cases he:(f' == f) with
  |false=>
   rw[same (by rw[hf];intro z;cases z;rw[fG] at he;cases he)]
   simp only[↓ev,hR,qk,qN,aP,v0,aI,eV,he]
  |true=>
   have p1:bY (iB rs) (.inr w.bag) .aM=iB (rs.map (gw (λz=>z.bag == w.bag&&z.fl == some f) none)):=by
    unfold iB;rw[Ci nb (mU hw)];unfold td;rw[fL];refine nQ λz mz=>?_
    dsimp only[Function.comp];unfold gw;by_cases e:z.bag=w.bag
    .have ez:=rW nb mz hw e;rw[bx e,bx (by rw[ez];dsimp only;rw[hf,fG,beq_iff_eq.mp he];simp)]
     rfl
    .rw[bc e,bc (by rw[jD,beq_iff_eq];exact λz=>e z.1)]
   simp only[↓ev,hS,hR,qk,qN,aP,v0,aI,eV,he,m2,p1,p2,p3]
theorem W5{z:Row}:(gw p y z).bag=z.bag:=by unfold gw;split <;> rfl
theorem W6(d:List Row)(w z:Row):gw (λz=>z.bag == w.bag&&z.fl == some f) none (gw (λz=>(d.map Row.bag).contains z.bag&&z.fl == some f) none z)=gw (λz=>((d++[w]).map Row.bag).contains z.bag&&z.fl == some f) none z:=by
 unfold gw;dsimp only;rw[fR];by_cases h2:z.fl=some f
 .by_cases h1:z.bag∈d.map Row.bag
  .simp[h1,h2]
  .by_cases h3:z.bag=w.bag
   .rw[h3] at h1;simp[h1,h2,h3]
   .simp[h1,h2,h3]
 .simp[h2]
theorem Zi(nb:(x.rows.map Row.bag).Nodup)(hl:x.rows.length<1000):∃a2,aL (ae 2) (Bv 0) (dS (x.rows.map Row.bag)) [bQ,bJ f,none] (hS hd r x s)=some (.nx [bQ,bJ f,a2] (hS hd r { x with rows:=x.rows.map (gw (λz=>z.fl == some f) none)} s)):=by
 rw[show dS (x.rows.map Row.bag)=x.rows.map λw=>.str w.bag by unfold dS;rw[fL];rfl]
 obtain⟨U',S',e,⟨a2,rfl⟩,rfl⟩:=ju (gg:=ae 2) (body:=Bv 0) (f:=λw:Row=>.str w.bag) (U:=[bQ,bJ f,none]) (S:=hS hd r x s) (λpre U S'=>(∃a2,U=[bQ,bJ f,a2])/\S'=hS hd r { x with rows:=x.rows.map (gw (λz=>(pre.map Row.bag).contains z.bag&&z.fl == some f) none)} s) x.rows ⟨⟨_,rfl⟩,by
   have:x.rows.map (gw (λz=>(([]:List Row).map Row.bag).contains z.bag&&z.fl == some f) none)=x.rows:=by
    conv=>rhs;rw[<-List.map_id x.rows]
    rfl
   rw[this]⟩ (by
  rintro d w post eq U S' ⟨⟨a2,rfl⟩,rfl⟩;have hw:w∈x.rows:=by rw[eq];simp
  have e:=e6h (hd:=hd) (r:=r) (s:=s) (x:=x) (f:=f) (a2:=none) (rs:=x.rows.map (gw (λz=>(d.map Row.bag).contains z.bag&&z.fl == some f) none)) (w:=gw (λz=>(d.map Row.bag).contains z.bag&&z.fl == some f) none w) (by rw[F5];exact nb) (mU hw) (by rw[bw];exact hl)
  rw[W5] at e;refine⟨_,_,_,rfl,.inl e,⟨_,rfl⟩,?_⟩;rw[fL]
  congr 3
  funext z;exact W6 d w z)
 have:x.rows.map (gw (λz=>(x.rows.map Row.bag).contains z.bag&&z.fl == some f) none)=x.rows.map (gw (λz=>z.fl == some f) none):=nQ λz mz=>by
  have hc:(x.rows.map Row.bag).contains z.bag=true:=lq.mpr (mU mz);unfold gw;simp only[hc,Bool.true_and]
 rw[this] at e;exact⟨a2,e⟩
theorem e8i(g:aG h)(o:Ok h n x)(hv:k8 f v):Dn h r n x s [] (E0 0 [eD,dR f] (hS (ax h) r x s)):=by
 have e0:=λq=>B8 (s:=s) (hd:=ax h) (r:=r) (x:=x) q hv
 unfold Dn;generalize ax h=hd at *;unfold E0 M6;cases hc:(v&&(x.book.map (·.1)).contains f) with
 |false=>
  simp only[hc,aI,iC] at e0;refine .inr ⟨104,?_,rfl⟩;simp only[↓ev,hR,cM,ux,e0,ck]
 |true=>
  simp only[hc,oS] at e0;rw[jD] at hc;obtain⟨p,hp,ep⟩:=eW.mp (xS hc.2);have v0:aQ (jg x.book) (.inr f)=some (t3 p):=by rw[<-ep];exact jv o.bn hp
  have d1:dW (jg x.book) f=jg (x.book.filter λz=>decide (z.1≠f)):=B6
  have t1:fK (jg x.book)=true:=v9;have k1:(iB x.rows).map (·.1.d)=dS (x.rows.map Row.bag):=Jz
  have rl:=o.rl;have l1:((iB x.rows).length<1000000)=True:=bH (by unfold iB;rw[lD];lia)
  have l2:((iB x.rows).length<=1000000)=True:=bH (by unfold iB;rw[lD];lia)
  obtain⟨a2,e1⟩:=Zi (hd:=hd) (r:=r) (s:=s) (f:=f) (x:={ x with book:=x.book.filter λz=>decide (z.1≠f)}) o.nb (by dsimp only;lia)
  generalize t3 p=tp at *;refine .inl ⟨_,?_,o.read (p:=λz=>z.fl == some f) (y:=none) (bk:=x.book.filter λz=>decide (z.1≠f)) (λq m=>(pV.mp m).1) (o.bn.sublist (List.Sublist.map _ Ez)) (xw _ _) λw mw f' e=>?_,.same rfl F5⟩
  .dsimp only at e1;simp only[↓ev,hS,hR,cM,ux,e0,o4,qp,aP,t1,v0,d1,qk,qN,k1,gK,e1,ck]
  .unfold gw at e;split at e
   .cases e
   .rename_i ne
    obtain⟨q,hq,eq⟩:=eW.mp ((o.rw w mw).2.2 f' e)
    grind
end
variable{pb:aj Str}
inductive iJ:aj Str->D->Prop
 |lZ {f ct:Str} {cl:Int} {v:Bool}:k8 f v->iJ none (.tup [.str "flight",.str f,.str ct,.int cl])
 |change {f:Str} {cl:Int} {v:Bool}:k8 f v->iJ none (.tup [.str "change",.str f,.int cl])
 |off {f:Str} {v:Bool}:k8 f v->iJ none (.tup [.str "off",.str f])
 |put {bag b:Str} {fl:aj Str} {v v2:Bool}:k8 bag v->(∀f,fl=some f->k8 f v2)->iJ (some bag) (.tup [.str "put",.str bag,aS fl,.str b])
 |read {bag f:Str} {v v2:Bool}:k8 bag v->k8 f v2->iJ none (.tup [.str "read",.str bag,.str f])
 |stop {b:Str}:iJ none (.tup [.str "stop",.str b])
 |start {b:Str}:iJ none (.tup [.str "start",.str b])
def wO(pb:aj Str)(x:Hl):List Str:=if x.rows.length<8 then pb.toList else[]
theorem zy{x:Hl}:wO none x=[]:=by unfold wO;split <;> rfl
section
variable{s:List Cell}{h:aF}{r:Int}{x:Hl}{n q:Nat}{d:D}
theorem Sy:(("change":Str) == "flight")=false:=by decide +kernel
theorem Sz:(("off":Str) == "flight")=false:=by decide +kernel
theorem SA:(("off":Str) == "change")=false:=by decide +kernel
theorem LL:(("put":Str) == "flight")=false:=by decide +kernel
theorem LM:(("put":Str) == "change")=false:=by decide +kernel
theorem LN:(("put":Str) == "off")=false:=by decide +kernel
theorem SD:(("read":Str) == "flight")=false:=by decide +kernel
theorem SE:(("read":Str) == "change")=false:=by decide +kernel
theorem SF:(("read":Str) == "off")=false:=by decide +kernel
theorem DL:(("read":Str) == "put")=false:=by decide +kernel
theorem DM:(("stop":Str) == "flight")=false:=by decide +kernel
theorem DN:(("stop":Str) == "change")=false:=by decide +kernel
theorem DO:(("stop":Str) == "off")=false:=by decide +kernel
theorem DP:(("stop":Str) == "put")=false:=by decide +kernel
theorem DQ:(("stop":Str) == "read")=false:=by decide +kernel
theorem DR:(("start":Str) == "flight")=false:=by decide +kernel
theorem DS:(("start":Str) == "change")=false:=by decide +kernel
theorem DT:(("start":Str) == "off")=false:=by decide +kernel
theorem DU:(("start":Str) == "put")=false:=by decide +kernel
theorem DV:(("start":Str) == "read")=false:=by decide +kernel
theorem DW:(("start":Str) == "stop")=false:=by decide +kernel
theorem e6i(g:aG h)(o:Ok h n x)(hn:n<1000)(pB:iJ pb d):Dn h r n x s (wO pb x) (rT 0 [eD,.d d] (hS (ax h) r x s)):=by
 cases pB with
 |@lZ f ct cl v hv=>
  rw[zy];have e:=WW (s:=s) (r:=r) (ct:=ct) (cl:=cl) g o hn hv;unfold Dn at *;generalize ax h=hd at *;unfold rT uB;rcases e with⟨x',e,ok⟩|⟨C,e,hC⟩
  .refine .inl ⟨x',?_,ok⟩;simp only[↓ev,bU,aI,eV,fG,hR,cM,N_,cL,h_,uK,e,ck]
  .refine .inr ⟨C,?_,hC⟩;simp only[↓ev,bU,aI,eV,fG,hR,cM,N_,cL,h_,uK,e,ck]
 |@change f cl v hv=>
  rw[zy];have e:=WX (s:=s) (r:=r) (cl:=cl) g o hn hv;unfold Dn at *;generalize ax h=hd at *;unfold rT uB;rcases e with⟨x',e,ok⟩|⟨C,e,hC⟩
  .refine .inl ⟨x',?_,ok⟩;simp only[↓ev,bU,aI,eV,Sy,fG,hR,cM,Oa,cL,h_,e,ck]
  .refine .inr ⟨C,?_,hC⟩;simp only[↓ev,bU,aI,eV,Sy,fG,hR,cM,Oa,cL,h_,e,ck]
 |@off f v hv=>
  rw[zy];have e:=e8i (s:=s) (r:=r) g o hv;unfold Dn at *;generalize ax h=hd at *;unfold rT uB;rcases e with⟨x',e,ok⟩|⟨C,e,hC⟩
  .refine .inl ⟨x',?_,ok⟩;simp only[↓ev,bU,aI,eV,Sz,SA,fG,hR,cM,Ni,cL,e,ck]
  .refine .inr ⟨C,?_,hC⟩;simp only[↓ev,bU,aI,eV,Sz,SA,fG,hR,cM,Ni,cL,e,ck]
 |@put bag b fl v v2 hv hf=>
  have eb:=λq=>v_ (s:=s) (r:=r) (q:=q) g o
  have ll:(((ord h x.rows).map aU).length:Int)=(x.rows.length:Int):=by rw[bw,o.perm.length_eq]
  by_cases h8:x.rows.length<8
  .rw[show wO (some bag) x=[bag] from bx h8];have e:=e8h (s:=s) (r:=r) (b:=b) (fl:=fl) g o hn hv hf h8;have l8:((x.rows.length:Int)<8)=True:=bH (by lia)
   unfold Dn at *;generalize(ord h x.rows).map aU=rl at *;generalize ax h=hd at *;generalize aS fl=ff at *;unfold rT uB;rcases e with⟨x',e,ok⟩|⟨C,e,hC⟩
   .refine .inl ⟨x',?_,ok⟩;simp only[↓ev,bU,aI,eV,LL,LM,LN,fG,hR,cM,nV,eb,ll,l8,decide_true,Q_,cL,h_,uK,e,ck]
   .refine .inr ⟨C,?_,hC⟩;simp only[↓ev,bU,aI,eV,LL,LM,LN,fG,hR,cM,nV,eb,ll,l8,decide_true,Q_,cL,h_,uK,e,ck]
  .have l8:((x.rows.length:Int)<8)=False:=eq_false (by lia)
   rw[show wO (some bag) x=[] from bc h8];refine .inl ⟨x,?_,o.up,.same rfl rfl⟩;generalize(ord h x.rows).map aU=rl at *;generalize ax h=hd at *;generalize aS fl=ff at *;unfold rT uB;simp only[↓ev,bU,aI,eV,LL,LM,LN,fG,hR,cM,nV,eb,ll,l8,decide_false,ck]
 |@read bag f v v2 hv pG=>
  rw[zy];have e:=e6g (s:=s) (r:=r) g o hn hv pG;unfold Dn at *;generalize ax h=hd at *;unfold rT uB;rcases e with⟨x',e,ok⟩|⟨C,e,hC⟩
  .refine .inl ⟨x',?_,ok⟩;simp only[↓ev,bU,aI,eV,SD,SE,SF,DL,fG,hR,cM,Qi,cL,h_,e,ck]
  .refine .inr ⟨C,?_,hC⟩;simp only[↓ev,bU,aI,eV,SD,SE,SF,DL,fG,hR,cM,Qi,cL,h_,e,ck]
 |@stop b=>
  rw[zy];have e:=e6f (s:=s) (r:=r) (b:=b) g o hn;unfold Dn at *;generalize ax h=hd at *;unfold rT uB;rcases e with⟨x',e,ok⟩|⟨C,e,hC⟩
  .refine .inl ⟨x',?_,ok⟩;simp only[↓ev,bU,aI,eV,DM,DN,DO,DP,DQ,fG,hR,cM,Qj,cL,e,ck]
  .refine .inr ⟨C,?_,hC⟩;simp only[↓ev,bU,aI,eV,DM,DN,DO,DP,DQ,fG,hR,cM,Qj,cL,e,ck]
 |@start b=>
  rw[zy];have e:=WY (s:=s) (r:=r) (b:=b) g o;unfold Dn at *;generalize ax h=hd at *;unfold rT uB;rcases e with⟨x',e,ok⟩|⟨C,e,hC⟩
  .refine .inl ⟨x',?_,ok⟩;simp only[↓ev,bU,aI,eV,DR,DS,DT,DU,DV,DW,fG,hR,cM,O3,cL,e,ck]
  .refine .inr ⟨C,?_,hC⟩;simp only[↓ev,bU,aI,eV,DR,DS,DT,DU,DV,DW,fG,hR,cM,O3,cL,e,ck]
theorem e6j(g:aG h)(o:Ok h n x)(hn:n<1000)(pB:iJ pb d):∃(v:Bool) (x':Hl),Ok h (n+1) x'/\Ext x x' (if v=true then wO pb x else[])/\BU 0 [eD,.d d] (hS (ax h) r x s)=some (.ok (rd (.bl v)) (hS (ax h) r x' s)):=by
 have e:=e6i (s:=s) (r:=r) g o hn pB;unfold Dn at e;rcases e with⟨x',e,ok,ex⟩|⟨C,e,hC⟩
 .refine⟨true,x',ok,ex,?_⟩;generalize ax h=hd at *;unfold BU Je;simp only[↓ev,aP,e,ck]
 .have hC':(jh.any λp=>p.2 == C)=true:=by
   unfold wT at hC;split at hC
   .assumption
   .cases hC
  refine⟨false,x,o.up,.same rfl rfl,?_⟩;generalize ax h=hd at *;unfold BU Je;simp only[↓ev,aP,e,hC',ck]
end
theorem F6(l:List Nat)(h1:1<=l.length)(h2:l.length<=8):∃v,k8 ⟨l.toArray⟩ v:=by
 have e:∀q S,bh (ae 0) (fD true) (E4 q) (l.map λc=>.str (jJ c)) [none] S []=some (.ok ((l.map λc => !(Builtin.Str.occurrences (Str.ofString "abcdefghijklmnopqrstuvwxyz") (jJ c) 0 (Str.ofString "abcdefghijklmnopqrstuvwxyz").length 1).isEmpty).map D.bl) S):=λq S=>by
  rw[nW (λc=>D.bl (!(Builtin.Str.occurrences (Str.ofString "abcdefghijklmnopqrstuvwxyz") (jJ c) 0 (Str.ofString "abcdefghijklmnopqrstuvwxyz").length 1).isEmpty)) l (by lia) λc m=>⟨rd (.bl _),by
   rfl,rfl⟩,fL]
  rfl
 have c1:(1<=((⟨l.toArray⟩:Str).length:Int))=True:=bH (by rw[uG];lia)
 have c2:(((⟨l.toArray⟩:Str).length:Int)<=8)=True:=bH (by rw[uG];lia)
 have c3:((⟨l.toArray⟩:Str).length<=1000000)=True:=bH (by rw[uG];lia)
 refine⟨(l.map λc => !(Builtin.Str.occurrences (Str.ofString "abcdefghijklmnopqrstuvwxyz") (jJ c) 0 (Str.ofString "abcdefghijklmnopqrstuvwxyz").length 1).isEmpty).all id,λq S=>?_⟩
 generalize(l.map λc => !(Builtin.Str.occurrences (Str.ofString "abcdefghijklmnopqrstuvwxyz") (jJ c) 0 (Str.ofString "abcdefghijklmnopqrstuvwxyz").length 1).isEmpty)=bs at *
 unfold nR BK;simp only[↓ev,G7,aI,c3,c1,decide_true,c2,e,IS,gE]
noncomputable abbrev l3:List D:=[.int 11,.int 12,.int 13]
theorem RG:∀a:Nat,a<3->eH l3 (a:Int)=some (.int ((11+a:Nat):Int))
 |0,_=>rfl
 |1,_=>rfl
 |2,_=>rfl
section
variable{ns:List Int}
theorem Zj(n:Nat)(hn:n<20):∃f v,Pr Ae [.d (br ns),aO (n:Int)] (rd (.str f))/\k8 f v:=by
 obtain⟨d1,d2,d3⟩:=ik ns 12 4 3 (by decide) (by decide) (by decide)
 have d1:Pr iF [.d (br ns),aO 12,aO 4,aO 3] _:=d1;cases h6:((n:Int) == 6) with
 |true=>
  obtain⟨v,hv⟩:=F6 [65] (by decide) (by decide)
  refine⟨"A",v,λq S=>?_,by rw[show("A":Str)=⟨[65].toArray⟩ by decide +kernel];exact hv⟩
  generalize(n:Int)=ni at *;unfold Ae H0;simp only[↓ev,aI,fT,h6,gE]
 |false=>
  have ha:=RG (bF ns 12 4 3).toNat (by lia)
  rw[Int.toNat_of_nonneg d2] at ha;have hx:=Gj ns (11+(bF ns 12 4 3).toNat) (by lia) n hn
  have hl:=AI ns (11+(bF ns 12 4 3).toNat) (by lia) n
  obtain⟨v,hv⟩:=F6 _ hl.1 hl.2;refine⟨_,v,λq S=>?_,hv⟩
  generalize((11+(bF ns 12 4 3).toNat:Nat):Int)=qi at *;generalize bF ns 12 4 3=dg at *;generalize(n:Int)=ni at *;unfold Ae H0;unfold jA at hx;simp only[↓ev,aI,fT,h6,aP,d1,ha,hx,gE]
theorem Zk(n:Nat)(hn:n<20):∃f v,Pr Ag [.d (br ns),aO (n:Int)] (rd (.str f))/\k8 f v:=by
 obtain⟨d1,d2,d3⟩:=ik ns 13 4 3 (by decide) (by decide) (by decide)
 have d1:Pr iF [.d (br ns),aO 13,aO 4,aO 3] _:=d1;cases h6:((n:Int) == 12) with
 |true=>
  obtain⟨v,hv⟩:=F6 [98,49] (by decide) (by decide)
  refine⟨"b1",v,λq S=>?_,by rw[show("b1":Str)=⟨[98,49].toArray⟩ by decide +kernel];exact hv⟩
  generalize(n:Int)=ni at *;unfold Ag Ij;simp only[↓ev,aI,fT,h6,gE]
 |false=>
  have ha:=RG (bF ns 13 4 3).toNat (by lia)
  rw[Int.toNat_of_nonneg d2] at ha;have hx:=Gj ns (11+(bF ns 13 4 3).toNat) (by lia) n hn
  have hl:=AI ns (11+(bF ns 13 4 3).toNat) (by lia) n
  obtain⟨v,hv⟩:=F6 _ hl.1 hl.2;refine⟨_,v,λq S=>?_,hv⟩
  generalize((11+(bF ns 13 4 3).toNat:Nat):Int)=qi at *;generalize bF ns 13 4 3=dg at *;generalize(n:Int)=ni at *;unfold Ag Ij;unfold jA at hx;simp only[↓ev,aI,fT,h6,aP,d1,ha,hx,gE]
theorem Ui(k:Nat)(hk:k<900):∃cl,Pr vV [.d (br ns),aO (k:Int)] (rd (.int cl)):=by
 have hp:=yq ns (k+1) 10 (by lia) (by decide)
 obtain⟨c,hc⟩:=JL ns k;obtain⟨d1,_,_⟩:=ik ns (k+1) 3 30 (by lia) (by decide) (by decide)
 rw[show((k+1:Nat):Int)=(k:Int)+1 by lia] at hp d1
 have d1:Pr iF [.d (br ns),aO ((k:Int)+1),aO 3,aO 30] _:=d1;generalize(k:Int)=ki at *;generalize bF ns (k+1) 0 10=pv at *;have p8:(0<(10:Int)^8)=True:=bH (by decide)
 have p9:(0<(10:Int)^9)=True:=bH (by decide)
 have Su:(Int.natAbs 10<2^64)=True:=bH (by decide)
 cases h0:(pv == 0) with
 |true=>
  refine⟨-1 - c%10^8,λq S=>?_⟩
  unfold vV E8;simp only[↓ev,hp,aP,aI,fT,h0,hc,Su,and_self,decide_true,p8,gE]
 |false=>
  cases h1:(pv == 1) with
  |true=>
   refine⟨c%10^9,λq S=>?_⟩
   unfold vV E8;simp only[↓ev,hp,aP,aI,fT,h0,h1,hc,Su,and_self,decide_true,p9,gE]
  |false=>
   refine⟨bF ns (k+1) 3 30,λq S=>?_⟩
   unfold vV E8;simp only[↓ev,hp,aP,aI,fT,h0,h1,d1,gE]
end
section
variable{ns:List Int}{k kd mk fi ob tb oc ln AZ cl:Int}{bl nl cs c1 n1:List D}{f bag b ct:Str}{S:aV}
structure HH (ns:List Int) (k kd mk fi ob tb oc ln AZ cl:Int) (bl nl cs c1 n1:List D) (f bag b ct:Str):Prop where
 hp:Pr kX [.d (br ns),aO k,aO 20] (rd (.int kd))
 ht:Pr nc [.d (br ns),aO k,aO 10] (rd (.int mk))
 hi:(mk == 9)=true/\fi=6\/(mk == 9)=false/\fi=mk%3
 hf:Pr Ae [.d (br ns),aO fi] (rd (.str f))
 ho:Pr jS [.d (br ns),aO k,aO 13] (rd (.int ob))
 hb:Pr Ag [.d (br ns),aO ob] (rd (.str bag))
 hc:∀q S,bh (ae 0) (fD true) (Fb q) bl [none] S []=some (.ok nl S)
 k1:cutD cs none (some 1)=c1
 k2:cutD nl none (some 1)=n1
 a1:(nl.length+nl.length<=1000000)=True
 a2:(nl.length+nl.length+c1.length<=1000000)=True
 a3:(cs.length+n1.length<=1000000)=True
 ll:(nl.length:Int)=ln
 lc:((cs.length+n1.length:Nat):Int)=AZ
 hm:(-2^64<(2:Int)/\(2:Int)<2^64 \/ -2^64<ln/\ln<2^64)=True
 AV:Pr nc [.d (br ns),aO (k+1),aO (2*ln+1)] (rd (.int tb))
 uX:eH (nl++(nl++c1)) tb=some (.str b)
 u0:Pr jS [.d (br ns),aO (k+1),aO AZ] (rd (.int oc))
 AR:eH (cs++n1) oc=some (.str ct)
 qv:Pr vV [.d (br ns),aO k] (rd (.int cl))
abbrev t4(ns:List Int)(k kd mk cl:Int)(bl nl cs n1:List D)(f bag b ct:Str):Gm:=[ak (br ns),cq k,ak (.tup [.lst bl,.lst cs]),cq kd,cq mk,bJ f,bJ bag,ak (.lst nl),bJ b,ak (.lst (cs++n1)),ak (.tup [.str "flight",.str f,.str ct,.int cl])]
theorem tU(x:HH ns k kd mk fi ob tb oc ln AZ cl bl nl cs c1 n1 f bag b ct)(rest:GS):IQ rest 0 [ak (br ns),cq k,ak (.tup [.lst bl,.lst cs]),none,none,none,none,none,none,none,none] S=rest (t4 ns k kd mk cl bl nl cs n1 f bag b ct) S:=by
 obtain⟨hp,ht,hi,hf,ho,hb,hc,k1,k2,a1,a2,a3,ll,lc,hm,AV,uX,u0,AR,qv⟩:=x;have m3:((0:Int)<3)=True:=bH (by decide)
 unfold IQ;rcases hi with⟨h9,rfl⟩|⟨h9,rfl⟩
 .simp only[↓ev,hp,aP,ht,aI,fT,h9,hf,ho,hb,bU,gK,hc,a1,cL,k1,A0,a2,yl,ll,hm,AV,uX,k2,a3,lc,u0,AR,qv]
 .simp only[↓ev,hp,aP,ht,aI,fT,h9,m3,decide_true,hf,ho,hb,bU,gK,hc,a1,cL,k1,A0,a2,yl,ll,hm,AV,uX,k2,a3,lc,u0,AR,qv]
end
noncomputable def kF(m:Int):D:=.tup [.str "turn",.int m]
def xD(ds:List D):Prop:=ds.length<=2/\∀d∈ds,(∃pb,iJ pb d)\/∃m:Int,1<=m/\m<=12/\d=kF m
section
variable{ns:List Int}{k kd mk fi ob tb oc ln AZ cl:Int}{bl nl cs c1 n1:List D}{f bag b ct:Str}{S:aV}{v v2:Bool}
theorem tV{hd:D}{ds:List D}(e:ql 0 [ak (br ns),cq k,ak hd,none,none,none,none,none,none,none,none] S=some (.rt (.o (.lst ds)) S)):xZ 0 [.d (br ns),aO k,.d hd] S=some (.ok (.o (.lst ds)) S):=by
 unfold xZ aX;generalize ql 0=ml at *;simp only[↓ev,e,gE]
theorem Pf(x:HH ns k kd mk fi ob tb oc ln AZ cl bl nl cs c1 n1 f bag b ct)(k0:0<=kd)(k20:kd<20)(hv:k8 bag v)(pG:k8 f v2){o3 t1 bg:Int}{bt:aw}(h3:Pr jS [.d (br ns),aO (k+1),aO 3] (rd (.int o3)))(wj:eH bl 0=some (ao bt))(hbg:(9<bt.long)=True/\bg=12\/(9<bt.long)=False/\bg=4)(CH:Pr nc [.d (br ns),aO (k+1),aO bg] (rd (.int t1)))(ht1:0<=t1/\t1<12):∃ds,xD ds/\xZ 0 [.d (br ns),aO k,.d (.tup [.lst bl,.lst cs])] S=some (.ok (.o (.lst ds)) S):=by
 have qv:=x.qv;have one:∀{pb:aj Str} {d:D},iJ pb d->xD [d]:=λ{pb d} hd=>⟨by simp,λz m=>by rw[kH.mp m];exact .inl ⟨pb,hd⟩⟩
 by_cases c3:kd<3
 .have q1:=bH c3;refine⟨_,one (.lZ (ct:=ct) (cl:=cl) pG),tV ?_⟩;unfold ql;rw[tU x];unfold rQ;clear x;simp only[↓ev,t4,q1,decide_true,aP,aI]
 have q1:=eq_false c3;cases e3:(kd == 3) with
 |true=>
  refine⟨_,one (.change (cl:=cl) pG),tV ?_⟩;unfold ql;rw[tU x];unfold rQ;clear x;simp only[↓ev,t4,q1,decide_false,aI,fT,e3,qv,aP]
 |false=>
 cases e4:(kd == 4) with
 |true=>
  refine⟨_,one (.off pG),tV ?_⟩;unfold ql;rw[tU x];unfold rQ;clear x;simp only[↓ev,t4,q1,decide_false,aI,fT,e3,e4,aP]
 |false=>
 cases e5:(kd == 5) with
 |true=>
  refine⟨[.tup [.str "off",.str f],.tup [.str "flight",.str f,.str ct,.int cl]],⟨by simp,λz m=>?_⟩,tV ?_⟩
  .rcases y0b.mp m with rfl|m
   .exact .inl ⟨_,.off pG⟩
   .rw[kH.mp m];exact .inl ⟨_,.lZ pG⟩
  .unfold ql;rw[tU x];unfold rQ;clear x;simp only[↓ev,t4,q1,decide_false,aI,fT,e3,e4,e5,aP]
 |false=>
 by_cases JE:kd<11
 .have q2:=bH JE;cases e0:(o3 == 0) with
  |true=>
   refine⟨[.tup [.str "put",.str bag,.aM,.str b]],one (.put (fl:=none) (v2:=true) hv λ_ z=>by cases z),tV ?_⟩
   unfold ql;rw[tU x];unfold rQ;clear x;simp only[↓ev,t4,q1,decide_false,aI,fT,e3,e4,e5,q2,decide_true,h3,e0,aP]
  |false=>
   refine⟨[.tup [.str "put",.str bag,.str f,.str b]],one (.put (fl:=some f) hv λ_ z=>by cases z;exact pG),tV ?_⟩
   unfold ql;rw[tU x];unfold rQ;clear x;simp only[↓ev,t4,q1,decide_false,aI,fT,e3,e4,e5,q2,decide_true,h3,e0,aP]
 have q2:=eq_false JE;cases CA:(kd == 11) with
 |true=>
  refine⟨_,one (.read hv pG),tV ?_⟩;unfold ql;rw[tU x];unfold rQ;clear x;simp only[↓ev,t4,q1,decide_false,aI,fT,e3,e4,e5,q2,CA,aP]
 |false=>
 have n11:kd≠11:=by rw[pX] at CA;exact CA
 by_cases TU:kd<14
 .rcases(show kd=12\/kd=13 by lia) with rfl|rfl
  .refine⟨_,one (.stop (b:=b)),tV ?_⟩;unfold ql;rw[tU x];unfold rQ;rfl
  .refine⟨_,one (.start (b:=b)),tV ?_⟩;unfold ql;rw[tU x];unfold rQ;rfl
 have q3:=eq_false TU;refine⟨[kF (1+t1)],⟨by simp,λz m=>by rw[kH.mp m];exact .inr ⟨1+t1,by lia,by lia,rfl⟩⟩,tV ?_⟩
 unfold ql;rw[tU x];unfold rQ;clear x;unfold kF;unfold ao at wj;rcases hbg with⟨h9,rfl⟩|⟨h9,rfl⟩
 .simp only[↓ev,t4,q1,decide_false,aI,fT,e3,e4,e5,q2,CA,q3,bU,wj,cL,h9,decide_true,CH,aP]
 .simp only[↓ev,t4,q1,decide_false,aI,fT,e3,e4,e5,q2,CA,q3,bU,wj,cL,h9,CH,aP]
end
theorem Qt(ds:List D):cutD ds none (some 1)=ds.take 1:=by
 grind [cutD,HT.cO]
section
variable{ns:List Int}{h:aF}
theorem Zl(g:aG h)(b0:0<h.af.length)(k:Nat)(hk:k<900)(S:aV):∃ds,xD ds/\xZ 0 [.d (br ns),aO (k:Int),.d (ax h)] S=some (.ok (.o (.lst ds)) S):=by
 have bl:=g.sm.bl;have ct:=g.sm.ct;have c0:=g.c0;obtain⟨_,p0,p1⟩:=ik ns k 0 20 (by lia) (by decide) (by decide)
 have hp:=yq ns k 20 (by lia) (by decide)
 obtain⟨_,t0,t1⟩:=ik ns k 2 10 (by lia) (by decide) (by decide)
 have ht:=yg ns k 10 (by lia) (by decide)
 obtain⟨_,o0,o1⟩:=ik ns k 1 13 (by lia) (by decide) (by decide)
 have ho:=vZ ns k 13 (by lia) (by decide)
 obtain⟨fn,CP,hfi⟩:∃fn:Nat,fn<20/\((bF ns k 2 10 == 9)=true/\(fn:Int)=6\/(bF ns k 2 10 == 9)=false/\(fn:Int)=bF ns k 2 10%3):=by
  cases e:(bF ns k 2 10 == 9) with
  |true=>exact⟨6,by decide,.inl ⟨rfl,rfl⟩⟩
  |false=>exact⟨(bF ns k 2 10%3).toNat,by lia,.inr ⟨rfl,by lia⟩⟩
 obtain⟨f,v2,hf,pG⟩:=Zj (ns:=ns) fn CP;obtain⟨bag,v,hb,hv⟩:=Zk (ns:=ns) (bF ns k 1 13).toNat (by lia)
 rw[Int.toNat_of_nonneg o0] at hb;obtain⟨cl,qv⟩:=Ui (ns:=ns) k hk;have comp:∀q S,bh (ae 0) (fD true) (Fb q) (h.af.map ao) [none] S []=some (.ok (dS (h.af.map aw.name)) S):=λq S=>by
  rw[nW (λb=>.str b.name) h.af (by lia) λb m=>⟨rd (.str b.name),by unfold Fb ao;simp only[↓ev,bU],rfl⟩,dS,fL]
  rfl
 obtain⟨_,tb0,tb1⟩:=ik ns (k+1) 2 (2*(h.af.length:Int)+1) (by lia) (by decide) (by lia)
 have AV:=yg ns (k+1) (2*(h.af.length:Int)+1) (by lia) (by lia)
 obtain⟨_,oc0,oc1⟩:=ik ns (k+1) 1 (((h.carts.length+1:Nat)):Int) (by lia) (by decide) (by lia)
 have u0:=vZ ns (k+1) (((h.carts.length+1:Nat)):Int) (by lia) (by lia)
 have h3:=vZ ns (k+1) 3 (by lia) (by decide)
 have CH:=yg ns (k+1) 12 (by lia) (by decide)
 have h4:=yg ns (k+1) 4 (by lia) (by decide)
 obtain⟨_,a0,a1⟩:=ik ns (k+1) 2 12 (by lia) (by decide) (by decide)
 obtain⟨_,SX,b1⟩:=ik ns (k+1) 2 4 (by lia) (by decide) (by decide)
 rw[show((k+1:Nat):Int)=(k:Int)+1 by lia] at AV u0 h3 CH h4
 have zh:(h.carts.take 1).length=1:=by rw[xr];lia
 have Sl:((h.af.map aw.name).take 1).length=1:=by rw[xr,bw];lia
 have uX:=F2 (xs:=h.af.map aw.name++(h.af.map aw.name++h.carts.take 1)) (k:=bF ns (k+1) 2 (2*(h.af.length:Int)+1)) tb0 (by rw[dU,dU,bw,zh];lia)
 have AR:=F2 (xs:=h.carts++(h.af.map aw.name).take 1) (k:=bF ns (k+1) 1 (((h.carts.length+1:Nat)):Int)) oc0 (by rw[dU,Sl];lia)
 generalize(h.af.map aw.name++(h.af.map aw.name++h.carts.take 1)).getD (bF ns (k+1) 2 (2*(h.af.length:Int)+1)).toNat ""=bb at *;generalize(h.carts++(h.af.map aw.name).take 1).getD (bF ns (k+1) 1 (((h.carts.length+1:Nat)):Int)).toNat ""=cc at *;rw[dS,fR,fR,<-dS,<-dS] at uX;rw[dS,fR,<-dS,<-dS] at AR;have D:HH ns k (bF ns k 0 20) (bF ns k 2 10) fn (bF ns k 1 13) (bF ns (k+1) 2 (2*(h.af.length:Int)+1)) (bF ns (k+1) 1 (((h.carts.length+1:Nat)):Int)) h.af.length (((h.carts.length+1:Nat)):Int) cl (h.af.map ao) (dS (h.af.map aw.name)) (dS h.carts) (dS (h.carts.take 1)) (dS ((h.af.map aw.name).take 1)) f bag bb cc:=⟨hp,ht,hfi,hf,ho,hb,comp,by rw[Qt,dS,dS,MA],by rw[Qt,dS,dS,MA],bH (by simp;lia),bH (by simp;lia),bH (by simp;lia),by simp,by rw[bw,bw,Sl],bH (.inl (by decide)),AV,uX,u0,AR,qv⟩
 obtain⟨bt,GP,ab⟩:∃bt∈h.af,eH (h.af.map ao) 0=some (ao bt):=by
  cases e:h.af with
  |nil=>rw[e] at b0;simp at b0
  |cons z zs=>exact⟨z,.head _,bU⟩
 by_cases h9:9<bt.long
 .exact Pf D p0 p1 hv pG h3 ab (.inl ⟨bH h9,rfl⟩) CH ⟨a0,a1⟩
 .exact Pf D p0 p1 hv pG h3 ab (.inr ⟨eq_false h9,rfl⟩) h4 ⟨SX,by lia⟩
end
variable{l L:List (Str×Str×Int)}{p:Str×Str×Int}{g1 g2 g3:aj Val}
theorem Jl(l:List Str):(cT l).Perm l:=by
 refine(Classical.epsilon_spec (p:=λs:List Str=>s.Perm l/\PyProof.Rows.sortedS s=true) ⟨l.mergeSort λa b=>decide (a.cps.toList<=b.cps.toList),List.mergeSort_perm ..,PyProof.Rows.sortedS_of_pairwise _ ((List.pairwise_mergeSort (le:=λa b:Str=>decide (a.cps.toList<=b.cps.toList)) (λa b c h1 h2=>?_) (λa b=>?_) l).imp λh=>?_)⟩).1
 all_goals grind [PyProof.Rows.ltCps_eq]
noncomputable def iw(l:List (Str×Str×Int))(f:Str):Str×Str×Int:=(l.find? λp=>p.1 == f).getD ("","",0)
noncomputable def jm (l:List (Str×Str×Int)):List (Str×Str×Int):=(cT (l.map (·.1))).map (iw l)
theorem Qu(nd:(l.map (·.1)).Nodup)(hp:p∈l):iw l p.1=p:=by
 unfold iw;cases h:l.find? λq=>q.1 == p.1 with
 |none=>exact cz (Ms.mp h p hp) (by simp)
 |some q=>
  have h1:=HC h;exact rW nd (En h) hp (by simpa using h1)
theorem Oi(nd:(l.map (·.1)).Nodup):(jm l).Perm l:=by
 have e:(l.map (·.1)).map (iw l)=l:=by
  rw[fL];exact(nQ λp hp=>Qu nd hp).trans (List.map_id l)
 have p:=(Jl (l.map (·.1))).map (iw l)
 rw[e] at p;exact p
noncomputable def iu(p:Str×Str×Int):D:=.tup [.str p.2.1,.int p.2.2]
section
variable{s:List Cell}{h:aF}{r:Int}{x:Hl}{n:Nat}{w z:Row}{hd:D}{q:Nat}{X:List (Str×D)}
theorem Pg{q:Nat}:BE q [eD] (hS hd r x s)=some (.ok (rd (.int x.now)) (hS hd r x s)):=by
 unfold BE Nw;simp only[↓ev,hR,Ce,Gn,ck]
theorem Vp(o:Ok h n x)(hn:n<64):eF 0 [eD] (hS hd r x s)=some (.ok (.o (.lst ((jm x.book).map t3))) (hS hd r x s)):=by
 have sz:=o.sz;have lp:=(Jl (x.book.map (·.1))).length_eq
 rw[bw] at lp;have e1:dh ((jg x.book).map (·.1.d))=some (x.book.map (·.1)):=by
  unfold jg;rw[Jz,BZ]
 have l1:((x.book.map (·.1)).length<64)=True:=bH (by rw[bw];lia)
 have e2:bh (ae 0) (fD true) (eP 0) ((cT (x.book.map (·.1))).map D.str) [none,bQ] (hS hd r x s) []=some (.ok ((jm x.book).map t3) (hS hd r x s)):=by
  unfold jm;rw[nW (λf=>t3 (iw x.book f)) _ (by lia) λf hf=>by
   obtain⟨p,hp,e⟩:=eW.mp ((Jl _).mem_iff.mp hf);have v:aQ (jg x.book) (.inr f)=some (t3 (iw x.book f)):=by
    rw[<-e,Qu o.bn hp];exact jv (k:=λp:Str×Str×Int=>p.1) o.bn hp
   refine⟨rd (t3 (iw x.book f)),?_,rfl⟩;unfold eP;simp only[↓ev,hR,o4,qp,aP,v],fL]
  rfl
 unfold eF jz;simp only[↓ev,hR,o4,qp,aP,e1,l1,gK,e2,ck]
noncomputable abbrev n5(hd:D)(r:Int)(x:Hl)(s:List Cell)(L:List (TK×D)):aV:=⟨s++[.o (.aA L)],hR hd r x⟩
theorem e6l(hp:p.1∉L.map (·.1))(hl:L.length<1000):bW 0 [bQ,g1,g2,g3,aH s.length,bJ p.1,bJ p.2.1,cq p.2.2] (n5 hd r x s (td (·.1) iu L))=some (.nx [bQ,g1,g2,g3,aH s.length,bJ p.1,bJ p.2.1,cq p.2.2] (n5 hd r x s (td (·.1) iu (L++[p])))):=by
 have e:=B9 (k:=λp:Str×Str×Int=>p.1) (v:=iu) hp
 have l1:((td (·.1) iu L).length<1000000)=True:=bH (by rw[lD];lia)
 unfold iu at *;unfold bW;simp only[↓ev,aP,eA,l1,e,jB]
theorem Zm(nd:(L.map (·.1)).Nodup)(hl:L.length<1000):∃a5 a6 a7,aL (a_ [(ae 5),(ae 6),(ae 7)]) (bW 0) (L.map t3) [bQ,g1,g2,g3,aH s.length,none,none,none] (n5 hd r x s [])=some (.nx [bQ,g1,g2,g3,aH s.length,a5,a6,a7] (n5 hd r x s (td (·.1) iu L))):=by
 obtain⟨U',S',e,⟨a5,a6,a7,rfl⟩,rfl⟩:=ju (gg:=a_ [(ae 5),(ae 6),(ae 7)]) (body:=bW 0) (f:=t3) (U:=[bQ,g1,g2,g3,aH s.length,none,none,none]) (S:=n5 hd r x s []) (λpre U S'=>(∃a5 a6 a7,U=[bQ,g1,g2,g3,aH s.length,a5,a6,a7])/\S'=n5 hd r x s (td (·.1) iu pre)) L ⟨⟨_,_,_,rfl⟩,rfl⟩ (by
  rintro d p post eq U S' ⟨⟨a5,a6,a7,rfl⟩,rfl⟩;have h1:p.1∉d.map (·.1):=by
   grind
  have h2:d.length<1000:=by rw[eq] at hl;simp at hl;lia
  exact⟨_,_,_,rfl,.inl (e6l h1 h2),⟨_,_,_,rfl⟩,rfl⟩)
 exact⟨a5,a6,a7,e⟩
theorem J3(o:Ok h n x)(hw:w∈x.rows):uA q [eD,dR w.bag] (hS hd r x s)=some (.ok (rd (pl w.b w.i)) (hS hd r x s)):=by
 have hn:=(o.rw w hw).2.1;have i2:(aQ (uP x.gone) (.inr w.bag)).isSome=_:=yr;rw[show(x.gone.map (·.1)).contains w.bag=false by rw[z8];exact λz=>(lJ.mp o.nd).2.2 _ (mU hw) _ (xS z) rfl] at i2
 have h1:aQ (g_ x.rows) (.inr w.bag)=_:=jv o.nb hw;have e:=λq=>Qk (s:=s) (hd:=hd) (r:=r) q hn hw o.nb
 unfold uA IP;simp only[↓ev,hn,hR,vW,x6,aP,aI,i2,cM,xR,e,kI,kW,h1,ck]
theorem Rh(o:Ok h n x)(hp:p∈x.gone)(hn:oI p.1):uA q [eD,dR p.1] (hS hd r x s)=some (.ok (rd (.str p.2.1)) (hS hd r x s)):=by
 have h1:aQ (uP x.gone) (.inr p.1)=_:=jv (lJ.mp o.nd).2.1 hp;unfold uA IP;simp only[↓ev,hn,hR,vW,x6,aP,aI,h1,vN,ck]
theorem Zn(g:aG h)(o:Ok h n x)(t:kU h r x X)(hw:w∈x.rows):uA q [eD,dR w.bag] (hS hd r (aT h r x X) s)=some (.ok (rd (if nk X w=true then gD (ar h r x w) else pl w.b w.i)) (hS hd r (aT h r x X) s)):=by
 have o':=o.turn g t;have hn:=(o.rw w hw).2.1;by_cases um:w∈cB h x X
 .have hx:nk X w=true:=(pV.mp um).2;rw[bx hx];cases ej:(ar h r x w).2 with
  |none=>
   have hp:(w.bag,(ar h r x w).1,x.now+1)∈(aT h r x X).gone:=by
    show _∈x.gone++_;exact dF.mpr (.inr (mT.mpr ⟨w,um,by unfold de;rw[ej]⟩))
   have eg:gD (ar h r x w)=.str (ar h r x w).1:=by unfold gD;generalize ar h r x w=p at *;obtain⟨c,j⟩:=p;cases ej;rfl
   rw[eg];have z:=Rh (q:=q) (s:=s) (r:=r) (hd:=hd) o' hp hn;dsimp only at z;generalize aT h r x X=x2 at *;exact z
  |some j=>
   have em:∃u',mR h (ar h r x) w=some u'/\u'.bag=w.bag/\u'.b=(ar h r x w).1/\u'.i=j:=by unfold mR;rw[ej];exact⟨_,rfl,rfl,rfl,rfl⟩
   obtain⟨u',em,e1,e2,e3⟩:=em;have hu:u'∈(aT h r x X).rows:=mT.mpr ⟨w,hw,by rw[bx ((yj o hw).mpr um)];exact em⟩
   have eg:gD (ar h r x w)=pl u'.b u'.i:=by rw[e2,e3];unfold gD;generalize ar h r x w=p at *;obtain⟨c,j⟩:=p;cases ej;rfl
   rw[eg,<-e1];generalize aT h r x X=x2 at *;exact J3 o' hu
 .have hx:nk X w≠true:=λz=>um (pV.mpr ⟨o.mem.mpr hw,z⟩)
  rw[bc hx];have hr:w∈(aT h r x X).rows:=JA hw (by rw[z8];exact λz=>um ((yj o hw).mp z))
  generalize aT h r x X=x2 at *;exact J3 o' hr
theorem Oj(g:aG h)(o:Ok h n x)(t:kU h r x X):((aT h r x X).rows.map Row.bag++(aT h r x X).gone.map (·.1)).Perm (x.rows.map Row.bag++x.gone.map (·.1)):=by
 have o':=o.turn g t;have eg:(aT h r x X).gone=x.gone++(cB h x X).filterMap (de (ar h r x) (x.now+1)):=rfl;have sb:((aT h r x X).rows.map Row.bag).Sublist (x.rows.map Row.bag):=FL _ _;refine(List.perm_ext_iff_of_nodup o'.nd o.nd).mpr λa=>⟨λm=>?_,λm=>?_⟩
 .rcases dF.mp m with m|m
  .exact dF.mpr (.inl (sb.subset m))
  .rw[eg,fR,dF] at m;rcases m with m|m
   .exact dF.mpr (.inr m)
   .obtain⟨p,hp,rfl⟩:=eW.mp m;obtain⟨u,hu,_,_,rfl⟩:=JB o hp;exact dF.mpr (.inl (mU hu))
 .rcases dF.mp m with m|m
  .obtain⟨u,hu,rfl⟩:=eW.mp m;by_cases um:u∈cB h x X
   .cases ej:(ar h r x u).2 with
    |none=>
     refine dF.mpr (.inr ?_);rw[eg,fR,dF];exact .inr (eW.mpr ⟨(u.bag,(ar h r x u).1,x.now+1),mT.mpr ⟨u,um,by unfold de;rw[ej]⟩,rfl⟩)
    |some j=>
     have em:∃u',mR h (ar h r x) u=some u'/\u'.bag=u.bag:=by unfold mR;rw[ej];exact⟨_,rfl,rfl⟩
     obtain⟨u',em,eu⟩:=em;refine dF.mpr (.inl (eW.mpr ⟨u',mT.mpr ⟨u,hu,?_⟩,eu⟩));rw[bx ((yj o hu).mpr um)];exact em
   .exact dF.mpr (.inl (eW.mpr ⟨u,JA hu (by rw[z8];exact λz=>um ((yj o hu).mp z)),rfl⟩))
  .refine dF.mpr (.inr ?_);rw[eg,fR,dF];exact .inl m
end
def outD(h:aF)(o:Str):D:=if h.carts.contains o=true then .str o else pl o 0
def nu(h:aF)(bt:aw)(w:Row):List D:=if w.i+1<bt.long then[pl w.b w.i,pl bt.name (w.i+1)] else[pl w.b w.i]++(bt.outs.map (outD h)++if bt.ring=true then[pl bt.name 0] else[])
theorem Qv{α:Type}{f:α->Nat}{a:α}:∀{l:List α},a∈l->f a<=(l.map f).sum
 |b::l,m=>by
  rw[cU,MC];rcases y0b.mp m with rfl|m
  .lia
  .have:=Qv (f:=f) m;lia
section
variable{h:aF}{bt:aw}{w:Row}{S:aV}{r:Int}{x:Hl}{n:Nat}{X:List (Str×D)}
theorem Zo(g:aG h)(hb:bt∈h.af)(eb:bt.name=w.b):∃S',Fo 0 [.d (ax h),.d (pl w.b w.i)] S=some (.ok (.o (.lst (nu h bt w))) S')/\S'=S:=by
 have bl:=g.sm.bl;have ol:bt.outs.length<=900:=jo (Qv (f:=λx:aw=>x.outs.length) hb) g.sm.ou
 have e1:∃l,bh (ae 0) (E5 0) (E6 0) (h.af.map ao) [none,ak (pl w.b w.i)] S []=some (.ok (ao bt::l) S):=by
  have key:bh (ae 0) (E5 0) (E6 0) (h.af.map ao) [none,ak (pl w.b w.i)] S []=some (.ok (h.af.filterMap λb=>if(b.name == w.b)=true then some (ao b) else none) S):=by
   rw[uN (λb=>if(b.name == w.b)=true then some (ao b) else none) h.af (by lia) λb m=>by
    unfold E5 E6 ao;cases q:(b.name == w.b) with
    |true=>exact .inr ⟨rd _,_,rfl,by simp only[↓ev,bU,aI,eV,q],by simp only[↓ev],rfl⟩
    |false=>exact .inl ⟨rfl,by simp only[↓ev,bU,aI,eV,q]⟩]
  rw[key];cases q:h.af.filterMap λb=>if(b.name == w.b)=true then some (ao b) else none with
  |nil=>exact cz (List.filterMap_eq_nil_iff.mp q bt hb) (by simp[eb])
  |cons d l=>
   have:d∈h.af.filterMap λb=>if(b.name == w.b)=true then some (ao b) else none:=by rw[q];exact .head _
   obtain⟨b,mQ,e⟩:=mT.mp this;split at e
   .rename_i e2
    cases e;rw[Ap g.fwd b mQ bt hb ((beq_iff_eq.mp e2).trans eb.symm)];exact⟨l,rfl⟩
   .cases e
 obtain⟨l,e1⟩:=e1;have e2:bh (ae 0) (fD true) (Im 0) (dS bt.outs) [none,ak (ax h)] S []=some (.ok (bt.outs.map (outD h)) S):=by
  rw[dS,nW (outD h) bt.outs (by lia) λo m=>by
   unfold Im outD ax;cases q:h.carts.contains o with
   |true=>exact⟨rd (.str o),by simp only[↓ev,cL,jb,aI,ja,q],rfl⟩
   |false=>exact⟨.v (.d (pl o 0)),by simp only[↓ev,cL,jb,aI,ja,q,aP],rfl⟩]
 refine⟨S,?_,rfl⟩;have l1:((bt.outs.map (outD h)).length<1000000)=True:=bH (by rw[bw];lia)
 have l2:(1+((bt.outs.map (outD h)).length+1)<=1000000)=True:=bH (by rw[bw];lia)
 have l3:(1+(bt.outs.map (outD h)).length<=1000000)=True:=bH (by rw[bw];lia)
 obtain⟨s,rr⟩:=S;unfold nu;rw[<-eb] at *;unfold ax at *;generalize h.af.map ao=Gp at *;unfold ao at e1;generalize dS h.carts=cs at *;generalize bt.outs.map (outD h)=ol1 at *;unfold Fo N0;by_cases hl:w.i+1<bt.long
 .rw[bx hl];have hl:=bH hl;simp only[↓ev,bU,gK,e1,aP,cL,hl,decide_true,aI,ck]
 .rw[bc hl];have hl:=eq_false hl;cases hr:bt.ring with
  |true=>
   rw[hr] at e1;simp only[↓ev,bU,gK,e1,aP,cL,hl,decide_false,aI,uK,e2,h_,eA,l1,jB,A0,l2,o_]
  |false=>
   rw[hr] at e1;simp only[↓ev,bU,gK,e1,aP,cL,hl,decide_false,aI,uK,e2,h_,eA,l3,o_,jQ]
def fQ(h:aF)(r:Int)(x:Hl)(X:List (Str×D))(w:Row):D:=if nk X w=true then gD (ar h r x w) else pl w.b w.i
theorem kD:(∃c,fQ h r x X w=.str c/\nk X w=true/\ar h r x w=(c,none))\/∃b i,fQ h r x X w=pl b i:=by
 unfold fQ;split
 .rename_i hk
  cases q:ar h r x w with
  |mk a b=>cases b with
   |none=>exact .inl ⟨a,rfl,hk,rfl⟩
   |some j=>exact .inr ⟨a,j,rfl⟩
 .exact .inr ⟨_,_,rfl⟩
theorem Vq{d:D}(hd:(∃c,d=.str c)\/∃b i,d=pl b i):eQ d d=true/\dX 40 d=true:=by
 rcases hd with⟨c,rfl⟩|⟨b,i,rfl⟩
 .exact⟨fG c,rfl⟩
 .exact⟨by rw[AL];simp,rfl⟩
theorem Zp(g:aG h)(o:Ok h n x)(hw:w∈x.rows)(hb:bt∈h.af)(eb:bt.name=w.b):((nu h bt w).any λz=>eQ z (fQ h r x X w))=true/\(nu h bt w).all (dX 40)=true/\dX 40 (fQ h r x X w)=true:=by
 have sh:(∃c,fQ h r x X w=.str c)\/∃b i,fQ h r x X w=pl b i:=kD.imp (λ⟨c,e,_⟩=>⟨c,e⟩) id
 obtain⟨e1,e2⟩:=Vq sh;refine⟨Mt.mpr ⟨_,?_,e1⟩,?_,e2⟩
 .unfold nu fQ;have ef:=BM g hb;rw[eb] at ef;obtain⟨a,a1,a2⟩:=Gq g o hw hb eb;by_cases hk:nk X w=true
  .rw[bx hk];unfold ar;rw[ef];show gD (iR h r x w bt)∈_;unfold iR;by_cases hl:w.i+1<bt.long
   .rw[bx hl,bx hl];exact .tail _ (.head _)
   .rw[bc hl,bc hl];refine dF.mpr (.inr ?_);by_cases hr:bt.ring=true/\w.fl=none/\w.gn<r
    .rw[bx hr,bx hr.1];exact dF.mpr (.inr (.head _))
    .rw[bc hr,a1];show gD (nD h x bt a)∈_;unfold nD;by_cases hc:h.carts.contains a=true
     .rw[bx hc];refine dF.mpr (.inl (eW.mpr ⟨a,a2,?_⟩));unfold outD;rw[bx hc];rfl
     .rw[bc hc];by_cases hz:(bt.ring&&(gj h x).contains a)=true
      .rw[bx hz,bx (zX.mp hz).1];exact dF.mpr (.inr (.head _))
      .rw[bc hz];refine dF.mpr (.inl (eW.mpr ⟨a,a2,?_⟩));unfold outD;rw[bc hc];rfl
  .rw[bc hk];split
   .exact .head _
   .exact .head _
 .rw[jZ];intro z hz;unfold nu at hz;split at hz
  .rcases y0b.mp hz with rfl|hz
   .rfl
   .rw[kH.mp hz];rfl
  .rcases dF.mp hz with hz|hz
   .rw[kH.mp hz];rfl
   .rcases dF.mp hz with hz|hz
    .obtain⟨a,_,rfl⟩:=eW.mp hz;unfold outD;split <;> rfl
    .split at hz
     .rw[kH.mp hz];rfl
     .cases hz
theorem Ri{c:Str}:∀{bs:List aw},(∀b∈bs,0<=b.long)->∀p∈bo c bs,0<=p.2
 |[],_,p,m=>by
  rw[kH.mp m];exact Hx 0
 |b::bs,h,p,m=>by
  have ih:=Ri (c:=c) (bs:=bs) λb m=>h b (.tail _ m)
  unfold bo at m;split at m
  .exact ih p m
  .rename_i ne
   rcases dF.mp m with m|m
   .exact ih p m
   .rw[kH.mp m];obtain⟨o,_,e⟩:=gq.mp (Fl ne).1;obtain⟨q,e1,e2⟩:=dm.mp (show(List.find? _ _).map _=_ from e);have:=ih q (En e1);have:=h b (.head _);show 0<=b.long+iy _;rw[<-e2];lia
theorem Qw(g:aG h)(o:Ok h n x)(hw:w∈x.rows){c:Str}(e:ar h r x w=(c,none)):c∈h.carts/\(c=e_ h\/∃f cl,w.fl=some f/\aQ (jg x.book) (.inr f)=some (.tup [.str f,.str c,.int cl])/\x.now+1<=cl):=by
 obtain⟨bt,hb,eb,i0,i1,_⟩:=(o.rw w hw).1;have ef:=BM g hb;rw[eb] at ef;obtain⟨a,a1,a2⟩:=Gq g o hw hb eb;unfold ar at e;rw[ef] at e;have e:iR h r x w bt=(c,none):=e;unfold iR at e;split at e
 .cases e
 .split at e
  .cases e
  .rw[a1] at e;have e:nD h x bt a=(c,none):=e;unfold nD at e;split at e
   .rename_i hc
    cases e;have hc:=lq.mp hc;refine⟨hc,?_⟩;have ea:c=eX h x w:=by
     apply HG;intro ne;have:=(Of a1).2;rw[WG g.fwd hc ne] at this;cases this
    unfold eX at ea;rcases Fv o hw with⟨f1,f2⟩|⟨f,ct,cl,f1,f2,f3,f4⟩
    .rw[f2] at ea;exact .inl ea
    .rw[f2] at ea;have ea:c=if oF h ct x.now cl w.b w.i=true then ct else e_ h:=ea
     split at ea
     .rename_i l7
      subst ea;refine .inr ⟨f,cl,f1,f4,?_⟩;unfold oF at l7;rw[<-eb,F3 f3 g.fwd bt hb] at l7;split at l7
      .cases l7
      .rename_i v hv
       split at hv
       .cases hv
       .rename_i ne
        cases hv;have:=xx l7;obtain⟨o,_,e⟩:=gq.mp (Fl ne).1;obtain⟨q,e1,e2⟩:=dm.mp (show(List.find? _ _).map _=_ from e);have nn:=Ri (λb m=>by have:=(g.lg b m).1;lia) q (En e1)
        rw[e2] at nn;lia
     .exact .inl ea
   .split at e <;> cases e
end
variable{L:List (Str×Str×Int)}{c:Str}
theorem e6m(ds:List D)(n:Nat):cutD ds none (some (n:Int))=ds.take n:=by
 unfold cutD;rw[HT.vq];show(ds.drop 0).take (min n ds.length - 0)=_;rw[List.drop_zero,Nat.sub_zero,<-List.take_eq_take_min]
theorem e8j:∀l:List (Str×Str×Int),eQ (.lst (dI l)) (.lst (dI l))=true:=λl=>by
 show dO _ _=true
 induction l with
 |nil=>rfl
 |cons w L ih=>
  show(eQ (t3 w) (t3 w)&&dO _ _)=true;have ih:dO (dI L) (dI L)=true:=ih;rw[show dO (List.map t3 L) (List.map t3 L)=true from ih,Mp];show((w.1 == w.1)&&((w.2.1 == w.2.1)&&((w.2.2 == w.2.2)&&true)))=true;simp
theorem e8k(l:List (Str×Str×Int)):dX 40 (.lst (dI l))=true:=by
 show(l.map t3).all (dX 39)=true;rw[Bb];exact jZ.mpr λp _=>rfl
abbrev mP(l:List (Str×Str×Int)):List (TK×D):=td (·.1) (λp=>.str p.2.1) l
def bD(h:aF)(r:Int)(x:Hl)(X:List (Str×D)):List (Str×Str×Int):=(cB h x X).filterMap (de (ar h r x) (x.now+1))
section
variable{s:List Cell}{h:aF}{r:Int}{x:Hl}{n m:Nat}{X:List (Str×D)}{w:Row}{hd:D}{g0 g1 g2 g3 g4 g5 a7 a8 a9 a10 a11:aj Val}
theorem e6n{p:Str×Str×Int}(hp:p.1∉L.map (·.1))(hl:L.length<1000)(hq:p.2.2=x.now):BB 0 [bQ,g1,g2,g3,g4,g5,aH s.length,bJ p.1,bJ p.2.1,cq p.2.2,a10,a11] (n5 hd r x s (mP L))=some (.nx [bQ,g1,g2,g3,g4,g5,aH s.length,bJ p.1,bJ p.2.1,cq p.2.2,a10,a11] (n5 hd r x s (mP (L++[p])))):=by
 have e:=B9 (k:=λp:Str×Str×Int=>p.1) (v:=λp=>D.str p.2.1) hp
 have l1:((mP L).length<1000000)=True:=bH (by rw[lD];lia)
 have em:=λq s=>Pg (s:=s) (hd:=hd) (r:=r) (x:=x) (q:=q)
 rw[hq];unfold BB;simp only[↓ev,hR,cM,Oc,em,fT,fG,hV,aI,eA,l1,e,jB]
theorem Zr(nd:(L.map (·.1)).Nodup)(hl:L.length<1000)(hq:∀p∈L,p.2.2=x.now):∃b7 b8 b9,aL (a_ [(ae 7),(ae 8),(ae 9)]) (BB 0) (L.map t3) [bQ,g1,g2,g3,g4,g5,aH s.length,none,none,none,a10,a11] (n5 hd r x s [])=some (.nx [bQ,g1,g2,g3,g4,g5,aH s.length,b7,b8,b9,a10,a11] (n5 hd r x s (mP L))):=by
 obtain⟨U',S',e,⟨b7,b8,b9,rfl⟩,rfl⟩:=ju (gg:=a_ [(ae 7),(ae 8),(ae 9)]) (body:=BB 0) (f:=t3) (U:=[bQ,g1,g2,g3,g4,g5,aH s.length,none,none,none,a10,a11]) (S:=n5 hd r x s []) (λpre U S'=>(∃b7 b8 b9,U=[bQ,g1,g2,g3,g4,g5,aH s.length,b7,b8,b9,a10,a11])/\S'=n5 hd r x s (mP pre)) L ⟨⟨_,_,_,rfl⟩,rfl⟩ (by
  rintro d p post eq U S' ⟨⟨b7,b8,b9,rfl⟩,rfl⟩;have h1:p.1∉d.map (·.1):=by
   grind
  have h2:d.length<1000:=by rw[eq] at hl;simp at hl;lia
  exact⟨_,_,_,rfl,.inl (e6n h1 h2 (hq p (by rw[eq];simp))),⟨_,_,_,rfl⟩,rfl⟩)
 exact⟨b7,b8,b9,e⟩
theorem e6o(o:Ok h n x){f:Str}{cl:Int}(v:aQ (jg x.book) (.inr f)=some (.tup [.str f,.str c,.int cl])):aQ (td (·.1) iu (jm x.book)) (.inr f)=some (.tup [.str c,.int cl]):=by
 rcases JN (k:=λp:Str×Str×Int=>p.1) (v:=t3) f x.book with⟨_,e⟩|⟨p,hp,e1,e⟩
 .have e:aQ (jg x.book) (.inr f)=none:=e;rw[e] at v;cases v
 .have e:aQ (jg x.book) (.inr f)=some (t3 p):=e;rw[e] at v;have bp:=Oi o.bn;have:=jv (k:=λp:Str×Str×Int=>p.1) (v:=iu) ((bp.map _).nodup_iff.mpr o.bn) (bp.mem_iff.mpr hp)
  rw[e1] at this;rw[this];obtain⟨p1,p2,p3⟩:=p;unfold t3 at v;cases v;rfl
theorem RJ(o:Ok h n x):((bD h r x X).map (·.1)).Nodup:=by
 have nd:((cB h x X).map Row.bag).Nodup:=((o.perm.map _).nodup_iff.mpr o.nb:((ord h x.rows).map Row.bag).Nodup).sublist (List.Sublist.map _ Ez);refine nd.sublist ?_;unfold bD;rw[List.map_filterMap];generalize cB h x X=M
 induction M with
 |nil=>exact .slnil
 |cons z M ih=>
  rw[qG,cU];unfold de;cases(ar h r x z).2 with
  |none=>exact .cons_cons _ ih
  |some _=>exact .cons _ ih
theorem e6q(o:Ok h n x)(hw:w∈x.rows)(hk:nk X w=true)(e:ar h r x w=(c,none)):(w.bag,c,x.now+1)∈bD h r x X:=mT.mpr ⟨w,pV.mpr ⟨o.mem.mpr hw,hk⟩,by unfold de;rw[e]⟩
theorem e6r(o:Ok h n x)(hw:w∈x.rows){b:Str}{i:Int}(e:fQ h r x X w=pl b i):w.bag∉(bD h r x X).map (·.1):=λm=>by
 obtain⟨p,hp,e1⟩:=eW.mp m;obtain⟨z,hz,e2⟩:=mT.mp hp;obtain⟨z1,z2⟩:=pV.mp hz;unfold de at e2;split at e2
 .rename_i eg
  cases e2;have:z=w:=rW o.nb (o.mem.mp z1) hw e1;subst this;unfold fQ at e;rw[bx z2] at e;generalize ar h r x z=gl at *;obtain⟨a,j⟩:=gl;cases eg;cases e
 .cases e2
end
section
variable{s:List Cell}{h:aF}{r:Int}{x:Hl}{n m k:Nat}{X:List (Str×D)}{w:Row}{g2 g3 g5 g7 g8 g9 a10 a11:aj Val}
theorem e6s(g:aG h)(o:Ok h n x)(t:kU h r x X)(hw:w∈x.rows)(hm:s[m]?=some (.o (.aA (td (·.1) iu (jm x.book)))))(hk:s[k]?=some (.o (.aA (mP (bD h r x X))))):∃tW,xW 0 [bQ,ak (ax h),g2,g3,aH m,g5,aH k,g7,g8,g9,ak (aU w),a11] (hS (ax h) r (aT h r x X) s)=some (.nx [bQ,ak (ax h),g2,g3,aH m,g5,aH k,g7,g8,g9,ak (aU w),tW] (hS (ax h) r (aT h r x X) s)):=by
 obtain⟨bt,hb,eb,i0,i1,_⟩:=(o.rw w hw).1;have wh:uA 0 [eD,dR w.bag] (hS (ax h) r (aT h r x X) s)=some (.ok (rd (fQ h r x X w)) (hS (ax h) r (aT h r x X) s)):=Zn g o t hw;obtain⟨_,gl,rfl⟩:=Zo (S:=hS (ax h) r (aT h r x X) s) g hb eb;obtain⟨p1,p2,p3⟩:=Zp (r:=r) (X:=X) g o hw hb eb;have em:=λq s=>Pg (s:=s) (hd:=ax h) (r:=r) (x:=aT h r x X) (q:=q)
 have nw:(aT h r x X).now=x.now+1:=rfl;rw[nw] at em;have ha:eH (dS h.carts) 0=some (.str (e_ h)):=(AA g).2;refine⟨ak (fQ h r x X w),?_⟩;generalize hx2:aT h r x X=x2 at *;rcases kD (h:=h) (r:=r) (x:=x) (X:=X) (w:=w) with⟨c,e,nk1,eg⟩|⟨b,i,e⟩
 .have v1:aQ (mP (bD h r x X)) (.inr w.bag)=some (.str c):=jv (k:=λp:Str×Str×Int=>p.1) (v:=λp=>D.str p.2.1) (RJ o) (e6q o hw nk1 eg)
  obtain⟨_,hc⟩:=Qw g o hw eg;rw[e] at wh p1 p3 ⊢;generalize mP (bD h r x X)=cr at *;generalize nu h bt w=gs at *;cases q:(c == e_ h) with
  |true=>
   unfold xW aU;generalize aS w.fl=ff at *;unfold ax at *;generalize h.af.map ao=Gp at *;generalize dS h.carts=cs at *;simp only[↓ev,hR,cM,BY,bU,wh,aP,h_,gl,p2,p1,hV,aI,hk,v1,cL,ha,eV,q]
  |false=>
   rcases hc with hc|⟨f,cl,ef,vf,lt⟩
   .rw[hc] at q;simp at q
   .have v2:=e6o o vf;have lt:(cl<x.now+1)=False:=eq_false (by lia)
    generalize td (·.1) iu (jm x.book)=fd at *
    unfold xW aU;rw[ef];unfold ax at *;generalize h.af.map ao=Gp at *;generalize dS h.carts=cs at *;simp only[↓ev,hR,cM,BY,aS,bU,wh,aP,h_,gl,p2,p1,hV,aI,hk,v1,cL,ha,eV,q,lr,hm,v2,fG,Oc,em,lt,decide_false]
 .have v1:aQ (mP (bD h r x X)) (.inr w.bag)=none:=by
   rcases JN (k:=λp:Str×Str×Int=>p.1) (v:=λp=>D.str p.2.1) w.bag (bD h r x X) with⟨_,z⟩|⟨p,hp,z,_⟩
   .exact z
   .exact cz (eW.mpr ⟨p,hp,z⟩) (e6r o hw e)
  rw[e] at wh p1 p3 ⊢;generalize mP (bD h r x X)=cr at *;generalize nu h bt w=gs at *;unfold xW aU;generalize aS w.fl=ff at *;unfold ax at *;generalize h.af.map ao=Gp at *;generalize dS h.carts=cs at *;simp only[↓ev,hR,cM,BY,bU,wh,aP,h_,gl,p3,p2,p1,hV,aI,hk,v1]
end
section
variable{s:List Cell}{h:aF}{r:Int}{x:Hl}{n m:Nat}{X:List (Str×D)}{w:Row}
theorem Zs(g:aG h)(o:Ok h n x)(t:kU h r x X)(hn:n<900)(hm:s[m]?=some (.o (.aA (td (·.1) iu (jm x.book))))):Fs 0 [eD,.d (ax h),.d (.lst ((ord h x.rows).map aU)),.d (.lst (dI x.gone)),.c m] (hS (ax h) r (aT h r x X) s)=some (.ok (rd (.bl true)) (hS (ax h) r (aT h r x X) s)):=by
 have o':=o.turn g t;have sz:=o'.sz;have ml:m<s.length:=(fE.mp hm).1;have gg:(aT h r x X).gone=x.gone++bD h r x X:=rfl;have eg:dI (aT h r x X).gone=dI x.gone++dI (bD h r x X):=by rw[gg];exact fR
 have pm:=(Oj g o t).length_eq;simp only[dU,bw,gg] at pm;have e1:=λq s=>JP (s:=s) (hd:=ax h) (r:=r) (x:=aT h r x X) (q:=q)
 rw[eg] at e1;have c1:cutD (dI x.gone++dI (bD h r x X)) none (some ((dI x.gone).length:Int))=dI x.gone:=by rw[e6m,List.take_left]
 have c2:cutD (dI x.gone++dI (bD h r x X)) (some ((dI x.gone).length:Int)) none=dI (bD h r x X):=by rw[Jf,List.drop_left]
 obtain⟨b7,b8,b9,e2⟩:=Zr (s:=s) (r:=r) (hd:=ax h) (x:=aT h r x X) (L:=bD h r x X) (g1:=ak (ax h)) (g2:=ak (.lst ((ord h x.rows).map aU))) (g3:=ak (.lst (dI x.gone))) (g4:=aH m) (g5:=ak (.lst (dI x.gone++dI (bD h r x X)))) (a10:=none) (a11:=none) (RJ o) (by rw[gg,dU] at sz;lia) (λp hp=>by
  obtain⟨z,_,e⟩:=mT.mp hp;unfold de at e;split at e
  .cases e;rfl
  .cases e)
 have e3:∃oE tW,aL (ae 10) (xW 0) ((ord h x.rows).map aU) [bQ,ak (ax h),ak (.lst ((ord h x.rows).map aU)),ak (.lst (dI x.gone)),aH m,ak (.lst (dI x.gone++dI (bD h r x X))),aH s.length,b7,b8,b9,none,none] (n5 (ax h) r (aT h r x X) s (mP (bD h r x X)))=some (.nx [bQ,ak (ax h),ak (.lst ((ord h x.rows).map aU)),ak (.lst (dI x.gone)),aH m,ak (.lst (dI x.gone++dI (bD h r x X))),aH s.length,b7,b8,b9,oE,tW] (n5 (ax h) r (aT h r x X) s (mP (bD h r x X)))):=by
  obtain⟨U',S',e,⟨oE,tW,rfl⟩,rfl⟩:=ju (gg:=ae 10) (body:=xW 0) (f:=aU) (U:=[bQ,ak (ax h),ak (.lst ((ord h x.rows).map aU)),ak (.lst (dI x.gone)),aH m,ak (.lst (dI x.gone++dI (bD h r x X))),aH s.length,b7,b8,b9,none,none]) (S:=n5 (ax h) r (aT h r x X) s (mP (bD h r x X))) (λpre U S'=>(∃oE tW,U=[bQ,ak (ax h),ak (.lst ((ord h x.rows).map aU)),ak (.lst (dI x.gone)),aH m,ak (.lst (dI x.gone++dI (bD h r x X))),aH s.length,b7,b8,b9,oE,tW])/\S'=n5 (ax h) r (aT h r x X) s (mP (bD h r x X))) (ord h x.rows) ⟨⟨_,_,rfl⟩,rfl⟩ (by
   rintro d w post eq U S' ⟨⟨oE,tW,rfl⟩,rfl⟩;obtain⟨JE,e⟩:=e6s (w:=w) (s:=s++[.o (.aA (mP (bD h r x X)))]) (m:=m) (k:=s.length) (g2:=ak (.lst ((ord h x.rows).map aU))) (g3:=ak (.lst (dI x.gone))) (g5:=ak (.lst (dI x.gone++dI (bD h r x X)))) (g7:=b7) (g8:=b8) (g9:=b9) (a11:=tW) g o t (o.mem.mp (by rw[eq];simp)) (by rw[uf ml];exact hm) eA
   exact⟨_,_,_,rfl,.inl e,⟨_,_,rfl⟩,rfl⟩)
  exact⟨oE,tW,e⟩
 obtain⟨oE,tW,e3⟩:=e3;have e4:=λq s=>v_ (s:=s) (r:=r) (q:=q) g o'
 have l1:((mP (bD h r x X)).length:Int)=((bD h r x X).length:Int):=by rw[lD]
 have l2:(((ord h (aT h r x X).rows).map aU).length:Int)=((aT h r x X).rows.length:Int):=by rw[bw,o'.perm.length_eq]
 have l3:(((ord h x.rows).map aU).length:Int)=(x.rows.length:Int):=by rw[bw,o.perm.length_eq]
 have l4:(((bD h r x X).length:Int)+((aT h r x X).rows.length:Int) == (x.rows.length:Int))=true:=by rw[beq_iff_eq];lia
 have q1:=e8j x.gone;have q2:=e8k x.gone;have l0:fK (mP (bD h r x X))=true:=v9;generalize(ord h (aT h r x X).rows).map aU=r2 at *;generalize(ord h x.rows).map aU=r1 at *;generalize(aT h r x X).rows.length=k2 at *;generalize aT h r x X=x2 at *;generalize mP (bD h r x X)=cr at *;generalize(bD h r x X).length=k1 at *;have e2:aL _ _ (dI (bD h r x X)) _ _=_:=e2;generalize dI (bD h r x X)=gb at *;generalize dI x.gone=ga at *;generalize ax h=hd at *;generalize(k1:Int)=z1 at *;generalize(k2:Int)=z2 at *;generalize(x.rows.length:Int)=z3 at *;unfold Fs N5;simp only[↓ev,hR,cM,JO,e1,aP,c1,q2,q1,hV,aI,c2,gK,e2,e3,eA,l0,l1,nV,e4,l2,l3,fT,l4,o_]
end
structure Iv (h:aF) (ps:List Str) (x:Hl):Prop where
 pm:(x.rows.map Row.bag++x.gone.map (·.1)).Perm ps
 go:∀p∈x.gone,p.2.1∈h.carts
section
variable{s:List Cell}{h:aF}{r:Int}{x:Hl}{n m:Nat}{X:List (Str×D)}{w:Row}{ps:List Str}
theorem Iv.turn(g:aG h)(o:Ok h n x)(t:kU h r x X)(i:Iv h ps x):Iv h ps (aT h r x X):=⟨(Oj g o t).trans i.pm,λp hp=>by
 rcases dF.mp (show p∈x.gone++bD h r x X from hp) with hp|hp
 .exact i.go p hp
 .obtain⟨z,hz,e⟩:=mT.mp hp;unfold de at e;split at e
  .rename_i eg
   cases e;exact(Qw g o (o.mem.mp (pV.mp hz).1) (Prod.ext rfl eg)).1
  .cases e⟩
theorem W7(g:aG h)(o:Ok h n x)(hn:n<64)(i:Iv h ps x):∃x',Ok h n x'/\Iv h ps x'/\cA 0 [eD,.d (ax h)] (hS (ax h) r x s)=some (.ok (rd (.bl true)) (hS (ax h) r x' s)):=by
 have e1:=λq s=>v_ (s:=s) (r:=r) (q:=q) g o
 have e2:=λq s=>JP (s:=s) (hd:=ax h) (r:=r) (x:=x) (q:=q)
 have e3:=λs=>Vp (s:=s) (hd:=ax h) (r:=r) o hn
 have sz:=o.sz;have bp:=Oi o.bn;obtain⟨a5,a6,a7,e4⟩:=Zm (s:=s) (hd:=ax h) (r:=r) (x:=x) (L:=jm x.book) (g1:=ak (ax h)) (g2:=ak (.lst ((ord h x.rows).map aU))) (g3:=ak (.lst (dI x.gone))) ((bp.map _).nodup_iff.mpr o.bn) (by rw[bp.length_eq];lia)
 obtain⟨X,t,e5⟩:=e6c (r:=r) (s:=s++[.o (.aA (td (·.1) iu (jm x.book)))]) g o (by lia)
 have e6:=Zs (s:=s++[.o (.aA (td (·.1) iu (jm x.book)))]) (m:=s.length) g o t (by lia) eA
 refine⟨aT h r x X,o.turn g t,i.turn g o t,?_⟩;clear t;generalize td (·.1) iu (jm x.book)=fd at *
 generalize(jm x.book).map t3=fl at *;generalize aT h r x X=x2 at *;generalize(ord h x.rows).map (nB X (ar h r x))=lg at *;generalize(ord h x.rows).map aU=rs at *;generalize dI x.gone=gn at *;generalize ax h=hd at *;unfold cA gm;simp only[↓ev,hR,cM,nV,e1,aP,JO,e2,Ud,e3,gK,e4,e5,e6,o_]
end
theorem Vr{α:Type}{l:List α}{f:α->bC}(nd:(l.map f).Nodup)(hl:l.length<=8):nA (.lst (l.map λa=>pl (f a).1 (f a).2))=some (rd (.int (l.length:Nat))):=by
 have hk:∀l:List α,jO (l.map λa=>pl (f a).1 (f a).2)=some ((l.map f).map kC):=λl=>by
  induction l with
  |nil=>simp[jO]
  |cons a l ih=>simp only[qq6,jO,qF,ih];rfl
 unfold nA;dsimp only;rw[hk];have c1:((l.map f).map kC).Nodup:=by
  rw[List.Nodup,Em];exact List.Pairwise.imp (λ{a b} h e=>h (by unfold kC at e;simp at e;exact Prod.ext e.1 e.2)) nd
 have c2:(((l.map f).map kC).all λk=>match k with|.tp l=>l.all (TK.ok 0)|_=>false)=true:=by
  rw[jZ];intro k m;obtain⟨c,_,rfl⟩:=eW.mp m;rfl
 have c3:((l.map f).map kC).length=l.length:=by simp
 rw[<-c3] at hl ⊢;exact bx ⟨c1,c2,hl⟩
seal nA
def mO(w:Row):D:=.tup [.str w.bag,pl w.b w.i]
def mS(p:Str×Str×Int):D:=.tup [.str p.1,.str p.2.1]
theorem RK:∀l:List Str,eQ (.lst (dS l)) (.lst (dS l))=true:=λl=>by
 show dO _ _=true
 induction l with
 |nil=>rfl
 |cons w L ih=>
  show((w == w)&&dO (dS L) (dS L))=true;rw[show dO (dS L) (dS L)=true from ih];simp
section
variable{s:List Cell}{h:aF}{r:Int}{x:Hl}{n k:Nat}{w:Row}{ps:List Str}{hd:D}{S:aV}{g1 g2 g3 g4 g5 g6 g7 g8 g9:aj Val}
theorem e8l(q:Nat)(L:List Row)(hl:L.length<=100):bh (ae 0) (fD true) (dw q) (L.map aU) [none] S []=some (.ok (L.map mO) S):=by
 rw[nW mO L (by lia) λw m=>⟨rd (mO w),by
  unfold dw mO aU;generalize aS w.fl=ff;simp only[↓ev,bU,h_,aP],rfl⟩]
theorem e6u(q:Nat)(L:List (Str×Str×Int))(hl:L.length<=1000):bh (ae 0) (fD true) (dy q) (dI L) [none] S []=some (.ok (L.map mS) S):=by
 unfold dI;rw[nW mS L (by lia) λw m=>⟨rd (mS w),by
  unfold dy mS t3;simp only[↓ev,bU,cL,aP],rfl⟩]
theorem e8m(q:Nat)(L:List Row)(M:List (Str×Str×Int))(hl:L.length+M.length<=1000):bh (ae 0) (fD true) (dz q) (L.map mO++M.map mS) [none] S []=some (.ok (dS (L.map Row.bag++M.map (·.1))) S):=by
 have e:L.map mO++M.map mS=((L.map λw=>(w.bag,pl w.b w.i))++M.map λp=>(p.1,D.str p.2.1)).map λz:Str×D=>D.tup [.str z.1,z.2]:=by
  rw[fR,fL,fL];rfl
 rw[e,nW (λz=>.str z.1) _ (by simp;lia) λz m=>⟨rd (.str z.1),by unfold dz;simp only[↓ev,bU],rfl⟩]
 simp[dS,fL,Function.comp_def]
theorem e8n(q:Nat)(L:List Row)(hl:L.length<=100):bh (ae 0) (fD true) (dA q) (L.map mO) [none] S []=some (.ok (L.map λw=>pl w.b w.i) S):=by
 rw[nW (λw=>pl w.b w.i) L (by lia) λw m=>⟨rd (pl w.b w.i),by
  unfold dA mO;simp only[↓ev,cL],rfl⟩]
theorem e8o(g:aG h)(o:Ok h n x){d:D}(hd:(∃w∈x.rows,d=mO w)\/∃p∈x.gone,d=mS p):∃a b,d=.tup [a,b]/\bP 0 [bQ,g1,g2,g3,g4,g5,ak a,ak b,g8,g9] (hS (ax h) r x s)=some (.nx [bQ,g1,g2,g3,g4,g5,ak a,ak b,g8,g9] (hS (ax h) r x s)):=by
 rcases hd with⟨w,hw,rfl⟩|⟨p,hp,rfl⟩
 .refine⟨_,_,rfl,?_⟩;have e:=J3 (q:=0) (s:=s) (r:=r) (hd:=ax h) o hw;generalize ax h=hd at *;unfold bP;simp only[↓ev,hR,cM,BY,e,He,AL,fG,hV,aI]
 .refine⟨_,_,rfl,?_⟩;have e:=Rh (q:=0) (s:=s) (r:=r) (hd:=ax h) o hp (o.gi p hp);generalize ax h=hd at *;unfold bP;simp only[↓ev,hR,cM,BY,e,eV,fG,hV,aI]
theorem Rj{carts:List Str}{bt:aw}:∀{bs:List aw},lz carts bs->bt∈bs->bs.filterMap (λb=>if b.name=bt.name then some (D.str bt.name) else none)=[.str bt.name]
 |c::bs,f,m=>by
  rw[qG];by_cases q:c.name=bt.name
  .rw[bx q];refine congrArg _ (List.filterMap_eq_nil_iff.mpr λb hb=>bc λe=>f.2.1 ?_)
   rw[q,<-e];exact mU hb
  .rw[bc q];rcases y0b.mp m with rfl|m
   .exact cz rfl q
   .exact Rj f.2.2.2 m
theorem e8p(g:aG h)(ho:lC h w):cg 0 [bQ,ak (ax h),g2,g3,g4,g5,g6,g7,g8,ak (pl w.b w.i)] S=some (.nx [bQ,ak (ax h),g2,g3,g4,g5,g6,g7,g8,ak (pl w.b w.i)] S):=by
 have bl:=g.sm.bl;obtain⟨bt,hb,eb,i0,i1,_⟩:=ho;have e:bh (ae 0) (dD 0) (dB 0) (h.af.map ao) [none,ak (pl w.b w.i)] S []=some (.ok [.str w.b] S):=by
  rw[uN (λb=>if b.name=w.b then some (.str w.b) else none) h.af (by lia) λb m=>by
   unfold dD dB ao;by_cases q:b.name=w.b
   .have et:b=bt:=Ap g.fwd b m bt hb (by rw[q,eb])
    subst et;have z0:(0<=w.i)=True:=bH i0;have z1:(w.i<b.long)=True:=bH i1;rw[bx q,q];exact .inr ⟨rd _,_,rfl,by simp only[↓ev,bU,aI,eV,fG,cL,z0,decide_true,z1],by simp only[↓ev,bU],rfl⟩
   .rw[bc q];have q:(b.name == w.b)=false:=by rw[pX];exact q
    exact .inl ⟨rfl,by simp only[↓ev,bU,aI,eV,q]⟩]
  rw[<-eb,Rj g.fwd hb]
 have q1:eQ (.lst [.str w.b]) (.lst [.str w.b])=true:=RK [w.b];have q2:dX 40 (.lst [.str w.b])=true:=rfl;unfold ax;generalize h.af.map ao=Gp at *;generalize dS h.carts=cs at *;unfold cg;simp only[↓ev,bU,gK,e,aP,aI,q1,hV]
end
section
variable{s:List Cell}{h:aF}{r:Int}{x:Hl}{n k:Nat}{w:Row}{ps:List Str}{S:aV}
theorem e6v(q:Nat)(L:List (Str×Str×Int))(hl:L.length<=1000)(hc:∀p∈L,p.2.1∈h.carts):bh (ae 0) (fD true) (dC q) (L.map mS) [none,ak (ax h)] S []=some (.ok (L.map λ_=>.bl true) S):=by
 rw[nW (λ_=>.bl true) L (by lia) λp m=>⟨rd (.bl true),by
  have hc:h.carts.contains p.2.1=true:=lq.mpr (hc p m);unfold dC mS ax;generalize h.af.map ao=bl;simp only[↓ev,cL,jb,aI,ja,hc],rfl⟩]
theorem e6w{α:Type}(L:List α):∃bs,eO (L.map λ_=>.bl true)=some bs/\zC bs=true:=by
 have e:eO (L.map λ_=>D.bl true)=some (L.map λ_=>true):=by
  induction L with
  |nil=>rfl
  |cons a L ih=>show(eO _).map _=_;rw[ih];rfl
 exact⟨_,e,by show List.all _ _=true;simp⟩
theorem Zt(g:aG h)(o:Ok h n x)(hn:n<60)(i:Iv h ps x)(hk:s[k]?=some (.o (.lst (dS ps)))):cJ 0 [eD,.d (ax h),.c k] (hS (ax h) r x s)=some (.ok (rd (.bl true)) (hS (ax h) r x s)):=by
 have rl:=o.rl;have sz:=o.sz;have lp:=o.perm.length_eq;have e1:=λq s=>v_ (s:=s) (r:=r) (q:=q) g o
 have e2:=λq s=>JP (s:=s) (hd:=ax h) (r:=r) (x:=x) (q:=q)
 have e3:=λS=>e8l (S:=S) 0 (ord h x.rows) (by lia)
 have e4:=λS=>e6u (S:=S) 0 x.gone (by lia)
 have e5:=λS=>e8m (S:=S) 0 (ord h x.rows) x.gone (by lia)
 have e6:=λS=>e8n (S:=S) 0 (ord h x.rows) (by lia)
 have pm:((ord h x.rows).map Row.bag++x.gone.map (·.1)).Perm ps:=((o.perm.map _).append_right _).trans i.pm
 have pln:=pm.length_eq;simp only[dU,bw] at pln;have s1:dh (dS ((ord h x.rows).map Row.bag++x.gone.map (·.1)))=_:=BZ _
 have s2:dh (dS ps)=_:=BZ _;have g1:(((ord h x.rows).map Row.bag++x.gone.map (·.1)).length<64)=True:=bH (by simp;lia)
 have g2:(ps.length<64)=True:=bH (by lia)
 have es:=T5 pm;have q1:eQ (.lst ((cT ps).map D.str)) (.lst ((cT ps).map D.str))=true:=RK (cT ps);have q2:dX 40 (.lst ((cT ps).map D.str))=true:=jb 39 (cT ps);have e7:∀S:aV,S=hS (ax h) r x s->∀g3 g4 g5,∃b6 b7,aL (a_ [(ae 6),(ae 7)]) (bP 0) ((ord h x.rows).map mO++x.gone.map mS) [bQ,ak (ax h),aH k,g3,g4,g5,none,none,none,none] S=some (.nx [bQ,ak (ax h),aH k,g3,g4,g5,b6,b7,none,none] S):=by
  rintro S rfl g3 g4 g5;have key:=ju (gg:=a_ [(ae 6),(ae 7)]) (body:=bP 0) (f:=λd:D=>d) (U:=[bQ,ak (ax h),aH k,g3,g4,g5,none,none,none,none]) (S:=hS (ax h) r x s) (λpre U S'=>(∃b6 b7,U=[bQ,ak (ax h),aH k,g3,g4,g5,b6,b7,none,none])/\S'=hS (ax h) r x s) ((ord h x.rows).map mO++x.gone.map mS) ⟨⟨_,_,rfl⟩,rfl⟩ (by
   rintro p d post eq U S' ⟨⟨b6,b7,rfl⟩,rfl⟩;obtain⟨a,b,rfl,e⟩:=e8o (s:=s) (r:=r) (g1:=ak (ax h)) (g2:=aH k) (g3:=g3) (g4:=g4) (g5:=g5) (g8:=none) (g9:=none) g o (d:=d) (by
    have m:d∈(ord h x.rows).map mO++x.gone.map mS:=by rw[eq];simp
    rcases dF.mp m with m|m
    .obtain⟨w,hw,e⟩:=eW.mp m;exact .inl ⟨w,o.mem.mp hw,e.symm⟩
    .obtain⟨w,hw,e⟩:=eW.mp m;exact .inr ⟨w,hw,e.symm⟩)
   exact⟨_,_,_,rfl,.inl e,⟨_,_,rfl⟩,rfl⟩)
  rw[List.map_id'] at key;obtain⟨U',S',e,⟨b6,b7,rfl⟩,rfl⟩:=key;exact⟨b6,b7,e⟩
 have e8:∀g3 g4 g5 g6 g7 g8,∃b9,aL (ae 9) (cg 0) ((ord h x.rows).map λw=>pl w.b w.i) [bQ,ak (ax h),aH k,g3,g4,g5,g6,g7,g8,none] (hS (ax h) r x s)=some (.nx [bQ,ak (ax h),aH k,g3,g4,g5,g6,g7,g8,b9] (hS (ax h) r x s)):=by
  intro g3 g4 g5 g6 g7 g8;obtain⟨U',S',e,⟨b9,rfl⟩,rfl⟩:=ju (gg:=ae 9) (body:=cg 0) (f:=λw:Row=>pl w.b w.i) (U:=[bQ,ak (ax h),aH k,g3,g4,g5,g6,g7,g8,none]) (S:=hS (ax h) r x s) (λpre U S'=>(∃b9,U=[bQ,ak (ax h),aH k,g3,g4,g5,g6,g7,g8,b9])/\S'=hS (ax h) r x s) (ord h x.rows) ⟨⟨_,rfl⟩,rfl⟩ (by
   rintro p w post eq U S' ⟨⟨b9,rfl⟩,rfl⟩;exact⟨_,_,_,rfl,.inl (e8p g (o.rw w (o.mem.mp (by rw[eq];simp))).1),⟨_,rfl⟩,rfl⟩)
  exact⟨b9,e⟩
 obtain⟨b6,b7,e7⟩:=e7 _ rfl (ak (.lst ((ord h x.rows).map mO))) (ak (.lst (x.gone.map mS))) (ak (.lst ((ord h x.rows).map mO++x.gone.map mS)));obtain⟨b9,e8⟩:=e8 (ak (.lst ((ord h x.rows).map mO))) (ak (.lst (x.gone.map mS))) (ak (.lst ((ord h x.rows).map mO++x.gone.map mS))) b6 b7 (ak (.lst ((ord h x.rows).map λw=>pl w.b w.i)))
 have un:((ord h x.rows).map λw=>(w.b,w.i)).Nodup:=(o.perm.map _).nodup_iff.mpr o.un
 have e9:nA (.lst ((ord h x.rows).map λw=>pl w.b w.i))=_:=Vr (f:=λw:Row=>(w.b,w.i)) un (by lia)
 have l1:((ord h x.rows).map λw=>pl w.b w.i).length=(ord h x.rows).length:=bw ..
 have f1:=λS=>e6v (h:=h) (S:=S) 0 x.gone (by lia) i.go
 obtain⟨bs,f2,f3⟩:=e6w x.gone;have l2:((ord h x.rows).map mO).length+(x.gone.map mS).length<=1000000:=by simp;lia
 have l2:=bH l2;generalize(ord h x.rows).map (λw=>pl w.b w.i)=cl at *
 generalize(ord h x.rows).map mO=il at *;generalize x.gone.map mS=ol at *;generalize x.gone.map (λ_=>D.bl true)=al at *
 generalize(ord h x.rows).map aU=rs at *;generalize dI x.gone=gn at *;generalize(ord h x.rows).map Row.bag++x.gone.map (·.1)=nl at *
 generalize ax h=hd at *;unfold cJ ib;simp only[↓ev,hR,cM,nV,e1,gK,e3,aP,JO,e2,e4,l2,e5,s1,g1,es,hk,s2,g2,q2,q1,hV,aI,e7,e6,e8,e9,l1,fT,fG,f1,f2,f3,ck]
end
theorem Vs{pb:aj Str}{d:D}(hd:iJ pb d):∃t ts,d=.tup (.str t::ts)/\(t == ("turn":Str))=false/\((t == ("put":Str))=false/\pb=none\/(t == ("put":Str))=true/\∃b us,pb=some b/\ts=.str b::us):=by
 cases hd with
 |lZ _=>exact⟨_,_,rfl,by decide +kernel,.inl ⟨by decide +kernel,rfl⟩⟩
 |change _=>exact⟨_,_,rfl,by decide +kernel,.inl ⟨by decide +kernel,rfl⟩⟩
 |off _=>exact⟨_,_,rfl,by decide +kernel,.inl ⟨by decide +kernel,rfl⟩⟩
 |put _ _=>exact⟨_,_,rfl,by decide +kernel,.inr ⟨by decide +kernel,_,_,rfl,rfl⟩⟩
 |read _ _=>exact⟨_,_,rfl,by decide +kernel,.inl ⟨by decide +kernel,rfl⟩⟩
 |stop=>exact⟨_,_,rfl,by decide +kernel,.inl ⟨by decide +kernel,rfl⟩⟩
 |start=>exact⟨_,_,rfl,by decide +kernel,.inl ⟨by decide +kernel,rfl⟩⟩
abbrev pC(ps:List Str):Cell:=.o (.lst (dS ps))
section
variable{h:aF}{r:Int}{x:Hl}{n:Nat}{d:D}{ps:List Str}{g0 g4 g5 a5 a6 a7:aj Val}{ns:List Int}
theorem Iv.ext{x':Hl}{bs:List Str}(i:Iv h ps x)(e:Ext x x' bs):Iv h (ps++bs) x':=by
 refine⟨?_,by rw[e.1];exact i.go⟩
 rw[e.1,e.2,lj];refine((List.perm_append_comm (l₁:=bs) (l₂:=x.gone.map (·.1))).append_left _).trans ?_
 rw[<-lj];exact i.pm.append_right _
theorem e6x{S S2:aV}{hd:D}(e:cA 0 [eD,.d hd] S=some (.ok (rd (.bl true)) S2)):iO 0 [g0,ak hd,bQ,aH 0,g4,g5,a6,a7] S=some (.nx [g0,ak hd,bQ,aH 0,g4,g5,a6,a7] S2):=by
 unfold iO;simp only[↓ev,e,aI]
theorem Zu(g:aG h)(o:Ok h n x)(hn:n<64)(i:Iv h ps x)(m:Nat):∃x' b7,Ok h n x'/\Iv h ps x'/\aL (ae 7) (iO 0) (iY 0 m) [g0,ak (ax h),bQ,aH 0,g4,g5,a6,a7] (hS (ax h) r x [pC ps])=some (.nx [g0,ak (ax h),bQ,aH 0,g4,g5,a6,b7] (hS (ax h) r x' [pC ps])):=by
 rw[s9];obtain⟨U',S',e,⟨b7,rfl⟩,x',o',i',rfl⟩:=ju (gg:=ae 7) (body:=iO 0) (f:=λ(i:Nat)=>D.int (i:Int)) (U:=[g0,ak (ax h),bQ,aH 0,g4,g5,a6,a7]) (S:=hS (ax h) r x [pC ps]) (λpre U S'=>(∃b7,U=[g0,ak (ax h),bQ,aH 0,g4,g5,a6,b7])/\∃x',Ok h n x'/\Iv h ps x'/\S'=hS (ax h) r x' [pC ps]) (List.range m) ⟨⟨_,rfl⟩,x,o,i,rfl⟩ (by
  rintro d j post eq U S' ⟨⟨b7,rfl⟩,x',o',i',rfl⟩;obtain⟨x2,o2,i2,e⟩:=W7 (r:=r) (s:=[pC ps]) g o' hn i';exact⟨_,_,_,rfl,.inl (e6x e),⟨_,rfl⟩,x2,o2,i2,rfl⟩)
 exact⟨x',b7,o',i',e⟩
theorem Zv(g:aG h)(o:Ok h n x)(hn:n<63)(i:Iv h ps x)(hp:ps.length<900)(pB:(∃pb,iJ pb d)\/∃m:Int,1<=m/\m<=12/\d=kF m):∃x' kL b6 b7,Ok h (n+1) x'/\Iv h kL x'/\c8 0 [g0,ak (ax h),bQ,aH 0,g4,ak d,a6,a7] (hS (ax h) r x [pC ps])=some (.nx [g0,ak (ax h),bQ,aH 0,g4,ak d,b6,b7] (hS (ax h) r x' [pC kL])):=by
 have eb:=λq s=>v_ (s:=s) (r:=r) (q:=q) g o
 have ll:(((ord h x.rows).map aU).length:Int)=(x.rows.length:Int):=by rw[bw,o.perm.length_eq]
 rcases pB with⟨pb,pB⟩|⟨m,m1,m12,rfl⟩
 .obtain⟨v,x',o',ex,e⟩:=e6j (s:=[pC ps]) (r:=r) g o (by lia) pB
  obtain⟨t,ts,rfl,ht,hq⟩:=Vs pB;clear pB;have l0:((dS ps).length<1000000)=True:=bH (by unfold dS;rw[bw];lia)
  rcases hq with⟨hq,rfl⟩|⟨hq,b,us,rfl,rfl⟩
  .refine⟨x',ps,cq (x.rows.length:Int),a7,o',?_,?_⟩
   .have ex:Ext x x' []:=by
     rw[zy] at ex;cases v <;> exact ex
    have:=i.ext ex;rw[jQ] at this;exact this
   .generalize(ord h x.rows).map aU=rl at *;generalize(x.rows.length:Int)=rn at *;generalize ax h=hd at *;unfold c8;cases v with
    |true=>simp only[↓ev,hR,cM,nV,eb,ll,aP,bU,aI,eV,ht,e,hq]
    |false=>simp only[↓ev,hR,cM,nV,eb,ll,aP,bU,aI,eV,ht,e]
  .by_cases h8:x.rows.length<8
   .have l8:((x.rows.length:Int)<8)=True:=bH (by lia)
    rw[show wO (some b) x=[b] from bx h8] at ex;cases v with
    |true=>
     refine⟨x',ps++[b],cq (x.rows.length:Int),a7,o',i.ext ex,?_⟩;have ed:dS (ps++[b])=dS ps++[.str b]:=fR;unfold pC at *;rw[ed];generalize dS ps=pd at *;generalize(ord h x.rows).map aU=rl at *;generalize(x.rows.length:Int)=rn at *;generalize ax h=hd at *;unfold c8;simp only[↓ev,hR,cM,nV,eb,ll,aP,bU,aI,eV,ht,e,hq,l8,decide_true,cL,l0]
    |false=>
     refine⟨x',ps,cq (x.rows.length:Int),a7,o',by have:=i.ext ex;rw[bc (by decide),jQ] at this;exact this,?_⟩
     generalize(ord h x.rows).map aU=rl at *;generalize(x.rows.length:Int)=rn at *;generalize ax h=hd at *;unfold c8;simp only[↓ev,hR,cM,nV,eb,ll,aP,bU,aI,eV,ht,e]
   .have l8:((x.rows.length:Int)<8)=False:=eq_false (by lia)
    rw[show wO (some b) x=[] from bc h8] at ex;refine⟨x',ps,cq (x.rows.length:Int),a7,o',?_,?_⟩
    .have ex:Ext x x' []:=by cases v <;> exact ex
     have:=i.ext ex;rw[jQ] at this;exact this
    .generalize(ord h x.rows).map aU=rl at *;generalize(x.rows.length:Int)=rn at *;generalize ax h=hd at *;unfold c8;cases v with
     |true=>simp only[↓ev,hR,cM,nV,eb,ll,aP,bU,aI,eV,ht,e,hq,l8,decide_false]
     |false=>simp only[↓ev,hR,cM,nV,eb,ll,aP,bU,aI,eV,ht,e]
 .obtain⟨x',b7,o',i',e⟩:=Zu (r:=r) (g0:=g0) (g4:=g4) (g5:=(ak (kF m))) (a6:=cq (x.rows.length:Int)) (a7:=a7) g o (by lia) i m.toNat
  have hz:Nat.ble m.natAbs 1000000000000=true:=by rw[Nat.ble_eq];lia
  have ht:(("turn":Str) == "turn")=true:=by decide +kernel
  refine⟨x',ps,cq (x.rows.length:Int),b7,o'.up,i',?_⟩;generalize(ord h x.rows).map aU=rl at *;generalize(x.rows.length:Int)=rn at *;generalize ax h=hd at *;unfold c8;unfold kF at e ⊢;simp only[↓ev,hR,cM,nV,eb,ll,aP,bU,aI,eV,fG,cL,hz,gK,e]
end
section
variable{h:aF}{r:Int}{x:Hl}{n:Nat}{d:D}{ps:List Str}{g0 g4 g5 a4 a5 a6 a7:aj Val}{ns:List Int}
theorem e6y(o:Ok h n x)(i:Iv h ps x):ps.length<=n:=by
 have:=i.pm.length_eq;have:=o.sz;simp at *;lia
theorem W8(g:aG h)(o:Ok h n x)(i:Iv h ps x)(ds:List D)(hl:n+ds.length<63)(pB:∀d∈ds,(∃pb,iJ pb d)\/∃m:Int,1<=m/\m<=12/\d=kF m):∃x' kL b5 b6 b7,Ok h (n+ds.length) x'/\Iv h kL x'/\aL (ae 5) (c8 0) ds [g0,ak (ax h),bQ,aH 0,g4,a5,a6,a7] (hS (ax h) r x [pC ps])=some (.nx [g0,ak (ax h),bQ,aH 0,g4,b5,b6,b7] (hS (ax h) r x' [pC kL])):=by
 have key:=ju (gg:=ae 5) (body:=c8 0) (f:=λd:D=>d) (U:=[g0,ak (ax h),bQ,aH 0,g4,a5,a6,a7]) (S:=hS (ax h) r x [pC ps]) (λpre U S'=>(∃b5 b6 b7,U=[g0,ak (ax h),bQ,aH 0,g4,b5,b6,b7])/\∃x' kL,Ok h (n+pre.length) x'/\Iv h kL x'/\S'=hS (ax h) r x' [pC kL]) ds ⟨⟨_,_,_,rfl⟩,x,ps,o,i,rfl⟩ (by
  rintro p d post eq U S' ⟨⟨b5,b6,b7,rfl⟩,x',kL,o',i',rfl⟩;have hp:p.length+1<=ds.length:=by
   simp_all
  have pl':=e6y o' i';obtain⟨x2,Ls,c6,c7,o2,i2,e⟩:=Zv (r:=r) (g0:=g0) (g4:=g4) (a6:=b6) (a7:=b7) g o' (by lia) i' (by lia) (pB d (by rw[eq];simp))
  refine⟨_,_,_,rfl,.inl e,⟨_,_,_,rfl⟩,x2,Ls,?_,i2,rfl⟩;rw[dU,ug];exact o2)
 rw[List.map_id'] at key;obtain⟨U',S',e,⟨b5,b6,b7,rfl⟩,x',kL,o',i',rfl⟩:=key;exact⟨x',kL,b5,b6,b7,o',i',e⟩
theorem Zw{S1 S2:aV}{hd:D}{ds:List D}{ki:Int}{b5 b6 b7:aj Val}(ed:xZ 0 [.d (br ns),aO ki,.d hd] S1=some (.ok (.o (.lst ds)) S1))(e:aL (ae 5) (c8 0) ds [ak (br ns),ak hd,bQ,aH 0,cq ki,a5,a6,a7] S1=some (.nx [ak (br ns),ak hd,bQ,aH 0,cq ki,b5,b6,b7] S2))(et:cJ 0 [eD,.d hd,.c 0] S2=some (.ok (rd (.bl true)) S2)):fJ 0 [ak (br ns),ak hd,bQ,aH 0,cq ki,a5,a6,a7] S1=some (.nx [ak (br ns),ak hd,bQ,aH 0,cq ki,b5,b6,b7] S2):=by
 unfold fJ;simp only[↓ev,ed,gK,e,et,aI]
theorem K'(g:aG h)(b0:0<h.af.length)(o:Ok h n x)(i:Iv h ps x)(hn:n<58)(k:Nat)(hk:k<900):∃x' kL b5 b6 b7,Ok h (n+2) x'/\Iv h kL x'/\fJ 0 [ak (br ns),ak (ax h),bQ,aH 0,cq (k:Int),a5,a6,a7] (hS (ax h) r x [pC ps])=some (.nx [ak (br ns),ak (ax h),bQ,aH 0,cq (k:Int),b5,b6,b7] (hS (ax h) r x' [pC kL])):=by
 obtain⟨ds,dk,ed⟩:=Zl (ns:=ns) g b0 k hk (hS (ax h) r x [pC ps]);have dl:=dk.1;obtain⟨x',kL,b5,b6,b7,o',i',e⟩:=W8 (r:=r) (g0:=(ak (br ns))) (g4:=(cq (k:Int))) (a5:=a5) (a6:=a6) (a7:=a7) g o i ds (by lia) dk.2
 have o2:Ok h (n+2) x':=⟨o'.rw,o'.nd,o'.un,o'.bk,o'.bn,o'.gi,o'.rl,jo o'.sz (by lia)⟩
 exact⟨x',kL,b5,b6,b7,o2,i',Zw ed e (Zt g o2 (by lia) i' rfl)⟩
theorem e8q(g:aG h)(b0:0<h.af.length)(o:Ok h 0 x)(i:Iv h ps x)(m:Nat)(hm:m<=25):∃U' S',aL (ae 4) (fJ 0) (mC 15 2 m) [ak (br ns),ak (ax h),bQ,aH 0,a4,a5,a6,a7] (hS (ax h) r x [pC ps])=some (.nx U' S'):=by
 have er:mC 15 2 m=(List.range m).map λi=>D.int ((15+2*i:Nat):Int):=by
  grind [mC]
 rw[er];obtain⟨U',S',e,_⟩:=ju (gg:=ae 4) (body:=fJ 0) (f:=λi:Nat=>D.int ((15+2*i:Nat):Int)) (U:=[ak (br ns),ak (ax h),bQ,aH 0,a4,a5,a6,a7]) (S:=hS (ax h) r x [pC ps]) (λpre U S'=>(∃a4 a5 a6 a7,U=[ak (br ns),ak (ax h),bQ,aH 0,a4,a5,a6,a7])/\∃x' kL,Ok h (2*pre.length) x'/\Iv h kL x'/\S'=hS (ax h) r x' [pC kL]) (List.range m) ⟨⟨_,_,_,_,rfl⟩,x,ps,o,i,rfl⟩ (by
  rintro p j post eq U S' ⟨⟨a4,a5,a6,a7,rfl⟩,x',kL,o',i',rfl⟩;obtain⟨hq,hi⟩:=Jg eq;obtain⟨x2,Ls,b5,b6,b7,o2,i2,e⟩:=K' (ns:=ns) (r:=r) (a5:=a5) (a6:=a6) (a7:=a7) g b0 o' i' (by lia) (15+2*j) (by lia)
  refine⟨_,_,_,rfl,.inl e,⟨_,_,_,_,rfl⟩,x2,Ls,?_,i2,rfl⟩;rw[dU,ug,Nat.mul_add];exact o2)
 exact⟨U',S',e⟩
noncomputable def x0:Hl:=⟨0,[],[],[],[]⟩
theorem uc(h:aF):Ok h 0 x0:=⟨λw m=>(by cases m),Hy,Hy,λp m=>(by cases m),Hy,λp m=>(by cases m),by decide,by decide⟩
theorem e6z{S2:aV}(e:nC 0 [ak (br ns),none,none,none,none,none,none,none] ⟨[],[]⟩=some (.rt (rd (.bl true)) S2)):∃S,oW 0 [.d (br ns)] ⟨[],[]⟩=some (.ok (.v (.d (.bl true))) S):=by
 refine⟨S2.cut 0,?_⟩;unfold oW aX;generalize nC 0=ml at *;simp only[↓ev,e]
theorem e7a{hd:D}{t:Int}{U':Gm}{S':aV}(hh:P0 Am [.d (br ns)] (rd hd))(hr:Pr kX [.d (br ns),aO 14,aO 3] (rd (.int r)))(hi:BV 0 [eD,.d hd,aO r] ⟨[],[.ins cHall []]⟩=some (.ok (rd .aM) (hS hd r x0 [])))(ho:Pr jS [.d (br ns),aO 14,aO 20] (rd (.int t)))(hm:(-2^64<(2:Int)/\(2:Int)<2^64 \/ -2^64<t/\t<2^64)=True)(hz:Nat.ble (23+2*t).natAbs 1000000=true)
  (hl:aL (ae 4) (fJ 0) (mC 15 2 (gp 15 (23+2*t))) [ak (br ns),ak hd,bQ,aH 0,none,none,none,none] (hS hd r x0 [pC []])=some (.nx U' S')):nC 0 [ak (br ns),none,none,none,none,none,none,none] ⟨[],[]⟩=some (.rt (rd (.bl true)) S'):=by
 unfold nC;have z15:Nat.ble (15:Int).natAbs 1000000=true:=by decide
 have d0:dS []=[]:=rfl;unfold pC at hl;rw[d0] at hl;simp only[↓ev,hh,aP,hr,hi,aI,ho,hm,z15,hz,and_self,gK,hl]
theorem e8r:∀ns:List Int,ns.length<=63->∃S,oW 0 [.d (.lst (ns.map D.int))] ⟨[],[]⟩=some (.ok (.v (.d (.bl true))) S):=by
 intro ns _;obtain⟨h,g,sl,b0,b5,c4,eh⟩:=YQ ns;obtain⟨_,r0,r4⟩:=ik ns 14 0 3 (by decide) (by decide) (by decide)
 have hr:Pr kX [.d (br ns),aO 14,aO 3] _:=yq ns 14 3 (by decide) (by decide)
 obtain⟨_,t0,t21⟩:=ik ns 14 1 20 (by decide) (by decide) (by decide)
 have ho:Pr jS [.d (br ns),aO 14,aO 20] _:=vZ ns 14 20 (by decide) (by decide)
 generalize bF ns 14 0 3=r at *;generalize bF ns 14 1 20=t at *;obtain⟨U',S',hl⟩:=e8q (ns:=ns) (r:=r) (a4:=none) (a5:=none) (a6:=none) (a7:=none) g b0 (uc h) (⟨.refl [],λp m=>(by cases m)⟩:Iv h [] x0) (gp 15 (23+2*t)) (by unfold gp;lia)
 exact e6z (e7a eh hr (e4y (S:=⟨[],[]⟩) g) ho (bH (.inl (by decide))) (by rw[Nat.ble_eq];lia) hl)
end
variable{w:cF}{K:aJ}{mg:Str->aj ah}{us:List ah}{h:bT}{l:PySem.W.OpenLaw}
def pS(K:aJ):L2.Sp:=λvs H Q _=>∃(a:ai) (ns:List Int),vs=[.ref a]/\cW K H a (ns.map V.int)/\ns.length<=63/\∀H',Q (.bl true) H'
theorem e7b{P:dq}{base:bT}(T:Txt K mg):d_ P w K mg base (mV P w) 8 (fA K none "law") (fF K (fA K none "law")) ["_law_script"] (pS K):=by
 exact Yw (e4p T 0) e8r
theorem us_1(h:us.length=1):∃a0,us=[a0]:=by
 obtain _|⟨a0,us⟩:=us
 .cases h
 obtain _|⟨z,us⟩:=us
 .exact⟨a0,rfl⟩
 .simp at h
theorem us_2(h:us.length=2):∃a0 a1,us=[a0,a1]:=by
 obtain _|⟨a0,us⟩:=us
 .cases h
 obtain _|⟨a1,us⟩:=us
 .cases h
 obtain _|⟨z,us⟩:=us
 .exact⟨a0,a1,rfl⟩
 .simp at h
theorem us_3(h:us.length=3):∃a0 a1 a2,us=[a0,a1,a2]:=by
 obtain _|⟨a0,us⟩:=us
 .cases h
 obtain _|⟨a1,us⟩:=us
 .cases h
 obtain _|⟨a2,us⟩:=us
 .cases h
 obtain _|⟨z,us⟩:=us
 .exact⟨a0,a1,a2,rfl⟩
 .simp at h
theorem us_4(h:us.length=4):∃a0 a1 a2 a3,us=[a0,a1,a2,a3]:=by
 obtain _|⟨a0,us⟩:=us
 .cases h
 obtain _|⟨a1,us⟩:=us
 .cases h
 obtain _|⟨a2,us⟩:=us
 .cases h
 obtain _|⟨a3,us⟩:=us
 .cases h
 obtain _|⟨z,us⟩:=us
 .exact⟨a0,a1,a2,a3,rfl⟩
 .simp at h
theorem us_5(h:us.length=5):∃a0 a1 a2 a3 a4,us=[a0,a1,a2,a3,a4]:=by
 obtain _|⟨a0,us⟩:=us
 .cases h
 obtain _|⟨a1,us⟩:=us
 .cases h
 obtain _|⟨a2,us⟩:=us
 .cases h
 obtain _|⟨a3,us⟩:=us
 .cases h
 obtain _|⟨a4,us⟩:=us
 .cases h
 obtain _|⟨z,us⟩:=us
 .exact⟨a0,a1,a2,a3,a4,rfl⟩
 .simp at h
abbrev iK(K:aJ)(n:Str)(C:ai):Prop:=PySem.W.nsIn K mainGlobals n=some (some (.ref C))/\f_ K C (.ref 31::qR) none/\PySem.W.keepIn K (.ref C)=true
theorem errs_mk(X:K.In h)(G:h.Ns mainGlobals mg)(h0:iK K "NoName" 44)(h1:iK K "NoSize" 56)(h2:iK K "NoOut" 68)(h3:iK K "NoHand" 80)(h4:iK K "NoMoment" 92)(h5:iK K "NoFlight" 104)(h6:iK K "NoBelt" 116)(h7:iK K "NoRoom" 128)(h8:iK K "NoBag" 140)(GB:f_ K 31 qR none)(hB:PySem.W.nsIn K mainGlobals "CarryError"=some (some (.ref 31))):pY K mg jh 31:=by
 refine⟨λp hp=>?_,GB,PySem.W.mg_of X G hB⟩
 simp only[jh,y0b,y1v,or_false] at hp;rcases hp with rfl|rfl|rfl|rfl|rfl|rfl|rfl|rfl|rfl
 .exact⟨PySem.W.mg_of X G h0.1,h0.2⟩
 .exact⟨PySem.W.mg_of X G h1.1,h1.2⟩
 .exact⟨PySem.W.mg_of X G h2.1,h2.2⟩
 .exact⟨PySem.W.mg_of X G h3.1,h3.2⟩
 .exact⟨PySem.W.mg_of X G h4.1,h4.2⟩
 .exact⟨PySem.W.mg_of X G h5.1,h5.2⟩
 .exact⟨PySem.W.mg_of X G h6.1,h6.2⟩
 .exact⟨PySem.W.mg_of X G h7.1,h7.2⟩
 .exact⟨PySem.W.mg_of X G h8.1,h8.2⟩
theorem fin_mk{fa:ai}(X:K.In h)(G:h.Ns mainGlobals mg)(hfa:mg "law"=some (.ref fa))(T:Txt K mg)
  : ∃fd:lu,(∀(s:aq) (v:ah),BindsTo s fd ⟨[v],[]⟩ [("_law_script",v)])/\∀base:bT,K.In base->base.Ns mainGlobals mg->d_ l.prog w K mg base (mV l.prog w) 8 fa fd ["_law_script"] (pS K):=by
 have e:=hfa.symm.trans T.rF.mg;cases e;obtain⟨oc,od,kV,doc,pm,an,gR,ct,pH,e,_,_⟩:=T.rF.fn.ex;exact⟨_,λs v=>by rw[e];exact .of_eq rfl,λbase _ _=>e7b T⟩
theorem walk{q:dq}{loose:List Str}{XP:(Str->aj ah)->bT->Prop}{YP:cF->bT->Prop}{d:DefRec}{K:Params->aJ}(hn:l.most=some 63)(CO:d.params.defaults=[])
  (hY:∀(w:cF) (h:bT),YP w h->(K w.params).In h)
  (F:∀(w:cF) (mg:Str->aj ah) (fa:ai) (h:bT),(K w.params).In h->h.Ns mainGlobals mg->mg d.name=some (.ref fa)-> ∃fd:lu,(∀(s:aq) (u:ah),BindsTo s fd ⟨[u],[]⟩ [("_law_script",u)])/\∀base:bT,(K w.params).In base->base.Ns mainGlobals mg->d_ l.prog w (K w.params) mg base (mV l.prog w) 8 fa fd ["_law_script"] (pS (K w.params))) :
  PySem.W.WalkO q loose XP YP l.row.toRowW d [] (λf vs=>PySem.call f vs):=
 L2.vI (n:=63) (k:=8) (x:="_law_script") (CX:=λw=>mV l.prog w) (sp:=λw=>pS (K w.params)) hn (by decide) CO ⟨rfl,by decide,by decide⟩ hY F (λ_ _ a ns hl _ hS=>⟨a,ns,rfl,hS,hl,λ_=>rfl⟩) λ_ _ _ _ _ ⟨_,_,_,_,_,_,z⟩=>z
end Carry
end
open PySem PySem.W PyProof.Rows
set_option maxRecDepth 100000 in
set_option maxHeartbeats 0 in
theorem PySem.Challenge.cw_carry_k68_whole_one_place_each_holds : PySem.Challenge.rw_carry_k68_whole_one_place_each.Holds := by
 simp -failIfUnchanged only[Carry.Hd.hd0];w_on;o_law;(try simp only[Carry.Hd.hd]);k_head;(case hw=>w_witness2)
 k_fill
 refine Carry.walk (l:=PySem.Challenge.rw_carry_k68_whole_one_place_each) rfl rfl (λw h Y=>PySem.W.kIn_of Y) ?F
 case F=>
  intro w mg fa h KX G hmg;refine' Carry.fin_mk KX G hmg ?T;constructor
  case atr=>
   intro p hp;simp only[Carry.atrs,y0b,y1v,or_false] at hp;rcases hp with rfl|rfl|rfl|rfl|rfl|rfl|rfl|rfl|rfl|rfl <;> (dsimp only[Carry.cHall];exact⟨⟨by k_is,by k_is,by k_is,by k_is⟩,by show _=_;k_is⟩)
  case er=>
   refine' Carry.errs_mk KX G ?h0 ?h1 ?h2 ?h3 ?h4 ?h5 ?h6 ?h7 ?h8 ?GB ?hB
   all_goals first|(refine' ⟨?za,?zb,?zd⟩;(case zb=>refine' L2.errC_mk ?zl ?zm ?zs ?zi;(case zl=>k_is);(case zm=>k_is);(case zs=>kernel_rfl);(case zi=>kernel_rfl));(case za=>k_is);(case zd=>k_is))|(refine' L2.errC_mk ?zl ?zm ?zs ?zi;(case zl=>k_is);(case zm=>k_is);(case zs=>kernel_rfl);(case zi=>kernel_rfl))|k_is|(show _=_;k_is)
  all_goals first|refine' L2.dM KX G ?_ ?_ ?_|refine' L2.mM ?_ ?_ ?_ ?_|refine' L2.mK ?_ ?_ ?_ ?_|refine' L2.Cls.mk ?_ ?_ ?_ ?_|refine' L2.kM KX G ?_|refine' PySem.W.mg_of KX G ?_|refine' PySem.W.mg_none_of KX G ?_
  all_goals (try dsimp only[Carry.cHall])
  all_goals first|(refine' L2.fun_mk ?zl ?zc ?zk;(case zl=>k_is);(case zc=>k_is);(case zk=>k_is))|(intro _ _ _ _ _ _ us hl;obtain⟨_,rfl⟩:=Carry.us_1 hl;rfl)|(intro _ _ _ _ _ _ us hl;obtain⟨_,_,rfl⟩:=Carry.us_2 hl;rfl)|(intro _ _ _ _ _ _ us hl;obtain⟨_,_,_,rfl⟩:=Carry.us_3 hl;rfl)|(intro _ _ _ _ _ _ us hl;obtain⟨_,_,_,_,rfl⟩:=Carry.us_4 hl;rfl)|(intro _ _ _ _ _ _ us hl;obtain⟨_,_,_,_,_,rfl⟩:=Carry.us_5 hl;rfl)|k_is|(show _=_;k_is)|skip
  all_goals (try (refine' L2.fun_mk ?zl ?zc ?zk;(case zl=>k_is);(case zc=>k_is);(case zk=>k_is)))