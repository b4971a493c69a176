import PyProof.Rows.All
import Wide.All
import OpenK.AllK
import Wide.FinOn
import Lean
import PyProof.EqAt
import PyProof.EqKinds
import PyProof.TupleCall
import PyProof.StationsW
import PyProof.ExcClass3
import PyProof.ExcInit
import PyProof.ExcBaseAll.ValueError
import PyProof.ExcArgsOwn
import KE.KIsAll
import PyProof.ExcAttrAll.ValueError
import PyProof.InstStoreFacts
import KE.KTryMore
import PyProof.RulesAs
import PyProof.NsDelKeeps
import KE.KRevIter
import PyProof.SeqI3
import PyProof.DictWalks
import PyProof.EnumIter
import PyProof.EnumStmt
import PyProof.EnumMake
import PyProof.WalksEnum
import PyProof.FactsAll.NoneType_1
import PyProof.NeKinds
import KE.KDictList
import KE.KItemsList
import PyProof.Rows.SortShell
import PyProof.WalkInts
import PyProof.MeetsSeq
import PyProof.SeqRoads2
import KE.KDictOf
import PyProof.AttrMissHeap
import KE.KSortTup
import PyProof.Rows.SortWalk
import PyProof.Rows.SumAny
import PySem.Challenge.RW_carry_k69_whole_nothing_stands_for_ever
set_option linter.all false
set_option bootstrap.genMatcherCode false
set_option compiler.extract_closed false
set_option compiler.reuse false
set_option genSizeOf false
set_option genSizeOfSpec false
def bh:=@List.length_map.{0,0}
def bM:=@Nat.le_refl
def bQ:=@List.map_cons.{0,0}
def cB:=@Option.bind_eq_some_iff.{0,0}
def y04:=@List.mem_cons.{0}
def cO:=@PySem.Heap.lt_size
theorem cU:type_of% @Option.any_some.{0}:=rfl
def c8:=@PySem.Heap.get?_push_of_some
def dm:=@Option.map_eq_some_iff.{0,0}
def dr:=@List.mem_append.{0}
def du:=@List.length_append.{0}
def dA:=@List.size_toArray.{0}
def dB:=@List.map_append.{0,0}
def dZ:=@List.mem_map.{0,0}
def eP:=@Bool.and_eq_true
def eQ:=@List.getElem?_eq_some_iff.{0}
def fJ:=@List.map_map.{0,0,0}
def fX:=@Nat.lt_of_lt_of_le
def gR:=@Nat.ne_of_lt
def gY:=@List.getElem?_map.{0,0}
def i7:=@Nat.le_trans
def i8:=@List.getElem?_eq_getElem.{0}
def i9:=@Nat.max_self
theorem ju:type_of% @List.length_cons.{0}:=rfl
def jv:=@List.contains_iff_mem.{0}
def jR:=@PySem.Heap.get?_push_size
def jS:=@List.nodup_append.{0}
def j9:=@Nat.lt_irrefl
def j_:=@List.mem_map_of_mem.{0,0}
def lz:=@List.mem_singleton.{0}
def lG:=@Bool.not_true
def lY:=@List.append_nil.{0}
def lZ:=@List.prefix_refl.{0}
def l0:=@List.append_assoc.{0}
def mU:=@Nat.zero_le
def mV:=@Bool.not_false
def nW:=@List.length_set.{0}
def pF:=@Bool.false_ne_true
def pG:=@List.mem_filterMap.{0,0}
def pH:=@List.map_congr_left.{0,0}
def pP:=@List.filterMap_cons.{0,0}
def pQ:=@List.mem_append_right.{0}
def pR:=@List.all_eq_true.{0}
def qm:=@List.mem_cons_of_mem.{0}
def qo:=@List.nodup_cons.{0}
def qp:=@PySem.Heap.get?_update_other
def qr:=@List.all_cons.{0}
def q_:=@List.length_replicate.{0}
def r9:=@List.mem_cons_self.{0}
theorem r_:type_of% @List.lookup_cons.{0,0}:=rfl
def sE:=@List.mem_filter.{0}
def sF:=@List.mem_range
def sG:=@PySem.Heap.get?_update_self
def sH:=@Bool.false_eq_true
def sJ:=@List.sum_cons.{0}
def uS:=@List.mem_of_getElem?.{0}
def uT:=@List.find?_cons.{0}
def vA:=@List.getElem?_append_right.{0}
def vB:=@List.length_singleton.{0}
def vC:=@List.filter_cons.{0}
def vD:=@List.take_of_length_le.{0}
def vE:=@Option.bind_some.{0,0}
def vF:=@Array.getElem?_eq_getElem.{0}
def vG:=@List.length_range
def vH:=@Int.mul_nonneg
def xA:=@List.getElem?_set_self.{0}
def xD:=@Nat.lt_succ_self
def xE:=@Nat.le_succ
def xF:=@List.getElem?_append_left.{0}
def xG:=@List.map_nil.{0,0}
def yY:=@Nat.ne_of_gt
def yZ:=@List.length_take.{0}
def y0:=@Array.getElem?_toList.{0}
def y6:=@List.length_filter_le.{0}
def y7:=@List.nil_append.{0}
def y8:=@Bool.eq_false_iff
theorem y9:type_of% @Option.isSome_some.{0}:=rfl
def A':=@Nat.lt_succ_of_lt
def Ba:=@Bool.eq_iff_iff
def Bb:=@List.mem_iff_getElem?.{0}
def Bc:=@List.getElem?_range
def Bd:=@Nat.le_of_ble_eq_true
theorem Be:type_of% @Option.isSome_none.{0}:=rfl
def Bf:=@List.getElem?_eq_none.{0}
def Bg:=@Int.le_refl
def Cm:=@List.getElem?_set_ne.{0}
def Cn:=@List.length_drop.{0}
theorem Co:type_of% @List.length_nil.{0}:=rfl
def Cp:=@Array.getElem?_eq_some_iff.{0}
def y1r:=@List.not_mem_nil.{0}
def Cq:=@Bool.and_eq_true_iff
def Cr:=@List.getD_eq_getElem?_getD.{0}
def Cs:=@List.filterMap_nil.{0,0}
def FF:=@List.mem_append_left.{0}
def FG:=@List.getElem_inj.{0}
def FH:=@Nat.le_of_eq
def FI:=@List.getElem_mem.{0}
def FJ:=@List.all_map.{0,0}
def FC:=@Option.map_some.{0,0}
def FD:=@List.find?_eq_none.{0}
def FE:=@PySem.Heap.get?_push_ne
def IB:=@Nat.le_of_lt
theorem IC:type_of% @Array.length_toList.{0}:=rfl
def ID:=@List.drop_of_length_le.{0}
def IE:=@Nat.le_add_right
def IF:=@List.filter_sublist.{0}
def IG:=@Bool.or_false
def IH:=@List.nodup_nil.{0}
def II:=@PySem.Heap.get?_update_ne
theorem IJ:type_of% @List.foldl_cons.{0,0}:=rfl
def IK:=@List.map_drop.{0,0}
def IL:=@List.pairwise_map.{0,0}
def IM:=@List.set_set.{0}
def IP:=@Bool.or_true
def IQ:=@List.mem_of_find?_eq_some.{0}
def IS:=@Option.getD_some.{0}
def IT:=@List.length_filterMap_le.{0,0}
def IU:=@Int.mul_le_mul_of_nonneg_left
def Nu:=@Array.mem_toList_iff.{0}
def Nv:=@List.getElem?_replicate.{0}
def Nw:=@Bool.or_eq_true
def Nx:=@Nat.sub_self
def Ny:=@Nat.lt_of_le_of_lt
def Nz:=@List.drop_eq_getElem_cons.{0}
def NA:=@List.nodup_range
def NB:=@List.any_eq_true.{0}
def NC:=@List.ext_getElem?.{0}
def ND:=@List.take_length.{0}
def NF:=@List.foldl_append.{0,0}
def NG:=@PySem.Heap.size_update
def NH:=@List.filterMap_cons_none.{0,0}
def NI:=@List.filterMap_cons_some.{0,0}
def NJ:=@List.cons_ne_nil.{0}
def NK:=@List.map_take.{0,0}
def NL:=@Nat.ble_eq_true_of_le
def NM:=@Bool.true_or
def NN:=@List.find?_some.{0}
def NO:=@List.filterMap_append.{0,0}
def NP:=@List.set_getElem_self.{0}
def ay:=@PySem.wpAny_bind
def aV:=@PySem.wpAny_pure
def pS:=@if_true.{1}
def aX:=@if_pos.{1}
def aM:=@if_neg.{1}
def j':=@if_false.{1}
def sd:=@decide_eq_true
def sL:=@decide_eq_false
def eL:=@beq_self_eq_true.{0}
def lH:=@PySem.wpAny_holding
def y9a:=@decide_eq_true_iff
def xI:=@of_decide_eq_true
def nQ:=@beq_eq_false_iff_ne.{0}
def y9d:=@Classical.byContradiction
def b_:=@absurd.{0}
def uU:=@True.intro
def bJ:=@eq_true
namespace Carry.Hd
open Lean Meta PySem PySem.W
abbrev kC:=@mkConst
abbrev aM:=@mkAppM
abbrev nL:=mkRawNatLit
abbrev Ex:=Lean.Expr
def fit(ds:Array (Ex×Ex×Ex)):MetaM (Array (Ex×Ex×Ex)):=do
 let cs:Std.HashSet Ex:=ds.foldl (λz d=>if d.1.isConst then z.insert d.1 else z) {}
 ds.filterM λd=>do
  let ty:=Fast.bareType (<-inferType d.1)
  return (ty.find? λy=>cs.contains y || y.isConstOf ``PySem.W.Frag).isNone
def spots(ds:Array (Ex×Ex×Ex)):Std.HashMap Ex Nat:=ds.zipIdx.foldl (λz d=>z.insert d.1.1 d.2) {}
def parts(tw:Name->MetaM Unit)(v:Ex):MetaM (Array (Ex×Ex×Ex)):=do
 for x in Fast.constsOf v do
  if let .const c _:=x then
   if((<-getEnv).getModuleIdxFor? c).isNone || (`PySem.Challenge).isPrefixOf c then tw c
 fit (<-Fast.twinsIn v)
def twin:Nat->Name->MetaM Unit
 |0,_=>return
 |k+1,c=>do
  let (n,e) <-Fast.stemIn c true
  if(<-getEnv).contains e then return
  if let some none:=(<-Fast.primed.get).get? c then return
  let some (.defnInfo d):=(<-getEnv).find? c|return
  let ds <-parts (twin k) d.value
  if ds.isEmpty then
   Fast.primed.modify λz=>z.insert c none
   return
  let ix:=spots ds
  withOptions (Elab.async.set · false) do
   addDecl (.defnDecl { name:=n,levelParams:=[],type:=d.type,value:=Fast.putIn ix (λi=>ds[i]!.2.1) d.value,hints:=d.hints,safety:=.safe})
   addDecl (.thmDecl { name:=e,levelParams:=[],type:=<-mkEq (kC c) (kC n),value:=<-mkEqRefl (kC c)})
  Fast.primed.modify λz=>z.insert c (some (n,e))
def prep(v:Ex):MetaM (Array (Ex×Ex×Ex)):=parts (twin 9) v
def put(stem:Name)(ty v:Ex):MetaM Ex:=do
 let ds <-prep v
 let c <-defAt stem ty (Fast.putIn (spots ds) (λi=>ds[i]!.2.1) v)
 Fast.primed.modify λz=>z.insert c.constName! none
 return c
abbrev Objs:=Array (Obj×Obj×Ex)
def lay(old:Objs)(s t:Shared):MetaM Objs:=do
 let P:=kC ``Params
 unless s.heap.objs.size == t.heap.objs.size && s.toks == t.toks && toExpr s.drawn == toExpr t.drawn && toExpr s.heap.life == toExpr t.heap.life do throwError "the worlds part"
 let mut out:=#[]
 for i in [0:s.heap.objs.size] do
  let (a,b):=(s.heap.objs[i]!,t.heap.objs[i]!)
  if let some (a',b',e):=old[i]? then
   if sameObjNow a' a && sameObjNow b' b then
    out:=out.push (a',b',e)
    continue
  let v <-withLocalDeclD `P P λp=>do
   let e:=objE p a
   unless e == objE p b do throwError "an object is the world's"
   mkLambdaFVars #[p] e
  out:=out.push (a,b,<-put `o (<-mkArrow P (kC ``Obj)) v)
 return out
def state(l:Bool)(old:Objs)(s t:Shared):MetaM (Objs×W.State):=do
 let P:=kC ``Params
 let os <-lay old s t
 let life:=toExpr s.heap.life
 let S:W.State:={ heap:=default,gens:=<-gensE s t,drawn:=toExpr s.drawn,toks:=nL s.toks}
 if l then
  let v <-withLocalDeclD `P P λp=>mkLambdaFVars #[p] (mkApp2 (kC ``Heap.mk) (mkApp2 (kC ``Array.mk [0]) (kC ``Obj) (listE (kC ``Obj) (os.toList.map λx=>mkApp x.2.2 p))) life)
  return (os,{ S with heap:=<-put `h (<-mkArrow P (kC ``Heap)) v})
 let v <-withLocalDeclD `P P λp=>mkLambdaFVars #[p] (treeE p (os.map (·.2.2)) 1 0)
 return (os,{ S with tree:=some (<-put `t (<-mkArrow P (kC ``BT)) v,nL s.heap.objs.size,life)})
def aux(ty pf:Ex):MetaM Ex:=do return kC (<-withOptions (Elab.async.set · false) (mkAuxLemma [] ty pf (cache:=false)))
def look:Nat->Ex->Ex->MetaM Ex
 |k,l,r=>do
  let W:=kC ``World
  let O:=kC ``OsState
  let q <-withLocalDeclD `w W λw=>withLocalDeclD `os O λos=>do
   let un (e:Ex):MetaM Ex:=do
    let e:=(mkApp2 e w os).headBeta
    if e.isAppOf ``openSeen || e.isAppOf ``openGood then return (<-unfoldDefinition? e).getD e
    return e
   let (a,b):=(<-un l,<-un r)
   unless a.isAppOfArity ``Prod.mk 4 && b.isAppOfArity ``Prod.mk 4 do return none
   let sh (e:Ex) (i:Nat):MetaM Ex:=mkLambdaFVars #[w,os] (e.getArg! i)
   return some (<-sh a 2,<-sh b 2,<-sh a 3,<-sh b 3)
  match k,q with
  |n+1,some (a1,b1,a2,b2)=>
   let (x,y):=(<-look n a1 b1,<-look n a2 b2)
   let (ty,pf) <-withLocalDeclD `w W λw=>withLocalDeclD `os O λos=>do
    return (<-mkForallFVars #[w,os] (<-mkEq (mkApp2 l w os).headBeta (mkApp2 r w os).headBeta),<-mkLambdaFVars #[w,os] (<-aM ``looks_pair #[mkApp2 x w os,mkApp2 y w os]))
   aux ty pf
  |_,_=>
   let P <-withLocalDeclD `w W λw=>do mkLambdaFVars #[w] (<-mkEq (mkApp l w).headBeta (mkApp r w).headBeta)
   discard <| prep P
   let e <-byKernelQuick P []
   withLocalDeclD `w W λw=>withLocalDeclD `os O λos=>do mkLambdaFVars #[w,os] (<-aM ``congrFun #[mkApp e w,os])
def most:Nat:=3000
def left(g:MVarId)(pE:Ex)(p:Program)(_:List String):MetaM Unit:=g.withContext do
 let a:=(<-instantiateMVars (<-g.getType)).consumeMData.getAppArgs
 let some N <-(Meta.evalNat a[7]!).run|throwError "no number"
 let (.ok t,.ok t'):=(<-traceTop p N 1,<-traceTop p N 2)|throwError "no trace"
 let tb:=kC ``treeTable
 let (W,O):=(kC ``World,kC ``OsState)
 let m0:=nL t.s0.heap.objs.size
 let ann:=toExpr t.ann
 let main <-aM ``Program.main #[pE]
 let op <-aM ``opening #[pE]
 let e1 <-aux (<-mkEq op (mkApp (kC ``plainProg) (<-aM ``Scope.names #[<-aM ``Module.scope #[main]]))) (<-mkEqRefl op)
 let e2 <-withLocalDeclD `s (kC ``Shared) λs=>do
  let r <-aM ``some #[s]
  aux (<-mkForallFVars #[s] (<-mkEq (mkApp2 (kC ``fenceModules?) pE s) r)) (<-mkLambdaFVars #[s] (<-mkEqRefl r))
 let e3 <-mkDecideProof (<-mkEq (mkApp2 (kC ``Nat.ble) (nL 600) a[7]!) (kC ``Bool.true))
 let boot:=mkAppN (kC ``boot_open) #[pE,a[7]!,e1,e3,e2]
 let bE <-aM ``behindTheImports #[pE]
 let some cells <-cellsD? bE|throwError "no body"
 let env0 <-Elab.Term.TermElabM.run' do
  let s1 <-Elab.Term.exprToSyntax (<-aM ``Module.scope #[main])
  let s2 <-Elab.Term.exprToSyntax (toExpr t.code)
  let e <-Elab.Term.withSynthesize (Elab.Term.elabTermEnsuringType (<-`(({ scope:=$s1,locals:=mainNs,globals:=mainNs,cells:=[],code:=$s2,frame:=some $(quote t.frame)}:Env))) (kC ``Env))
  instantiateMVars e
 let env <-defAt `env (kC ``Env) env0
 let fp:=toExpr t.framePos
 let cE:=mkApp2 (kC ``Code.body) bE env
 let B:=listE (kC ``Frame) [mkApp (kC ``topFrame) fp]
 let go (f:Name) (more:Array Ex) (n:Nat) (w s th:Ex):Ex:=mkAppN (kC f) (#[tb,pE,w,m0,ann]++more++#[nL n,s,th])
 let one:=#[nL 1]
 let piece (rows:List String) (l r:Ex->Ex->MetaM Ex):MetaM Ex:=do
  for x in [pE,env] do discard <| prep x
  byPiece rows l r
 let ends (S:Ex) (pos:Pos):MetaM Ex:=do aM ``some #[<-aM ``Prod.mk #[kC ``Flow.next,<-aM ``Prod.mk #[S,<-aM ``Prod.mk #[cE,toExpr pos]]]]
 let rowsOf (x y:Snap):=(x.rows++y.rows).eraseDups
 let mut o:Objs:=#[]
 for i in [0:t.s0.heap.objs.size] do o:=o.push (t.s0.heap.objs[i]!,t'.s0.heap.objs[i]!,kC ((`PySem.W).str s!"boot_o_{i}"))
 let S0:PySem.W.State:={ heap:=kC ``boot_heap,gens:=mkApp2 (kC ``Array.mk [0]) (kC ``GenState) (mkApp (kC ``List.nil [0]) (kC ``GenState)),drawn:=kC ``boot_drawn,toks:=kC ``boot_toks}
 let (o1,Sa) <-state true o t.pre.s t'.pre.s
 let thA:=mkApp4 (kC ``Thread.mk) (mkApp2 (kC ``denote) tb cE) cE (toExpr t.pre.pos) B
 let stub:=mkApp (kC ``topStub) pE
 let pre <-piece (rowsOf t.pre t'.pre) (λw os=>pure (go ``topGo #[] t.pre.steps w (S0.at w os) stub)) λw os=>do aM ``some #[<-aM ``Prod.mk #[Sa.at w os,thA]]
 let (o2,Sb) <-state false o1 t.block.s t'.block.s
 let block <-piece (rowsOf t.block t'.block) (λw os=>pure (go ``segRun one t.block.steps.succ w (Sa.at w os) (mkAppN (kC ``blockOf) #[bE,env,cE,toExpr t.pre.pos,B]))) λw os=>ends (Sb.at w os) t.block.pos
 let mut gs:Array (List Ex×Nat×Snap×Snap×List String):=#[]
 for (st,x,x') in cells.zip (t.pieces.zip t'.pieces) do
  let k:=max x.steps x'.steps
  let rs:=rowsOf x x'
  match gs.back? with
  |some (l,n,_,_,r)=>
   if n+k<=most && (r++rs).eraseDups.length<=3 then gs:=gs.pop.push (l++[st],n+k,x,x',(r++rs).eraseDups) else gs:=gs.push ([st],k,x,x',rs)
  |none=>gs:=gs.push ([st],k,x,x',rs)
 let mut cur:=(o2,Sb,t.block.pos)
 let mut lems:=#[]
 for (sts,n,x,x',rs) in gs do
  let stE <-defAt `st (mkApp (kC ``List [0]) (kC ``Stmt)) (listE (kC ``Stmt) sts)
  discard <| prep stE
  let (o0,S1,p1):=cur
  let (o',S') <-state false o0 x.s x'.s
  let th:=mkAppN (kC ``piecesOf) #[stE,env,cE,toExpr p1,B]
  let h <-piece rs (λw os=>pure (go ``segRunT one n.succ w (S1.atT w os) th)) λw os=>ends (S'.atT w os) x.pos
  lems:=lems.push (stE,n.succ,S1,p1,S',x.pos,<-liftT h ``segRun_of)
  cur:=(o',S',x.pos)
  logInfo m!"PIECE {sts.length} {n} {x.s.heap.objs.size}"
 let (oN,SN,pN):=cur
 let (_,Sf) <-state true oN t.fin.s t'.fin.s
 let fin <-piece (rowsOf t.fin t'.fin) (λw os=>pure (go ``topRun #[] t.fin.steps.succ w (SN.at w os) (mkApp4 (kC ``Thread.mk) (mkApp (kC ``doneF) (kC ``Flow.next)) cE (toExpr pN) B))) λw os=>aM ``some #[Sf.at w os]
 let run <-withLocalDeclD `w W λw=>withLocalDeclD `os O λos=>do
  let w1 (l:Ex):MetaM Ex:=do aM ``congrFun #[mkApp l w,os]
  let r:=Sf.at w os
  let com:=#[tb,pE,w,m0,ann,env,fp]
  let mut k <-w1 fin
  let mut M:=nL t.fin.steps.succ
  let mut rest:=listE (kC ``Stmt) []
  for (stE,n,S1,p1,S',p2,h) in lems.toList.reverse do
   k:=mkAppN (kC ``piece_app) (com++#[nL n,M,S1.at w os,S'.at w os,r,stE,rest,cE,toExpr p1,toExpr p2,<-w1 h,k])
   M:=mkApp2 (kC ``Nat.add) (nL n) M
   rest <-aM ``HAppend.hAppend #[stE,rest]
  k:=mkAppN (kC ``piece_block) (com++#[nL t.block.steps.succ,M,Sa.at w os,Sb.at w os,r,bE,cE,toExpr t.pre.pos,toExpr t.block.pos,<-w1 block,k])
  M:=mkApp2 (kC ``Nat.add) (nL t.block.steps.succ) M
  k:=mkAppN (kC ``go_top) #[tb,pE,w,m0,ann,nL t.pre.steps,M,S0.at w os,Sa.at w os,r,stub,thA,<-w1 pre,k]
  M:=mkApp2 (kC ``Nat.add) (nL t.pre.steps) M
  let ty <-mkEq (mkAppN (kC ``topRun) #[tb,pE,w,m0,ann,M,S0.at w os,stub]) (<-aM ``some #[r])
  return (M,<-aux (<-mkForallFVars #[w,os] ty) (<-mkLambdaFVars #[w,os] k))
 let lem:=kC ``LeftO.of_pieces
 let (ms,_,_) <-forallMetaTelescope (<-inferType lem)
 let vs:=#[pE,a[1]!,a[2]!,a[3]!,a[4]!,a[5]!,a[6]!,a[7]!,a[8]!,S0.heap,Sf.heap,S0.gens,Sf.gens,S0.drawn,Sf.drawn,S0.toks,Sf.toks,m0,ann,run.1]
 for (m,v) in ms.zip vs do m.mvarId!.assign v
 let want (i:Nat):MetaM Ex:=do instantiateMVars (<-inferType ms[i]!)
 let .forallE n1 d1 b1 i1 <-want 21|throwError "size"
 let size <-byKernelQuick (.lam n1 d1 b1 i1) []
 let .forallE _ _ bl _ <-want 24|throwError "looks"
 let (l,r) <-withLocalDeclD `w W λw=>do
  let some (_,l,r):=(bl.instantiate1 w).eq?|throwError "looks"
  return (<-mkLambdaFVars #[w] l,<-mkLambdaFVars #[w] r)
 let h <-look 12 l r
 let looks <-withLocalDeclD `w W λw=>do
  let f <-withLocalDeclD `os O λos=>mkLambdaFVars #[os] (mkApp2 h w os)
  mkLambdaFVars #[w] (<-aM ``funext #[f])
 g.assign (mkAppN lem (vs++#[boot,size,run.2,<-mkDecideProof (<-want 23),looks]))
simproc_decl hd0 (PySem.W.OpenLaw.Holds _):=λe=>do
 if let .const (.str p s) _:=e.appArg! then twin 9 (p.str ("p"++(s.drop 1).toString))
 return .continue
simproc_decl hd (PySem.W.OpenRow.Holds _):=λ_=>do
 PySem.W.leftPieces.set (some left)
 return .continue
end Carry.Hd
noncomputable section
set_option Elab.async false
set_option maxRecDepth 100000
abbrev ai:=@PySem.Value
abbrev au:=@PySem.Shared
abbrev ag:=@PySem.Addr
abbrev ak:=@Option.{0}
abbrev bR:=@PySem.FuncData
abbrev cQ:=@PySem.Around
abbrev de:=@PySem.Program
abbrev qt:=@PySem.NameKind
abbrev bV:=@PySem.Heap
abbrev cC:=@PySem.World
namespace L2
open PySem PySem.Spec PyProof.Rows
abbrev Key:=Sum Int Str
noncomputable def yD:Key->ai->Bool
 |.inl k,v=>Value.isInt k v
 |.inr x,v=>Value.isStrOf x v
noncomputable def Mc(w:cC):Key->Int
 |.inl k=>hashInt k
 |.inr x=>hashStr w x
theorem zy:∀{k:Key} {v:ai},yD k v=true->(∃i t,k=Sum.inl i/\v=Value.int i t)\/(∃x t,k=Sum.inr x/\v=Value.str x t)
 |.inl i,v,h=>by
  obtain⟨t,e⟩:=Value.isInt_shape (k:=i) (v:=v) h;exact .inl ⟨i,t,rfl,e⟩
 |.inr x,v,h=>by
  obtain⟨t,e⟩:=Value.isStrOf_shape (x:=x) (v:=v) h;exact .inr ⟨x,t,rfl,e⟩
def e1m(a b:Int):decide ((Sum.inl a:Key)=Sum.inl b)=(a == b):=by
 by_cases e:a=b
 .subst e;simp
 .have h:¬(Sum.inl a:Key)=Sum.inl b:=λq=>e (Sum.inl.inj q)
  rw[sL h];exact(nQ.mpr e).symm
def e1n(a b:Str):decide ((Sum.inr a:Key)=Sum.inr b)=decide (a=b):=by
 by_cases e:a=b
 .subst e;simp
 .have h:¬(Sum.inr a:Key)=Sum.inr b:=λq=>e (Sum.inr.inj q)
  rw[sL h,sL e]
def e1o(a:Int)(b:Str):decide ((Sum.inl a:Key)=Sum.inr b)=false:=sL (λq=>nomatch q)
def e1p(a:Str)(b:Int):decide ((Sum.inr a:Key)=Sum.inl b)=false:=sL (λq=>nomatch q)
def Ki(prog:de)(w:cC):PySem.KeyKind prog w Key where
 is:=yD
 hash:=Mc w
 inj:=λv a b ha hb=>by
  grind [zy]
 byValue:=λk v h=>by
  rcases zy h with⟨i,t,rfl,rfl⟩|⟨x,t,rfl,rfl⟩ <;> rfl
 pyHash:=λhv h=>by
  rcases zy hv with⟨i,t,rfl,rfl⟩|⟨x,t,rfl,rfl⟩
  .exact wpAny_pyHash_int h
  .exact wpAny_pyHash_str h
 eqBool:=λhu hv h=>by
  rcases zy hu with⟨i,t,rfl,rfl⟩|⟨x,t,rfl,rfl⟩
  .rcases zy hv with⟨j,u,rfl,rfl⟩|⟨y,u,rfl,rfl⟩
   .rw[e1m] at h;exact wpAny_eqBool_int h
   .rw[e1o] at h;exact SeqAt.EqAt.int_str i t y u _ _ _ _ h
  .rcases zy hv with⟨j,u,rfl,rfl⟩|⟨y,u,rfl,rfl⟩
   .rw[e1p] at h;exact SeqAt.EqAt.str_int x t j u _ _ _ _ h
   .rw[e1n] at h;exact wpAny_eqBool_str h
 «strs»:=λk x t v h=>by
  rcases zy h with⟨i,u,rfl,e⟩|⟨y,u,rfl,e⟩
  .exact nomatch e
  .injection e with e1 _;subst e1;cases v <;> rfl
inductive V where
 |aI|bl (b:Bool)|int (i:Int)|str (x:Str)|x6 (b:Array UInt8)|yk (b:UInt64)|ref (a:ag)|ty (n:String)
 deriving DecidableEq
def RelV:V->ai->Prop
 |.aI,u=>u=Value.none
 |.bl b,u=>u=Value.bool b
 |.int i,u=>∃t,u=Value.int i t
 |.str x,u=>∃t,u=Value.str x t
 |.x6 b,u=>∃t,u=Value.bytes b t
 |.yk b,u=>∃t,u=Value.float b t
 |.ref a,u=>u=Value.ref a
 |.ty n,u=>u=Value.type n
abbrev Vals:List V->List ai->Prop:=Paired RelV
theorem Vals.length{xs:List V}{us:List ai}(r:Vals xs us):xs.length=us.length:=Paired.length r
theorem Vals.get:∀{xs:List V} {us:List ai} {i:Nat} {x:V},Vals xs us->xs[i]?=some x->∃u,us[i]?=some u/\RelV x u
 |_,_,_,_,.nil,e=>by simp at e
 |_,_,0,_,.cons r _,e=>by simp at e;subst e;exact⟨_,rfl,r⟩
 |_,_,i+1,x,.cons _ t,e=>by
  obtain⟨u,h1,h2⟩:=Vals.get (i:=i) (x:=x) t (by simpa using e)
  exact⟨u,by simpa using h1,h2⟩
theorem Vals.set{x:V}{u:ai}(r:RelV x u):∀{xs:List V} {us:List ai} (i:Nat),Vals xs us->Vals (xs.set i x) (us.set i u)
 |_,_,_,.nil=>.nil
 |_,_,0,.cons _ t=>.cons r t
 |_,_,i+1,.cons q t=>.cons q (Vals.set r i t)
def Vals.append{xs ys:List V}{us ws:List ai}(h:Vals xs us)(s:Vals ys ws):Vals (xs++ys) (us++ws):=by
 induction h with
 |nil=>exact s
 |cons r t ih=>exact .cons r ih
theorem Vals.take:∀{xs:List V} {us:List ai} (n:Nat),Vals xs us->Vals (xs.take n) (us.take n)
 |_,_,0,_=>.nil
 |_,_,_+1,.nil=>.nil
 |_,_,n+1,.cons r t=>.cons r (Vals.take n t)
theorem Vals.drop:∀{xs:List V} {us:List ai} (n:Nat),Vals xs us->Vals (xs.drop n) (us.drop n)
 |_,_,0,r=>r
 |_,_,_+1,.nil=>.nil
 |_,_,n+1,.cons _ t=>Vals.drop n t
def iz:ak V->ak ai->Prop
 |some v,some u=>RelV v u
 |none,none=>True
 |_,_=>False
def KV{κ:Type}:List (κ×V)->List (κ×ai)->Prop:=Paired λ(p:κ×V) (q:κ×ai)=>p.1=q.1/\RelV p.2 q.2
def kV:Key->V
 |.inl i=>.int i
 |.inr x=>.str x
inductive TK where
 |inl (i:Int)|inr (x:Str)|tp (l:List TK)|aI
mutual
def TK.beq:TK->TK->Bool
 |.inl a,.inl b=>decide (a=b)
 |.inr a,.inr b=>decide (a=b)
 |.tp l,.tp m=>TK.qe l m
 |.aI,.aI=>true
 |_,_=>false
def TK.qe:List TK->List TK->Bool
 |[],[]=>true
 |a::l,b::m=>TK.beq a b&&TK.qe l m
 |_,_=>false
end
mutual
theorem TK.beq_iff:∀a b:TK,TK.beq a b=true↔a=b
 |.inl a,.inl b=>by unfold TK.beq;rw[decide_eq_true_eq];exact⟨λe=>by rw[e],λe=>by cases e;rfl⟩
 |.inr a,.inr b=>by unfold TK.beq;rw[decide_eq_true_eq];exact⟨λe=>by rw[e],λe=>by cases e;rfl⟩
 |.tp l,.tp m=>by unfold TK.beq;rw[TK.ow l m];exact⟨λe=>by rw[e],λe=>by cases e;rfl⟩
 |.inl _,.inr _=>by unfold TK.beq;exact⟨λe=>(nomatch e),λe=>(nomatch e)⟩
 |.inl _,.tp _=>by unfold TK.beq;exact⟨λe=>(nomatch e),λe=>(nomatch e)⟩
 |.inr _,.inl _=>by unfold TK.beq;exact⟨λe=>(nomatch e),λe=>(nomatch e)⟩
 |.inr _,.tp _=>by unfold TK.beq;exact⟨λe=>(nomatch e),λe=>(nomatch e)⟩
 |.tp _,.inl _=>by unfold TK.beq;exact⟨λe=>(nomatch e),λe=>(nomatch e)⟩
 |.tp _,.inr _=>by unfold TK.beq;exact⟨λe=>(nomatch e),λe=>(nomatch e)⟩
 |.aI,.aI=>by unfold TK.beq;exact⟨λ_=>rfl,λ_=>rfl⟩
 |.aI,.inl _=>by unfold TK.beq;exact⟨λe=>(nomatch e),λe=>(nomatch e)⟩
 |.aI,.inr _=>by unfold TK.beq;exact⟨λe=>(nomatch e),λe=>(nomatch e)⟩
 |.aI,.tp _=>by unfold TK.beq;exact⟨λe=>(nomatch e),λe=>(nomatch e)⟩
 |.inl _,.aI=>by unfold TK.beq;exact⟨λe=>(nomatch e),λe=>(nomatch e)⟩
 |.inr _,.aI=>by unfold TK.beq;exact⟨λe=>(nomatch e),λe=>(nomatch e)⟩
 |.tp _,.aI=>by unfold TK.beq;exact⟨λe=>(nomatch e),λe=>(nomatch e)⟩
theorem TK.ow:∀l m:List TK,TK.qe l m=true↔l=m
 |[],[]=>by unfold TK.qe;exact⟨λ_=>rfl,λ_=>rfl⟩
 |a::l,b::m=>by unfold TK.qe;rw[eP,TK.beq_iff a b,TK.ow l m];exact⟨λe=>by rw[e.1,e.2],λe=>by cases e;exact⟨rfl,rfl⟩⟩
 |[],_::_=>by unfold TK.qe;exact⟨λe=>(nomatch e),λe=>(nomatch e)⟩
 |_::_,[]=>by unfold TK.qe;exact⟨λe=>(nomatch e),λe=>(nomatch e)⟩
end
instance:DecidableEq TK:=λa b=>decidable_of_iff _ (TK.beq_iff a b)
mutual
def TK.hash(w:cC):TK->Int
 |.inl i=>hashInt i
 |.inr x=>hashStr w x
 |.tp l=>reduceHash (Builtin.Tuple.tupleHashOf (TK.dN w l))
 |.aI=>4238894112
def TK.dN(w:cC):List TK->List Int
 |[]=>[]
 |a::l=>TK.hash w a::TK.dN w l
end
def TK.ok:Nat->TK->Bool
 |n+1,.tp l=>l.all (TK.ok n)
 |0,.tp _=>false
 |_,_=>true
def i_(w:cC)(e:TK×V×V)(x:DictEntry):Prop:=x.hash=e.1.hash w/\RelV e.2.1 x.key/\RelV e.2.2 x.val/\e.1.ok 8=true
inductive HO where
  |lst (xs:List V)
  |tup (xs:List V)
  |dK (kvs:List (Key×V))|dT (kvs:List (List Key×V))
  |dG (es:List (TK×V×V)) (ep:Nat)
  |set (S:Int->Bool) (n:Nat)
  |ins (C dx:ag) (fs:List (Str×V))
  |own (x:ag)
  |xd (fs:List (Str×V))
  |met (f x:ag)
  |MK (lo hi:Int)
  |Y (o:Obj) (u:HO)
  |A8 (ps:Array ai)
  |ext (φ:bV->Prop)
abbrev Hp:=ag->ak HO
noncomputable def upd(H:Hp)(a:ag)(o:HO):Hp:=λb=>if b=a then some o else H b
theorem aJ{H:Hp}{a:ag}{o:HO}:upd H a o a=some o:=by unfold upd;rw[aX rfl]
def c_{H:Hp}{a b:ag}{o:HO}(h:b≠a):upd H a o b=H b:=by unfold upd;rw[aM h]
def ZM{H:Hp}{a:ag}{o u:HO}:upd (upd H a o) a u=upd H a u:=by
 funext b;unfold upd;split <;> rfl
def tH{H:Hp}{a b:ag}{o:HO}(h:H a=some o)(h':H b=none):a≠b:=by
 lia
section
variable(P:de)(w:cC)
def bH(H:Hp)(h:bV)(a:ag):HO->Prop
 |.lst xs=>xs.length<=sizeLine/\∃(aF:List ai) (n:Nat),Vals xs aF/\h.get? a=some { cls:=.type "list",data:=.seq aF.toArray n}
 |.tup xs=>xs.length<=sizeLine/\∃aF:List ai,Vals xs aF/\IsTup h a aF.toArray
 |.dK kvs=>kvs.length<=sizeLine/\(a == sysModules)=false/\∃vs,KV kvs vs/\h.DictOf (Ki P w) a vs
 |.dT kvs=>kvs.length<=sizeLine/\(a == sysModules)=false/\∃xs:List (List Key×ag×ai),
   Paired (λ(p:List Key×V) (q:List Key×ag×ai)=>p.1=q.1/\H q.2.1=some (.tup (p.1.map kV))/\RelV p.2 q.2.2) kvs xs/\
   ∃o es ep,h.get? a=some o/\o.ExactDict/\o.data=.dict es ep/\es.toList=xs.map (entryOfKey (tupleKind (Ki P w)))/\(xs.map (·.1)).Nodup
 |.dG es ep=>es.length<=sizeLine/\(a == sysModules)=false/\∃o xs,h.get? a=some o/\o.ExactDict/\o.data=.dict xs ep/\Paired (i_ w) es xs.toList/\(es.map (·.1)).Nodup
 |.set S n=>h.SetOf (intKind P w) a S n
 |.ins C dx fs=>H dx=some (.own a)/\fs.length<=1000/\dx≠a/\h.get? a=some (PySem.W.instObj C dx)/\
   ∃mA,h.Ns1 dx mA/\(∀f,iz (fs.lookup f) (mA f))/\PySem.Within mA (fs.map (·.1))
 |.own _=>∃o,h.get? a=some o
 |.xd fs=>∃mA,h.Ns1 a mA/\∀f,iz (fs.lookup f) (mA f)
 |.MK lo hi=>∃t u v,h.get? a=some { cls:=.type "range",data:=.fields #[.int lo t,.int hi u,.int 1 v]}
 |.Y o u=>h.get? a=some o/\bH H h a u
 |.A8 ps=>h.get? a=some { cls:=.none,data:=.fields ps}
 |.met f x=>h.get? a=some (PySem.W.methodObj (.ref f) (.ref x))
 |.ext φ=>φ h/\(∃o,h.get? a=some o)/\∀h1 h2:bV,φ h1->(∀o,h1.get? a=some o->h2.get? a=some o)->φ h2
def jh(H:Hp)(h:bV):Prop:=∀a o,H a=some o->bH P w H h a o
end
section
variable{P:de}{w:cC}{H H':Hp}{h h':bV}{a:ag}{o:HO}
theorem bH.lt(x:bH P w H h a o):a<h.objs.size:=by
 cases o with
 |lst xs=>obtain⟨_,_,_,_,e⟩:=x;exact cO e
 |tup xs=>obtain⟨_,_,_,p⟩:=x;exact p.lt
 |dK kvs=>obtain⟨_,_,_,_,o,_,_,e,_⟩:=x;exact cO e
 |dT kvs=>obtain⟨_,_,_,_,o,_,_,e,_⟩:=x;exact cO e
 |dG es ep=>obtain⟨_,_,o,_,e,_⟩:=x;exact cO e
 |set S n=>obtain⟨o,_,_,_,e,_⟩:=x;exact cO e
 |ins C dx fs=>obtain⟨_,_,_,e,_⟩:=x;exact cO e
 |own y=>obtain⟨_,e⟩:=x;exact cO e
 |xd fs=>obtain⟨_,⟨_,_,_,e,_⟩,_⟩:=x;exact cO e
 |MK lo hi=>obtain⟨_,_,_,e⟩:=x;exact cO e
 |Y ob u=>obtain⟨e,_⟩:=x;exact cO e
 |A8 ps=>exact cO (show h.get? a=some _ from x)
 |met f y=>exact cO (show h.get? a=some _ from x)
 |ext φ=>obtain⟨_,⟨_,e⟩,_⟩:=x;exact cO e
def Paired.ED{α β:Type}{F G:α->β->Prop}{l₁:List α}{l₂:List β}(h:Paired F l₁ l₂)(f:∀a b,F a b->G a b):Paired G l₁ l₂:=by
 induction h with
 |nil=>exact .nil
 |cons r t ih=>exact .cons (f _ _ r) ih
def bH.jt(x:bH P w H h a o)(k:∀b u,(b=a\/H b=some (.own a))->h.get? b=some u->h'.get? b=some u)
  (ho:∀b,H b=some (.own a)->H' b=some (.own a)) (ht:∀b xs,H b=some (.tup xs)->H' b=some (.tup xs)):bH P w H' h' a o:=by
 induction o with
 |lst xs=>obtain⟨z,aF,n,r,e⟩:=x;exact⟨z,aF,n,r,k _ _ (.inl rfl) e⟩
 |tup xs=>obtain⟨z,aF,r,ob,e,c⟩:=x;exact⟨z,aF,r,ob,k _ _ (.inl rfl) e,c⟩
 |dK kvs=>obtain⟨z,y,vs,r,ob,es,ep,e,c⟩:=x;exact⟨z,y,vs,r,ob,es,ep,k _ _ (.inl rfl) e,c⟩
 |dT kvs=>
  obtain⟨z,y,xs,r,ob,es,ep,e,c⟩:=x;exact⟨z,y,xs,Paired.ED r λp q z=>⟨z.1,ht _ _ z.2.1,z.2.2⟩,ob,es,ep,k _ _ (.inl rfl) e,c⟩
 |dG es ep=>obtain⟨z,y,ob,xs,e,c⟩:=x;exact⟨z,y,ob,xs,k _ _ (.inl rfl) e,c⟩
 |set S n=>obtain⟨ob,es,ep,t,e,c⟩:=x;exact⟨ob,es,ep,t,k _ _ (.inl rfl) e,c⟩
 |ins C dx fs=>
  obtain⟨d,z,ne,e,mA,⟨od,es,ep,e2,c⟩,r⟩:=x;exact⟨ho _ d,z,ne,k _ _ (.inl rfl) e,mA,⟨od,es,ep,k _ _ (.inr d) e2,c⟩,r⟩
 |own y=>obtain⟨ob,e⟩:=x;exact⟨ob,k _ _ (.inl rfl) e⟩
 |xd fs=>obtain⟨mA,⟨od,es,ep,e,c⟩,r⟩:=x;exact⟨mA,⟨od,es,ep,k _ _ (.inl rfl) e,c⟩,r⟩
 |MK lo hi=>obtain⟨t,u,v,e⟩:=x;exact⟨t,u,v,k _ _ (.inl rfl) e⟩
 |Y ob u ih=>obtain⟨e,q⟩:=x;exact⟨k _ _ (.inl rfl) e,ih q⟩
 |A8 ps=>
  have e:h.get? a=some { cls:=.none,data:=.fields ps}:=x;show h'.get? a=some { cls:=.none,data:=.fields ps};exact k a _ (.inl rfl) e
 |met f y=>
  have e:h.get? a=some (PySem.W.methodObj (.ref f) (.ref y)):=x;show h'.get? a=some (PySem.W.methodObj (.ref f) (.ref y));exact k a _ (.inl rfl) e
 |ext φ=>obtain⟨p,⟨o,e⟩,st⟩:=x;exact⟨st _ _ p λo q=>k _ _ (.inl rfl) q,⟨o,k _ _ (.inl rfl) e⟩,st⟩
theorem jh.lt(x:jh P w H h)(e:H a=some o):a<h.objs.size:=(x a o e).lt
def jh.fresh(x:jh P w H h)(e:h.objs.size<=a):H a=none:=by
 cases q:H a with
 |none=>rfl
 |some u=>exact b_ (fX (x.lt q) e) (j9 _)
def jh.kept(x:jh P w H h)(k:∀b u,h.get? b=some u->h'.get? b=some u):jh P w H h':=λa o e=>
 (x a o e).jt (λb u _ q=>k b u q) (λ_ q=>q) λ_ _ q=>q
def jh.laid(x:jh P w H h)(k:∀b u,h.get? b=some u->h'.get? b=some u)(hp:h.objs.size<=a)(new:bH P w (upd H a o) h' a o):jh P w (upd H a o) h':=λb u e=>by
 have hn:=x.fresh hp;by_cases hb:b=a
 .subst hb;rw[aJ] at e;cases e;exact new
 .rw[c_ hb] at e;exact(x b u e).jt (λc v _ q=>k c v q) (λc q=>by rw[c_ (tH q hn)];exact q) λc xs q=>by rw[c_ (tH q hn)];exact q
end
def Rd(H:Hp)(a:ag)(u:HO):Prop:=H a=some u\/∃o,H a=some (.Y o u)
def Rd.ok{P:de}{w:cC}{H:Hp}{h:bV}{a:ag}{u:HO}(r:Rd H a u)(x:jh P w H h):bH P w H h a u:=by
 rcases r with r|⟨o,r⟩
 .exact x a u r
 .obtain⟨_,q⟩:=x a _ r;exact q
def CA:ak HO->Prop
 |some (.lst _)=>True
 |some (.dK _)=>True
 |some (.dT _)=>True
 |some (.dG _ _)=>True
 |some (.set _ _)=>True
 |some (.ins _ _ _)=>True
 |some (.ext _)=>True
 |_=>False
section
variable{P:de}{w:cC}{H:Hp}{h h':bV}{x e:ag}{o':HO}
def jh.write(ok:jh P w H h)(mu:CA (H x))(he:e=x\/H e=some (.own x))(k:∀b u,b≠e->h.get? b=some u->h'.get? b=some u)(B6:∃u,h'.get? e=some u)
  (new:bH P w (upd H x o') h' x o'):jh P w (upd H x o') h':=λb u q=>by
 have Mo:∀c y,H c=some (.own y)->c≠x:=λc y r z=>by subst z;rw[r] at mu;exact mu
 have Mp:∀c xs,H c=some (.tup xs)->c≠x:=λc xs r z=>by subst z;rw[r] at mu;exact mu
 by_cases hb:b=x
 .grind [aJ]
 .rw[c_ hb] at q;by_cases B4:b=e
  .have q':H b=some (.own x):=by
    rcases he with z|z
    .exact b_ (B4.trans z) hb
    .rw[B4];exact z
   rw[q] at q';cases q';obtain⟨v,hv⟩:=B6;exact⟨v,by rw[B4];exact hv⟩
  .refine(ok b u q).jt (λc v hc r=>k c v ?_ r) (λc r=>by rw[c_ (Mo c b r)];exact r) λc xs r=>by rw[c_ (Mp c xs r)];exact r
   grind
end
structure Un (fs ex:List ag) (H H':Hp) (h h':bV):Prop where
 keep:∀b o,h.get? b=some o->H b=none->b∉fs->b∉ex->h'.get? b=some o
 slot:∀b o,h.get? b=some o->H b=none->b∈fs->b∉ex->∃sl,h'.get? b=some { o with slots:=sl}
 free:∀b o,h.get? b=some o->H b=none->b∉ex->H' b=none
 there:∀b o,h.get? b=some o->b∉ex->∃o',h'.get? b=some o'
 lX:∀b xs,H b=some (.tup xs)->H' b=some (.tup xs)
 kW:∀b o u,H b=some (.Y o u)->H' b=some (.Y o u)
 lW:∀b ps,H b=some (.A8 ps)->∃more,H' b=some (.A8 (ps++more))
section
variable{fs B2 ex ex':List ag}{H H1 H2:Hp}{h h1 h2 h':bV}{a x e:ag}{o:HO}
def Un.any(u:Un fs ex H H1 h h1){b:ag}{ob:Obj}(q:h.get? b=some ob)(n:H b=none)(hx:b∉ex):∃sl,h1.get? b=some { ob with slots:=sl}:=by
 by_cases hb:b∈fs
 .exact u.slot b ob q n hb hx
 .exact⟨ob.slots,u.keep b ob q n hb hx⟩
def Un.kept(k:∀b u,h.get? b=some u->h'.get? b=some u):Un fs ex H H h h':=
 ⟨λb ob q _ _ _=>k b ob q,λb ob q _ _ _=>⟨ob.slots,k b ob q⟩,λ_ _ _ n _=>n,λb ob q _=>⟨ob,k b ob q⟩,λ_ _ q=>q,λ_ _ _ q=>q,λ_ ps q=>⟨#[],by rw[q];simp⟩⟩
def Un.refl:Un fs ex H H h h:=Un.kept λ_ _ q=>q
def Un.laid(k:∀b u,h.get? b=some u->h'.get? b=some u)(hp:h.objs.size<=a)(hn:H a=none):Un fs ex H (upd H a o) h h' where
 keep:=λb u q _ _ _=>k b u q
 slot:=λb u q _ _ _=>⟨u.slots,k b u q⟩
 free:=λb u q n _=>by rw[c_ (gR (fX (cO q) hp))];exact n
 there:=λb u q _=>⟨u,k b u q⟩
 lX:=λb xs q=>by rw[c_ (tH q hn)];exact q
 kW:=λb u xs q=>by rw[c_ (tH q hn)];exact q
 lW:=λb ps q=>⟨#[],by rw[c_ (tH q hn),q];simp⟩
def Un.write(mu:CA (H x))(he:e=x\/H e=some (.own x))(k:∀b u,b≠e->h.get? b=some u->h'.get? b=some u)(B6:∃u,h'.get? e=some u):Un fs ex H (upd H x o) h h':=by
 have hx:∀b,H b=none->b≠x:=λb n z=>by subst z;rw[n] at mu;exact mu
 have hb:∀b,H b=none->b≠e:=λb n z=>by
  subst z;rcases he with r|r
  .exact hx b n r
  .rw[n] at r;cases r
 have hm:∀b u,H b=some u->¬CA (some u)->b≠x:=λb u q nm z=>by subst z;rw[q] at mu;exact nm mu
 refine⟨λb u q n _ _=>k b u (hb b n) q,λb u q n _ _=>⟨u.slots,k b u (hb b n) q⟩,λb u q n _=>by rw[c_ (hx b n)];exact n,λb u q _=>?_,
  λb xs q=>by rw[c_ (hm b _ q λz=>z)];exact q,λb u xs q=>by rw[c_ (hm b _ q λz=>z)];exact q,λb ps q=>⟨#[],by rw[c_ (hm b _ q λz=>z),q];simp⟩⟩
 by_cases B4:b=e
 .subst B4;exact B6
 .exact⟨u,k b u B4 q⟩
end
noncomputable def Iy(h:bV)(H:Hp):List ag:=(List.range h.objs.size).filter λa=>(H a).isSome
def nv(h:bV)(H:Hp):bV:=PySem.W.hideAll h (Iy h H)
def VO(h:bV)(H:Hp):(nv h H).objs.size=h.objs.size:=PySem.W.hideAll_size _ _
def W7{h:bV}{H:Hp}{b:ag}{o:Obj}(e:h.get? b=some o)(n:H b=none):(nv h H).get? b=some o:=
 PySem.W.hideAll_get _ e λhm=>by
  have q:(H b).isSome=true:=(sE.mp hm).2;rw[n] at q;simp at q
def ZN{h:bV}{H:Hp}{b:ag}{o:Obj}(e:(nv h H).get? b=some o):h.get? b=some o/\H b=none:=by
 have e':h.get? b=some o:=PySem.W.of_hideAll (Iy h H) e;refine⟨e',?_⟩;cases q:H b with
 |none=>rfl
 |some x=>
  have hm:b∈Iy h H:=sE.mpr ⟨sF.mpr (cO e'),by simp[q]⟩
  have z:(nv h H).get? b=none:=PySem.W.hideAll_none (Iy h H) hm;rw[z] at e;cases e
noncomputable def ZO(g h:bV)(L:ag):List (ag×Obj):=(List.range h.objs.size).filterMap λa=>if a=L\/(g.get? a).isSome=true then none else(h.get? a).map λo=>(a,o)
def rest(g h:bV)(L d:ag):List (ag×Obj):=(ZO g h L).filter λp=>decide (p.1≠d)
variable{t' i:Nat}{ch:List ag}{x:Str}{M:Model}{A:cQ}{E:ai->au->Prop}{v:V}{u:ai}{Q:Unit->au->Prop}
structure Mod (K:PySem.W.Frag) (mg:Str->ak ai) (base:bV):Prop where
 Ca:K.In base
 glob:base.Ns mainGlobals mg
 blt:∃mb,base.Ns builtinsNs mb/\∀x:Str,x≠"__name__"->mb x=bootBuiltins x
 nolimit:base.NoLimit
set_option genInjectivity false in
structure Cx where
 prog:de
 w:cC
 K:PySem.W.Frag
 mg:Str->ak ai
 base:bV
 A:cQ
 N:List Str
 s₀:au
 H₀:Hp
 env:Env
 outer:List Env
 stack:List Env
 ex:List ag
 fn:Str->Bool
 calm:Bool
 pn:List (ag×Obj)
 xe:ai->au->Prop
noncomputable def kU(l:List Env):List ag:=l.filterMap (·.frame)
abbrev Cx.fs(X:Cx):List ag:=kU X.outer
def FV(sc:Scope)(x:Str):Prop:=sc.names.lookup x=some .local \/ sc.names.lookup x=some .cell\/sc.names.lookup x=some .free
def Loc(sc:Scope)(x:Str):Prop:=sc.names.lookup x=some .local \/ sc.names.lookup x=some .cell
def Look(env:Env)(h:bV)(m:Str->ak ai)(x:Str)(u:ai):Prop:=
 (env.kindOf x=some .local /\ m x=some u)\/((env.kindOf x=some .cell\/env.kindOf x=some .free)/\∃c,env.cells.lookup x=some c/\h.IsCell c (some u))
structure Cx.Ok (X:Cx):Prop where
 mod:Mod X.K X.mg X.base
 kind:X.env.scope.kind=.function
 glob:X.env.globals=mainGlobals
 blt:X.env.builtins=builtinsNs
 above:X.s₀.heap.objs.size<=X.env.locals
 inj:∀x y c,X.env.cells.lookup x=some c->X.env.cells.lookup y=some c->x=y
 has:∀x,(X.env.kindOf x=some .cell\/X.env.kindOf x=some .free)->∃c,X.env.cells.lookup x=some c
 z7:∀x c,X.fn x=true->X.env.cells.lookup x=some c->X.s₀.heap.objs.size<=c
 hd:X.calm=true->X.A.handled=none
 frames:X.A.frames=some X.stack
 Ci:X.stack=X.outer\/(X.stack=X.env::X.outer/\X.env.frame=some X.env.locals)
 HH:∀b∈X.ex,b≠X.env.locals/\∀x c,X.env.cells.lookup x=some c->c≠b
 bs:∀b o,X.base.get? b=some o->X.s₀.heap.get? b=some o/\X.H₀ b=none
 tP:X.base.objs.size<=X.s₀.heap.objs.size
 qh:∀b o,X.base.get? b=some o->b∉X.ex
 rM:∀b∈X.ex,b∉X.fs
 iT:X.s₀.heap.FunFrames X.base X.outer
 we:∀b∈X.fs,X.H₀ b=none
structure Inv (X:Cx) (aa:List (ag×Obj)) (Z:List (ak V)) (H:Hp) (s:au):Prop where
 ok:X.Ok
 os:s.os=X.s₀.os
 bare:AllBare s.gens
 base:Un X.fs X.ex X.H₀ H X.s₀.heap s.heap
 loc:∃m,s.heap.Ns X.env.locals m/\∀(i:Nat) (x:Str) (v:V),X.N[i]?=some x->Z[i]?=some (some v)->FV X.env.scope x->∃u,RelV v u/\Look X.env s.heap m x u
 cell:∀x c,X.env.cells.lookup x=some c->∃v,s.heap.IsCell c v
 free:H X.env.locals=none
 eG:∀x c,X.env.cells.lookup x=some c->H c=none
 pin:∀p∈X.pn++aa,s.heap.get? p.1=some p.2/\H p.1=none/\p.1≠X.env.locals/\p.1∉X.fs/\∀v,p.2.data≠.cell v
 bB:jh X.prog X.w H s.heap
 len:Z.length=X.N.length
section
variable{X:Cx}{aa:List (ag×Obj)}{Z:List (ak V)}{H H':Hp}{s:au}{h':bV}
def Cx.Ok.Mn(ok:X.Ok){b:ag}{o:Obj}(e:X.base.get? b=some o):b∉X.fs:=λhb=>by
 have:=(ok.iT.mem hb).1
 lia
theorem Inv.bs(I:Inv X aa Z H s):∀b o,X.base.get? b=some o->s.heap.get? b=some o/\H b=none:=λb o e=>
 ⟨I.base.keep b o (I.ok.bs b o e).1 (I.ok.bs b o e).2 (I.ok.Mn e) (I.ok.qh b o e),I.base.free b o (I.ok.bs b o e).1 (I.ok.bs b o e).2 (I.ok.qh b o e)⟩
def Inv.bk(I:Inv X aa Z H s):∀b o,X.base.get? b=some o->s.heap.get? b=some o:=λb o e=>(I.bs b o e).1
theorem Inv.mod(I:Inv X aa Z H s):Mod X.K X.mg X.base:=I.ok.mod
def Inv.kj(I:Inv X aa Z H s):X.K.In s.heap:=I.ok.mod.Ca.keeps I.bk
theorem Inv.lt(I:Inv X aa Z H s):X.env.locals<s.heap.objs.size:=let ⟨_,hn,_⟩:=I.loc;hn.lt
def Inv.sz(I:Inv X aa Z H s):X.s₀.heap.objs.size<=s.heap.objs.size:=i7 I.ok.above (IB I.lt)
def Inv.AJ(I:Inv X aa Z H s){a:ag}(h:s.heap.objs.size<=a):a∉X.fs:=λhb=>by
 obtain⟨_,o,ho,_⟩:=I.ok.iT.mem hb;exact b_ (fX (cO ho) (i7 I.sz h)) (j9 _)
def Inv.z9(I:Inv X aa Z H s):∀x c,X.env.cells.lookup x=some c->c≠X.env.locals:=λx c e z=>by
 obtain⟨v,o,ho,hd⟩:=I.cell x c e;obtain⟨m,⟨o',es,ep,yq,qP,_⟩,_⟩:=I.loc
 lia
theorem Inv.iT(I:Inv X aa Z H s):s.heap.FunFrames X.base X.outer:=by
 have all:∀(l:List Env),(∀b∈kU l,b∈X.fs)->X.s₀.heap.FunFrames X.base l->s.heap.FunFrames X.base l:=by
  intro l
  induction l with
  |nil=>intro _ _;trivial
  |cons env r ih=>
   intro hs hl;obtain⟨hk,⟨L,o,hf,hn,ho,hd⟩,hr⟩:=hl;have hL:L∈X.fs:=hs L (by unfold kU;rw[pP,hf];exact r9)
   obtain⟨sl,e⟩:=I.base.slot L o ho (I.ok.we L hL) hL λz=>I.ok.rM L z hL
   exact⟨hk,⟨L,_,hf,hn,e,hd⟩,ih (λb hb=>hs b (by unfold kU;rw[pP,hf];exact qm _ hb)) hr⟩
 exact all X.outer (λ_ hb=>hb) I.ok.iT
def Inv.stack(I:Inv X aa Z H s):s.heap.FunFrames X.base X.stack:=by
 rcases I.ok.Ci with e|⟨e,hf⟩
 .rw[e];exact I.iT
 .rw[e];obtain⟨m,hn,_⟩:=I.loc;refine .cons (by rw[I.ok.kind];decide) hf hn ?_ I.iT
  exact Heap.get?_none_of_le (i7 I.ok.tP I.ok.above)
def Inv.lr(I:Inv X aa Z H s):∀b∈kU X.stack,b∈X.env.locals::X.fs:=λb hb=>by
 rcases I.ok.Ci with e|⟨e,hf⟩
 .rw[e] at hb;exact qm _ hb
 .rw[e] at hb;unfold kU at hb;rw[pP,hf] at hb;exact hb
def Inv.kq(I:Inv X aa Z H s):∀b∈kU X.stack,H b=none:=λb hb=>by
 rcases y04.mp (I.lr b hb) with e|hb
 .rw[e];exact I.free
 .obtain⟨_,o,ho,_⟩:=I.ok.iT.mem hb;exact I.base.free b o ho (I.ok.we b hb) λz=>I.ok.rM b z hb
def Inv.step{g':Array GenState}{t':Nat}{d':Drawn}{ch:List ag}(I:Inv X aa Z H s)
  (lE:∀b∈ch,(b∈X.ex\/X.s₀.heap.objs.size<=b)/\b≠X.env.locals/\(∀x c,X.env.cells.lookup x=some c->c≠b)/\∀p∈X.pn++aa,p.1≠b)
  (keep:∀b o,b≠X.env.locals->b∉X.fs->b∉ch->s.heap.get? b=some o->H b=none->h'.get? b=some o)
  (slot:∀b o,b≠X.env.locals->b∈X.fs->b∉ch->s.heap.get? b=some o->H b=none->∃sl,h'.get? b=some { o with slots:=sl}) (free:∀b o,b∉ch->s.heap.get? b=some o->H b=none->H' b=none)
  (there:∀b o,b∉ch->s.heap.get? b=some o->∃o',h'.get? b=some o')
  (lX:∀b xs,H b=some (.tup xs)->H' b=some (.tup xs)) (kW:∀b o u,H b=some (.Y o u)->H' b=some (.Y o u)) (lW:∀b ps,H b=some (.A8 ps)->∃more,H' b=some (.A8 (ps++more)))
  (ns:∀m,s.heap.Ns X.env.locals m->h'.Ns X.env.locals m) (bB:jh X.prog X.w H' h') (hg:AllBare g') :
  Inv X aa Z H' { s with heap:=h',gens:=g',drawn:=d',toks:=t'}:=by
 have TB:∀b o,X.s₀.heap.get? b=some o->b≠X.env.locals:=λb o e=>gR (fX (cO e) I.ok.above)
 have Ii:∀b o,X.s₀.heap.get? b=some o->b∉X.ex->b∉ch:=λb o e hx hb=>by
  rcases(lE b hb).1 with z|z
  .exact hx z
  .exact b_ (fX (cO e) z) (j9 _)
 have cellK:∀x c,X.env.cells.lookup x=some c->∀v,s.heap.IsCell c v->h'.IsCell c v:=λx c e v ⟨o,ho,hd⟩=>by
  have wJ:c∉ch:=λz=>(lE c z).2.2.1 x c e rfl
  by_cases hc:c∈X.fs
  .obtain⟨sl,q⟩:=slot c o (I.z9 x c e) hc wJ ho (I.eG x c e);exact⟨_,q,hd⟩
  .exact⟨o,keep c o (I.z9 x c e) hc wJ ho (I.eG x c e),hd⟩
 refine⟨I.ok,I.os,hg,⟨λb o e n hb hx=>?_,λb o e n hb hx=>?_,λb o e n hx=>?_,λb o e hx=>?_,λb xs e=>lX b xs (I.base.lX b xs e),λb o xs e=>kW b o xs (I.base.kW b o xs e),λb ps e=>?_⟩,?_,λx c e=>?_,?_,λx c e=>?_,λp hp=>?_,bB,I.len⟩
 .exact keep b o (TB b o e) hb (Ii b o e hx) (I.base.keep b o e n hb hx) (I.base.free b o e n hx)
 .obtain⟨sl,e1⟩:=I.base.slot b o e n hb hx;obtain⟨MS,e2⟩:=slot b _ (TB b o e) hb (Ii b o e hx) e1 (I.base.free b o e n hx);exact⟨MS,e2⟩
 .obtain⟨o',e1⟩:=I.base.there b o e hx;exact free b o' (Ii b o e hx) e1 (I.base.free b o e n hx)
 .obtain⟨o',e1⟩:=I.base.there b o e hx;exact there b o' (Ii b o e hx) e1
 .obtain⟨m1,e1⟩:=I.base.lW b ps e;obtain⟨m2,e2⟩:=lW b _ e1;exact⟨m1++m2,by rw[e2,Array.append_assoc]⟩
 .obtain⟨m,hn,hl⟩:=I.loc;refine⟨m,ns m hn,λi x v e1 e2 e3=>?_⟩
  obtain⟨u,r,l⟩:=hl i x v e1 e2 e3;refine⟨u,r,?_⟩;rcases l with l|⟨k,c,e,z⟩
  .exact .inl l
  .exact .inr ⟨k,c,e,cellK x c e _ z⟩
 .obtain⟨v,z⟩:=I.cell x c e;exact⟨v,cellK x c e v z⟩
 .obtain⟨m,⟨o,_,_,ho,_⟩,_⟩:=I.loc;exact free _ o (λz=>(lE _ z).2.1 rfl) ho I.free
 .obtain⟨v,o,ho,hd⟩:=I.cell x c e;exact free c o (λz=>(lE c z).2.2.1 x c e rfl) ho (I.eG x c e)
 .obtain⟨e,n,ne,nf,d⟩:=I.pin p hp;have wJ:p.1∉ch:=λz=>(lE p.1 z).2.2.2 p hp rfl
  exact⟨keep p.1 p.2 ne nf wJ e n,free p.1 p.2 wJ e n,ne,nf,d⟩
def Inv.un(I:Inv X aa Z H s)(u:Un X.fs [] H H' s.heap h')(bB:jh X.prog X.w H' h'):Inv X aa Z H' { s with heap:=h',toks:=t'}:=by
 obtain⟨m,⟨o,es,ep,ho,r⟩,_⟩:=id I.loc;obtain⟨sl,hL⟩:=u.any ho I.free (by simp)
 exact I.step (g':=s.gens) (d':=s.drawn) (ch:=[]) (λ_ z=>nomatch z) (λb o _ hb _ e n=>u.keep b o e n hb (by simp)) (λb o _ hb _ e n=>u.slot b o e n hb (by simp)) (λb o _ e n=>u.free b o e n (by simp)) (λb o _ e=>u.there b o e (by simp)) u.lX u.kW u.lW (λm' hm=>by
  obtain⟨o',wd,qf,yq,r'⟩:=hm;rw[ho] at yq;cases yq;exact⟨_,wd,qf,hL,r'⟩) bB I.bare
def Inv.call{g':Array GenState}{d':Drawn}(I:Inv X aa Z H s)(u:Un (kU X.stack) ch H H' s.heap h')(bB:jh X.prog X.w H' h')(hg:AllBare g')
  (lE:∀b∈ch,(b∈X.ex\/X.s₀.heap.objs.size<=b)/\b≠X.env.locals/\(∀x c,X.env.cells.lookup x=some c->c≠b)/\∀p∈X.pn++aa,p.1≠b) :
  Inv X aa Z H' { s with heap:=h',gens:=g',drawn:=d',toks:=t'}:=by
 obtain⟨m,⟨o,es,ep,ho,r⟩,_⟩:=id I.loc;obtain⟨sl,hL⟩:=u.any ho I.free λz=>(lE _ z).2.1 rfl
 exact I.step (ch:=ch) lE (λb o hL hb hc e n=>u.keep b o e n (λz=>(y04.mp (I.lr b z)).elim hL hb) hc) (λb o _ _ hc e n=>u.any e n hc) (λb o hc e n=>u.free b o e n hc) (λb o hc e=>u.there b o e hc) u.lX u.kW u.lW (λm' hm=>by
  obtain⟨o',wd,qf,yq,r'⟩:=hm;rw[ho] at yq;cases yq;exact⟨_,wd,qf,hL,r'⟩) bB hg
def Inv.turned{it:ag}(I:Inv X aa Z H s)(k:∀b o,b≠it->s.heap.get? b=some o->h'.get? b=some o)(hn:H it=none)(hL:it≠X.env.locals)
  (h1:it∈X.ex\/X.s₀.heap.objs.size<=it) (h2:∀x c,X.env.cells.lookup x=some c->c≠it) (h3:∀p∈X.pn++aa,p.1≠it):Inv X aa Z H { s with heap:=h',toks:=t'}:=by
 have TF:∀b u,H b=some u->b≠it:=λb u e z=>by rw[z,hn] at e;cases e
 refine I.step (g':=s.gens) (d':=s.drawn) (ch:=[it]) (λb hb=>?_) (λb o _ _ hc e _=>k b o (λz=>hc (by simp[z])) e) (λb o _ _ hc e _=>⟨o.slots,k b o (λz=>hc (by simp[z])) e⟩) (λ_ _ _ _ n=>n)
  (λb o hc e=>⟨o,k b o (λz=>hc (by simp[z])) e⟩) (λ_ _ e=>e) (λ_ _ _ e=>e) (λb ps e=>⟨#[],by rw[e];simp⟩) (λm hm=>?_) (λb u e=>?_) I.bare
 .have e:b=it:=by simpa using hb
  subst e;exact⟨h1,hL,h2,h3⟩
 .obtain⟨o,es,ep,ho,r⟩:=hm;exact⟨o,es,ep,k _ o (Ne.symm hL) ho,r⟩
 .refine(I.bB b u e).jt (λc v hc q=>k c v ?_ q) (λ_ q=>q) λ_ _ q=>q
  rcases hc with z|z
  .rw[z];exact TF b u e
  .exact TF c _ z
def Inv.tok(I:Inv X aa Z H s)(t:Nat):Inv X aa Z H { s with toks:=t}:=I.un (h':=s.heap) (t':=t) Un.refl I.bB
theorem Inv.kept{t':Nat}(I:Inv X aa Z H s)(k:∀b u,s.heap.get? b=some u->h'.get? b=some u):Inv X aa Z H { s with heap:=h',toks:=t'}:=I.un (Un.kept k) (I.bB.kept k)
theorem Inv.laid{a:ag}{o:HO}{t':Nat}(I:Inv X aa Z H s)(k:∀b u,s.heap.get? b=some u->h'.get? b=some u)(hp:s.heap.objs.size<=a)(new:bH X.prog X.w (upd H a o) h' a o):
  Inv X aa Z (upd H a o) { s with heap:=h',toks:=t'}:=I.un (Un.laid k hp (I.bB.fresh hp)) (I.bB.laid k hp new)
theorem Inv.write{x e:ag}{o:HO}{t':Nat}(I:Inv X aa Z H s)(mu:CA (H x))(he:e=x\/H e=some (.own x))(k:∀b u,b≠e->s.heap.get? b=some u->h'.get? b=some u)(B6:∃u,h'.get? e=some u)
  (new:bH X.prog X.w (upd H x o) h' x o):Inv X aa Z (upd H x o) { s with heap:=h',toks:=t'}:=I.un (Un.write mu he k B6) (I.bB.write mu he k B6 new)
def Inv.kl{pz:List (ag×Obj)}(I:Inv X aa Z H s)(h:∀p∈pz,s.heap.get? p.1=some p.2/\H p.1=none/\p.1≠X.env.locals/\p.1∉X.fs/\∀v,p.2.data≠.cell v):Inv X pz Z H s:=
 ⟨I.ok,I.os,I.bare,I.base,I.loc,I.cell,I.free,I.eG,λp hp=>(dr.mp hp).elim (λz=>I.pin p (FF _ z)) (h p),I.bB,I.len⟩
def Pq{N:List Str}(hN:N.Nodup){j:Nat}(a:N[i]?=some x)(b:N[j]?=some x):i=j:=by
 obtain⟨h1,e1⟩:=eQ.mp a;obtain⟨h2,e2⟩:=eQ.mp b;exact(FG hN).mp (e1.trans e2.symm)
def OP(I:Inv X aa Z H s)(hN:X.N.Nodup)(hi:X.N[i]?=some x)(hx:Loc X.env.scope x)(r:RelV v u)
  (h:∀s',Inv X aa (Z.set i (some v)) H s'->(∃a,Heap.SameBut a s.heap s'.heap/\(a=X.env.locals\/X.env.cells.lookup x=some a))->Q () s') (hf:X.fn x=true\/X.env.scope.names.lookup x=some .local := by first|exact .inl rfl|exact .inr rfl|assumption):wpAny M A (storeName X.env x u) Q E s:=by
 obtain⟨m,hn,hl⟩:=id I.loc;have LD:(X.env.scope.kind == .class || (X.env.scope.kind == .module&&X.env.locals != X.env.globals))=false:=by rw[I.ok.kind];rfl
 have Tc:i<Z.length:=by rw[I.len];exact(eQ.mp hi).1
 have z9:=I.z9;have tracked:∀{a:ag} {h':bV},(∃o,s.heap.get? a=some o/\H a=none)->Heap.SameBut a s.heap h'->jh X.prog X.w H h':=λ{a h'} ha hs b ob e=>by
  obtain⟨_,_,hfree⟩:=ha;refine(I.bB b ob e).jt (λc w' hc q=>(hs.2 c ?_).trans q) (λ_ q=>q) λ_ _ q=>q
  lia
 rcases hx with hk|hk
 .refine wpAny_storeName_local hk hn (λh' HZ hs=>?_) LD
  obtain⟨oL,_,_,ip,_⟩:=id hn;refine h _ ⟨I.ok,I.os,I.bare,⟨λb o e n hb hx=>?_,λb o e n hb hx=>?_,I.base.free,λb o e hx=>?_,I.base.lX,I.base.kW,I.base.lW⟩,⟨_,HZ,λj y v' e1 e2 e3=>?_⟩,λy c e=>?_,I.free,I.eG,λp hp=>?_,tracked ⟨oL,ip,I.free⟩ hs,by simpa using I.len⟩ ⟨_,hs,.inl rfl⟩
  .exact(hs.2 b (gR (fX (cO e) I.ok.above))).trans (I.base.keep b o e n hb hx)
  .obtain⟨sl,e1⟩:=I.base.slot b o e n hb hx;exact⟨sl,(hs.2 b (gR (fX (cO e) I.ok.above))).trans e1⟩
  .obtain⟨o',e1⟩:=I.base.there b o e hx;exact⟨o',(hs.2 b (gR (fX (cO e) I.ok.above))).trans e1⟩
  .by_cases hj:j=i
   .subst hj;rw[hi] at e1;cases e1;rw[xA Tc] at e2;cases e2;exact⟨u,r,.inl ⟨hk,by simp⟩⟩
   .rw[Cm (Ne.symm hj)] at e2;obtain⟨u',r',q⟩:=hl j y v' e1 e2 e3;refine⟨u',r',?_⟩;rcases q with⟨k,e⟩|⟨k,c,e,z⟩
    .refine .inl ⟨k,?_⟩;have:y≠x:=λe=>hj (Pq hN e1 (e ▸ hi))
     simp[this,e]
    .exact .inr ⟨k,c,e,z.sameBut hs (z9 y c e)⟩
  .obtain⟨w',z⟩:=I.cell y c e;exact⟨w',z.sameBut hs (z9 y c e)⟩
  .obtain⟨e,n,ne,nf,d⟩:=I.pin p hp;exact⟨(hs.2 p.1 ne).trans e,n,ne,nf,d⟩
 .have Ea:X.fn x=true:=by
   rcases hf with z|z
   .exact z
   .rw[z] at hk;cases hk
  obtain⟨c,hc⟩:=I.ok.has x (.inl hk);obtain⟨w',z⟩:=I.cell x c hc;refine wpAny_storeName_cell I.ok.kind hk hc z (λh' lS hs=>?_)
  obtain⟨oc,wx,LP⟩:=id z;refine h { s with heap:=h'} ⟨I.ok,I.os,I.bare,⟨λb o e n hb hx=>?_,λb o e n hb hx=>?_,I.base.free,λb o e hx=>?_,I.base.lX,I.base.kW,I.base.lW⟩,⟨m,hn.sameBut hs (Ne.symm (z9 x c hc)),λj y v' e1 e2 e3=>?_⟩,λy c' e=>?_,I.free,I.eG,λp hp=>?_,tracked ⟨oc,wx,I.eG x c hc⟩ hs,by simpa using I.len⟩ ⟨c,hs,.inr hc⟩
  .exact(hs.2 b (gR (fX (cO e) (I.ok.z7 x c Ea hc)))).trans (I.base.keep b o e n hb hx)
  .obtain⟨sl,e1⟩:=I.base.slot b o e n hb hx;exact⟨sl,(hs.2 b (gR (fX (cO e) (I.ok.z7 x c Ea hc)))).trans e1⟩
  .obtain⟨o',e1⟩:=I.base.there b o e hx;exact⟨o',(hs.2 b (gR (fX (cO e) (I.ok.z7 x c Ea hc)))).trans e1⟩
  .by_cases hj:j=i
   .subst hj;rw[hi] at e1;cases e1;rw[xA Tc] at e2;cases e2;exact⟨u,r,.inr ⟨.inl hk,c,hc,lS⟩⟩
   .rw[Cm (Ne.symm hj)] at e2;obtain⟨u',r',q⟩:=hl j y v' e1 e2 e3;refine⟨u',r',?_⟩;rcases q with q|⟨k,c',e,z'⟩
    .exact .inl q
    .refine .inr ⟨k,c',e,z'.sameBut hs ?_⟩;rintro rfl;exact hj (Pq hN e1 (I.ok.inj _ _ _ e hc ▸ hi))
  .by_cases S_:c'=c
   .subst S_;exact⟨_,lS⟩
   .obtain⟨w2,z2⟩:=I.cell y c' e;exact⟨w2,z2.sameBut hs S_⟩
  .obtain⟨e,n,ne,nf,d⟩:=I.pin p hp;refine⟨(hs.2 p.1 ?_).trans e,n,ne,nf,d⟩;intro q;rw[q,wx] at e;have q':oc=p.2:=Option.some.inj e;exact d w' (by rw[<-q'];exact LP)
def Pu(I:Inv X aa Z H s)(hN:X.N.Nodup)(hi:X.N[i]?=some x)(hx:Loc X.env.scope x)(r:RelV v u)
  (h:∀s',Inv X aa (Z.set i (some v)) H s'->Q () s') (hf:X.fn x=true\/X.env.scope.names.lookup x=some .local := by first|exact .inl rfl|exact .inr rfl|assumption):wpAny M A (storeName X.env x u) Q E s:=
 OP I hN hi hx r (λs' I' _=>h s' I') hf
def Inv.x8{s':au}(I:Inv X aa Z H s)(ho:s'.os=s.os)(u:Un (kU X.stack) ch H H' s.heap s'.heap)(bB:jh X.prog X.w H' s'.heap)(hg:AllBare s'.gens)
  (lE:∀b∈ch,(b∈X.ex\/X.s₀.heap.objs.size<=b)/\b≠X.env.locals/\(∀x c,X.env.cells.lookup x=some c->c≠b)/\∀p∈X.pn++aa,p.1≠b):Inv X aa Z H' s':=by
 obtain⟨h',g',d',t',o'⟩:=s';have e:o'=s.os:=ho;subst e;exact I.call (g':=g') (t':=t') (d':=d') u bB hg lE
end
abbrev XK:=ai->ak ag->Hp->Prop
abbrev St:=List (ak V)
abbrev VK:=V->Hp->Prop
abbrev TE:=St->Hp->VK->Prop
abbrev TT:=St->Hp->(Bool->Hp->Prop)->Prop
abbrev TA:=St->Hp->(List V->Hp->Prop)->Prop
set_option genInjectivity false in
structure Ends where
 nx:St->Hp->Prop
 rt:VK
 bk:St->Hp->Prop:=λ_ _=>False
 ct:St->Hp->Prop:=λ_ _=>False
abbrev TS:=Ends->St->Hp->Prop
def EP(X:Cx)(aa:List (ag×Obj))(Z:St)(Q:VK)(u:ai)(s':au):Prop:=∃v H',Inv X aa Z H' s'/\RelV v u/\Q v H'
def TP(X:Cx)(aa:List (ag×Obj))(Z:St)(Q:Bool->Hp->Prop)(b:Bool)(s':au):Prop:=∃H',Inv X aa Z H' s'/\Q b H'
def AP(X:Cx)(aa:List (ag×Obj))(Z:St)(Q:List V->Hp->Prop)(us:List ai)(s':au):Prop:=∃vs H',Inv X aa Z H' s'/\Vals vs us/\Q vs H'
def SP(X:Cx)(aa:List (ag×Obj))(D:Ends)(f:Flow)(s':au):Prop:=
 match f with
 |.next=>∃Z' H',Inv X aa Z' H' s'/\D.nx Z' H'
 |.brk=>∃Z' H',Inv X aa Z' H' s'/\D.bk Z' H'
 |.cont=>∃Z' H',Inv X aa Z' H' s'/\D.ct Z' H'
 |.ret u=>∃v Z' H',Inv X aa Z' H' s'/\RelV v u/\D.rt v H'
def PE(X:Cx)(e:Expr)(t:TE):Prop:=
 ∀(aa:List (ag×Obj)) (s:au) (Z:St) (H:Hp) (Q:VK),Inv X aa Z H s->t Z H Q->wpAny (model X.prog X.w) X.A (eval e X.env) (EP X aa Z Q) X.xe s
def PT(X:Cx)(e:Expr)(t:TT):Prop:=
 ∀(aa:List (ag×Obj)) (s:au) (Z:St) (H:Hp) (Q:Bool->Hp->Prop),Inv X aa Z H s->t Z H Q->wpAny (model X.prog X.w) X.A (isTrue e X.env (eval e X.env)) (TP X aa Z Q) X.xe s
def PW(X:Cx)(e:Expr)(t:TT):Prop:=
 ∀(whole:Sem ai) (aa:List (ag×Obj)) (s:au) (Z:St) (H:Hp) (Q:Bool->Hp->Prop),Inv X aa Z H s->t Z H Q->wpAny (model X.prog X.w) X.A (isTrue e X.env whole) (TP X aa Z Q) X.xe s
def PW.pt{X:Cx}{e:Expr}{t:TT}(h:PW X e t):PT X e t:=h _
def PA(X:Cx)(es:List Expr)(t:TA):Prop:=
 ∀(pos:Pos) (aa:List (ag×Obj)) (s:au) (Z:St) (H:Hp) (Q:List V->Hp->Prop),Inv X aa Z H s->t Z H Q->wpAny (model X.prog X.w) X.A (spliced (backTo pos (starEach es X.env))) (AP X aa Z Q) X.xe s
def PS(X:Cx)(st:Stmt)(t:TS):Prop:=
 ∀(aa:List (ag×Obj)) (s:au) (Z:St) (H:Hp) (D:Ends),Inv X aa Z H s->t D Z H->wpAny (model X.prog X.w) X.A (exec st X.env) (SP X aa D) X.xe s
def ji(X:Cx)(st:List Stmt)(t:TS):Prop:=
 ∀(aa:List (ag×Obj)) (s:au) (Z:St) (H:Hp) (D:Ends),Inv X aa Z H s->t D Z H->wpAny (model X.prog X.w) X.A (execs st X.env) (SP X aa D) X.xe s
def bK{α:Type}{t:Sem α}{Q Q':α->au->Prop}{s:au}(h:wpAny M A t Q E s)(hQ:∀a s,Q a s->Q' a s):wpAny M A t Q' E s:=wpAny_mono h hQ λ_ _ x=>x
section
variable{X:Cx}
def A7(i:Nat):TE:=λZ H Q=>∃v,Z[i]?=some (some v)/\Q v H
def tC(v:V):TE:=λ_ H Q=>Q v H
def RC{i:Nat}{x:Str}{pos:Pos}(hN:X.N[i]?=some x)(hv:FV X.env.scope x)(hd:(x == ("__debug__":Str))=false:=by decide)(rP:(x == ("__classdict__":Str))=false:=by decide):PE X (.Name x pos) (A7 i):=by
 intro aa s Z H Q I h;obtain⟨v,e,h⟩:=h;obtain⟨m,hn,hl⟩:=I.loc;obtain⟨u,r,l⟩:=hl i x v hN e hv;have fin:EP X aa Z Q u s:=⟨v,H,I,r,h⟩;rcases l with⟨hk,hm⟩|⟨hk,c,hc,qO⟩
 .exact wpAny_Name (wpAny_loadName_local I.ok.kind hk hn hm fin) hd
 .rcases hk with hk|hk
  .exact wpAny_Name (wpAny_loadName_cell I.ok.kind hk hc qO fin) hd
  .exact wpAny_Name (wpAny_loadName_free I.ok.kind hk hc qO fin rP) hd
def e1q{i j pos}:PE X (.Constant (.int i) j pos) (tC (.int i)):=λ_ _ _ H _ I h=>wpAny_Constant_int ⟨.int i,H,I.tok _,⟨_,rfl⟩,h⟩
def e7v{b j pos}:PE X (.Constant (.bool b) j pos) (tC (.bl b)):=λ_ _ _ H _ I h=>Constant_bool ⟨.bl b,H,I,rfl,h⟩
def e1r{j pos}:PE X (.Constant .none j pos) (tC .aI):=λ_ _ _ H _ I h=>Constant_none ⟨.aI,H,I,rfl,h⟩
def e1s{x j pos}:PE X (.Constant (.str x) j pos) (tC (.str x)):=λ_ _ _ H _ I h=>Calls.Constant_str ⟨.str x,H,I.tok _,⟨_,rfl⟩,h⟩
def Gl(X:Cx)(x:Str):Prop:=X.env.kindOf x=some .globalImplicit
def BH{E:ai->au->Prop}{aa:List (ag×Obj)}{s:au}{Z:St}{H:Hp}{x:Str}{u:ai}{pos:Pos}{Q:ai->au->Prop}(I:Inv X aa Z H s)(hg:Gl X x)(hm:X.mg x=some u)(h:Q u s)
  (hd:(x == ("__debug__":Str))=false:=by decide):wpAny (model X.prog X.w) X.A (eval (.Name x pos) X.env) Q E s:=
 Calls.Name_function_global I.ok.kind hg (Calls.loadGlobal_global (by rw[I.ok.glob];exact I.mod.glob.keeps I.bk) hm h) hd
def xV{E:ai->au->Prop}{aa:List (ag×Obj)}{s:au}{Z:St}{H:Hp}{x:Str}{u:ai}{pos:Pos}{Q:ai->au->Prop}(I:Inv X aa Z H s)(hg:Gl X x)(hm:X.mg x=none)(hv:bootBuiltins x=some u)(h:Q u s)
  (hn:x≠"__name__":=by decide) (hd:(x == ("__debug__":Str))=false:=by decide):wpAny (model X.prog X.w) X.A (eval (.Name x pos) X.env) Q E s:=by
 obtain⟨mb,h1,h2⟩:=I.mod.blt;exact Calls.Name_function_global I.ok.kind hg (Calls.loadGlobal_builtin (by rw[I.ok.glob];exact I.mod.glob.keeps I.bk) hm (by rw[I.ok.blt];exact h1.keeps I.bk) ((h2 x hn).trans hv) h) hd
def ZP{x:Str}{v:V}{u:ai}{pos:Pos}(hg:Gl X x)(hm:X.mg x=none)(hv:bootBuiltins x=some u)(r:RelV v u)(hn:x≠"__name__":=by decide)(hd:(x == ("__debug__":Str))=false:=by decide):PE X (.Name x pos) (tC v):=
 λ_ _ _ H _ I h=>xV I hg hm hv ⟨v,H,I,r,h⟩ hn hd
variable{a b:Expr}{ta tb:TE}{pos:Pos}
def uz(b:Expr){op:CmpOp}(h:op≠.In)(h2:op≠.NotIn):behindInMarks op b=false:=by
 have e1:(op == CmpOp.In)=false:=by cases op <;> first|rfl|exact b_ rfl h
 have e2:(op == CmpOp.NotIn)=false:=by cases op <;> first|rfl|exact b_ rfl h2
 cases b <;> simp[behindInMarks,e1,e2]
def tB(t:TE):TT:=λZ H Q=>t Z H λx H1=>∃c,x=.bl c/\Q c H1
variable{tA Ir:TT}{rest:List Expr}
def M3(t u:TT):TT:=λZ H Q=>t Z H λc H1=>if c=true then u Z H1 Q else Q false H1
def tOr(t u:TT):TT:=λZ H Q=>t Z H λc H1=>if c=true then Q true H1 else u Z H1 Q
def M9(t:TT):TT:=λZ H Q=>t Z H λc H1=>Q (!c) H1
def ZQ(ha:PT X a tA):PW X (.BoolOp .And [a] pos) tA:=by
 intro wh aa s Z H Q I h;refine isTrue_and (bK (ha aa s Z H Q I h) λc s1 e=>?_)
 cases c with
 |true=>exact isTrue_and_nil e
 |false=>exact e
def e1t(ha:PT X a tA):PW X (.BoolOp .Or [a] pos) tA:=by
 intro wh aa s Z H Q I h;refine isTrue_or (bK (ha aa s Z H Q I h) λc s1 e=>?_)
 cases c with
 |false=>exact isTrue_or_nil e
 |true=>exact e
def e1u(ha:PT X a tA)(hb:PW X (.BoolOp .And (b::rest) pos) Ir):PW X (.BoolOp .And (a::b::rest) pos) (M3 tA Ir):=by
 intro wh aa s Z H Q I h;refine isTrue_and (bK (ha aa s Z H _ I h) λc s1 hh=>?_)
 obtain⟨H1,I1,q1⟩:=hh;cases c with
 |true=>exact hb wh aa s1 Z H1 Q I1 q1
 |false=>exact⟨H1,I1,q1⟩
def e7w(ha:PT X a tA)(hb:PW X (.BoolOp .Or (b::rest) pos) Ir):PW X (.BoolOp .Or (a::b::rest) pos) (tOr tA Ir):=by
 intro wh aa s Z H Q I h;refine isTrue_or (bK (ha aa s Z H _ I h) λc s1 hh=>?_)
 obtain⟨H1,I1,q1⟩:=hh;cases c with
 |true=>exact⟨H1,I1,q1⟩
 |false=>exact hb wh aa s1 Z H1 Q I1 q1
def e1v(ha:PT X a tA):PT X (.UnaryOp .Not a pos) (M9 tA):=by
 intro aa s Z H Q I h;exact isTrue_not (ha aa s Z H (λc H1=>Q (!c) H1) I h)
def Fh(ta tb:TE):TE:=λZ H Q=>ta Z H λx H1=>∃c,x=.bl c/\if c=true then tb Z H1 Q else Q (.bl false) H1
def AR{op}{t:TE}(h:PE X a t):PE X (.BoolOp op [a] pos) t:=λaa s Z H Q I hw=>BoolOp_one (h aa s Z H Q I hw)
def e1w(ha:PE X a ta)(hb:PE X (.BoolOp .And (b::rest) pos) tb):PE X (.BoolOp .And (a::b::rest) pos) (Fh ta tb):=by
 intro aa s Z H Q I h;refine BoolOp_and (bK (ha aa s Z H _ I h) λv s1 hh=>?_)
 obtain⟨x,H1,I1,r1,q1⟩:=hh;obtain⟨c,rfl,q1⟩:=q1;cases r1;refine wpAny_truthy_bool ?_;cases c with
 |true=>exact hb aa s1 Z H1 Q I1 q1
 |false=>exact⟨.bl false,H1,I1,rfl,q1⟩
def tIf(t:TT)(ta tb:TE):TE:=λZ H Q=>t Z H λc H1=>if c=true then ta Z H1 Q else tb Z H1 Q
def W8{c:Expr}(hc:PT X c tA)(ha:PE X a ta)(hb:PE X b tb):PE X (.IfExp c a b pos) (tIf tA ta tb):=by
 intro aa s Z H Q I h;refine wpAny_IfExp (bK (hc aa s Z H _ I h) λd s1 hh=>?_)
 obtain⟨H1,I1,q1⟩:=hh;cases d with
 |true=>exact ha aa s1 Z H1 Q I1 q1
 |false=>exact hb aa s1 Z H1 Q I1 q1
end
variable{x:Str}{u:ai}{aa:List (ag×Obj)}{Z:St}{H:Hp}{s:au}{c i e o tg:Expr}{tc:TT}{es:List Expr}{to ti te:TE}{P:de}{w:cC}{K:PySem.W.Frag}
def cM(K:PySem.W.Frag)(H:Hp)(a:ag)(xs:List V):Prop:=
 Rd H a (.lst xs)\/
  ∃(o:Obj) (aF:Array ai) (n:Nat),K.lookup a=some o/\o.cls=.type "list"/\o.dict=none/\o.data=.seq aF n/\aF.size<=sizeLine/\Vals xs aF.toList
def g7(K:PySem.W.Frag)(H:Hp)(a:ag)(xs:List V):Prop:=
 Rd H a (.tup xs)\/
  ∃(o:Obj) (aF:Array ai) (n:Nat),K.lookup a=some o/\o.cls=.type "tuple"/\o.data=.seq aF n/\aF.size<=sizeLine/\Vals xs aF.toList
noncomputable def JO:ai->ak V
 |.none=>some .aI
 |.bool b=>some (.bl b)
 |.int i _=>some (.int i)
 |.str x _=>some (.str x)
 |.bytes b _=>some (.x6 b)
 |.float b _=>some (.yk b)
 |.ref a=>some (.ref a)
 |.type n=>some (.ty n)
 |_=>none
def RelV.abs{x:V}(r:RelV x u):JO u=some x:=by
 cases x with
 |aI=>cases r;rfl
 |bl _=>cases r;rfl
 |int _=>obtain⟨t,rfl⟩:=r;rfl
 |str _=>obtain⟨t,rfl⟩:=r;rfl
 |x6 _=>obtain⟨t,rfl⟩:=r;rfl
 |yk _=>obtain⟨t,rfl⟩:=r;rfl
 |ref _=>cases r;rfl
 |ty _=>cases r;rfl
theorem RelV.inj{x y:V}{u:ai}(r:RelV x u)(q:RelV y u):x=y:=Option.some.inj (r.abs.symm.trans q.abs)
theorem Vals.inj{xs ys:List V}{us:List ai}(h:Vals xs us)(h':Vals ys us):xs=ys:=by
 induction h generalizing ys with
 |nil=>cases h';rfl
 |cons r t ih=>
  cases h' with
  |cons r' t'=>rw[r.inj r',ih t']
section
variable{X:Cx}{aa:List (ag×Obj)}{Z:St}{H:Hp}{s:au}{a:ag}{xs ys:List V}
def Inv.list(I:Inv X aa Z H s)(h:cM X.K H a xs):∃aF:List ai,Vals xs aF/\PlainL s.heap a aF.toArray/\xs.length<=sizeLine:=by
 rcases h with h|⟨o,aF,n,hk,hc,hd,hs,hz,r⟩
 .obtain⟨z,aF,n,r,e⟩:=h.ok I.bB;exact⟨aF,r,⟨_,n,e,rfl,rfl,rfl⟩,z⟩
 .refine⟨aF.toList,r,⟨o,n,I.kj a o hk,hc,hd,by simpa using hs⟩,?_⟩
  have e:=r.length
  simp_all
def Inv.tuple(I:Inv X aa Z H s)(h:g7 X.K H a xs):∃aF:List ai,Vals xs aF/\IsTup s.heap a aF.toArray/\xs.length<=sizeLine:=by
 rcases h with h|⟨o,aF,n,hk,hc,hs,hz,r⟩
 .obtain⟨z,aF,r,p⟩:=h.ok I.bB;exact⟨aF,r,p,z⟩
 .refine⟨aF.toList,r,⟨o,I.kj a o hk,hc,n,by simpa using hs⟩,?_⟩
  have e:=r.length;simp only[IC] at e;lia
def Inv.lh(I:Inv X aa Z H s)(h:cM X.K H a xs)(h':cM X.K H a ys):xs=ys:=by
 obtain⟨aF,r,⟨o,n,e,_,_,d⟩,_⟩:=I.list h;obtain⟨its',r',⟨o',n',e',_,_,d'⟩,_⟩:=I.list h';rw[e] at e';cases e';rw[d] at d';injection d' with d1 _;have:aF=its':=by simpa using congrArg Array.toList d1
 subst this;exact r.inj r'
def Inv.mT(I:Inv X aa Z H s)(h:g7 X.K H a xs)(h':g7 X.K H a ys):xs=ys:=by
 obtain⟨aF,r,⟨o,e,_,n,d⟩,_⟩:=I.tuple h;obtain⟨its',r',⟨o',e',_,n',d'⟩,_⟩:=I.tuple h';rw[e] at e';cases e';rw[d] at d';injection d' with d1 _;have:aF=its':=by simpa using congrArg Array.toList d1
 subst this;exact r.inj r'
end
section
variable{X:Cx}{aa:List (ag×Obj)}{Z:St}{H:Hp}{s:au}{E:ai->au->Prop}
end
section
variable{X:Cx}{st:Stmt}{rest:List Stmt}{t u:TS}{e:Expr}{te:TE}{pos:Pos}
def Fo:TS:=λD Z H=>D.nx Z H
def M'(t u:TS):TS:=λD Z H=>t { D with nx:=u D} Z H
def qU:ji X [] Fo:=λ_ _ Z H _ I h=>wpAny_execs_nil ⟨Z,H,I,h⟩
def W9(h1:PS X st t)(h2:ji X rest u):ji X (st::rest) (M' t u):=by
 intro aa s Z H D I h;refine wpAny_execs_cons (bK (h1 aa s Z H { D with nx:=u D} I h) λf s1 q=>?_)
 cases f with
 |next=>
  obtain⟨Z',H',I',q⟩:=q;exact h2 aa s1 Z' H' D I' q
 |ret v=>exact q
 |brk=>exact q
 |cont=>exact q
def Inv.quiet(I:Inv X aa Z H s):interactive X.env=false:=by simp[interactive,I.ok.kind]
def Fm(te:TE):TS:=λD Z H=>te Z H λ_ H1=>D.nx Z H1
def ZR(he:PE X e te)(hs:swapsWith e none pos.line X.env=pure false:=by rfl):PS X (.Expr e pos) (Fm te):=by
 intro aa s Z H D I h;exact wpAny_Expr_any (bK (he aa s Z H _ I h) λv s1 ⟨x,H1,I1,r1,q1⟩=>⟨Z,H1,I1,q1⟩) I.quiet hs
def M_(te:TE):TS:=λD Z H=>te Z H D.rt
def e1x(he:PE X e te):PS X (.Return (some e) pos) (M_ te):=by
 intro aa s Z H D I h;exact wpAny_Return_some (bK (he aa s Z H _ I h) λv s1 ⟨x,H1,I1,r1,q1⟩=>⟨x,Z,H1,I1,r1,q1⟩)
def M7(c:TT)(t u:TS):TS:=λD Z H=>c Z H λb H1=>if b=true then t D Z H1 else u D Z H1
def e7x{a b:List Stmt}(hc:PT X c tc)(ha:ji X a t)(hb:ji X b u):PS X (.If c a b pos) (M7 tc t u):=by
 intro aa s Z H D I h;refine wpAny_If (bK (hc aa s Z H _ I h) λd s1 hh=>?_)
 obtain⟨H1,I1,q1⟩:=hh;cases d with
 |true=>exact ha aa s1 Z H1 D I1 q1
 |false=>exact hb aa s1 Z H1 D I1 q1
end
abbrev TG:=V->St->Hp->(St->Hp->Prop)->Prop
abbrev uZ:=List V->St->Hp->(St->Hp->Prop)->Prop
def PG(X:Cx)(target:Expr)(t:TG):Prop:=
 ∀(aa:List (ag×Obj)) (s:au) (Z:St) (H:Hp) (v:V) (u:ai) (Q:St->Hp->Prop),Inv X aa Z H s->RelV v u->t v Z H Q->
  wpAny (model X.prog X.w) X.A (assign target X.env u) (λ_ s'=>∃Z' H',Inv X aa Z' H' s'/\Q Z' H') X.xe s
def CC(X:Cx)(ts:List Expr)(t:uZ):Prop:=
 ∀(aa:List (ag×Obj)) (s:au) (Z:St) (H:Hp) (vs:List V) (us:List ai) (Q:St->Hp->Prop),Inv X aa Z H s->Vals vs us->t vs Z H Q->
  wpAny (model X.prog X.w) X.A (assignInOrder ((assignEach ts X.env).map (·.2)) us) (λ_ s'=>∃Z' H',Inv X aa Z' H' s'/\Q Z' H') X.xe s
abbrev rE:=V->V->V->Hp->(Hp->Prop)->Prop
def vN(X:Cx)(t:rE):Prop:=
 ∀(aa:List (ag×Obj)) (s:au) (Z:St) (H:Hp) (o i v:V) (ov iv u:ai) (Q:Hp->Prop),Inv X aa Z H s->RelV o ov->RelV i iv->RelV v u->t o i v H Q->
  wpAny (model X.prog X.w) X.A (setItem ov iv u) (λ_ s'=>∃H',Inv X aa Z H' s'/\Q H') X.xe s
abbrev FT:=V->V->Hp->VK->Prop
def FQ(X:Cx)(op:Operator)(t:FT):Prop:=
 ∀(aa:List (ag×Obj)) (s:au) (Z:St) (H:Hp) (x y:V) (v u:ai) (Q:VK),Inv X aa Z H s->RelV x v->RelV y u->t x y H Q->
  wpAny (model X.prog X.w) X.A (inplaceOp op v u) (EP X aa Z Q) X.xe s
section
variable{X:Cx}{pos:Pos}
def qJ(i:Nat):TG:=λv Z H Q=>Q (Z.set i (some v)) H
def ZS{i:Nat}(hN:X.N.Nodup)(hi:X.N[i]?=some x)(hx:Loc X.env.scope x)(hf:X.fn x=true\/X.env.scope.names.lookup x=some .local := by first|exact .inl rfl|exact .inr rfl|assumption):PG X (.Name x pos) (qJ i):=by
 intro aa s Z H v u Q I r h;exact wpAny_assign_Name (Pu I hN hi hx r (λs' I'=>⟨_,H,I',h⟩) hf)
def DU:uZ:=λvs Z H Q=>vs=[]/\Q Z H
def ym(t:TG)(u:uZ):uZ:=λvs Z H Q=>∃v r,vs=v::r/\t v Z H λZ' H'=>u r Z' H' Q
def wU:CC X [] DU:=by
 intro aa s Z H vs us Q I r h;obtain⟨e,h⟩:=h;subst e;cases r;exact assignInOrder_nil ⟨Z,H,I,h⟩
def uG{t:TG}{u:uZ}(h1:PG X e t)(h2:CC X es u)
  (hs:(assignEach (e::es) X.env).map (·.2)=assign e X.env::(assignEach es X.env).map (·.2):=by rfl):CC X (e::es) (ym t u):=by
 intro aa s Z H vs us Q I r h;obtain⟨v,vr,e1,h⟩:=h;subst e1;cases r with
 |cons r rr=>
  rw[hs];refine assignInOrder_cons (bK (h1 aa s Z H _ _ _ I r h) λ_ s1 hh=>?_)
  obtain⟨Z1,H1,I1,q1⟩:=hh;exact h2 aa s1 Z1 H1 _ _ Q I1 rr q1
def Ak(K:PySem.W.Frag)(n:Nat)(t:uZ):TG:=λv Z H Q=>∃a xs,v=.ref a/\g7 K H a xs/\xs.length=n/\t xs Z H Q
def e1y{k:Nat}{t:uZ}{n:Nat}(hc:X.calm=true)(h:CC X es t)
  (hn:(assignEach es X.env).length=n:=by rfl) (lU:(assignEach es X.env).findIdx? (·.1)=none:=by rfl):PG X (.Tuple es k pos) (Ak X.K n t):=by
 intro aa s Z H v u Q I r hw;obtain⟨a,xs,e1,hq,hl,hw⟩:=hw;subst e1;cases r;obtain⟨aF,rv,ht,hz⟩:=I.tuple hq;refine assign_Tuple_tuple (I.ok.hd hc) ht (by simp[hn,<-hl,rv.length]) lU λh' hx=>?_
 have I1:Inv X aa Z H { s with heap:=h'}:=I.kept (t':=s.toks) λb o e=>hx b o (gR (cO e)) e
 exact h aa _ Z H xs _ Q I1 (by simpa using rv) hw
def Lq(to ti:TE)(t:rE):TG:=λv Z H Q=>to Z H λo H1=>ti Z H1 λi H2=>t o i v H2 λH3=>Q Z H3
def e1z{t:rE}(ho:PE X o to)(hi:PE X i ti)(hs:vN X t)
  (ha:∀v,assign (.Subscript o i pos) X.env v=(do
   let ov <-holding [v] (eval o X.env)
   let iv <-holding [v,ov] (eval i X.env)
   standAt pos
   holding [v,ov,iv] (setItem ov iv v)
   release [v,ov,iv] []):=by intro _;rfl):PG X (.Subscript o i pos) (Lq to ti t):=by
 intro aa s Z H v u Q I r h;rw[ha];refine ay (lH (bK (ho aa s Z H _ I h) λov s1 hh=>?_))
 obtain⟨x,H1,I1,r1,q1⟩:=hh;refine ay (lH (bK (hi aa s1 Z H1 _ I1 q1) λiv s2 hh=>?_))
 obtain⟨y,H2,I2,r2,q2⟩:=hh;refine ay (wpAny_standAt (ay (lH (bK (hs aa s2 Z H2 x y v ov iv u _ I2 r1 r2 r q2) λ_ s3 hh=>?_))))
 obtain⟨H3,I3,q3⟩:=hh;exact wpAny_release ⟨Z,H3,I3,q3⟩
def Fi(te:TE)(g:TG):TS:=λD Z H=>te Z H λx H1=>g x Z H1 D.nx
def e2a{g:TG}(he:PE X e te)(hg:PG X tg g)(hs:swapsWithSole [tg] e pos.line X.env=pure false:=by rfl)(hw:swappedStores [tg] e X.env=pure none:=by rfl)
  (h1:(assignEach [tg] X.env).map (·.2)=[assign tg X.env]:=by rfl):PS X (.Assign [tg] e pos) (Fi te g):=by
 intro aa s Z H D I h;refine wpAny_Assign_stores (bK (he aa s Z H _ I h) λv s1 hh=>?_) hs hw
 obtain⟨x,H1,I1,r1,q1⟩:=hh;rw[h1];exact bK (hg aa s1 Z H1 x v _ I1 r1 q1) λ_ s2 q=>q
def e2b{i:Nat}{pos':Pos}(hN:X.N.Nodup)(hi:X.N[i]?=some x)(hx:Loc X.env.scope x)(he:PE X e te)(hs:swapsWith e (some (.Name x pos')) pos.line X.env=pure false:=by rfl)(hf:X.fn x=true\/X.env.scope.names.lookup x=some .local := by first|exact .inl rfl|exact .inr rfl|assumption):
  PS X (.Assign [.Name x pos'] e pos) (Fi te (qJ i)):=by
 intro aa s Z H D I h;refine wpAny_Assign_Name (bK (he aa s Z H _ I h) λv s1 hh=>?_) hs
 obtain⟨y,H1,I1,r1,q1⟩:=hh;exact Pu I1 hN hi hx r1 (λs2 I2=>⟨_,H1,I2,q1⟩) hf
def Fj(to ti te:TE)(xg:V->V->Hp->VK->Prop)(Iv:FT)(xp:rE):TS:=λD Z H=>to Z H λo H1=>ti Z H1 λi H2=>xg o i H2 λx H3=>te Z H3 λy H4=>Iv x y H4 λz H5=>xp o i z H5 λH6=>D.nx Z H6
def CB(X:Cx)(t:V->V->Hp->VK->Prop):Prop:=
 ∀(aa:List (ag×Obj)) (s:au) (Z:St) (H:Hp) (o i:V) (ov iv:ai) (Q:VK),Inv X aa Z H s->RelV o ov->RelV i iv->t o i H Q->
  wpAny (model X.prog X.w) X.A (getItem ov iv) (EP X aa Z Q) X.xe s
def ZT{xg:V->V->Hp->VK->Prop}{Iv:FT}{xp:rE}{op:Operator}{fE:Pos}(ho:PE X o to)(hi:PE X i ti)(hg:CB X xg)(he:PE X e te)(hp:FQ X op Iv)(hs:vN X xp)
  (ha:∀ov iv new,augStore i ov iv new=(do holding [new,ov,iv] (setItem ov iv new);release [new,ov,iv] [];pure .next):=by intros;rfl):PS X (.AugAssign (.Subscript o i fE) op e pos) (Fj to ti te xg Iv xp):=by
 intro aa s Z H D I h;refine wpAny_AugAssign_SubscriptAny (bK (ho aa s Z H _ I h) λov s1 hh=>?_) ha
 obtain⟨x1,H1,I1,r1,q1⟩:=hh;refine bK (hi aa s1 Z H1 _ I1 q1) λiv s2 hh=>?_
 obtain⟨x2,H2,I2,r2,q2⟩:=hh;refine bK (hg aa s2 Z H2 x1 x2 ov iv _ I2 r1 r2 q2) λold s3 hh=>?_
 obtain⟨x3,H3,I3,r3,q3⟩:=hh;refine bK (he aa s3 Z H3 _ I3 q3) λv s4 hh=>?_
 obtain⟨x4,H4,I4,r4,q4⟩:=hh;refine bK (hp aa s4 Z H4 x3 x4 old v _ I4 r3 r4 q4) λnew s5 hh=>?_
 obtain⟨x5,H5,I5,r5,q5⟩:=hh;exact bK (hs aa s5 Z H5 x1 x2 x5 ov iv new _ I5 r1 r2 r5 q5) λ_ s6 ⟨H6,I6,q6⟩=>⟨Z,H6,I6,q6⟩
def L5(f:Int->Int->Int):FT:=λx y H Q=>∃i j,x=.int i/\y=.int j/\Q (.int (f i j)) H
def Aw:FQ X .Add (L5 λi j=>i+j):=by
 intro aa s Z H x y v u Q I r1 r2 h;obtain⟨i,j,e1,e2,q⟩:=h;subst e1;subst e2;obtain⟨t,rfl⟩:=r1;obtain⟨t',rfl⟩:=r2;exact iadd_int ⟨.int _,H,I.tok _,⟨_,rfl⟩,q⟩
end
section
variable{X:Cx}{pos:Pos}
def e2c(c:TT)(tb:TS):TS:=λD Z H=>∃W:Nat->St->Hp->Prop,(∃m,W m Z H)/\∀m Z H,W m Z H->
 c Z H λb H1=>if b=true then ∃N:St->Hp->Prop,(∀Z' H',N Z' H'->∃m',m'<m/\W m' Z' H')/\tb { D with nx:=N,ct:=N,bk:=D.nx} Z H1 else D.nx Z H1
def W_{body:List Stmt}{tb:TS}(hp:PassesOwn (model X.prog X.w) X.A X.env X.xe)(hc:PT X c tc)(hb:ji X body tb):PS X (.While c body [] pos) (e2c tc tb):=by
 intro aa s Z H D I h;obtain⟨W,⟨m0,w0⟩,turn⟩:=h;refine wpAny_While (codeAny_whileLoop (λn s'=>∃Z' H',Inv X aa Z' H' s'/\W n Z' H') ?_ m0 ⟨Z,H,I,w0⟩)
 rintro n s1 ⟨Z1,H1,I1,w1⟩;refine wpAny_passesOwn hp (bK (hc aa s1 Z1 H1 _ I1 (turn n Z1 H1 w1)) λb s2 hh=>?_)
 obtain⟨H2,I2,q2⟩:=hh;cases b with
 |true=>
  obtain⟨N,hN,q2⟩:=q2;rw[aX rfl];refine wpAny_passesOwn hp (bK (hb aa s2 Z1 H2 _ I2 q2) λf s3 q3=>?_)
  cases f with
  |next=>
   obtain⟨Z3,H3,I3,n3⟩:=q3;obtain⟨m',hm,w3⟩:=hN Z3 H3 n3;exact⟨m',hm,Z3,H3,I3,w3⟩
  |cont=>
   obtain⟨Z3,H3,I3,n3⟩:=q3;obtain⟨m',hm,w3⟩:=hN Z3 H3 n3;exact⟨m',hm,Z3,H3,I3,w3⟩
  |brk=>exact q3
  |ret v=>exact q3
 |false=>
  rw[aM pF];exact wpAny_execs_nil ⟨Z1,H2,I2,q2⟩
end
set_option genInjectivity false in
structure It where
 go:Nat->Hp->Prop
 uV:Nat->Hp->V->Hp->Prop
 stop:Nat->Hp->Prop
def jg(X:Cx)(aa:List (ag×Obj))(H:Hp)(b:ag):Prop:=
 H b=none/\b≠X.env.locals/\b∉X.fs/\(b∈X.ex\/X.s₀.heap.objs.size<=b)/\(∀x c,X.env.cells.lookup x=some c->c≠b)/\∀p∈X.pn++aa,p.1≠b
def Inv.lR{X:Cx}{H':Hp}{b:ag}(I:Inv X aa Z H s)(hb:s.heap.objs.size<=b)(hn:H' b=none):jg X aa H' b:=by
 refine⟨hn,yY (fX I.lt hb),I.AJ hb,.inr (i7 I.sz hb),λx c e z=>?_,λp hp z=>?_⟩
 .obtain⟨v,q⟩:=I.cell x c e;exact b_ (fX q.lt (by rw[z];exact hb)) (j9 _)
 .exact b_ (fX (cO (I.pin p hp).1) (by rw[z];exact hb)) (j9 _)
structure Turn (P:de) (w:cC) (K:PySem.W.Frag) (tg:Expr) (J:It) (fp:List ag) (it:ag) (tn:Nat->bV->Prop):Prop where
 mem:it∈fp
 obj:∀i h,tn i h->∀b∈fp,∃o,h.get? b=some o/\∀v,o.data≠.cell v
 keep:∀i h h',tn i h->(∀b∈fp,∀o,h.get? b=some o->h'.get? b=some o)->tn i h'
 item:∀(X:Cx),X.prog=P->X.w=w->X.K=K->X.calm=true->∀(i:Nat) (aa:List (ag×Obj)) (s:au) (Z:St) (H:Hp) (E:ai->au->Prop),Inv X aa Z H s->(∀b∈fp,jg X aa H b)->tn i s.heap->J.go i H->
  wpAny (model P w) X.A (pyNext (.ref it)) (λr s1=>∃u,r=some u/\ wpAny (model P w) X.A (letOwnedTupleGo tg (.ref it) u) (λ_ s2=>∃x H',Inv X aa Z H' s2/\RelV x u/\J.uV i H x H'/\tn (i+1) s2.heap/\∀b∈fp,H' b=none) E s1) E s
 done:∀(X:Cx),X.prog=P->X.w=w->X.K=K->X.calm=true->∀(i:Nat) (aa:List (ag×Obj)) (s:au) (Z:St) (H:Hp) (E:ai->au->Prop),Inv X aa Z H s->(∀b∈fp,jg X aa H b)->tn i s.heap->J.stop i H->
  wpAny (model P w) X.A (pyNext (.ref it)) (λr s1=>r=none/\Inv X aa Z H s1) E s
 self:∀(A:cQ) (i:Nat) (s:au) (Q:ai->au->Prop) (E:ai->au->Prop),tn i s.heap->Q (.ref it) s->wpAny (model P w) A (pyIter (.ref it)) Q E s
abbrev TI:=St->Hp->(It->Hp->Prop)->Prop
def Je(X:Cx)(aa:List (ag×Obj))(Z:St)(tg:Expr)(R:It->Hp->Prop)(Ig:ai)(s2:au):Prop:=
 ∃(it:ag) (fp:List ag) (tn:Nat->bV->Prop) (J:It) (H':Hp),Ig=.ref it/\Inv X aa Z H' s2/\Turn X.prog X.w X.K tg J fp it tn/\tn 0 s2.heap/\(∀b∈fp,jg X aa H' b)/\R J H'
def PI(X:Cx)(tg iter:Expr)(wi:TI):Prop:=
 ∀(aa:List (ag×Obj)) (s:au) (Z:St) (H:Hp) (R:It->Hp->Prop),Inv X aa Z H s->wi Z H R->
  wpAny (model X.prog X.w) X.A (eval iter X.env) (λv s1=>wpAny (model X.prog X.w) X.A (pyIter v) (Je X aa Z tg R) X.xe s1) X.xe s
def zV{M:Model}{A:cQ}{E:ai->au->Prop}{it:ag}{o:Obj}{n:String}{vs:Array ai}{Q:Unit->au->Prop}(ho:s.heap.get? it=some o)(hc:o.cls=.type n)(hd:o.data=.fields vs)
  (hn:["enumerate","zip","dict_itemiterator","dict_reverseitemiterator","odict_iterator","itertools.zip_longest","itertools.pairwise"].contains n=false) (hQ:Q () s):wpAny M A (letOwnedTupleGo tg (.ref it) u) Q E s:=by
 unfold letOwnedTupleGo;cases tg <;> first
  |exact aV hQ
  |(cases u <;> first
    |exact aV hQ
    |(refine ay (wpAny_load ho ?_)
      rw[hc,hd];show wpAny M A (if(["enumerate","zip","dict_itemiterator","dict_reverseitemiterator","odict_iterator","itertools.zip_longest","itertools.pairwise"].contains n&&vs[0]? == some (rawInt _))=true then _ else _) Q E s
      rw[aM (by intro h;rw[hn,Bool.false_and] at h;cases h)]
      exact aV hQ))
def IZ(K:PySem.W.Frag)(a:ag):It:=
 ⟨λi H=>∃xs x,cM K H a xs/\xs[i]?=some x,λi H x H'=>H'=H/\∀xs,cM K H a xs->xs[i]?=some x,λi H=>∃xs,cM K H a xs/\xs.length<=i⟩
def I_(K:PySem.W.Frag)(a:ag):It:=
 ⟨λi H=>∃xs x,g7 K H a xs/\xs[i]?=some x,λi H x H'=>H'=H/\∀xs,g7 K H a xs->xs[i]?=some x,λi H=>∃xs,g7 K H a xs/\xs.length<=i⟩
def FN(lo:Int)(n:Nat):It:=⟨λi _=>i<n,λi H x H'=>H'=H/\x=.int (lo+i),λi _=>n<=i⟩
def VP(a it:ag):Turn P w K tg (IZ K a) [it] it (λi h=>h.IsListIter it a i) where
 mem:=by simp
 obj:=λi h st b hb=>by
  have e:b=it:=by simpa using hb
  subst e;obtain⟨o,e,c,d⟩:=st;exact⟨o,e,λv z=>by rw[d] at z;cases z⟩
 keep:=λi h h' st k=>st.at λo e=>k it (by simp) o e
 item:=by
  intro X hP hw hK hc i aa s Z H E I hf st hg;subst hP hw hK;obtain⟨xs,x,hq,hx⟩:=hg;obtain⟨aF,rv,p,hz⟩:=I.list hq;obtain⟨u,hu,ru⟩:=rv.get hx;obtain⟨f0,f1,f2,f3,f4,f5⟩:=hf it (by simp)
  refine wpAny_pyNext_list_item st p.isList (x:=u) (by simpa using hu) λh' ko sb=>?_
  have I1:Inv X aa Z H { s with heap:=h'}:=I.turned (t':=s.toks) (λb o hb e=>(sb.2 b hb).trans e) f0 f1 f3 f4 f5
  obtain⟨o,e,c,d⟩:=id ko;exact⟨u,rfl,zV (s:={ s with heap:=h'}) e c d (by decide) ⟨x,H,I1,ru,⟨rfl,λys hy=>by rw[I.lh hy hq];exact hx⟩,ko,λb hb=>(hf b hb).1⟩⟩
 done:=by
  intro X hP hw hK hc i aa s Z H E I hf st hg;subst hP hw hK;obtain⟨xs,hq,hx⟩:=hg;obtain⟨aF,rv,p,hz⟩:=I.list hq;obtain⟨f0,f1,f2,f3,f4,f5⟩:=hf it (by simp)
  have hl:=rv.length;exact wpAny_pyNext_list_end (I.ok.hd hc) st p.isList (by simp;lia) λh' eb=>⟨rfl,I.turned (t':=s.toks) (λb o hb e=>eb b o hb e) f0 f1 f3 f4 f5⟩
 self:=λ_ _ _ _ _ st h=>wpAny_pyIter_listiter st h
def Va(a it:ag):Turn P w K tg (I_ K a) [it] it (λi h=>h.IsTupleIter it a i) where
 mem:=by simp
 obj:=λi h st b hb=>by
  have e:b=it:=by simpa using hb
  subst e;obtain⟨o,e,c,d⟩:=st;exact⟨o,e,λv z=>by rw[d] at z;cases z⟩
 keep:=λi h h' st k=>st.at λo e=>k it (by simp) o e
 item:=by
  intro X hP hw hK hc i aa s Z H E I hf st hg;subst hP hw hK;obtain⟨xs,x,hq,hx⟩:=hg;obtain⟨aF,rv,p,hz⟩:=I.tuple hq;obtain⟨u,hu,ru⟩:=rv.get hx;obtain⟨f0,f1,f2,f3,f4,f5⟩:=hf it (by simp)
  refine wpAny_pyNext_tuple_item st (show s.heap.IsTuple a aF.toArray from p) (x:=u) (by simpa using hu) λh' ko sb=>?_
  have I1:Inv X aa Z H { s with heap:=h'}:=I.turned (t':=s.toks) (λb o hb e=>(sb.2 b hb).trans e) f0 f1 f3 f4 f5
  obtain⟨o,e,c,d⟩:=id ko;exact⟨u,rfl,zV (s:={ s with heap:=h'}) e c d (by decide) ⟨x,H,I1,ru,⟨rfl,λys hy=>by rw[I.mT hy hq];exact hx⟩,ko,λb hb=>(hf b hb).1⟩⟩
 done:=by
  intro X hP hw hK hc i aa s Z H E I hf st hg;subst hP hw hK;obtain⟨xs,hq,hx⟩:=hg;obtain⟨aF,rv,p,hz⟩:=I.tuple hq;obtain⟨f0,f1,f2,f3,f4,f5⟩:=hf it (by simp)
  have hl:=rv.length;exact wpAny_pyNext_tuple_end (I.ok.hd hc) st (show s.heap.IsTuple a aF.toArray from p) (by simp;lia) λh' eb=>⟨rfl,I.turned (t':=s.toks) (λb o hb e=>eb b o hb e) f0 f1 f3 f4 f5⟩
 self:=λ_ _ _ _ _ st h=>wpAny_pyIter_tupleiter st h
def Vb(it:ag)(lo:Int)(n:Nat):Turn P w K tg (FN lo n) [it] it (λi h=>IsRangeIter h it (lo+(i:Nat)*1) ((n:Int) - (i:Nat)) 1) where
 mem:=by simp
 obj:=λi h st b hb=>by
  have e:b=it:=by simpa using hb
  subst e;exact⟨_,st,λv z=>by
   have z':Data.fields _=Data.cell v:=z;cases z'⟩
 keep:=λi h h' st k=>k it (by simp) _ st
 item:=by
  intro X hP hw hK hc i aa s Z H E I hf st hg;subst hP hw hK;obtain⟨f0,f1,f2,f3,f4,f5⟩:=hf it (by simp)
  have W:=Walks.range (prog:=X.prog) (w:=X.w) (I.ok.hd hc) it lo 1 n;refine W.item i s _ _ hg st λv h' tk hv ko kk=>?_
  obtain⟨t,rfl⟩:=hv;have I1:Inv X aa Z H { s with heap:=h',toks:=tk}:=I.turned (λb o hb e=>kk b o (by simpa using hb) e) f0 f1 f3 f4 f5
  refine⟨_,rfl,zV (s:={ s with heap:=h',toks:=tk}) (n:="range_iterator") ko rfl rfl (by decide) ⟨.int (lo+i),H,I1,⟨t,?_⟩,⟨rfl,rfl⟩,ko,λb hb=>(hf b hb).1⟩⟩
  rw[Int.mul_one]
 done:=by
  intro X hP hw hK hc i aa s Z H E I hf st hg;subst hP hw hK;obtain⟨f0,f1,f2,f3,f4,f5⟩:=hf it (by simp)
  exact wpAny_pyNext_range_end (I.ok.hd hc) st (by have:n<=i:=hg;lia) λh' eb=>⟨rfl,I.turned (t':=s.toks) (λb o hb e=>eb b o hb e) f0 f1 f3 f4 f5⟩
 self:=λ_ _ _ _ _ st h=>wpAny_pyIter_rangeiter st h
section
variable{X:Cx}{tg:Expr}
def yw(K:PySem.W.Frag)(tl:TE):TI:=λZ H R=>tl Z H λx H1=>∃a,x=.ref a/\(∃xs,cM K H1 a xs)/\R (IZ K a) H1
def Es(K:PySem.W.Frag)(tl:TE):TI:=λZ H R=>tl Z H λx H1=>∃a,x=.ref a/\(∃xs,g7 K H1 a xs)/\R (I_ K a) H1
def ZU{l:Expr}{tl:TE}(hl:PE X l tl):PI X tg l (yw X.K tl):=by
 intro aa s Z H R I h;refine bK (hl aa s Z H _ I h) λv s1 hh=>?_
 obtain⟨x,H1,I1,r1,q1⟩:=hh;obtain⟨a,e,⟨xs,hq⟩,q⟩:=q1;subst e;cases r1;obtain⟨aF,rv,p,hz⟩:=I1.list hq;refine wpAny_pyIter_list p.isList ?_;refine⟨s1.heap.objs.size,[s1.heap.objs.size],_,_,H1,rfl,I1.kept (t':=s1.toks) λb o e=>c8 _ e,VP a _,⟨_,jR _ rfl,rfl,rfl⟩,λb hb=>?_,q⟩
 have e:b=s1.heap.objs.size:=by simpa using hb
 subst e;exact I1.lR (bM _) (I1.bB.fresh (bM _))
def e2d{l:Expr}{tl:TE}(hl:PE X l tl):PI X tg l (Es X.K tl):=by
 intro aa s Z H R I h;refine bK (hl aa s Z H _ I h) λv s1 hh=>?_
 obtain⟨x,H1,I1,r1,q1⟩:=hh;obtain⟨a,e,⟨xs,hq⟩,q⟩:=q1;subst e;cases r1;obtain⟨aF,rv,p,hz⟩:=I1.tuple hq;refine wpAny_pyIter_tuple (show s1.heap.IsTuple a aF.toArray from p) ?_;refine⟨s1.heap.objs.size,[s1.heap.objs.size],_,_,H1,rfl,I1.kept (t':=s1.toks) λb o e=>c8 _ e,Va a _,⟨_,jR _ rfl,rfl,rfl⟩,λb hb=>?_,q⟩
 have e:b=s1.heap.objs.size:=by simpa using hb
 subst e;exact I1.lR (bM _) (I1.bB.fresh (bM _))
def Xa{aa:List (ag×Obj)}{Z:St}{H:Hp}{s:au}{R:It->Hp->Prop}{E:ai->au->Prop}{lo hi:Int}{t u v:Tok}{tk:Nat}(I:Inv X aa Z H s)(h1:-(2^62)<=lo)(h2:lo<2^62)(h3:-(2^62)<=hi)(h4:hi<2^62)
  (q:R (FN lo (hi - lo).toNat) H):wpAny (model X.prog X.w) X.A (pyIter (.ref s.heap.objs.size)) (Je X aa Z tg R) E { s with heap:=s.heap.push { cls:=.type "range",data:=.fields #[.int lo t,.int hi u,.int 1 v]},toks:=tk}:=by
 refine wpAny_pyIter_range (IsRange.new ..) (small_one h1 h2 h3 h4) ?_;have I1:Inv X aa Z H { s with heap:=s.heap.push { cls:=.type "range",data:=.fields #[.int lo t,.int hi u,.int 1 v]},toks:=tk}:=I.kept λb o e=>c8 _ e
 refine⟨(s.heap.push { cls:=.type "range",data:=.fields #[.int lo t,.int hi u,.int 1 v]}).objs.size,[(s.heap.push { cls:=.type "range",data:=.fields #[.int lo t,.int hi u,.int 1 v]}).objs.size],_,_,H,rfl,I1.kept (t':=tk) λb o e=>c8 _ e,Vb _ lo (hi - lo).toNat,?_,λb hb=>?_,q⟩
 .have e1:lo+((0:Nat):Int)*1=lo:=by simp
  have e2:(((hi - lo).toNat:Nat):Int) - ((0:Nat):Int)=Builtin.Range.rangeSize lo hi 1:=by rw[rangeSize_one];split <;> lia
  show IsRangeIter _ _ (lo+((0:Nat):Int)*1) ((((hi - lo).toNat:Nat):Int) - ((0:Nat):Int)) 1;rw[e1,e2];exact jR _ rfl
 .have e:b=(s.heap.push { cls:=.type "range",data:=.fields #[.int lo t,.int hi u,.int 1 v]}).objs.size:=by simpa using hb
  subst e;exact I1.lR (bM _) (I1.bB.fresh (bM _))
def yx(ta:TA):TI:=λZ H R=>ta Z H λvs H1=>∃j:Int,vs=[.int j] /\ -(2^62)<=j/\j<2^62/\R (FN 0 j.toNat) H1
def VQ{a:Expr}{ta:TA}{p pos:Pos}(hg:Gl X "range")(hm:X.mg "range"=none)(ha:PA X [a] ta)(hs:starEach [a] X.env=[(false,eval a X.env)]:=by rfl):PI X tg (.Call (.Name "range" p) [a] [] pos) (yx ta):=by
 intro aa s Z H R I h;refine Call_ (xV I hg hm boot_range (PyProof.Rows.callWith_type1 (bK (ha pos aa s Z H _ I h) λus s1 hh=>?_) hs rfl))
 obtain⟨vs,H1,I1,r1,q1⟩:=hh;obtain⟨j,e,q1,q2,q⟩:=q1;subst e;cases r1 with
 |cons r rr=>
  cases rr;obtain⟨t,rfl⟩:=r;exact call_range_1 (Xa I1 (by lia) (by lia) q1 q2 (by simpa using q))
def M6(wi:TI)(g:TG)(tb:TS):TS:=λD Z H=>wi Z H λJ H1=>∃W:Nat->Nat->St->Hp->Prop,(∃m,W 0 m Z H1)/\∀i m Z H,W i m Z H->
 (J.stop i H/\D.nx Z H)\/(J.go i H/\∃N:St->Hp->Prop,(∀Z' H',N Z' H'->∃m',m'<m/\W (i+1) m' Z' H')/\∀x H',J.uV i H x H'->g x Z H' λZ2 H2=>tb { D with nx:=N,ct:=N,bk:=D.nx} Z2 H2)
noncomputable def Dr(fp:List ag)(h:bV):List (ag×Obj):=fp.filterMap λb=>(h.get? b).map λo=>(b,o)
def CP{fp:List ag}{h:bV}{b:ag}{o:Obj}(hb:b∈fp)(e:h.get? b=some o):(b,o)∈Dr fp h:=pG.mpr ⟨b,hb,by rw[e];rfl⟩
def VR{fp:List ag}{h:bV}{p:ag×Obj}(hp:p∈Dr fp h):p.1∈fp/\h.get? p.1=some p.2:=by
 obtain⟨b,hb,e⟩:=pG.mp hp;cases q:h.get? b with
 |none=>rw[q] at e;cases e
 |some o=>
  rw[q] at e;have e':(b,o)=p:=Option.some.inj e;subst e';exact⟨hb,q⟩
def Inv.pinned{aa:List (ag×Obj)}{Z:St}{H:Hp}{s:au}{fp:List ag}(I:Inv X aa Z H s)(hf:∀b∈fp,jg X aa H b)(ho:∀b∈fp,∃o,s.heap.get? b=some o/\∀v,o.data≠.cell v):Inv X (aa++Dr fp s.heap) Z H s:=
 I.kl λp hp=>(dr.mp hp).elim (λz=>I.pin p (pQ _ z)) λz=>by
  obtain⟨hb,e⟩:=VR z;obtain⟨f0,f1,f2,_⟩:=hf p.1 hb;obtain⟨o,e',d⟩:=ho p.1 hb;rw[e] at e';cases e';exact⟨e,f0,f1,f2,d⟩
def Inv.eK{aa pl:List (ag×Obj)}{Z:St}{H:Hp}{s:au}(I:Inv X (aa++pl) Z H s):Inv X aa Z H s:=I.kl λp hp=>I.pin p (pQ _ (FF _ hp))
def RF{iter:Expr}{body:List Stmt}{wi:TI}{g:TG}{tb:TS}{pos:Pos}(hp:PassesOwn (model X.prog X.w) X.A X.env X.xe)(hc:X.calm=true)(hi:PI X tg iter wi)(hg:PG X tg g)(hb:ji X body tb)
  (hs:∀x,foldedSetIterable iter X.env x=pure x:=by intro _;rfl):PS X (.For tg iter body [] pos) (M6 wi g tb):=by
 intro aa s Z H D I h;refine wpAny_For (bK (hi aa s Z H _ I h) λv s1 h1=>bK h1 λIg s2 h2=>?_) hs
 obtain⟨it,fp,tn,J,H2,e,I2,T,sC,f2,W,⟨m0,w0⟩,turn⟩:=h2;subst e;have qk:∀{H':Hp},(∀b∈fp,H' b=none)->∀b∈fp,jg X aa H' b:=λhn b hb=>⟨hn b hb,(f2 b hb).2⟩
 refine codeAny_forLoop_any (λn s'=>∃i Z' H',Inv X aa Z' H' s'/\tn i s'.heap/\(∀b∈fp,H' b=none)/\W i n Z' H') ?_ m0 ⟨0,Z,H2,I2,sC,λb hb=>(f2 b hb).1,w0⟩
 rintro n s3 ⟨i,Z3,H3,I3,T3,SV,w3⟩;rcases turn i n Z3 H3 w3 with⟨stop,qn⟩|⟨go,N,hN,step⟩
 .refine wpAny_passesOwn hp (bK (T.done X rfl rfl rfl hc i aa s3 Z3 H3 X.xe I3 (qk SV) T3 stop) λr s4 ⟨hr,I4⟩=>?_)
  subst hr;exact wpAny_execs_nil ⟨Z3,H3,I4,qn⟩
 .refine wpAny_passesOwn hp (bK (T.item X rfl rfl rfl hc i aa s3 Z3 H3 X.xe I3 (qk SV) T3 go) λr s4 ⟨u,hr,h4⟩=>?_)
  subst hr;refine wpAny_passesOwn hp (bK h4 λ_ s5 hh=>?_)
  obtain⟨x,H5,I5,r5,y5,A5,Ln⟩:=hh;have IW:=I5.pinned (qk Ln) (T.obj _ _ A5);refine wpAny_passesOwn hp (bK (hg _ s5 Z3 H5 x u _ IW r5 (step x H5 y5)) λ_ s6 hh=>?_)
  obtain⟨Z6,H6,I6,q6⟩:=hh;refine wpAny_passesOwn hp (bK (hb _ s6 Z6 H6 _ I6 q6) λf s7 q7=>?_)
  have again:∀{Z7:St} {H7:Hp},Inv X (aa++Dr fp s5.heap) Z7 H7 s7->N Z7 H7->∃m,m<n/\∃i Z' H',Inv X aa Z' H' s7/\tn i s7.heap/\(∀b∈fp,H' b=none)/\W i m Z' H':=λ{Z7 H7} I7 n7=>by
   obtain⟨m',hm,w7⟩:=hN Z7 H7 n7;refine⟨m',hm,i+1,Z7,H7,I7.eK,T.keep _ _ _ A5 λb hb o e=>(I7.pin (b,o) (pQ _ (pQ _ (CP hb e)))).1,λb hb=>?_,w7⟩
   obtain⟨o,e,d⟩:=T.obj _ _ A5 b hb;exact(I7.pin (b,o) (pQ _ (pQ _ (CP hb e)))).2.1
  cases f with
  |next=>obtain⟨Z7,H7,I7,n7⟩:=q7;exact again I7 n7
  |cont=>obtain⟨Z7,H7,I7,n7⟩:=q7;exact again I7 n7
  |brk=>obtain⟨Z7,H7,I7,q7⟩:=q7;exact⟨Z7,H7,I7.eK,q7⟩
  |ret v=>obtain⟨x7,Z7,H7,I7,r7,q7⟩:=q7;exact⟨x7,Z7,H7,I7.eK,r7,q7⟩
end
variable{aa:List (ag×Obj)}{s:au}{Z:St}{H:Hp}{f:ai->ai->Sem ai}{op:CmpOp}{g:Int->Int->Int}{x:V}{us:List ai}
abbrev R2:=V->V->Hp->VK->Prop
variable{r r':R2}
def dF(X:Cx)(f:ai->ai->Sem ai)(r:R2):Prop:=
 ∀(aa:List (ag×Obj)) (s:au) (Z:St) (H:Hp) (x y:V) (v u:ai) (Q:VK),Inv X aa Z H s->RelV x v->RelV y u->r x y H Q->
  wpAny (model X.prog X.w) X.A (f v u) (EP X aa Z Q) X.xe s
def FU(X:Cx)(f:ai->Sem ai)(r:V->Hp->VK->Prop):Prop:=
 ∀(aa:List (ag×Obj)) (s:au) (Z:St) (H:Hp) (x:V) (v:ai) (Q:VK),Inv X aa Z H s->RelV x v->r x H Q->
  wpAny (model X.prog X.w) X.A (f v) (EP X aa Z Q) X.xe s
def bS(X:Cx)(f:ai)(r:List V->Hp->VK->Prop):Prop:=
 ∀(aa:List (ag×Obj)) (s:au) (Z:St) (H:Hp) (xs:List V) (us:List ai) (Q:VK),Inv X aa Z H s->Vals xs us->r xs H Q->
  wpAny (model X.prog X.w) X.A (call f us) (EP X aa Z Q) X.xe s
def Jf(X:Cx)(r:V->Hp->(Bool->Hp->Prop)->Prop):Prop:=
 ∀(aa:List (ag×Obj)) (s:au) (Z:St) (H:Hp) (x:V) (v:ai) (Q:Bool->Hp->Prop),Inv X aa Z H s->RelV x v->r x H Q->
  wpAny (model X.prog X.w) X.A (truthy v) (TP X aa Z Q) X.xe s
def Iu(r:R2)(ta tb:TE):TE:=λZ H Q=>ta Z H λx H1=>tb Z H1 λy H2=>r x y H2 Q
def tUn(r:V->Hp->VK->Prop)(ta:TE):TE:=λZ H Q=>ta Z H λx H1=>r x H1 Q
def rI(C:Int->Int->Prop)(g:Int->Int->V):R2:=λx y H Q=>∃i j,x=.int i/\y=.int j/\C i j/\Q (g i j) H
def qV(g:Int->Int->V):R2:=λx y H Q=>∃i j,x=.int i/\y=.int j/\Q (g i j) H
def rU(g:Int->V):V->Hp->VK->Prop:=λx H Q=>∃i,x=.int i/\Q (g i) H
section
variable{X:Cx}{a b c:Expr}{ta tb tc:TE}{pos:Pos}
def zW(ha:PE X a ta)(hb:PE X b tb){R:V->V->Hp->Prop}(I:Inv X aa Z H s)
  (h:ta Z H λx H1=>tb Z H1 λy H2=>R x y H2) {Q:ai->au->Prop} 
  (hf:∀v u s2 x y H2,Inv X aa Z H2 s2->RelV x v->RelV y u->R x y H2->wpAny (model X.prog X.w) X.A (f v u) Q X.xe s2) :
  wpAny (model X.prog X.w) X.A (eval a X.env) (λv s₁=>wpAny (model X.prog X.w) X.A (eval b X.env) (λu s₂=>wpAny (model X.prog X.w) X.A (f v u) Q X.xe s₂) X.xe s₁) X.xe s:=by
 refine bK (ha aa s Z H _ I h) λv s1 hh=>?_
 obtain⟨x,H1,I1,r1,q1⟩:=hh;refine bK (hb aa s1 Z H1 _ I1 q1) λu s2 hh=>?_
 obtain⟨y,H2,I2,r2,q2⟩:=hh;exact hf v u s2 x y H2 I2 r1 r2 q2
def e7y{op:Operator}(ho:dF X (binaryOp op) r)(ha:PE X a ta)(hb:PE X b tb):PE X (.BinOp a op b pos) (Iu r ta tb):=by
 intro aa s Z H Q I h;exact wpAny_BinOp (zW ha hb I h λv u s2 x y H2 I2 rx ry q=>ho aa s2 Z H2 x y v u Q I2 rx ry q)
def e7z{op:UnaryOp}{r:V->Hp->VK->Prop}(ho:FU X (unaryOp op) r)(ha:PE X a ta):PE X (.UnaryOp op a pos) (tUn r ta):=by
 intro aa s Z H Q I h;exact UnaryOp_ (bK (ha aa s Z H _ I h) λv s1 ⟨x,H1,I1,r1,q1⟩=>ho aa s1 Z H1 x v Q I1 r1 q1)
def Im{C:Int->Int->Prop}
  (rule:∀(i j:Int) (t u:Tok) (s:au) (Q:ai->au->Prop) (E:ai->au->Prop),C i j->Q (.int (g i j) s.toks) { s with toks:=s.toks+1}->wpAny (model X.prog X.w) X.A (f (.int i t) (.int j u)) Q E s) :
  dF X f (rI C λi j=>.int (g i j)):=by
 intro aa s Z H x y v u Q I rx ry h;obtain⟨i,j,rfl,rfl,hc,q⟩:=h;obtain⟨t,rfl⟩:=rx;obtain⟨t',rfl⟩:=ry;exact rule i j t t' s _ _ hc ⟨.int (g i j),H,I.tok _,⟨_,rfl⟩,q⟩
def EN
  (rule:∀(i j:Int) (t u:Tok) (s:au) (Q:ai->au->Prop) (E:ai->au->Prop),Q (.int (g i j) s.toks) { s with toks:=s.toks+1}->wpAny (model X.prog X.w) X.A (f (.int i t) (.int j u)) Q E s) :
  dF X f (qV λi j=>.int (g i j)):=by
 intro aa s Z H x y v u Q I rx ry h;obtain⟨i,j,rfl,rfl,q⟩:=h;obtain⟨t,rfl⟩:=rx;obtain⟨t',rfl⟩:=ry;exact rule i j t t' s _ _ ⟨.int (g i j),H,I.tok _,⟨_,rfl⟩,q⟩
def AL{g:Int->Int->Bool}
  (rule:∀(i j:Int) (t u:Tok) (s:au) (Q:ai->au->Prop) (E:ai->au->Prop),Q (.bool (g i j)) s->wpAny (model X.prog X.w) X.A (f (.int i t) (.int j u)) Q E s) :
  dF X f (qV λi j=>.bl (g i j)):=by
 intro aa s Z H x y v u Q I rx ry h;obtain⟨i,j,rfl,rfl,q⟩:=h;obtain⟨t,rfl⟩:=rx;obtain⟨t',rfl⟩:=ry;exact rule i j t t' s _ _ ⟨.bl (g i j),H,I,rfl,q⟩
def y_(i j:Int):Prop:=0<j/\j<1073741824
def ze(i j:Int):Prop:=0<=j/\j<=1000000/\i.natAbs<2^64
def vI(i j:Int):Prop:=(-(2^64)<i/\i<2^64)\/(-(2^64)<j/\j<2^64)
def vI.ok{i j:Int}(h:vI i j):IntMulOk i j:=by
 rcases h with⟨h1,h2⟩|⟨h1,h2⟩
 .exact .of_left (intBits_le_64 h1 h2)
 .exact .of_right (intBits_le_64 h1 h2)
def AM:dF X (binaryOp .Add) (qV λi j=>.int (i+j)):=EN λ_ _ _ _ _ _ _ q=>add_int q
def e2e:dF X (binaryOp .Sub) (qV λi j=>.int (i - j)):=EN λ_ _ _ _ _ _ _ q=>sub_int q
def AO:dF X (binaryOp .Mult) (rI vI λi j=>.int (i*j)):=Im λ_ _ _ _ _ _ _ hc q=>mul_int q hc.ok
def ZV:dF X (binaryOp .FloorDiv) (rI y_ λi j=>.int (i / j)):=Im λi j _ _ _ _ _ hc q=>by
 have h1:(0:Int)<j:=hc.1;have h2:j<1073741824:=hc.2;exact floordiv_int (by lia) (by rw[Int.fdiv_eq_ediv_of_nonneg i (by lia)];exact q) (.inl (PyProof.noPylong_small (by lia)))
def e2f:dF X (binaryOp .Mod) (rI (λ_ j=>0<j) λi j=>.int (i%j)):=Im λi j _ _ _ _ _ hc q=>by
 have h1:(0:Int)<j:=hc;exact mod_int' (by lia) (by rw[Int.fmod_eq_emod_of_nonneg i (by lia)];exact q)
def e2g:dF X (binaryOp .Pow) (rI ze λi j=>.int (i^j.toNat)):=Im λ_ _ _ _ _ _ _ hc q=>pow_int_small hc.1 hc.2.1 hc.2.2 q
def unI{f:ai->Sem ai}{g:Int->Int}
  (rule:∀(i:Int) (t:Tok) (s:au) (Q:ai->au->Prop) (E:ai->au->Prop),Q (.int (g i) s.toks) { s with toks:=s.toks+1}->wpAny (model X.prog X.w) X.A (f (.int i t)) Q E s) :
  FU X f (rU λi=>.int (g i)):=by
 intro aa s Z H x v Q I rx h;obtain⟨i,rfl,q⟩:=h;obtain⟨t,rfl⟩:=rx;exact rule i t s _ _ ⟨.int (g i),H,I.tok _,⟨_,rfl⟩,q⟩
def e2h:FU X (unaryOp .USub) (rU λi=>.int (-i)):=unI λ_ _ _ _ _ q=>neg_int q
end
section
variable{X:Cx}{a b c:Expr}{ta tb tc:TE}{pos:Pos}
def vY{Q:VK}{k k':Bool}(I:Inv X aa Z H s)(q:Q (.bl k) H)(e:k=k'):EP X aa Z Q (.bool k') s:=by
 subst e;exact⟨.bl k,H,I,rfl,q⟩
def yJ:dF X (compareOp .Lt) (qV λi j=>.bl (decide (i<j))):=AL λ_ _ _ _ _ _ _ q=>lt_int q
def yI:dF X (compareOp .LtE) (qV λi j=>.bl (decide (i<=j))):=AL λ_ _ _ _ _ _ _ q=>le_int q
def e8a:dF X (compareOp .Gt) (qV λi j=>.bl (decide (j<i))):=AL λ_ _ _ _ _ _ _ q=>gt_int q
def VS:dF X (compareOp .In) (λx y H Q=>∃i j,x=.str i/\y=.str j/\Q (.bl (!(Builtin.Str.occurrences j i 0 j.length 1).isEmpty)) H):=by
 intro aa s Z H x y v u Q I rx ry h;obtain⟨i,j,rfl,rfl,q⟩:=h;obtain⟨t,rfl⟩:=rx;obtain⟨t',rfl⟩:=ry;exact in_str (vY I q rfl)
def AN:dF X (compareOp .Is) (λx y H Q=>y=.aI/\Q (.bl (decide (x=.aI))) H):=by
 intro aa s Z H x y v u Q I rx ry h;obtain⟨rfl,q⟩:=h;cases ry;refine is_none_gen (vY I q ?_);cases x <;> first
  |(cases rx;rfl)
  |(obtain⟨t,rfl⟩:=rx;rfl)
def wO:dF X (compareOp .IsNot) (λx y H Q=>y=.aI/\Q (.bl (!decide (x=.aI))) H):=by
 intro aa s Z H x y v u Q I rx ry h;obtain⟨rfl,q⟩:=h;cases ry;refine isnot_none_gen (vY I q ?_);cases x <;> first
  |(cases rx;rfl)
  |(obtain⟨t,rfl⟩:=rx;rfl)
def UE:dF X (compareOp .NotIn) (λx y H Q=>∃i j,x=.str i/\y=.str j/\Q (.bl (!(!(Builtin.Str.occurrences j i 0 j.length 1).isEmpty))) H):=by
 intro aa s Z H x y v u Q I rx ry h;obtain⟨i,j,rfl,rfl,q⟩:=h;obtain⟨t,rfl⟩:=rx;obtain⟨t',rfl⟩:=ry;exact notIn_str (vY I q rfl)
def dF.or(h:dF X f r)(h':dF X f r'):dF X f (λx y H Q=>r x y H Q\/r' x y H Q):=by
 intro aa s Z H x y v u Q I rx ry q;rcases q with q|q
 .exact h aa s Z H x y v u Q I rx ry q
 .exact h' aa s Z H x y v u Q I rx ry q
def ZW(ho:dF X (compareOp op) r)(ha:PE X a ta)(hb:PE X b tb)(hm:behindInMarks op b=false):PE X (.Compare a [op] [b] pos) (Iu r ta tb):=by
 intro aa s Z H Q I h;exact wpAny_Compare1 (zW ha hb I h λv u s2 x y H2 I2 rx ry q=>ho aa s2 Z H2 x y v u Q I2 rx ry q) hm
def uP(t:TE):TT:=λZ H Q=>t Z H λx H'=>∃k,x=.bl k/\Q k H'
def ZX(ho:dF X (compareOp op) r)(ha:PE X a ta)(hb:PE X b tb)(hm:behindInMarks op b=false):PT X (.Compare a [op] [b] pos) (uP (Iu r ta tb)):=by
 intro aa s Z H Q I h;refine wpAny_isTrue_Compare1 (bK (ha aa s Z H _ I h) λv s1 ⟨x,H1,I1,r1,q1⟩=>bK (hb aa s1 Z H1 _ I1 q1) λu s2 ⟨y,H2,I2,r2,q2⟩=> bK (ho aa s2 Z H2 x y v u _ I2 r1 r2 q2) λc s3 ⟨z,H3,I3,r3,k,e,q3⟩=>?_) hm
 subst e;cases r3;exact wpAny_truthy_bool ⟨H3,I3,q3⟩
def RG(r r':R2)(ta tb tc:TE):TE:=λZ H Q=>ta Z H λx H1=>tb Z H1 λy H2=>r x y H2 λz H3=>∃k,z=.bl k/\
 (if k=true then tc Z H3 λw' H4=>r' y w' H4 Q else Q (.bl false) H3)
def Xb{AK:CmpOp}(ho:dF X (compareOp op) r)(yq:dF X (compareOp AK) r')(ha:PE X a ta)(hb:PE X b tb)(hc:PE X c tc)
  (hm:lastMarks [op,AK] [b,c]=false:=by with_unfolding_all rfl):PT X (.Compare a [op,AK] [b,c] pos) (uP (RG r r' ta tb tc)):=by
 intro aa s Z H Q I h;refine isTrue_chain (bK (ha aa s Z H _ I h) λv s1 ⟨x,H1,I1,r1,q1⟩=>test_link (bK (hb aa s1 Z H1 _ I1 q1) λu s2 ⟨y,H2,I2,r2,q2⟩=> bK (ho aa s2 Z H2 x y v u _ I2 r1 r2 q2) λd s3 ⟨z,H3,I3,r3,k,e,q3⟩=>?_)) hm
 subst e;cases r3;refine wpAny_truthy_bool ?_;cases k with
 |false=>
  obtain⟨k',e',q'⟩:=q3;cases e';exact ite_ff ⟨H3,I3,q'⟩
 |true=>
  refine ite_tt (test_last (bK (hc aa s3 Z H3 _ I3 q3) λw' s4 ⟨z',H4,I4,r4,q4⟩=>bK (yq aa s4 Z H4 y z' u w' _ I4 r2 r4 q4) λd' s5 ⟨z2,H5,I5,r5,k2,e2,q5⟩=>?_))
  subst e2;cases r5;exact wpAny_truthy_bool ⟨H5,I5,q5⟩
def zr(K:PySem.W.Frag)(x:V)(H:Hp)(k:Bool):Prop:=
 match x with
 |.aI=>k=false
 |.bl b=>k=b
 |.int i=>k=(i != 0)
 |.str y=>y.length<=sizeLine/\k=((y.length:Int) != 0)
 |.x6 y=>y.size<=sizeLine/\k=((y.size:Int) != 0)
 |.ref p=>(∃xs,cM K H p xs/\k = !xs.isEmpty)\/(∃xs,g7 K H p xs/\k = !xs.isEmpty)\/∃kvs,H p=some (.dK kvs)/\k = !kvs.isEmpty
 |_=>False
def Vc{κ:Type}{kvs:List (κ×V)}{vs:List (κ×ai)}(r:KV kvs vs):(!vs.isEmpty) = !kvs.isEmpty:=by
 cases r <;> rfl
def Ox{xs:List V}{aF:List ai}(r:Vals xs aF):(!aF.toArray.isEmpty) = !xs.isEmpty:=by
 cases r <;> simp
def zO:(sizeLine:Nat)<2^63:=by rw[sizeLine_eq];decide
def e2i:Jf X (λx H Q=>∃k,zr X.K x H k/\Q k H):=by
 intro aa s Z H x v Q I rx h;obtain⟨k,e,q⟩:=h;have hl:=zO;have hs:sizeLine=16777216:=sizeLine_eq;cases x with
 |aI=>
  cases rx;have e':k=false:=e;subst e';exact truthy_none ⟨H,I,q⟩
 |bl b=>
  cases rx;have e':k=b:=e;subst e';exact wpAny_truthy_bool ⟨H,I,q⟩
 |int i=>
  obtain⟨t,rfl⟩:=rx;have e':k=(i != 0):=e;subst e';exact PySem.P.truthy_int ⟨H,I,q⟩
 |str y=>
  obtain⟨t,rfl⟩:=rx;obtain⟨hy,e'⟩:y.length<=sizeLine/\k=((y.length:Int) != 0):=e;subst e';exact PySem.P.truthy_str (by lia) ⟨H,I.tok _,q⟩
 |x6 y=>
  obtain⟨t,rfl⟩:=rx;obtain⟨hy,e'⟩:y.size<=sizeLine/\k=((y.size:Int) != 0):=e;subst e';exact PySem.W.truthy_bytes (by lia) ⟨H,I.tok _,q⟩
 |ref p=>
  cases rx;have e':(∃xs,cM X.K H p xs/\k = !xs.isEmpty)\/(∃xs,g7 X.K H p xs/\k = !xs.isEmpty)\/∃kvs,H p=some (.dK kvs)/\k = !kvs.isEmpty:=e;rcases e' with⟨xs,hx,e'⟩|⟨xs,hx,e'⟩|⟨kvs,hx,e'⟩
  .subst e';obtain⟨aF,r,pl,hz⟩:=I.list hx;have hlen:=r.length;exact wpAny_truthy_list pl.isList (by simp only[dA];lia) ⟨H,I.tok _,by rw[Ox r];exact q⟩
  .subst e';obtain⟨aF,r,pl,hz⟩:=I.tuple hx;have hlen:=r.length;exact truthy_tuple pl (by simp only[dA];lia) ⟨H,I.tok _,by rw[Ox r];exact q⟩
  .subst e';obtain⟨hz,hS,vs,r,m⟩:kvs.length<=sizeLine/\(p == sysModules)=false/\∃vs,KV kvs vs/\s.heap.DictOf (Ki X.prog X.w) p vs:=I.bB p _ hx;have hlen:kvs.length=vs.length:=Paired.length r;exact wpAny_truthy_dict hS m (by lia) ⟨H,I.tok _,by rw[Vc r];exact q⟩
 |_=>exact(show False from e).elim
def Xc(ha:PE X a ta)(he:∀whole,isTrue a X.env whole=(do let v <-whole;standAt a.pos;holding [v] (truthy v))):
  PT X a (λZ H Q=>ta Z H λx H'=>∃k,zr X.K x H' k/\Q k H'):=by
 intro aa s Z H Q I h;exact isTrue_plain (bK (ha aa s Z H _ I h) λv s1 ⟨x,H1,I1,r1,q1⟩=>e2i aa s1 Z H1 x v Q I1 r1 q1) (he _)
def qj:dF X (binaryOp .Add) (λx y H Q=>∃i j,x=.str i/\y=.str j/\i.length+j.length<=sizeLine/\Q (.str (i++j)) H):=by
 intro aa s Z H x y v u Q I rx ry h;obtain⟨i,j,rfl,rfl,hz,q⟩:=h;obtain⟨t,rfl⟩:=rx;obtain⟨t',rfl⟩:=ry;exact add_str (λt' tk=>⟨.str (i++j),H,I.tok _,⟨_,rfl⟩,q⟩) hz
def vals1(r:Vals [x] us):∃u,us=[u]/\RelV x u:=by
 cases r with
 |cons r1 r2=>cases r2;exact⟨_,rfl,r1⟩
def vals2{y:V}(r:Vals [x,y] us):∃u w',us=[u,w']/\RelV x u/\RelV y w':=by
 cases r with
 |cons r1 r2=>
  cases r2 with
  |cons r3 r4=>cases r4;exact⟨_,_,rfl,r1,r3⟩
end
variable{h:bV}{dx C:ag}{mA:Str->ak ai}{Q:ai->au->Prop}{v:V}{o:ak ai}{u:ai}{K:PySem.W.Frag}{f:Str}
structure p7 (h:bV) (x dx C:ag) (mA:Str->ak ai):Prop where
 obj:h.get? x=some (PySem.W.instObj C dx)
 ns:h.Ns1 dx mA
 ne:dx≠x
def VT(n:h.Ns1 dx mA):∃od,h.get? dx=some od/\∀name,PySem.W.lookIn name od=some (mA name):=by
 obtain⟨o,es,ep,ho,hd,hk,_,hm⟩:=n;refine⟨o,ho,λname=>?_⟩
 have e:=hm name;unfold nsFind findBy at e;rw[<-Array.find?_toList] at e;unfold PySem.W.lookIn;rw[hd];dsimp only;split
 .rename_i y q
  rw[q] at e;exact congrArg some e
 .rename_i q
  rw[q] at e;have a:es.toList.any (·.refKey)=false:=by
   rw[List.any_eq_false];intro y hy;obtain⟨z,t,LK⟩:=hk y (Nu.mp hy);simp[DictEntry.refKey,LK]
  have a':¬es.toList.any (·.refKey)=true:=by rw[a];exact pF
  rw[aM a'];exact congrArg some e
def p7.look{x:ag}(I:p7 h x dx C mA):∃od,PySem.W.InstAt h x (PySem.W.instObj C dx) C (some od)/\∀name,PySem.W.lookIn name od=some (mA name):=
 let ⟨od,ho,hl⟩:=VT I.ns
 ⟨od,⟨I.obj,rfl,rfl,ho⟩,hl⟩
section
variable{prog:de}{w:cC}{A:cQ}{E:ai->au->Prop}{s:au}{K:PySem.W.Frag}{x dx C f:ag}{mA:Str->ak ai}{name:Str}{v:ai}
def ZY{expr:Bool}(X:K.In s.heap)(I:p7 s.heap x dx C mA)(hg:PySem.W.plainGet K C name=true)(hh:PySem.W.hasDictIn K C=true)
  (ha:PySem.W.findIn K (.ref C) name=some none) (hv:mA name=some v) (LY:PySem.W.handedIn v=true) (h:Q v { s with toks:=s.toks+1}) :
  wpAny (model prog w) A (getAttr (.ref x) name expr) Q E s:=by
 obtain⟨od,J,hl⟩:=I.look;exact PySem.W.get_value X J (PySem.W.plainGet_of hg).1 (PySem.W.findObj_own hh ha rfl (by rw[hl,hv])) LY h
def Xd{pl:Sem Bool}{Q:ai×List ai->au->Prop}(X:K.In s.heap)(I:p7 s.heap x dx C mA)(hg:PySem.W.plainGet K C name=true)
  (hf:PySem.W.findIn K (.ref C) name=some (some (.ref f))) (ht:PySem.W.isFn K (.ref f)=true) (hv:mA name=none) (h:Q (.ref f,[.ref x]) s) :
  wpAny (model prog w) A (getMethod (.ref x) name pl) Q E s:=by
 obtain⟨od,J,hl⟩:=I.look;exact PySem.W.method_fn X J (PySem.W.plainGet_of hg).1 (PySem.W.plainGet_of hg).2 hf (beq_iff_eq.mp ht) (by show(PySem.W.lookIn name od).map (·.isSome)=some false;rw[hl,hv];rfl) h
def ZZ{ns:List Str}{Q:Unit->au->Prop}(X:K.In s.heap)(I:p7 s.heap x dx C mA)
  (hs:PySem.W.findIn K (.ref C) "__setattr__"=some (some (.builtin "object.__setattr__"))) (hp:PySem.W.plainOver K C=true) (ht:PySem.W.takerIn K C name=some none) (hh:PySem.W.hasDictIn K C=true)
  (hw:PySem.Within mA ns) (hsz:ns.length<=sizeLine)
  (h:∀h',p7 h' x dx C (λy=>if y=name then some v else mA y)->Heap.SameBut dx s.heap h'->Q () { s with heap:=h',toks:=s.toks+2}) :
  wpAny (model prog w) A (setAttr (.ref x) name v) Q E s:=by
 obtain⟨od,J,hl⟩:=I.look;refine PySem.W.set_plain X J hs (PySem.W.osa_open (s:={ s with toks:=s.toks+1}) (r:=none) X J hp ht λb=>?_)
 obtain⟨cd,hc,qP⟩:=PySem.W.any_some hh;have hx:s.heap.get? x=some ⟨.ref C,some dx,.plain,#[]⟩:=I.obj;refine ay (aV (ay (ay (wpAny_loadPart hx (ay (PySem.W.Looks.here (s:={ s with toks:=s.toks+1}) (PySem.W.looks_clsIn X hc) ?_))))));rw[qP];refine aV (a:=some dx) (ay (aV (ay ?_)));refine wpAny_nsSet1 (s:={ s with toks:=s.toks+1}) I.ns λh' Ap wz=>?_
 obtain⟨oD,esD,epD,LO,LF,hcD⟩:=Ap.count (PySem.Within.cons name v hw);refine ay (wpAny_lookBehind LO (by rw[LF];exact pastItsLine_dict (i7 hcD (by rw[ju];lia))) ?_)
 exact aV (h _ ⟨(wz.2 _ (Ne.symm I.ne)).trans I.obj,Ap,I.ne⟩ wz)
def Xe{R:Result->au->Prop}{vs:List ai}{kw:List (Str×ai)}(X:K.In s.heap)(hm:PySem.W.makesIn K C=true)
  (hi:PySem.W.findIn K (.ref C) "__init__"=some (some (.ref f))) (hf:PySem.W.typeIn K (.ref f)=some (.type "function"))
  (h:codeAny (model prog w) (A.under (.builtin "type.__call__" ⟨.ref C::vs,kw⟩)) (.call (.ref f) ⟨.ref (s.heap.objs.size+1)::vs,kw⟩) (PySem.W.InitBack (s.heap.objs.size+1) R) {s with heap:=(s.heap.push PySem.W.emptyDict).push (PySem.W.instObj C s.heap.objs.size)}) :
  codeAny (model prog w) A (.call (.ref C) ⟨vs,kw⟩) R s:=by
 obtain⟨hh,g,d,t,os⟩:=s;exact PySem.W.make_core (PySem.W.makes_of X hm) (PySem.W.looks_findIn X hi) (λself=>PySem.W.bind_fn X self hf) (.inl rfl) h
end
noncomputable def dI(f:Str)(v:V):List (Str×V)->List (Str×V)
 |[]=>[(f,v)]
 |(g,x)::r=>if g=f then(g,v)::r else(g,x)::dI f v r
theorem Og(f g:Str)(v:V):∀fs:List (Str×V),(dI f v fs).lookup g=if g=f then some v else fs.lookup g
 |[]=>by
  show List.lookup g [(f,v)]=_;by_cases h:g=f
  .have hb:(g == f)=true:=beq_iff_eq.mpr h;simp only[List.lookup,hb,aX h]
  .have hb:(g == f)=false:=nQ.mpr h;simp only[List.lookup,hb,aM h]
 |(k,x)::r=>by
  have ih:=Og f g v r;rw[show dI f v ((k,x)::r)=(if k=f then(k,v)::r else(k,x)::dI f v r) from rfl]
  by_cases hk:k=f
  .rw[aX hk];by_cases h:g=k
   .have hb:(g == k)=true:=beq_iff_eq.mpr h;simp only[List.lookup,hb,aX (h.trans hk)]
   .have hb:(g == k)=false:=nQ.mpr h;simp only[List.lookup,hb,aM (λe:g=f=>h (e.trans hk.symm))]
  .rw[aM hk];by_cases h:g=k
   .have hb:(g == k)=true:=beq_iff_eq.mpr h;simp only[List.lookup,hb,aM (λe:g=f=>hk (h.symm.trans e))]
   .have hb:(g == k)=false:=nQ.mpr h;simp only[List.lookup,hb];exact ih
theorem JP(f:Str)(v:V):∀fs:List (Str×V),f∈(dI f v fs).map (·.1)/\∀g,g∈fs.map (·.1)->g∈(dI f v fs).map (·.1)
 |[]=>⟨by simp[dI],λg h=>by simp at h⟩
 |(k,x)::r=>by
  obtain⟨i1,i2⟩:=JP f v r;rw[show dI f v ((k,x)::r)=(if k=f then(k,v)::r else(k,x)::dI f v r) from rfl]
  by_cases hk:k=f
  .rw[aX hk];subst hk;exact⟨by simp,λg h=>by simpa using h⟩
  .rw[aM hk];refine⟨?_,λg h=>?_⟩
   .rw[bQ];exact qm _ i1
   .rw[bQ] at h ⊢;rcases y04.mp h with e|e
    .exact y04.mpr (.inl e)
    .exact qm _ (i2 g e)
theorem Oh(f:Str)(v:V):∀fs:List (Str×V),(dI f v fs).length<=fs.length+1
 |[]=>by simp[dI]
 |(k,x)::r=>by
  have ih:=Oh f v r;rw[show dI f v ((k,x)::r)=(if k=f then(k,v)::r else(k,x)::dI f v r) from rfl]
  by_cases hk:k=f
  .rw[aX hk,ju,ju];lia
  .rw[aM hk,ju,ju];lia
def iz.some_of(r:iz (some v) o):∃u,o=some u/\RelV v u:=by
 cases o with
 |none=>exact(show False from r).elim
 |some u=>exact⟨u,rfl,r⟩
def iz.none_of(r:iz none o):o=none:=by
 cases o with
 |none=>rfl
 |some u=>exact(show False from r).elim
def VU(r:RelV v u):PySem.W.handedIn u=true:=by
 cases v with
 |aI=>cases(show u=Value.none from r);rfl
 |bl b=>cases(show u=Value.bool b from r);rfl
 |int i=>obtain⟨t,e⟩:=(show ∃t,u=Value.int i t from r);cases e;rfl
 |str x=>obtain⟨t,e⟩:=(show ∃t,u=Value.str x t from r);cases e;rfl
 |x6 b=>obtain⟨t,e⟩:=(show ∃t,u=Value.bytes b t from r);cases e;rfl
 |yk b=>obtain⟨t,e⟩:=(show ∃t,u=Value.float b t from r);cases e;rfl
 |ref a=>cases(show u=Value.ref a from r);rfl
 |ty n=>cases(show u=Value.type n from r);rfl
section
variable{P:de}{w:cC}{H H':Hp}{h h':bV}{a C dx:ag}{fs B2:List (Str×V)}
def Kj(bB:jh P w H h)(e:H a=some (.ins C dx fs)):∃mA,p7 h a dx C mA/\(∀f,iz (fs.lookup f) (mA f))/\PySem.Within mA (fs.map (·.1))/\fs.length<=1000/\H dx=some (.own a):=by
 obtain⟨d,z,ne,ob,mA,n,r,q⟩:=(show bH P w H h a (.ins C dx fs) from bB a _ e);exact⟨mA,⟨ob,n,ne⟩,r,q,z,d⟩
end
structure pU (K:PySem.W.Frag) (C:ag):Prop where
 pg:PySem.W.plainGet K C Str.empty=true
 hd:PySem.W.hasDictIn K C=true
 po:PySem.W.plainOver K C=true
 sa:PySem.W.findIn K (.ref C) "__setattr__"=some (some (.builtin "object.__setattr__"))
def pU.get(c:pU K C)(f:Str):PySem.W.plainGet K C f=true:=c.pg
def fM(K:PySem.W.Frag)(C:ag)(f:Str):Prop:=PySem.W.findIn K (.ref C) f=some none
def fM.Fq(n:fM K C f):PySem.W.takerIn K C f=some none:=by
 unfold PySem.W.takerIn;rw[show PySem.W.findIn K (.ref C) f=some none from n];rfl
structure Con (K:PySem.W.Frag) (C:ag) (f:Str) (v:V) (u:ai):Prop where
 at_:PySem.W.findIn K (.ref C) f=some (some u)
 rel:RelV v u
 get:PySem.W.specialIn K u "__get__"=some none
 cp:PySem.W.copiedNames.contains f=false
structure Meth (K:PySem.W.Frag) (C:ag) (m:Str) (f:ag):Prop where
 at_:PySem.W.findIn K (.ref C) m=some (some (.ref f))
 fn:PySem.W.isFn K (.ref f)=true
 kp:PySem.W.keepIn K (.ref f)=true
section
variable{X:Cx}{aa:List (ag×Obj)}{Z:St}{H:Hp}{s:au}{a C dx:ag}{fs:List (Str×V)}{f:Str}{v:V}{A:cQ}{E:ai->au->Prop}
def Oy{b:Bool}(I:Inv X aa Z H s)(e:H a=some (.ins C dx fs))(c:pU X.K C)(n:fM X.K C f)(l:fs.lookup f=some v)
  (h:∀u s',Inv X aa Z H s'->RelV v u->Q u s'):wpAny (model X.prog X.w) A (getAttr (.ref a) f b) Q E s:=by
 obtain⟨mA,O,r,_,_,_⟩:=Kj I.bB e;obtain⟨u,hu,ru⟩:=iz.some_of (v:=v) (o:=mA f) (by rw[<-l];exact r f)
 exact ZY I.kj O (c.get f) c.hd n hu (VU ru) (h u _ (I.tok _) ru)
def Oz{m:Str}{g:ag}{pl:Sem Bool}{Q:ai×List ai->au->Prop}(I:Inv X aa Z H s)(e:H a=some (.ins C dx fs))(c:pU X.K C)(k:Meth X.K C m g)(l:fs.lookup m=none)
  (h:Q (.ref g,[.ref a]) s):wpAny (model X.prog X.w) A (getMethod (.ref a) m pl) Q E s:=by
 obtain⟨mA,O,r,_,_,_⟩:=Kj I.bB e;have hn:mA m=none:=iz.none_of (by rw[<-l];exact r m)
 exact Xd I.kj O (c.get m) k.at_ k.fn hn h
def b2i{y:V}{Q:Unit->au->Prop}(I:Inv X aa Z H s)(e:H a=some (.ins C dx fs))(c:pU X.K C)(n:fM X.K C f)(hl:fs.length<1000)(ry:RelV y u)
  (h:∀s',Inv X aa Z (upd H a (.ins C dx (dI f y fs))) s'->Q () s'):wpAny (model X.prog X.w) A (setAttr (.ref a) f u) Q E s:=by
 obtain⟨mA,O,r,wi,_,ho⟩:=Kj I.bB e;have hz:(fs.map (·.1)).length<=sizeLine:=by rw[bh,sizeLine_eq];lia
 refine ZZ I.kj O c.sa c.po n.Fq c.hd wi hz λh' O' sb=>h _ ?_
 have hd:∃o,h'.get? dx=some o:=let ⟨o,_,_,e',_⟩:=O'.ns;⟨o,e'⟩
 refine I.write (x:=a) (e:=dx) (by rw[e];exact uU) (.inr ho) (λb q hb z=>(sb.2 b hb).trans z) hd ?_
 refine⟨by rw[c_ O.ne];exact ho,?_,O.ne,O'.obj,_,O'.ns,λg=>?_,λg hg=>?_⟩
 .have:=Oh f y fs;lia
 .show iz ((dI f y fs).lookup g) (if g=f then some u else mA g)
  rw[Og];by_cases q:g=f
  .rw[aX q,aX q];exact ry
  .rw[aM q,aM q];exact r g
 .by_cases q:g=f
  .rw[q];exact(JP f y fs).1
  .refine(JP f y fs).2 g (wi g λz=>hg ?_)
   show(if g=f then some u else mA g)=none
   rw[aM q];exact z
def Inv.made(I:Inv X aa Z H s):Inv X aa Z (upd (upd H s.heap.objs.size (.own (s.heap.objs.size+1))) (s.heap.objs.size+1) (.ins C s.heap.objs.size []))
  {s with heap:=(s.heap.push PySem.W.emptyDict).push (PySem.W.instObj C s.heap.objs.size)}:=by
 have e1:(s.heap.push PySem.W.emptyDict).get? s.heap.objs.size=some PySem.W.emptyDict:=jR s.heap rfl;have e2:((s.heap.push PySem.W.emptyDict).push (PySem.W.instObj C s.heap.objs.size)).get? (s.heap.objs.size+1)=some (PySem.W.instObj C s.heap.objs.size):=by
  have:=jR (s.heap.push PySem.W.emptyDict) (o:=PySem.W.instObj C s.heap.objs.size) rfl
  rwa[Heap.size_push] at this
 have e3:(s.heap.push PySem.W.emptyDict).Ns s.heap.objs.size (λ_=>none):=⟨PySem.W.emptyDict,#[],_,e1,rfl,(λe he=>b_ he (by simp)),λ_=>rfl⟩
 have I1:=I.laid (a:=s.heap.objs.size) (o:=.own (s.heap.objs.size+1)) (h':=s.heap.push PySem.W.emptyDict) (t':=s.toks) (λb u q=>c8 _ q) (bM _) ⟨_,e1⟩
 refine I1.laid (a:=s.heap.objs.size+1) (o:=.ins C s.heap.objs.size []) (t':=s.toks) (λb u q=>c8 _ q) (FH (Heap.size_push _ _)) ?_
 have ne:s.heap.objs.size≠s.heap.objs.size+1:=gR (xD _);refine⟨by rw[c_ ne,aJ],mU _,ne,e2,λ_=>none,(Heap.Ns1.of_empty e3).at λo q=>c8 _ q,λ_=>uU,λy hy=>b_ rfl hy⟩
def Z0{prog:de}{w:cC}{env:Env}{e:Expr}{pos:Pos}{s:au}(hb:attributeBase e f env (eval e env)=eval e env)
  (h:wpAny (model prog w) A (eval e env) (λo s₁=>wpAny (model prog w) A (getAttr o f true) Q E s₁) E s):wpAny (model prog w) A (eval (.Attribute e f pos) env) Q E s:=
 Attribute_any_ h (by rw[arm_eval_Attribute,hb])
end
def M5(K:PySem.W.Frag)(ta:TE)(f:Str):TE:=λZ H Q=>ta Z H λx H1=>∃a C dx fs v,x=.ref a/\H1 a=some (.ins C dx fs)/\pU K C/\fM K C f/\fs.lookup f=some v/\Q v H1
def MN(K:PySem.W.Frag)(ta tv:TE)(f:Str):TS:=λD Z H=>tv Z H λy H1=>ta Z H1 λx H2=>∃a C dx fs,x=.ref a/\H2 a=some (.ins C dx fs)/\pU K C/\fM K C f/\fs.length<1000/\
 D.nx Z (upd H2 a (.ins C dx (dI f y fs)))
def zo(X:Cx)(op:Operator)(rd:V->V->Hp->VK->Prop):Prop:=
 ∀(aa:List (ag×Obj)) (s:au) (Z:St) (H:Hp) (x y:V) (u v:ai) (Q:VK),Inv X aa Z H s->RelV x u->RelV y v->rd x y H Q->wpAny (model X.prog X.w) X.A (inplaceOp op u v) (EP X aa Z Q) X.xe s
def Z4(K:PySem.W.Frag)(ta tv:TE)(rd:V->V->Hp->VK->Prop)(f:Str):TS:=λD Z H=>ta Z H λx H1=>∃a C dx fs v,x=.ref a/\H1 a=some (.ins C dx fs)/\pU K C/\fM K C f/\fs.lookup f=some v/\
 tv Z H1 λy H2=>rd v y H2 λz H3=>∃La B2,H3 a=some (.ins C La B2)/\B2.length<1000/\D.nx Z (upd H3 a (.ins C La (dI f z B2)))
section
variable{X:Cx}{o e value:Expr}{f:Str}{pos pos' fE:Pos}{ta tv:TE}
def e2j(he:PE X e ta)(hb:attributeBase e f X.env (eval e X.env)=eval e X.env):PE X (.Attribute e f pos) (M5 X.K ta f):=by
 intro aa s Z H Q I h;refine Z0 hb (bK (he aa s Z H _ I h) λu s1 hh=>?_)
 obtain⟨x,H1,I1,rx,a,C,dx,fs,v,ex,ea,c,n,l,q⟩:=hh;subst ex;obtain rfl:u=Value.ref a:=rx;exact Oy I1 ea c n l λu' s2 I2 ru=>⟨v,H1,I2,ru,q⟩
def e2k(ha:PE X o ta)(hv:PE X value tv)(hs:swapsWith value (some (.Attribute o f pos')) pos.line X.env=pure false):PS X (.Assign [.Attribute o f pos'] value pos) (MN X.K ta tv f):=by
 intro aa s Z H D I h;refine plainObj_wpAny_Assign_Attribute (bK (hv aa s Z H _ I h) λu s1 ⟨y,H1,I1,ry,q⟩=>bK (ha aa s1 Z H1 _ I1 q) λov s2 ⟨x,H2,I2,rx,a,C,dx,fs,ex,ea,c,n,l,q2⟩=>?_) hs
 subst ex;obtain rfl:ov=Value.ref a:=rx;exact b2i I2 ea c n l ry λs3 I3=>⟨Z,_,I3,q2⟩
def VW{op:Operator}{rd:V->V->Hp->VK->Prop}(ha:PE X o ta)(hv:PE X value tv)(Au:zo X op rd):PS X (.AugAssign (.Attribute o f fE) op value pos) (Z4 X.K ta tv rd f):=by
 intro aa s Z H D I h;refine wpAny_AugAssign_AttributeAny (bK (ha aa s Z H _ I h) λov s1 hh=>?_)
 obtain⟨x,H1,I1,rx,a,C,dx,fs,v,ex,ea,c,n,l,q⟩:=hh;subst ex;obtain rfl:ov=Value.ref a:=rx;refine Oy I1 ea c n l λu s2 I2 ru=>bK (hv aa s2 Z H1 _ I2 q) λw3 s3 ⟨y,H2,I3,ry,q3⟩=>bK (Au aa s3 Z H2 v y u w3 _ I3 ru ry q3) λw4 s4 ⟨z,H3,I4,rz,La,B2,ea',l',q4⟩=>?_
 exact b2i I4 ea' c n l' rz λs5 I5=>⟨Z,_,I5,q4⟩
def MH:V->V->Hp->VK->Prop:=λx y H Q=>∃i j,x=.int i/\y=.int j/\Q (.int (i+j)) H
def e2l:zo X .Add MH:=by
 rintro aa s Z H x y u v Q I rx ry ⟨i,j,rfl,rfl,q⟩;obtain⟨t,rfl⟩:=(show ∃t,u=Value.int i t from rx);obtain⟨t',rfl⟩:=(show ∃t',v=Value.int j t' from ry);exact PyProof.Rows.iadd_int ⟨.int (i+j),H,I.tok _,⟨_,rfl⟩,q⟩
end
section
variable{X:Cx}{aa:List (ag×Obj)}{Z:St}{H:Hp}{s:au}{A:cQ}{E:ai->au->Prop}{Q:ai->au->Prop}{c:ai}{b:Bool}
inductive kA (K:PySem.W.Frag) (H:Hp):V->ai->Prop where
 |aI:kA K H .aI (.type "NoneType")
 |bl (x:Bool):kA K H (.bl x) (.type "bool")
 |int (i:Int):kA K H (.int i) (.type "int")
 |str (x:Str):kA K H (.str x) (.type "str")
 |yk (x:UInt64):kA K H (.yk x) (.type "float")
 |lst {a:ag} {xs:List V} (e:H a=some (.lst xs)):kA K H (.ref a) (.type "list")
 |Y {a:ag} {o:Obj} {xs:List V} (e:H a=some (.Y o (.lst xs))):kA K H (.ref a) (.type "list")
 |tup {a:ag} {xs:List V} (e:H a=some (.tup xs)):kA K H (.ref a) (.type "tuple")
 |dK {a:ag} {kvs:List (Key×V)} (e:H a=some (.dK kvs)):kA K H (.ref a) (.type "dict")
 |dT {a:ag} {kvs:List (List Key×V)} (e:H a=some (.dT kvs)):kA K H (.ref a) (.type "dict")
 |ins {a C dx:ag} {fs:List (Str×V)} (e:H a=some (.ins C dx fs)) (cl:pU K C) (ha:PySem.W.findIn K (.ref C) "__class__"=some (some (.builtin "object.__class__")))
   (hn:PySem.W.specialIn K (.builtin "object.__class__") "__get__"=some (some (.builtin "getset_descriptor.__get__"))) (htk:PySem.W.takesIn K (.builtin "object.__class__")=some true)
   (hm:PySem.W.mroIn K C (.type "object")=some true):kA K H (.ref a) (.ref C)
end
variable{k:Nat}{A:cQ}{C f:ag}{us:List ai}{kw:List (Str×ai)}{P:de}{w:cC}{K:PySem.W.Frag}{mg:Str->ak ai}{base:bV}{outer:List Env}{s:au}{H:Hp}{Q:VK}{ps N:List Str}{aa:List (ag×Obj)}{Z:St}{vs:List V}{qual:Str}{scope:Scope}
structure cw (k:Nat) (A:cQ):Prop where
 hd:A.handled=none
 dp:A.depth+3*k+5<recursionLimit
 un:A.units+16*k+200<cLine
def cw.mono{j:Nat}(r:cw k A)(h:j<=k):cw j A:=⟨r.hd,by have:=r.dp;lia,by have:=r.un;lia⟩
def cw.deeper{k:Nat}{A:cQ}(r:cw (k+1) A)(env:Env):cw k (A.deeper env):=
 ⟨r.hd,by have:=r.dp;show A.depth+1+3*k+5<_;lia,by have:=r.un;show A.units+3+16*k+200<_;lia⟩
def Vd:(A.under (.builtin "type.__call__" ⟨.ref C::us,kw⟩)).depth=A.depth+1:=by
 rfl
def Vf:(A.under (.builtin "type.__call__" ⟨.ref C::us,kw⟩)).units=A.units+1:=by
 rfl
def cw.make(r:cw (k+1) A)(C:ag)(us:List ai)(kw:List (Str×ai)):cw k (A.under (.builtin "type.__call__" ⟨.ref C::us,kw⟩)):=
 ⟨r.hd,by have:=r.dp;rw[Vd];lia,by have:=r.un;rw[Vf];lia⟩
def cw.depth{k:Nat}{A:cQ}(r:cw k A):A.depth<recursionLimit:=by have:=r.dp;lia
def cw.units{k:Nat}{A:cQ}(r:cw k A):A.units+64<cLine:=by have:=r.un;lia
def w_:TA:=λ_ H Q=>Q [] H
def uN(ta:TE)(tr:TA):TA:=λZ H Q=>ta Z H λx H1=>tr Z H1 λxs H2=>Q (x::xs) H2
section
variable{X:Cx}{e:Expr}{es:List Expr}{te:TE}{t:TA}{pos:Pos}
def nF:PA X [] w_:=λ_ _ _ _ H Q I h=>Calls.spliced_nil ⟨[],H,I,.nil,h⟩
def GZ(ha:PE X e te)(hr:PA X es t)(hs:starEach (e::es) X.env=(false,eval e X.env)::starEach es X.env:=by rfl):PA X (e::es) (uN te t):=by
 intro pos aa s Z H Q I h;rw[hs];show wpAny _ _ (spliced ((false,eval e X.env)::backTo pos (starEach es X.env))) _ _ s;refine Calls.spliced_cons (bK (ha aa s Z H _ I h) λu s1 hh=>?_)
 obtain⟨x,H1,I1,r1,q1⟩:=hh;exact bK (hr pos aa s1 Z H1 _ I1 q1) λus s2 ⟨xs,H2,I2,r2,q2⟩=>⟨x::xs,H2,I2,.cons r1 r2,q2⟩
def Na(t:TA):TE:=λZ H Q=>t Z H λxs H1=>xs.length<=sizeLine/\∀p,H1 p=none->Q (.ref p) (upd H1 p (.tup xs))
def M8(t:TA):TE:=λZ H Q=>t Z H λxs H1=>xs.length<=sizeLine/\∀p,H1 p=none->Q (.ref p) (upd H1 p (.lst xs))
def e2m{x1}(h:PA X es t):PE X (.Tuple es x1 pos) (Na t):=by
 intro aa s Z H Q I hq;refine wpAny_Tuple_spliced (bK (h pos aa s Z H _ I hq) λus s1 ⟨xs,H1,I1,r,z,q⟩=>⟨by rw[<-r.length];exact z,?_⟩)
 have hf:H1 s1.heap.objs.size=none:=I1.bB.fresh (bM _);refine⟨.ref s1.heap.objs.size,upd H1 s1.heap.objs.size (.tup xs),I1.laid (t':=s1.toks) (λb u e=>c8 _ e) (bM _) ?_,rfl,q _ hf⟩
 exact⟨z,us,r,⟨_,jR _ rfl,rfl,_,rfl⟩⟩
def e2n(h:PA X es t):PE X (.List es pos) (M8 t):=by
 intro aa s Z H Q I hq;refine wpAny_List_spliced (bK (h pos aa s Z H _ I hq) λus s1 ⟨xs,H1,I1,r,z,q⟩=>⟨by rw[<-r.length];exact z,?_⟩)
 have hf:H1 s1.heap.objs.size=none:=I1.bB.fresh (bM _);refine⟨.ref s1.heap.objs.size,upd H1 s1.heap.objs.size (.lst xs),I1.laid (t':=s1.toks) (λb u e=>c8 _ e) (bM _) ?_,rfl,q _ hf⟩
 exact⟨z,us,0,r,jR _ rfl⟩
end
abbrev Sp:=List V->Hp->VK->XK->Prop
abbrev uW:=List Env->Hp->au->XK->ai->au->Prop
variable{CX:uW}
structure pV (P:de) (w:cC) (K:PySem.W.Frag) (mg:Str->ak ai) (base:bV) (A:cQ) (outer:List Env) (s:au) (H:Hp):Prop where
 frames:A.frames=some outer
 mod:Mod K mg base
 bs:∀b o,base.get? b=some o->s.heap.get? b=some o/\H b=none
 tP:base.objs.size<=s.heap.objs.size
 iT:s.heap.FunFrames base outer
 we:∀b∈kU outer,H b=none
 bB:jh P w H s.heap
 bare:AllBare s.gens
def CE(outer:List Env)(P:de)(w:cC)(H:Hp)(s:au)(Q:VK)(u:ai)(s':au):Prop:=
 ∃v H',s'.os=s.os/\AllBare s'.gens/\Un (kU outer) [] H H' s.heap s'.heap/\jh P w H' s'.heap/\RelV v u/\Q v H'
def CR(CX:uW)(outer:List Env)(P:de)(w:cC)(H:Hp)(s:au)(Q:VK)(E:XK)(r:Result)(s':au):Prop:=
 match r with
 |.ok (.ret u)=>CE outer P w H s Q u s'
 |.ok _=>False
 |.error e=>CX outer H s E e s'
structure dD (P:de) (w:cC) (K:PySem.W.Frag) (mg:Str->ak ai) (base:bV) (CX:uW) (k:Nat) (f:ag) (fd:bR) (ps:List Str) (sp:Sp):Prop where
 len:∀vs H Q E,sp vs H Q E->vs.length=ps.length
 run:∀(A:cQ) (outer:List Env) (s:au) (H:Hp) (args:Args) (us:List ai) (vs:List V) (Q:VK) (E:XK),cw k A->pV P w K mg base A outer s H->BindsTo s fd args (ps.zip us)->Vals vs us->sp vs H Q E->
  codeAny (model P w) A (.call (.ref f) args) (CR CX outer P w H s Q E) s
def pV.make(e:pV P w K mg base A outer s H)(C:ag)(us:List ai)(kw:List (Str×ai)):
  pV P w K mg base (A.under (.builtin "type.__call__" ⟨.ref C::us,kw⟩)) outer s H:=⟨by first|exact e.frames|(simpa[Around.under,Code.envs,Code.isFrame,pushEnvs] using e.frames),e.mod,e.bs,e.tP,e.iT,e.we,e.bB,e.bare⟩
section
variable{X:Cx}{aa:List (ag×Obj)}{Z:St}{H:Hp}{s s':au}
def Inv.DR(I:Inv X aa Z H s):pV X.prog X.w X.K X.mg X.base X.A X.stack s H:=
 ⟨I.ok.frames,I.ok.mod,I.bs,i7 I.ok.tP I.sz,I.stack,I.kq,I.bB,I.bare⟩
def Inv.after{u:ai}(I:Inv X aa Z H s)(h:CE X.stack X.prog X.w H s Q u s'):EP X aa Z Q u s':=by
 obtain⟨v,H',os,bare,un,bB,r,q⟩:=h;obtain⟨hh,g,d,t,os'⟩:=s';obtain rfl:os'=s.os:=os;exact⟨v,H',I.call (h':=hh) (g':=g) (d':=d) (t':=t) (ch:=[]) un bB bare (λb z=>b_ z (by simp)),r,q⟩
end
def Fl(sp:Sp)(lQ:List V)(E:St->XK)(t:TA):TE:=λZ H Q=>t Z H λvs H1=>sp (vs++lQ) H1 Q (E Z)
def uO(C:ag)(m:Str)(sp:Sp)(lQ:List V)(E:St->XK)(ta:TE)(t:TA):TE:=λZ H Q=>ta Z H λx H1=>∃a dx fs,x=.ref a/\H1 a=some (.ins C dx fs)/\fs.lookup m=none/\
 t Z H1 λvs H2=>sp (x::(vs++lQ)) H2 Q (E Z)
def yW(C:ag)(sp:Sp)(lQ:List V)(E:St->XK)(t:TA):TE:=λZ H Q=>t Z H λvs H1=>∀x dx,H1 x=none->H1 dx=none->dx≠x->
 sp (.ref x::(vs++lQ)) (upd (upd H1 dx (.own x)) x (.ins C dx [])) (λv H2=>v=.aI/\Q (.ref x) H2) (E Z)
def Binds(K:PySem.W.Frag)(fd:bR)(ps:List Str)(ds:List ai):Prop:=
 ∀(s:au) (us:List ai),K.In s.heap->(us++ds).length=ps.length->BindsTo s fd ⟨us,[]⟩ (ps.zip (us++ds))
def Binds.all{fd:bR}(h:∀us:List ai,us.length=ps.length->bindArgs fd ⟨us,[]⟩=pure (ps.zip us)):Binds K fd ps []:=λs us _ hl=>by
 rw[lY] at hl ⊢;exact .of_eq (h us hl)
def zP(CX:uW)(X:Cx)(E:St->XK):Prop:=∀(aa:List (ag×Obj)) (Z:St) (H:Hp) (s:au) (e:ai) (s':au),Inv X aa Z H s->CX X.stack H s (E Z) e s'->X.xe e s'
section
variable{X:Cx}{CX:uW}{k:Nat}{f C:ag}{fd:bR}{ps:List Str}{sp:Sp}{lQ:List V}{ds:List ai}{E:St->XK}{x m:Str}{p pos apos:Pos}{e o:Expr}{es:List Expr}{ta:TE}{t:TA}
def KA(F:dD X.prog X.w X.K X.mg X.base CX k f fd ps sp)(hr:cw k X.A)(hb:Binds X.K fd ps ds)(hd:Vals lQ ds)(hx:zP CX X E)
  (I:Inv X aa Z H s) (r:Vals vs us) (h:sp (vs++lQ) H Q (E Z)):wpAny (model X.prog X.w) X.A (call (.ref f) us) (EP X aa Z Q) X.xe s:=by
 have r2:Vals (vs++lQ) (us++ds):=r.append hd;have hl:(us++ds).length=ps.length:=by rw[<-r2.length];exact F.len _ _ _ _ h
 refine wpAny_call (codeAny_mono (F.run X.A X.stack s H ⟨us,[]⟩ (us++ds) (vs++lQ) Q (E Z) hr I.DR (hb s us I.kj hl) r2 h) λr s' hq=>?_)
 cases r with
 |error e=>exact hx aa Z H s e s' I hq
 |ok fl=>
  cases fl with
  |ret u=>exact I.after hq
  |next=>exact False.elim hq
  |brk=>exact False.elim hq
  |cont=>exact False.elim hq
def Z5(F:dD X.prog X.w X.K X.mg X.base CX k f fd ps sp)(hr:cw k X.A)(hg:Gl X x)(hm:X.mg x=some (.ref f))(hk:PySem.W.keepIn X.K (.ref f)=true)(hb:Binds X.K fd ps ds)(hd:Vals lQ ds)(hx:zP CX X E)
  (ha:PA X (e::es) t) (lT:(x == ("__debug__":Str))=false:=by decide) (he:starEach (e::es) X.env=(false,eval e X.env)::starEach es X.env:=by rfl) (kg:(backTo pos (starEach es X.env)).any (·.1)=false:=by rfl) :
  PE X (.Call (.Name x p) (e::es) [] pos) (Fl sp lQ E t):=by
 intro aa s Z H Q I h;refine wpAny_Call_Name_kw (BH I hg hm ?_ lT);refine PySem.W.callWith_K (h₀:=X.base) I.ok.mod.Ca hk (bK (ha pos aa s Z H _ I h) λus s1 ⟨vs,H1,I1,r,q⟩=>⟨I1.kj,?_⟩) he kg
 exact KA F hr hb hd hx I1 r q
def Z8{pl:Sem Bool}(he:PE X o ta)(c:pU X.K C)(hm:Meth X.K C m f)(F:dD X.prog X.w X.K X.mg X.base CX k f fd ps sp)(hr:cw k X.A)(hb:Binds X.K fd ps ds)(hd:Vals lQ ds)(hx:zP CX X E)(ha:PA X (e::es) t)
  (lU:starEach (e::es) X.env=(false,eval e X.env)::starEach es X.env:=by rfl) (kg:(backTo pos (starEach es X.env)).any (·.1)=false:=by rfl)
  (ht:eval (.Call (.Attribute o m apos) (e::es) [] pos) X.env=(do
   let ov <-eval o X.env
   standAt apos.atName
   let (f,first) <-holding [ov] (getMethod ov m pl)
   callWith pos f first (backTo pos (starEach (e::es) X.env)) (backToKw pos (keywordEach [] X.env))):=by rfl) :
  PE X (.Call (.Attribute o m apos) (e::es) [] pos) (uO C m sp lQ E ta t):=by
 intro aa s Z H Q I h;refine PySem.W.methodCall_KW (pl:=pl) (bK (he aa s Z H _ I h) λu s1 hh=>?_) ht
 obtain⟨x,H1,I1,rx,a,dx,fs,ex,ea,l,q⟩:=hh;subst ex;obtain rfl:u=Value.ref a:=rx;refine Oz I1 ea c hm l ?_;refine PySem.W.callWith_K (first:=[.ref a]) (h₀:=X.base) I.ok.mod.Ca hm.kp (bK (ha pos aa s1 Z H1 _ I1 q) λus s2 ⟨vs,H2,I2,r,q2⟩=>⟨I2.kj,?_⟩) lU kg
 exact KA (us:=.ref a::us) (vs:=.ref a::vs) F hr hb hd hx I2 (.cons rfl r) q2
def Xf{pl:Sem Bool}(he:PE X o ta)(c:pU X.K C)(hm:Meth X.K C m f)(F:dD X.prog X.w X.K X.mg X.base CX k f fd ps sp)(hr:cw k X.A)(hb:Binds X.K fd ps ds)(hd:Vals lQ ds)(hx:zP CX X E)
  (ht:eval (.Call (.Attribute o m apos) [] [] pos) X.env=(do
   let ov <-eval o X.env
   standAt apos.atName
   let (f,first) <-holding [ov] (getMethod ov m pl)
   callWith pos f first (backTo pos (starEach [] X.env)) (backToKw pos (keywordEach [] X.env))):=by rfl) :
  PE X (.Call (.Attribute o m apos) [] [] pos) (uO C m sp lQ E ta w_):=by
 intro aa s Z H Q I h;refine PySem.W.methodCall_KW (pl:=pl) (bK (he aa s Z H _ I h) λu s1 hh=>?_) ht
 obtain⟨x,H1,I1,rx,a,dx,fs,ex,ea,l,q⟩:=hh;subst ex;obtain rfl:u=Value.ref a:=rx;refine Oz I1 ea c hm l ?_;exact PySem.W.callWith_K0 (first:=[.ref a]) I1.kj hm.kp (KA (us:=[.ref a]) (vs:=[.ref a]) F hr hb hd hx I1 (.cons rfl .nil) q)
structure Mk (K:PySem.W.Frag) (C f:ag):Prop where
 makes:PySem.W.makesIn K C=true
 init:PySem.W.findIn K (.ref C) "__init__"=some (some (.ref f))
 fn:PySem.W.isFn K (.ref f)=true
 kp:PySem.W.keepIn K (.ref C)=true
def Xg(M:Mk X.K C f)(F:dD X.prog X.w X.K X.mg X.base CX k f fd ps sp)(hr:cw (k+1) X.A)(hb:Binds X.K fd ps ds)(hd:Vals lQ ds)
  (hx:zP CX X E) (I:Inv X aa Z H s) (r:Vals vs us)
  (h:∀x dx,H x=none->H dx=none->dx≠x->sp (.ref x::(vs++lQ)) (upd (upd H dx (.own x)) x (.ins C dx [])) (λv H2=>v=.aI/\Q (.ref x) H2) (E Z)) :
  wpAny (model X.prog X.w) X.A (call (.ref C) us) (EP X aa Z Q) X.xe s:=by
 have hq:=h (s.heap.objs.size+1) s.heap.objs.size (I.bB.fresh (xE _)) (I.bB.fresh (bM _)) (gR (xD _));have I2:=Inv.made (C:=C) I;have r2:Vals (V.ref (s.heap.objs.size+1)::(vs++lQ)) (Value.ref (s.heap.objs.size+1)::(us++ds)):=.cons rfl (r.append hd);have hl:(Value.ref (s.heap.objs.size+1)::us++ds).length=ps.length:=by
  have e:=r2.length;rw[F.len _ _ _ _ hq] at e;exact e.symm
 refine wpAny_call (Xe (f:=f) I.kj M.makes M.init (beq_iff_eq.mp M.fn) (codeAny_mono (F.run _ X.stack _ _ ⟨Value.ref (s.heap.objs.size+1)::us,[]⟩ (Value.ref (s.heap.objs.size+1)::(us++ds)) _ _ (E Z) (hr.make C us []) (I2.DR.make C us []) (hb _ (Value.ref (s.heap.objs.size+1)::us) I2.kj hl) r2 hq) λr s' Ej=>?_))
 cases r with
 |error e=>exact hx aa Z _ _ e s' I2 Ej
 |ok fl=>
  cases fl with
  |ret u=>
   obtain⟨v,H',I3,rv,ev,q3⟩:=I2.after Ej;subst ev;exact⟨rv,⟨V.ref (s.heap.objs.size+1),H',I3,rfl,q3⟩⟩
  |next=>exact False.elim Ej
  |brk=>exact False.elim Ej
  |cont=>exact False.elim Ej
def Z_(M:Mk X.K C f)(F:dD X.prog X.w X.K X.mg X.base CX k f fd ps sp)(hr:cw (k+1) X.A)(hg:Gl X x)(hm:X.mg x=some (.ref C))(hb:Binds X.K fd ps ds)(hd:Vals lQ ds)(hx:zP CX X E)
  (ha:PA X (e::es) t) (lT:(x == ("__debug__":Str))=false:=by decide) (he:starEach (e::es) X.env=(false,eval e X.env)::starEach es X.env:=by rfl) (kg:(backTo pos (starEach es X.env)).any (·.1)=false:=by rfl) :
  PE X (.Call (.Name x p) (e::es) [] pos) (yW C sp lQ E t):=by
 intro aa s Z H Q I h;refine wpAny_Call_Name_kw (BH I hg hm ?_ lT);refine PySem.W.callWith_K (h₀:=X.base) I.ok.mod.Ca M.kp (bK (ha pos aa s Z H _ I h) λus s1 ⟨vs,H1,I1,r,q⟩=>⟨I1.kj,?_⟩) he kg
 exact Xg M F hr hb hd hx I1 r q
end
section
variable{X:Cx}{CX:uW}{k:Nat}{f C:ag}{fd:bR}{ps ks:List Str}{sp:Sp}{E:St->XK}{x m:Str}{p pos apos kpos:Pos}{e o:Expr}{es:List Expr}{kws:List Keyword}{te ta:TE}{t tk:TA}{nm:ak Str}
structure KBinds (K:PySem.W.Frag) (fd:bR) (ps ks:List Str) (g:List ai->List ai->List ai) (gV:List V->List V->List V):Prop where
 to:∀(s:au) (us ws:List ai),K.In s.heap->(g us ws).length=ps.length->BindsTo s fd ⟨us,ks.zip ws⟩ (ps.zip (g us ws))
 rel:∀{vs:List V} {us:List ai} {zs:List V} {ws:List ai},Vals vs us->Vals zs ws->Vals (gV vs zs) (g us ws)
variable{g:List ai->List ai->List ai}{gV:List V->List V->List V}
end
structure iy (N P:List Str) (sc:Scope):Prop where
 kind:sc.kind=.function
 co:sc.isCoroutine=false
 gen:sc.isGenerator=false
 nd:N.Nodup
 pre:N.take P.length=P
 par:∀x∈P,sc.names.lookup x=some .local \/ sc.names.lookup x=some .cell
 AI:∀y∈sc.names,y.2≠.free
theorem OQ{kindOf:Str->ak qt}{x:Str}:∀{binds:List (Str×ai)} {m:Str->ak ai},(∀v,(x,v)∉binds)->bindL kindOf binds m x=m x
 |[],_,_=>rfl
 |(n,v)::r,m,h=>by
  unfold bindL;rw[OQ λw hw=>h w (qm _ hw)]
  split
  .have:x≠n:=by rintro rfl;exact h v r9
   simp[this]
  .rfl
theorem OR{kindOf:Str->ak qt}{x:Str}:∀{binds:List (Str×ai)} {m:Str->ak ai},(∀v,(x,v)∉binds)->bindC kindOf binds m x=m x
 |[],_,_=>rfl
 |(n,v)::r,m,h=>by
  unfold bindC;rw[OR λw hw=>h w (qm _ hw)]
  split
  .rfl
  .have:x≠n:=by rintro rfl;exact h v r9
   simp[this]
theorem OS{kindOf:Str->ak qt}{x:Str}{v:ai}:∀{P:List Str} {vs:List ai} {i:Nat} {m:Str->ak ai},P.Nodup->P[i]?=some x->vs[i]?=some v->kindOf x=some .local ->
  bindL kindOf (P.zip vs) m x=some v
 |[],_,_,_,_,h,_,_=>by simp at h
 |_::_,[],_,_,_,_,h,_=>by simp at h
 |p::P,w::vs,0,m,nd,h1,h2,hk=>by
  simp at h1 h2;subst h1;subst h2;show bindL kindOf ((p,w)::P.zip vs) m p=_;unfold bindL;rw[OQ λv hv=>(qo.mp nd).1 (List.of_mem_zip hv).1,aX hk]
  simp
 |p::P,w::vs,i+1,m,nd,h1,h2,hk=>by
  show bindL kindOf ((p,w)::P.zip vs) m x=_;unfold bindL;exact OS (i:=i) (qo.mp nd).2 (by simpa using h1) (by simpa using h2) hk
theorem OT{kindOf:Str->ak qt}{x:Str}{v:ai}:∀{P:List Str} {vs:List ai} {i:Nat} {m:Str->ak ai},P.Nodup->P[i]?=some x->vs[i]?=some v->kindOf x≠some .local ->
  bindC kindOf (P.zip vs) m x=some v
 |[],_,_,_,_,h,_,_=>by simp at h
 |_::_,[],_,_,_,_,h,_=>by simp at h
 |p::P,w::vs,0,m,nd,h1,h2,hk=>by
  simp at h1 h2;subst h1;subst h2;show bindC kindOf ((p,w)::P.zip vs) m p=_;unfold bindC;rw[OR λv hv=>(qo.mp nd).1 (List.of_mem_zip hv).1,aM hk]
  simp
 |p::P,w::vs,i+1,m,nd,h1,h2,hk=>by
  show bindC kindOf ((p,w)::P.zip vs) m x=_;unfold bindC;exact OT (i:=i) (qo.mp nd).2 (by simpa using h1) (by simpa using h2) hk
noncomputable def start(N:List Str)(vs:List V):St:=vs.map some++List.replicate (N.length - vs.length) none
noncomputable def nj(CX:uW)(P:de)(w:cC)(K:PySem.W.Frag)(mg:Str->ak ai)(base:bV)(N:List Str)(qual:Str)(scope:Scope)(f:ag)(cd:ai)(A:cQ)(outer:List Env)(s:au)(H:Hp)(E:XK):Cx where
 prog:=P
 w:=w
 K:=K
 mg:=mg
 base:=base
 A:=A.deeper (envOfC qual scope s.heap.objs.size f cd)
 N:=N
 s₀:=s
 H₀:=H
 env:=envOfC qual scope s.heap.objs.size f cd
 outer:=outer
 stack:=envOfC qual scope s.heap.objs.size f cd::outer
 ex:=[]
 calm:=true
 fn:=λ_=>true
 pn:=[]
 xe:=λe s'=>wpAny (model P w) (A.deeper (envOfC qual scope s.heap.objs.size f cd)) (leaving (envOfC qual scope s.heap.objs.size f cd) e) (λ_ uL=>CX outer H s E e uL) (λe' uL=>CX outer H s E e' uL) s'
def Pw{sc:Scope}{n:Nat}{x:Str}(h:sc.names.lookup x=some .cell):∃c,(cellsFrom n sc.names []).lookup x=some c:=by
 have q:=PySem.W.cellsFrom_some sc.names n [] (.inl h);exact Option.isSome_iff_exists.mp q
def VX{cd:ai}{s1:au}{E:XK}
  (S:iy N ps scope) (hd:A.handled=none) (e0:pV P w K mg base A outer s H) (hl:vs.length=ps.length) (r:Vals vs us)
  (x:InCallC s s.heap.objs.size (bindL (envOfC qual scope s.heap.objs.size f cd).kindOf (ps.zip us) λ_=>none) (cellsFrom (s.heap.objs.size+1) scope.names []) (bindC (envOfC qual scope s.heap.objs.size f cd).kindOf (ps.zip us) λ_=>none) s1) :
  Inv (nj CX P w K mg base N qual scope f cd A outer s H E) [] (start N vs) H s1:=by
 have kg:ps.length<=N.length:=by have:=congrArg List.length S.pre;rw[yZ] at this;lia
 obtain⟨h1,tk,rfl,hk⟩:=x.done;have EJ:∀b:ag,b∉(nj CX P w K mg base N qual scope f cd A outer s H E).ex:=λb z=>b_ (show b∈([]:List ag) from z) (by simp)
 refine⟨⟨e0.mod,S.kind,rfl,rfl,bM _,λy z c h1 h2=>?_,λy hy=>?_,λy c _ h=>?_,λ_=>hd,Around.frames_deeper e0.frames,.inr ⟨rfl,rfl⟩,λb z=>b_ z (EJ b),e0.bs,e0.tP,λb _ _=>EJ b,λb z=>b_ z (EJ b),e0.iT,e0.we⟩,rfl,e0.bare,Un.kept hk,⟨_,x.toInCall.ns,λi y v h1 h2 h3=>?_⟩,λy c h=>⟨_,x.cell y c h⟩,e0.bB.fresh (bM _),λy c h=>?_,λp hp=>b_ (show p∈([]:List (ag×Obj)) from hp) (by simp),e0.bB.kept hk,?_⟩
 .exact name_of_addr x.apart (PySem.mem_of_lookup h1) (PySem.mem_of_lookup h2)
 .have hy:scope.names.lookup y=some .cell\/scope.names.lookup y=some .free:=hy;rcases hy with hy|hy
  .exact Pw hy
  .exact b_ rfl (S.AI _ (PySem.mem_of_lookup hy))
 .exact IB (x.above y c (PySem.mem_of_lookup h))
 .have hi:i<vs.length:=by
   unfold start at h2;by_cases hi:i<vs.length
   .exact hi
   .rw[vA (by simpa using hi)] at h2
    rw[Nv] at h2;split at h2 <;> cases h2
  have ha:vs[i]?=some v:=by
   unfold start at h2;rw[xF (by simpa using hi),gY] at h2
   cases e:vs[i]? with
   |none=>rw[e] at h2;cases h2
   |some a=>rw[e] at h2;cases h2;rfl
  obtain⟨u,hu,rv⟩:=r.get ha;have hp:ps[i]?=some y:=by
   rw[<-S.pre,List.getElem?_take_of_lt (by lia)];exact h1
  have Tz:ps.Nodup:=by rw[<-S.pre];exact S.nd.sublist (List.take_sublist _ _)
  refine⟨u,rv,?_⟩;rcases S.par y (uS hp) with k|k
  .exact .inl ⟨k,OS Tz hp hu k⟩
  .obtain⟨c,e⟩:=Pw (n:=s.heap.objs.size+1) k;refine .inr ⟨.inl k,c,e,?_⟩;have q:=x.cell y c e;rw[OT Tz hp hu (by show scope.names.lookup y≠_;rw[k];decide)] at q
   exact q
 .exact e0.bB.fresh (IB (x.above y c (PySem.mem_of_lookup h)))
 .unfold start;show _=N.length
  simp_all
def e8b{name:Str}{params:Arguments}{body:List Stmt}{dV kV doc pm gf ct oc:ai}{an od:ak ag}
  {vy:Array (ak ai)}  {sp:Sp} (lk:K.lookup f=some ⟨oc,od,.func (PySem.W.fnOf name qual params body scope dV kV doc pm an gf ct),vy⟩) (rP:PySem.W.codeIn K gf qual=true) (S:iy N ps scope)
  (len:∀vs H Q E,sp vs H Q E->vs.length=ps.length)
  (ue:∀(A:cQ) (outer:List Env) (s:au) (H:Hp) (vs:List V) (Q:VK) (E:XK),cw k (A.deeper (envOfC qual scope s.heap.objs.size f gf))->sp vs H Q E-> ∃t,ji (nj CX P w K mg base N qual scope f gf A outer s H E) body t/\t { nx:=λ_ H'=>Q .aI H',rt:=Q} (start N vs) H) :
  dD P w K mg base CX (k+1) f (PySem.W.fnOf name qual params body scope dV kV doc pm an gf ct) ps sp:=by
 refine⟨len,λA outer s H args us vs Q E hr e0 hb r yr=>?_⟩
 have hl:=len _ _ _ _ yr;have KX:K.In s.heap:=e0.mod.Ca.keeps λb o e=>(e0.bs b o e).1
 have lim:s.heap.NoLimit:=e0.mod.nolimit.keeps λb o e=>(e0.bs b o e).1
 have Ee:∀y∈ps.zip us,scope.names.lookup y.1=some .local \/ (scope.names.lookup y.1=some .cell/\((cellsFrom (s.heap.objs.size+1) scope.names []).lookup y.1).isSome=true):=λ⟨n,v⟩ hy=>by
  rcases S.par n (List.of_mem_zip hy).1 with q|q
  .exact .inl q
  .exact .inr ⟨q,PySem.W.cellsFrom_some _ _ _ (.inl q)⟩
 refine codeAny_call_function hr.depth (KX _ _ lk) rfl S.co S.gen rfl (PySem.W.codeRec_of KX rP) (hb _ _ _ _ ?_);refine wpAny_newFunctionEnv_cells S.kind Ee λenv he s1 x=>?_
 subst he;refine⟨lim.keeps x.toInCall.keep,codeAny_func ?_⟩;obtain⟨t,ht,hq⟩:=ue A outer s H vs Q E (hr.deeper _) yr;have I:Inv (nj CX P w K mg base N qual scope f gf A outer s H E) [] (start N vs) H s1:=VX S hr.hd e0 hl r x;refine wpAny_mono (ht [] s1 (start N vs) H _ I hq) (λfl s' hs=>?_) λe s' hs=>hs
 have fin:∀{Z':St} {H':Hp} {v:V} {u:ai},Inv (nj CX P w K mg base N qual scope f gf A outer s H E) [] Z' H' s'->RelV v u->Q v H'->CE outer P w H s Q u s':=
  λ{Z' H' v u} J rv q=>⟨v,H',J.os,J.bare,J.base,J.bB,rv,q⟩
 cases fl with
 |ret u=>
  obtain⟨v,Z',H',J,rv,q⟩:=hs;exact fin J rv q
 |next=>
  obtain⟨Z',H',J,q⟩:=hs;exact fin (v:=V.aI) (u:=Value.none) J rfl q
 |brk=>
  obtain⟨_,_,_,q⟩:=hs;exact False.elim q
 |cont=>
  obtain⟨_,_,_,q⟩:=hs;exact False.elim q
section
variable{X:Cx}{x:Str}{p pos:Pos}{e:Expr}{es:List Expr}{t:TA}{id T:String}{r:List V->Hp->VK->Prop}
def T4(r:List V->Hp->VK->Prop)(t:TA):TE:=λZ H Q=>t Z H λvs H1=>r vs H1 Q
def Xh(hc:bS X (.builtin id) r)(hg:Gl X x)(hm:X.mg x=none)(hv:bootBuiltins x=some (.builtin id))(ha:PA X (e::es) t)(hn:x≠"__name__":=by decide)(lT:(x == ("__debug__":Str))=false:=by decide)
  (he:starEach (e::es) X.env=(false,eval e X.env)::starEach es X.env:=by rfl) (kg:(backTo pos (starEach es X.env)).any (·.1)=false:=by rfl):PE X (.Call (.Name x p) (e::es) [] pos) (T4 r t):=by
 intro aa s Z H Q I h;refine wpAny_Call_Name_kw (xV I hg hm hv ?_ hn lT);exact PyProof.Rows.callWith_builtin1 (bK (ha pos aa s Z H _ I h) λus s1 ⟨vs,H1,I1,r1,q1⟩=>hc aa s1 Z H1 vs us Q I1 r1 q1) he kg
def VY(hc:bS X (.type T) r)(hg:Gl X x)(hm:X.mg x=none)(hv:bootBuiltins x=some (.type T))(ha:PA X (e::es) t)(hn:x≠"__name__":=by decide)(lT:(x == ("__debug__":Str))=false:=by decide)
  (he:starEach (e::es) X.env=(false,eval e X.env)::starEach es X.env:=by rfl) (kg:(backTo pos (starEach es X.env)).any (·.1)=false:=by rfl):PE X (.Call (.Name x p) (e::es) [] pos) (T4 r t):=by
 intro aa s Z H Q I h;refine wpAny_Call_Name_kw (xV I hg hm hv ?_ hn lT);exact PyProof.Rows.callWith_type1 (bK (ha pos aa s Z H _ I h) λus s1 ⟨vs,H1,I1,r1,q1⟩=>hc aa s1 Z H1 vs us Q I1 r1 q1) he kg
end
end L2
namespace HT
open PySem PyProof.Rows
section
open PySem.SeqAt
open PySem.AutoSeq1 (wpAny_loadPart')
open PySem.MeetsSeq PySem.MeetsSeq2 PySem.MeetsSeq3
end
variable{sl:ag}{vu:ai}{lo hi:ak Int}
section
variable{prog:de}{w:cC}{A:cQ}{E:ai->au->Prop}{s:au}
def cG(n d:Nat):ak Int->Nat
 |none=>d
 |some v=>if v<0 then(v+(n:Int)).toNat else min v.toNat n
def e2o(n d:Nat)(hd:d<=n)(o:ak Int):cG n d o<=n:=by
 cases o with
 |none=>exact hd
 |some v=>
  show(if v<0 then(v+(n:Int)).toNat else min v.toNat n)<=n
  by_cases hv:v<0
  .rw[aX hv];lia
  .rw[aM hv];exact Nat.min_le_right _ _
def Qt(v:Int)(n d:Nat):(if v<0 then max (v+(n:Int)) 0 else min v (n:Int))=((cG n d (some v):Nat):Int):=by
 show(if v<0 then max (v+(n:Int)) 0 else min v (n:Int))=(((if v<0 then(v+(n:Int)).toNat else min v.toNat n):Nat):Int)
 by_cases hv:v<0
 .simp only[aX hv];lia
 .simp only[aM hv];lia
def Vg(lo hi:ak Int)(n:Nat):Builtin.Slice.sliceAdjust lo hi 1 (n:Int)=(((cG n 0 lo:Nat):Int),((cG n n hi:Nat):Int)):=by
 have h1:¬((1:Int)<0):=by lia
 unfold Builtin.Slice.sliceAdjust;simp only[h1,j'];refine Prod.ext ?_ ?_
 .cases lo with
  |none=>rfl
  |some v=>exact Qt v n 0
 .cases hi with
  |none=>rfl
  |some v=>exact Qt v n n
def Vh(i j:Nat):Builtin.Slice.slicePlaces (i:Int) (j:Int) 1=j - i:=by
 unfold Builtin.Slice.slicePlaces;have h1:(1:Int) > 0:=by lia
 simp only[h1,pS,Int.ediv_one];split <;> lia
def OA{v:ai}{o:ak Int}{Q:ak Int->au->Prop}(p:IsPart v o)(h:Q o s):wpAny (model prog w) A (Builtin.Slice.slicePartIndex v) Q E s:=by
 cases p with
 |none=>exact slicePart_none h
 |int i t=>exact slicePart_int h
def Ug{vl:ai}{n:Nat}{Q:Int×Int×Nat->au->Prop}(hs:s.heap.IsSliceOf sl vl vu .none)(pl:IsPart vl lo)(pu:IsPart vu hi)
  (h:Q (((cG n 0 lo:Nat):Int),1,cG n n hi - cG n 0 lo) s):wpAny (model prog w) A (Builtin.Slice.sliceApplied (.ref sl) (pure (n:Int))) Q E s:=by
 obtain⟨os,Ei,HS,HU⟩:=id hs;unfold Builtin.Slice.sliceApplied Builtin.Slice.sliceFields;refine ay (ay (wpAny_field Ei HU (x:=vl) rfl (ay (wpAny_field Ei HU (x:=vu) rfl (ay (wpAny_field Ei HU (x:=.none) rfl (aV ?_)))))));refine ay (slicePart_none ?_);show wpAny _ _ (if((1:Int) == 0)=true then _ else _) _ _ s
 rw[aM (by decide)]
 refine ay (OA pl (ay (OA pu (ay (aV ?_)))));show wpAny _ _ (match Builtin.Slice.sliceAdjust lo hi 1 (n:Int) with|(lo,hi)=>pure (lo,(1:Int),Builtin.Slice.slicePlaces lo hi 1)) _ _ s
 rw[Vg lo hi n];show wpAny _ _ (pure (((cG n 0 lo:Nat):Int),(1:Int),Builtin.Slice.slicePlaces ((cG n 0 lo:Nat):Int) ((cG n n hi:Nat):Int) 1)) _ _ s;rw[Vh];exact aV h
def Xi(xs:Array ai)(i k:Nat):((List.range k).filterMap λ(m:Nat)=>xs[((i:Int)+(m:Int)*1).toNat]?).toArray=((xs.toList.drop i).take k).toArray:=by
 have e:(λ(m:Nat)=>xs[((i:Int)+(m:Int)*1).toNat]?)=λm=>xs[i+m]?:=by
  funext m;have:((i:Int)+(m:Int)*1).toNat=i+m:=by lia
  rw[this]
 rw[e];have:=pick_run xs i k;rw[List.filterMap_map] at this;have e2:((λx=>xs[x]?)∘λx=>i+x)=λm=>xs[i+m]?:=rfl
 rw[e2] at this;rw[this]
def iU{t:ag}{items:Array ai}{vl:ai}{Q:ai->au->Prop}(ht:IsTup s.heap t items)(hs:s.heap.IsSliceOf sl vl vu .none)(pl:IsPart vl lo)(pu:IsPart vu hi)
  (hw:¬(cG items.size 0 lo=0/\cG items.size items.size hi=items.size))
  (h:Q (.ref s.heap.objs.size) { s with heap:=s.heap.push { cls:=.type "tuple",data:=.seq ((items.toList.drop (cG items.size 0 lo)).take (cG items.size items.size hi - cG items.size 0 lo)).toArray}})
  (hsz:items.size<=sizeLine):wpAny (model prog w) A (getItem (.ref t) (.ref sl)) Q E s:=by
 have qR:sizeOk (.seq ((items.toList.drop (cG items.size 0 lo)).take (cG items.size items.size hi - cG items.size 0 lo)).toArray):=by
  show((items.toList.drop (cG items.size 0 lo)).take (cG items.size items.size hi - cG items.size 0 lo)).toArray.size<=sizeLine;rw[dA,yZ,Cn,IC];lia
 have hj:cG items.size items.size hi<=items.size:=e2o _ _ (bM _) hi;obtain⟨os,Ei,HS,HU⟩:=id hs;have hTs:s.TypeIs (.ref sl) "slice":=⟨os,Ei,HS⟩;unfold getItem;try with_reducible refine lH ?_
 first|refine ay (aV ?_)|skip
 refine ay (wpAny_sequenceKey ht.typeIs (by decide) ?_)
 refine ay (wpAny_callSpecial?_slot (name:=Str.ofString "__getitem__") ht.typeIs PyProof.Rows.slot_tuple_getitem (wpAny_call_entry PyProof.Rows.slot_tuple_getitem ht.typeIs entry_tuple_getitem ?_ (args_tuple_getitem _ _)))
 show wpAny _ _ (Builtin.Tuple.tupleItemsOf (.ref t) >>= _) _ _ s;refine ay (tupleItemsOf_ ht ?_);refine ay (wpAny_typeOf hTs ?_);rw[aX (by decide)]
 refine ay (Ug hs pl pu ?_);have vq:¬((((cG items.size 0 lo:Nat):Int) == 0&&(1:Int) == 1&&(cG items.size items.size hi - cG items.size 0 lo) == items.size)=true):=by
  lia
 show wpAny _ _ (if(((cG items.size 0 lo:Nat):Int) == 0&&(1:Int) == 1&&(cG items.size items.size hi - cG items.size 0 lo) == items.size)=true then _ else _) _ _ s
 rw[aM vq,Xi];first
  |exact ay (m:=Builtin.Tuple.tupleExact _) (wpAny_newObj_type (aV ⟨_,rfl,aV h⟩) qR)
  |exact ay (m:=Builtin.Tuple.tupleExact _) (wpAny_newObj_type (ay (aV (aV ⟨_,rfl,aV h⟩))) qR)
  |exact ay (ay (m:=Builtin.Tuple.tupleExact _) (wpAny_newObj_type (aV (aV ⟨_,rfl,aV h⟩)) qR))
  |exact ay (ay (m:=Builtin.Tuple.tupleExact _) (wpAny_newObj_type (aV ⟨_,rfl,aV h⟩) qR))
end
end HT
namespace L2
open PySem PySem.Spec PyProof.Rows
variable{r:V->ak Int->ak Int->Hp->VK->Prop}
abbrev TO:=St->Hp->(ak Int->Hp->Prop)->Prop
def PO(X:Cx)(e:ak Expr)(t:TO):Prop:=
 ∀(aa:List (ag×Obj)) (s:au) (Z:St) (H:Hp) (Q:ak Int->Hp->Prop),Inv X aa Z H s->t Z H Q->
  wpAny (model X.prog X.w) X.A (evalPart e X.env) (λu s'=>∃o H',Inv X aa Z H' s'/\IsPart u o/\Q o H') X.xe s
def Γ:TO:=λ_ H Q=>Q none H
def Fp(t:TE):TO:=λZ H Q=>t Z H λx H1=>∃i,x=.int i/\Q (some i) H1
section
variable{X:Cx}{e:Expr}{te:TE}{lo hi:ak Expr}{tl th:TO}{pos p2:Pos}
def Δ:PO X none Γ:=by
 intro aa s Z H Q I h;rw[evalPart_none];exact aV ⟨none,H,I,.none,h⟩
def Θ(h:PE X e te):PO X (some e) (Fp te):=by
 intro aa s Z H Q I hw;rw[evalPart_some];refine bK (h aa s Z H _ I hw) λu s1 hh=>?_
 obtain⟨x,H1,I1,r1,q1⟩:=hh;obtain⟨i,rfl,q⟩:=q1;obtain⟨t,rfl⟩:=r1;exact⟨some i,H1,I1,.int i t,q⟩
def tu(X:Cx)(r:V->ak Int->ak Int->Hp->VK->Prop):Prop:=
 ∀(aa:List (ag×Obj)) (s:au) (Z:St) (H:Hp) (x:V) (v vl vu:ai) (lo hi:ak Int) (sl:ag) (Q:VK),Inv X aa Z H s->RelV x v->s.heap.IsSliceOf sl vl vu .none->IsPart vl lo->IsPart vu hi->r x lo hi H Q->
  ∃T id,typeLookup (.type T) "__getitem__"=pure (some (.builtin id))/\s.TypeIs v T/\wpAny (model X.prog X.w) X.A (getItem v (.ref sl)) (EP X aa Z Q) X.xe s
def tu.or{r':V->ak Int->ak Int->Hp->VK->Prop}(h:tu X r)(h':tu X r'):tu X (λx lo hi H Q=>r x lo hi H Q\/r' x lo hi H Q):=by
 intro aa s Z H x v vl vu lo hi sl Q I rx hs pl pu q;rcases q with q|q
 .exact h aa s Z H x v vl vu lo hi sl Q I rx hs pl pu q
 .exact h' aa s Z H x v vl vu lo hi sl Q I rx hs pl pu q
def tSl(r:V->ak Int->ak Int->Hp->VK->Prop)(te:TE)(tl th:TO):TE:=λZ H Q=>te Z H λx H1=>tl Z H1 λl H2=>th Z H2 λu H3=>r x l u H3 Q
def Xj(hr:tu X r)(he:PE X e te)(hl:PO X lo tl)(hu:PO X hi th):PE X (.Subscript e (.Slice lo hi none p2) pos) (tSl r te tl th):=by
 intro aa s Z H Q I h;refine Subscript_ (bK (he aa s Z H _ I h) λv s1 hh=>?_)
 obtain⟨x,H1,I1,r1,q1⟩:=hh;refine wpAny_Slice (bK (hl aa s1 Z H1 _ I1 q1) λvl s2 ⟨l,H2,I2,pl,q2⟩=>bK (hu aa s2 Z H2 _ I2 q2) λvu s3 ⟨u,H3,I3,pu,q3⟩=>?_)
 rw[evalPart_none];refine aV ?_;have I4:Inv X aa Z H3 { s3 with heap:=s3.heap.push { cls:=.type "slice",data:=.fields #[vl,vu,.none]}}:=I3.kept (t':=s3.toks) λb ob q=>c8 _ q
 obtain⟨T,id,hT,ht,hg⟩:=hr aa { s3 with heap:=s3.heap.push { cls:=.type "slice",data:=.fields #[vl,vu,.none]}} Z H3 x v vl vu l u s3.heap.objs.size Q I4 r1 (Heap.IsSliceOf.new ..) pl pu q3;show wpAny (model X.prog X.w) X.A (subscriptTail e (.Slice lo hi none p2) v (.ref s3.heap.objs.size)) (EP X aa Z Q) X.xe { s3 with heap:=s3.heap.push { cls:=.type "slice",data:=.fields #[vl,vu,.none]}};exact tail_any (ops:=[.ref s3.heap.objs.size,v]) ht hT hg (by with_unfolding_all rfl)
noncomputable def ox(xs:List V)(lo hi:ak Int):List V:=(xs.drop (HT.cG xs.length 0 lo)).take (HT.cG xs.length xs.length hi - HT.cG xs.length 0 lo)
def Oi(xs:List V)(lo hi:ak Int):(ox xs lo hi).length<=xs.length:=by
 unfold ox;rw[yZ,Cn];lia
def AZ(K:PySem.W.Frag):V->ak Int->ak Int->Hp->VK->Prop:=λx lo hi H Q=>∃a xs,x=.ref a/\g7 K H a xs/\
 ¬(HT.cG xs.length 0 lo=0/\HT.cG xs.length xs.length hi=xs.length)/\∀p,H p=none->Q (.ref p) (upd H p (.tup (ox xs lo hi)))
def e2p:tu X (AZ X.K):=by
 intro aa s Z H x v vl vu lo hi sl Q I rx hs pl pu h;obtain⟨a,xs,rfl,hx,hw,q⟩:=h;cases rx;obtain⟨aF,r,ht,hz⟩:=I.tuple hx;have hlen:aF.toArray.size=xs.length:=by rw[dA];exact r.length.symm
 refine⟨"tuple",_,PyProof.Rows.slot_tuple_getitem.lookup,ht.typeIs,?_⟩;refine HT.iU ht hs pl pu (by rw[hlen];exact hw) ?_ (by rw[hlen];exact hz)
 rw[hlen];refine⟨.ref s.heap.objs.size,_,I.laid (t':=s.toks) (o:=.tup (ox xs lo hi)) (λb ob q=>c8 _ q) (bM _) ?_,rfl,q _ (I.bB.fresh (bM _))⟩
 exact⟨i7 (Oi xs lo hi) hz,_,(r.drop (HT.cG xs.length 0 lo)).take (HT.cG xs.length xs.length hi - HT.cG xs.length 0 lo),IsTup.new _ _⟩
end
variable{n j:Nat}{i:Int}{r:R2}{aa:List (ag×Obj)}{Z:St}{H:Hp}{s:au}
def wG(n:Nat)(i:Int):ak Nat:=if 0<=i then(if i<n then some i.toNat else none) else if -(n:Int)<=i then some (i+n).toNat else none
def dU{α:Type}(xs:List α)(i:Int):ak α:=(wG xs.length i).bind λj=>xs[j]?
def Qu(h:wG n i=some j):seqIndex? i n=some j/\j<n /\ -(n:Int)<=i/\i<n:=by
 unfold wG at h;by_cases h0:0<=i
 .rw[aX h0] at h;by_cases h1:i<n
  .rw[aX h1] at h;have e:i.toNat=j:=Option.some.inj h;exact⟨by rw[seqIndex_of h0 h1,e],by lia,by lia,h1⟩
  .rw[aM h1] at h;cases h
 .rw[aM h0] at h;by_cases h1:-(n:Int)<=i
  .rw[aX h1] at h;have e:(i+n).toNat=j:=Option.some.inj h;exact⟨by rw[seqIndex_neg (by lia) h1,e],by lia,h1,by lia⟩
  .rw[aM h1] at h;cases h
def Kk{α:Type}{xs:List α}{v:α}(h:dU xs i=some v):∃j,seqIndex? i xs.length=some j/\xs[j]?=some v/\j<xs.length /\ -(xs.length:Int)<=i/\i<xs.length:=by
 unfold dU at h;cases e:wG xs.length i with
 |none=>rw[e] at h;cases h
 |some j=>
  rw[e] at h;obtain⟨h1,h2,h3,h4⟩:=Qu e;exact⟨j,h1,h,h2,h3,h4⟩
def vS{α:Type}{xs:List α}{v:α}(h:xs[j]?=some v):dU xs (j:Int)=some v:=by
 have hj:j<xs.length:=(eQ.mp h).1;have e:wG xs.length (j:Int)=some j:=by
  unfold wG;rw[aX (by lia),aX (by lia)];simp
 unfold dU;rw[e];exact h
def Kl(b:Expr):Prop:=∀o i,subscripted b false o i=operate [o,i] (getItem o i)
def rD(X:Cx)(r:R2):Prop:=
 ∀(value slice:Expr) (aa:List (ag×Obj)) (s:au) (Z:St) (H:Hp) (x y:V) (v u:ai) (Q:VK),Inv X aa Z H s->RelV x v->RelV y u->r x y H Q->
  subscripted slice false v u=operate [v,u] (getItem v u)->wpAny (model X.prog X.w) X.A (subscriptTail value slice v u) (EP X aa Z Q) X.xe s
def Jd(X:Cx)(id:String)(r:V->List V->Hp->VK->Prop):Prop:=
 ∀(aa:List (ag×Obj)) (s:au) (Z:St) (H:Hp) (x:V) (xs:List V) (v:ai) (us:List ai) (Q:VK),Inv X aa Z H s->RelV x v->Vals xs us->r x xs H Q->
  wpAny (model X.prog X.w) X.A (call (.builtin id) (v::us)) (EP X aa Z Q) X.xe s
section
variable{X:Cx}{a b:Expr}{ta tb:TE}{pos:Pos}
def rD.or{r':R2}(h:rD X r)(h':rD X r'):rD X (λx y H Q=>r x y H Q\/r' x y H Q):=by
 intro value slice aa s Z H x y v u Q I rx ry q hs;rcases q with q|q
 .exact h value slice aa s Z H x y v u Q I rx ry q hs
 .exact h' value slice aa s Z H x y v u Q I rx ry q hs
def e8c(hr:rD X r)(ha:PE X a ta)(hb:PE X b tb)(hs:Kl b):PE X (.Subscript a b pos) (Iu r ta tb):=by
 intro aa s Z H Q I h;exact Subscript_ (zW ha hb I h λv u s2 x y H2 I2 rx ry q=>hr a b aa s2 Z H2 x y v u Q I2 rx ry q (hs _ _))
def AW(K:PySem.W.Frag):R2:=λx y H Q=>∃p xs i v,x=.ref p/\y=.int i/\cM K H p xs/\dU xs i=some v/\Q v H
def AX(K:PySem.W.Frag):R2:=λx y H Q=>∃p xs i v,x=.ref p/\y=.int i/\g7 K H p xs/\dU xs i=some v/\Q v H
def EU:R2:=λx y H Q=>∃z i c,x=.str z/\y=.int i/\z.length<=sizeLine/\dU z.cps.toList i=some c/\Q (.str ⟨#[c]⟩) H
def Ξ:rD X (AW X.K):=by
 intro value slice aa s Z H x y v u Q I rx ry h hs;obtain⟨p,xs,i,z,rfl,rfl,hq,he,q⟩:=h;cases rx;obtain⟨t,rfl⟩:=ry;obtain⟨aF,r,pl,hz⟩:=I.list hq;obtain⟨j,h1,h2,h3,h4,h5⟩:=Kk he;obtain⟨w,ew,nO⟩:=r.get h2;have hl:=r.length;have hn:=zO;have fin:EP X aa Z Q w s:=⟨z,H,I,nO,q⟩;by_cases h0:0<=i
 .have hj:i.toNat=j:=by
   rw[seqIndex_of h0 h5] at h1;exact Option.some.inj h1
  exact item_listR pl.isList h0 (by lia) (by rw[hj];simpa using ew) fin hs
 .have hj:(i+(aF.toArray.size:Int)).toNat=j:=by
   rw[seqIndex_neg (by lia) h4] at h1
   rw[dA,<-hl];exact Option.some.inj h1
  exact subscriptTail_builtinR (x:=w) pl.isList.typeIs slot_list_getitem.lookup
   (wpAny_getItem_list_neg (Q:=λr s'=>r=w/\EP X aa Z Q r s') pl.isList (by lia) (by rw[dA] <;> lia) (by lia) (by rw[hj];simpa using ew) ⟨rfl,fin⟩) hs
def e2q:rD X (AX X.K):=by
 intro value slice aa s Z H x y v u Q I rx ry h hs;obtain⟨p,xs,i,z,rfl,rfl,hq,he,q⟩:=h;cases rx;obtain⟨t,rfl⟩:=ry;obtain⟨aF,r,pl,hz⟩:=I.tuple hq;obtain⟨j,h1,h2,h3,h4,h5⟩:=Kk he;obtain⟨w,ew,nO⟩:=r.get h2;have hl:=r.length;have hn:=zO;have fin:EP X aa Z Q w s:=⟨z,H,I,nO,q⟩;exact subscriptTail_builtinR (x:=w) pl.typeIs slot_tuple_getitem.lookup
  (getItem_tuple (j:=j) (Q:=λr s'=>r=w/\EP X aa Z Q r s') pl (by lia) (by lia) (by rw[dA,<-hl];exact h1) (by simpa using ew) ⟨rfl,fin⟩) hs
def Ay:rD X EU:=by
 intro value slice aa s Z H x y v u Q I rx ry h hs;obtain⟨z,i,c,rfl,rfl,hz,he,q⟩:=h;obtain⟨t,rfl⟩:=rx;obtain⟨t',rfl⟩:=ry;obtain⟨j,h1,h2,h3,h4,h5⟩:=Kk he;have hl:z.cps.toList.length=z.length:=by simp[Str.length]
 rw[hl] at h1 h4 h5;have hn:=zO;exact tail_any (typeIs_str s z t) slot_str_getitem.lookup (getItem_str (c:=c) (by
  lia) (by rw[h1];simpa using h2) ⟨.str ⟨#[c]⟩,H,I.tok _,⟨_,rfl⟩,q⟩) hs
def Vi(aF:List ai)(n j:Nat)(u:ai):Obj.mapSeq (·.setIfInBounds j u) { cls:=.type "list",data:=.seq aF.toArray n}={ cls:=.type "list",data:=.seq (aF.set j u).toArray n}:=by
 simp[Obj.mapSeq]
def Inv.lst{aa:List (ag×Obj)}{Z:St}{H:Hp}{s:au}{p:ag}{xs:List V}(I:Inv X aa Z H s)(h:H p=some (.lst xs)):
  ∃(aF:List ai) (n:Nat),Vals xs aF/\s.heap.get? p=some { cls:=.type "list",data:=.seq aF.toArray n}/\xs.length<=sizeLine:=by
 obtain⟨z,aF,n,r,e⟩:=I.bB p _ h;exact⟨aF,n,r,e,z⟩
def Inv.AD{p:ag}{xs ys:List V}{aF its':List ai}{n':Nat}{f:Obj->Obj}(I:Inv X aa Z H s)(h:H p=some (.lst xs))
  (ho:s.heap.get? p=some { cls:=.type "list",data:=.seq aF.toArray n}) (hf:f { cls:=.type "list",data:=.seq aF.toArray n}={ cls:=.type "list",data:=.seq its'.toArray n'}) (r:Vals ys its') (hz:ys.length<=sizeLine) (t:Nat) :
  Inv X aa Z (upd H p (.lst ys)) { s with heap:=s.heap.update p f,toks:=t}:=by
 have e:(s.heap.update p f).get? p=some { cls:=.type "list",data:=.seq its'.toArray n'}:=by
  rw[sG f ho (by rw[hf] <;> rfl),hf]
 refine I.write (x:=p) (e:=p) (by rw[h];trivial) (.inl rfl) (λb u hb q=>(qp _ _ (Ne.symm hb)).trans q) ⟨_,e⟩ ?_
 exact⟨hz,its',n',r,e⟩
def yR:V->V->V->Hp->(Hp->Prop)->Prop:=λo i v H Q=>∃p xs k j,o=.ref p/\i=.int k/\H p=some (.lst xs)/\wG xs.length k=some j/\Q (upd H p (.lst (xs.set j v)))
def Xk:vN X yR:=by
 intro aa s Z H o i v ov iv u Q I ro ri rv h;obtain⟨p,xs,k,j,rfl,rfl,hp,hj,q⟩:=h;cases ro;obtain⟨t,rfl⟩:=ri;obtain⟨aF,n,r,ho,hz⟩:=I.lst hp;obtain⟨h1,h2,h3,h4⟩:=Qu hj;have hl:=r.length;have hn:=zO;have I':Inv X aa Z (upd H p (.lst (xs.set j v))) { s with heap:=s.heap.update p (Obj.mapSeq (·.setIfInBounds j u))}:=
  I.AD hp ho (Vi aF n j u) (r.set rv j) (by rw[nW];exact hz) s.toks
 by_cases h0:0<=k
 .have hk:k.toNat=j:=by
   rw[seqIndex_of h0 h4] at h1;exact Option.some.inj h1
  exact PySem.W.ki_setAt ho h0 (by lia) (by rw[dA,<-hl];exact h4) (by rw[hk];exact⟨_,I',q⟩)
 .have hk:(k+(aF.toArray.size:Int)).toNat=j:=by
   rw[seqIndex_neg (by lia) h3] at h1
   rw[dA,<-hl];exact Option.some.inj h1
  exact PySem.W.ki_setBack ho (by lia) (by rw[dA,<-hl];exact h3) (by lia) (by rw[hk];exact⟨_,I',q⟩)
def UG(lo hi:ak Int)(n:Nat):(sliceBounds lo hi none n).1=((HT.cG n 0 lo:Nat):Int)/\(sliceBounds lo hi none n).2.1=((HT.cG n n hi:Nat):Int)/\(sliceBounds lo hi none n).2.2=1:=by
 refine⟨?_,?_,rfl⟩
 .cases lo with
  |none=>simp[sliceBounds,HT.cG]
  |some i=>
   simp only[sliceBounds,HT.cG,Option.getD_none,show(1:Int) > 0 by decide,pS]
   by_cases h:i<0
   .simp only[h,pS] <;> lia
   .simp only[h,j'] <;> lia
 .cases hi with
  |none=>simp[sliceBounds,HT.cG]
  |some i=>
   simp only[sliceBounds,HT.cG,Option.getD_none,show(1:Int) > 0 by decide,pS]
   by_cases h:i<0
   .simp only[h,pS] <;> lia
   .simp only[h,j'] <;> lia
def Ux(aF:List ai)(lo hi:ak Int):slicePick aF.toArray lo hi none=((aF.drop (HT.cG aF.length 0 lo)).take (HT.cG aF.length aF.length hi - HT.cG aF.length 0 lo)).toArray:=by
 obtain⟨h1,h2,h3⟩:=UG lo hi aF.toArray.size;unfold slicePick;rw[h1,h2,h3];simp only[sliceRange_one,pick_run,dA] <;> rfl
def AY(K:PySem.W.Frag):V->ak Int->ak Int->Hp->VK->Prop:=λx lo hi H Q=>∃a xs,x=.ref a/\cM K H a xs/\∀p,H p=none->Q (.ref p) (upd H p (.lst (ox xs lo hi)))
def Φ:tu X (AY X.K):=by
 intro aa s Z H x v vl vu lo hi sl Q I rx hs pl pu h;obtain⟨a,xs,rfl,hx,q⟩:=h;cases rx;obtain⟨aF,r,ht,hz⟩:=I.list hx;have hlen:=r.length;refine⟨"list",_,slot_list_getitem.lookup,ht.isList.typeIs,?_⟩;refine wpAny_getItem_list_slice ht.isList hs pl pu .none (by simp) ?_ (by rw[dA] <;> lia)
 rw[Ux,<-hlen];refine⟨.ref s.heap.objs.size,_,I.laid (t':=s.toks) (o:=.lst (ox xs lo hi)) (λb ob q=>c8 _ q) (bM _) ?_,rfl,q _ (I.bB.fresh (bM _))⟩
 exact⟨i7 (Oi xs lo hi) hz,_,0,(r.drop (HT.cG xs.length 0 lo)).take (HT.cG xs.length xs.length hi - HT.cG xs.length 0 lo),jR _ rfl⟩
def yj:V->Bool
 |.aI=>true
 |.bl _=>true
 |.int _=>true
 |.str _=>true
 |_=>false
noncomputable def eqV:V->V->Bool
 |.aI,.aI=>true
 |.bl a,.bl b=>a == b
 |.bl a,.int b=>(if a then 1 else 0) == b
 |.int a,.bl b=>a == (if b then 1 else 0)
 |.int a,.int b=>a == b
 |.str a,.str b=>a == b
 |_,_=>false
def UH:bS X (.builtin "len") (λxs H Q=>∃p ys,xs=[.ref p]/\(cM X.K H p ys\/g7 X.K H p ys)/\Q (.int ys.length) H):=by
 intro aa s Z H xs us Q I r h;obtain⟨p,ys,rfl,hq,q⟩:=h;obtain⟨u,rfl,rx⟩:=vals1 r;cases rx;have hn:=zO;rcases hq with hq|hq
 .obtain⟨aF,r',pl,hz⟩:=I.list hq;have hlen:=r'.length;exact Calls.call_len_list pl.isList (by simp only[dA] <;> lia) ⟨.int ys.length,H,I.tok _,⟨s.toks+1,by rw[dA,hlen]⟩,q⟩
 .obtain⟨aF,r',pl,hz⟩:=I.tuple hq;have hlen:=r'.length;exact len_tuple pl (by simp only[dA] <;> lia) ⟨.int ys.length,H,I.tok _,⟨s.toks+1,by rw[dA,hlen]⟩,q⟩
def nh:bS X (.builtin "len") (λxs H Q=>∃z,xs=[.str z]/\z.length<=sizeLine/\Q (.int z.length) H):=by
 intro aa s Z H xs us Q I r h;obtain⟨z,rfl,hz,q⟩:=h;obtain⟨u,rfl,t,rfl⟩:=vals1 r;have hn:=zO;exact len_str (by lia) ⟨.int z.length,H,I.tok _,⟨_,rfl⟩,q⟩
def bS.or{f:ai}{r r':List V->Hp->VK->Prop}(h:bS X f r)(h':bS X f r'):bS X f (λxs H Q=>r xs H Q\/r' xs H Q):=by
 intro aa s Z H xs us Q I rs q;rcases q with q|q
 .exact h aa s Z H xs us Q I rs q
 .exact h' aa s Z H xs us Q I rs q
def UI:bS X (.type "list") (λxs H Q=>∃p ys,xs=[.ref p]/\(cM X.K H p ys\/g7 X.K H p ys)/\∀l,H l=none->Q (.ref l) (upd H l (.lst ys))):=by
 intro aa s Z H xs us Q I r h;obtain⟨p,ys,rfl,hq,q⟩:=h;obtain⟨u,rfl,rx⟩:=vals1 r;cases rx;have fin:∀(aF:List ai),Vals ys aF->ys.length<=sizeLine->∀(h':bV) (c':Nat),(∀b o',s.heap.get? b=some o'->h'.get? b=some o')->
   h'.get? s.heap.objs.size=some { cls:=.type "list",dict:=none,data:=.seq aF.toArray c',slots:=#[]}->EP X aa Z Q (.ref s.heap.objs.size) { s with heap:=h'}:=λaF r' hz h' c' kp e=>
  ⟨.ref s.heap.objs.size,_,I.laid (t':=s.toks) kp (bM _) (show bH X.prog X.w _ h' _ (.lst ys) from⟨hz,aF,c',r',e⟩),rfl,q _ (I.bB.fresh (bM _))⟩
 rcases hq with hq|hq
 .obtain⟨aF,r',pl,hz⟩:=I.list hq;have hlen:=r'.length;obtain⟨o,ho,hc,n,hd⟩:=pl.isList;exact call_list_seq p (.inl rfl) ho hc hd (λh' c' kp e=>fin aF r' hz h' c' kp e) (by simp only[dA] <;> lia)
 .obtain⟨aF,r',pl,hz⟩:=I.tuple hq;have hlen:=r'.length;obtain⟨o,ho,hc,n,hd⟩:=pl;exact call_list_seq p (.inr rfl) ho hc hd (λh' c' kp e=>fin aF r' hz h' c' kp e) (by simp only[dA] <;> lia)
def Iz(K:PySem.W.Frag)(T:String)(x:V)(H:Hp):Prop:=match x with
 |.str _=>T="str"
 |.int _=>T="int"
 |.ref p=>(T="list"/\∃xs,cM K H p xs)\/(T="tuple"/\∃o,K.lookup p=some o/\o.cls=.type "tuple"/\o.dict=none)\/
   (T="dict"/\((∃kvs,H p=some (.dK kvs))\/(∃kvs,H p=some (.dT kvs))\/∃es ep,H p=some (.dG es ep)))\/(T="set"/\∃S n,H p=some (.set S n))
 |_=>False
def RJ{T:String}{x:V}{v:ai}(I:Inv X aa Z H s)(r:RelV x v)(ty:Iz X.K T x H):
  s.TypeIs v T/\∀a,v=.ref a->∃ob,s.heap.get? a=some ob/\ob.dict=none:=by
 cases x with
 |str z=>
  obtain⟨t,rfl⟩:=r;cases(show T="str" from ty);exact⟨typeIs_str s z t,λ_ e=>nomatch e⟩
 |int i=>
  obtain⟨t,rfl⟩:=r;cases(show T="int" from ty);exact⟨typeIs_int s i t,λ_ e=>nomatch e⟩
 |ref p=>
  cases r;rcases ty with⟨rfl,xs,hq⟩|⟨rfl,o,hk,hc,hd⟩|⟨rfl,hk⟩|⟨rfl,S,n,hk⟩
  .obtain⟨aF,_,pl,_⟩:=I.list hq;refine⟨pl.isList.typeIs,λa e=>?_⟩
   cases e;obtain⟨o,n,e,c,hd,_⟩:=pl;exact⟨o,e,hd⟩
  .refine⟨⟨o,I.kj p o hk,hc⟩,λa e=>?_⟩
   cases e;exact⟨o,I.kj _ o hk,hd⟩
  .have z:∃o,s.heap.get? p=some o/\o.ExactDict:=by
    rcases hk with⟨kvs,hk⟩|⟨kvs,hk⟩|⟨es,ep,hk⟩
    .obtain⟨_,_,_,_,o,_,_,e,ex,_⟩:=I.bB p _ hk;exact⟨o,e,ex⟩
    .obtain⟨_,_,_,_,o,_,_,e,ex,_⟩:=I.bB p _ hk;exact⟨o,e,ex⟩
    .obtain⟨_,_,o,_,e,ex,_⟩:=I.bB p _ hk;exact⟨o,e,ex⟩
   obtain⟨o,e,ex⟩:=z;refine⟨⟨o,e,ex.1⟩,λa e2=>?_⟩
   cases e2;exact⟨o,e,ex.2.1⟩
  .obtain⟨o,_,_,_,e,ex,_⟩:=I.bB p _ hk;refine⟨⟨o,e,ex.1⟩,λa e2=>?_⟩
   cases e2;exact⟨o,e,ex.2.1⟩
 |_=>exact False.elim ty
def M4(K:PySem.W.Frag)(T:String)(r:V->List V->Hp->VK->Prop)(to:TE)(t:TA):TE:=λZ H Q=>to Z H λx H1=>Iz K T x H1/\t Z H1 λxs H2=>r x xs H2 Q
variable{o e:Expr}{es:List Expr}{to:TE}{t:TA}{name:Str}{apos bN:Pos}{T id:String}{r:V->List V->Hp->VK->Prop}
def Sy(pa:PlainAttrs T)(slot:Slot T name id)(wB:typeOf (.builtin id)=pure (.type "method_descriptor"))(hm:Jd X id r)(ho:PE X o to)(ha:PA X (e::es) t)
  (eH:attributeBase o name X.env (eval o X.env)=eval o X.env:=by rfl)
  (ug:((backTo bN (starEach (e::es) X.env)).all (λx => !x.1)&&(backToKw bN (keywordEach [] X.env)).all (λx=>x.1.isSome) && decide ((e::es).length+([]:List Keyword).length+(if([]:List Keyword).isEmpty then 0 else 1)<30))=true:=by rfl)
  (eI:(apos.endLine == bN.line)=true:=by rfl) (hs:starEach (e::es) X.env=(false,eval e X.env)::starEach es X.env:=by rfl) (k6:(backTo bN (starEach es X.env)).any (·.1)=false:=by rfl) :
  PE X (.Call (.Attribute o name apos) (e::es) [] bN) (M4 X.K T r to t):=by
 intro aa s Z H Q I h;refine wpAny_Call_method_late eH ug eI rfl (bK (ho aa s Z H _ I h) λv s1 hh=>?_)
 obtain⟨x,H1,I1,r1,ty,q1⟩:=hh;obtain⟨h1,h2⟩:=RJ I1 r1 ty;refine⟨T,id,pa,slot,wB,h1,h2,?_⟩;have hA:=ha bN aa s1 Z H1 _ I1 q1;rw[hs] at hA ⊢;refine Calls.callWith_builtin (by show(false || (backTo bN (starEach es X.env)).any (·.1))=false;rw[k6] <;> rfl) (Calls.evalArgs_plain ?_)
 exact bK hA λus s2 ⟨vs,H2,I2,r2,q2⟩=>hm aa s2 Z H2 x vs v us Q I2 r1 r2 q2
end
variable{x:V}{us aF:List ai}{t':Nat}
def Bj(X:Cx)(id:String)(r:V->List V->Hp->VK->Prop):Prop:=
 ∀(aa:List (ag×Obj)) (s:au) (Z:St) (H:Hp) (x:V) (xs:List V) (v:ai) (us:List ai) (Q:VK),Inv X aa Z H s->RelV x v->Vals xs us->r x xs H Q->
  wpAny (model X.prog X.w) X.A (call (.builtin id) (v::us)) (EP X aa Z Q) X.xe s
def Vals.one(h:Vals [x] us):∃u,us=[u]/\RelV x u:=by
 cases h with
 |cons r t=>
  cases t;exact⟨_,rfl,r⟩
def Vals.two{y:V}(h:Vals [x,y] us):∃u v,us=[u,v]/\RelV x u/\RelV y v:=by
 cases h with
 |cons r t=>
  obtain⟨v,rfl,q⟩:=Vals.one t;exact⟨_,_,rfl,r,q⟩
section
variable{X:Cx}{aa:List (ag×Obj)}{Z:St}{H:Hp}{s:au}{l b:ag}{xs ys zs:List V}
def Inv.AA{its':List ai}{n:Nat}{f:Array ai->Array ai}(I:Inv X aa Z H s)(hH:H l=some (.lst xs))
  (e:s.heap.get? l=some { cls:=.type "list",data:=.seq aF.toArray n}) (hf:f aF.toArray=its'.toArray) (hv:Vals ys its') (hz:ys.length<=sizeLine) :
  Inv X aa Z (upd H l (.lst ys)) { s with heap:=s.heap.update l (Obj.mapSeq f),toks:=t'}:=by
 have q:=PySem.IsL.update e f;rw[hf] at q;refine I.write (x:=l) (e:=l) (by rw[hH];exact trivial) (.inl rfl) (λb' u hb hu=>(qp s.heap (Obj.mapSeq f) (Ne.symm hb)).trans hu) ⟨_,q⟩ ?_
 exact⟨hz,its',_,hv,q⟩
def Inv.Mh(I:Inv X aa Z H s)(hv:Vals ys aF)(hz:ys.length<=sizeLine):
  Inv X aa Z (upd H s.heap.objs.size (.lst ys)) { s with heap:=s.heap.push { cls:=.type "list",data:=.seq aF.toArray},toks:=t'}:=
 I.laid (λ_ _ q=>c8 _ q) (bM _) ⟨hz,aF,0,hv,jR _ rfl⟩
theorem Inv.fresh(I:Inv X aa Z H s):H s.heap.objs.size=none:=I.bB.fresh (bM _)
def Inv.AB(I:Inv X aa Z H s)(hH:H l=some (.lst xs)):xs.length<=sizeLine/\∃(aF:List ai) (n:Nat),Vals xs aF/\xs.length=aF.length/\s.heap.get? l=some { cls:=.type "list",data:=.seq aF.toArray n}:=by
 obtain⟨z,aF,n,r,e⟩:=I.bB l _ hH;exact⟨z,aF,n,r,r.length,e⟩
end
section
variable{X:Cx}
def Qv:V->List V->Hp->VK->Prop:=λx vs H Q=>∃l xs y,x=.ref l/\vs=[y]/\H l=some (.lst xs)/\xs.length<sizeLine/\Q .aI (upd H l (.lst (xs++[y])))
theorem V0:Bj X "list.append" Qv:=by
 intro aa s Z H x vs v us Q I rx rv h;obtain⟨l,xs,y,rfl,rfl,hH,hz,q⟩:=h;cases rx;obtain⟨u,rfl,ru⟩:=rv.one;obtain⟨z,aF,n,r,hl,e⟩:=I.AB hH;refine call_meets F.slot_list_append ⟨_,e,rfl⟩ F.entry_list_append (F.args_list_append_2 _ _) (PySem.list_append l aF.toArray n u (by rw[dA];lia)) ⟨e,?_⟩
 refine⟨.aI,_,I.AA (its':=aF++[u]) hH e (by simp) (r.append (.cons ru .nil)) ?_,rfl,q⟩
 rw[du,vB];lia
end
section
variable{prog:de}{w:cC}{A:cQ}{E:ai->au->Prop}{s:au}
end
section
variable{X:Cx}
end
section
variable{κ:Type}[DecidableEq κ]
def iz.rV{o:ak V}{u:ak ai}(r:iz o u):o.isSome=u.isSome:=by
 cases o with
 |none=>cases u with
  |none=>rfl
  |some _=>exact(show False from r).elim
 |some _=>cases u with
  |none=>exact(show False from r).elim
  |some _=>rfl
end
variable{X:Cx}{pos:Pos}
section
variable{P:de}{w:cC}{H:Hp}{h:bV}{a:ag}
end
section
variable{X:Cx}{aa:List (ag×Obj)}{Z:St}{H:Hp}{s:au}{a:ag}{y v:V}{u r:ai}{o:ak V}{A:cQ}{E:ai->au->Prop}
def Inv.big(I:Inv X aa Z H s):sysModules<s.heap.objs.size:=by
 have h:mainGlobals<s.heap.objs.size:=(I.mod.glob.keeps I.bk).lt;exact Nat.lt_trans (by decide) h
def Km{h':bV}{t':Nat}{ob:HO}(I:Inv X aa Z H s)(mu:CA (H a))(hs:Heap.SameBut a s.heap h')(he:∃q,h'.get? a=some q)(new:bH X.prog X.w (upd H a ob) h' a ob):
  Inv X aa Z (upd H a ob) { s with heap:=h',toks:=t'}:=
 I.write (x:=a) (e:=a) mu (.inl rfl) (λb q hb z=>(hs.2 b hb).trans z) he new
end
section
variable{X:Cx}{aa:List (ag×Obj)}{Z:St}{H:Hp}{s:au}{a:ag}{kvs:List (Key×V)}{k:Key}{u:ai}{A:cQ}{E:ai->au->Prop}
end
section
variable{X:Cx}{o i e value:Expr}{pos pos' fE:Pos}{td ty tv:TE}
end
section
variable{X:Cx}{pos:Pos}
end
def Hg:List (TE×TE)->St->Hp->(List (V×V)->Hp->Prop)->Prop
 |[],_,H,Q=>Q [] H
 |(tk,tv)::r,Z,H,Q=>tk Z H λx H1=>tv Z H1 λy H2=>Hg r Z H2 λps H3=>Q ((x,y)::ps) H3
abbrev VV:List (V×V)->List (ai×ai)->Prop:=Paired λp q=>RelV p.1 q.1/\RelV p.2 q.2
def Bk(X:Cx)(pos:Pos)(keys:List (ak Expr))(values:List Expr)(xl:List (TE×TE)):Prop:=
 ∀(aa:List (ag×Obj)) (s:au) (Z:St) (H:Hp) (Q:List (V×V)->Hp->Prop),Inv X aa Z H s->Hg xl Z H Q->
  wpAny (model X.prog X.w) X.A (evalPairs (pairTrees keys values X.env pos)) (λvs s'=>∃ps H',Inv X aa Z H' s'/\VV ps vs/\Q ps H') X.xe s
def wV:Bk X pos [] [] []:=λaa s Z H Q I h=>pairTrees_nil_walk ⟨[],H,I,.nil,h⟩
def uI{k v:Expr}{ks:List (ak Expr)}{vs:List Expr}{tk tv:TE}{xl:List (TE×TE)}(hk:PE X k tk)(hv:PE X v tv)(hr:Bk X pos ks vs xl):
  Bk X pos (some k::ks) (v::vs) ((tk,tv)::xl):=λaa s Z H Q I h=>
 pairTrees_cons_walk (bK (hk aa s Z H _ I h) λu s1 ⟨x,H1,I1,rx,q1⟩=>bK (hv aa s1 Z H1 _ I1 q1) λw2 s2 ⟨y,H2,I2,ry,q2⟩=> bK (hr aa s2 Z H2 _ I2 q2) λws s3 ⟨ps,H3,I3,rel,q3⟩=>⟨(x,y)::ps,H3,I3,.cons ⟨rx,ry⟩ rel,q3⟩)
structure M1 (X:Cx) (o:Expr) (m:Str) (apos:Pos) (e:Expr) (bN:Pos):Prop where
 base:attributeBase o m X.env (eval o X.env)=eval o X.env
 few:((backTo bN (starEach [e] X.env)).all (λx => !x.1)&&(backToKw bN (keywordEach [] X.env)).all (λx=>x.1.isSome) && decide (([e]:List Expr).length+([]:List Keyword).length+(if([]:List Keyword).isEmpty then 0 else 1)<30))=true
 line:(apos.endLine == bN.line)=true
 trees:backTo bN (starEach [e] X.env)=[(false,eval e X.env)]
structure M2 (X:Cx) (o:Expr) (m:Str) (apos:Pos) (e f:Expr) (bN:Pos):Prop where
 base:attributeBase o m X.env (eval o X.env)=eval o X.env
 few:((backTo bN (starEach [e,f] X.env)).all (λx => !x.1)&&(backToKw bN (keywordEach [] X.env)).all (λx=>x.1.isSome) && decide (([e,f]:List Expr).length+([]:List Keyword).length+(if([]:List Keyword).isEmpty then 0 else 1)<30))=true
 line:(apos.endLine == bN.line)=true
 trees:backTo bN (starEach [e,f] X.env)=[(false,eval e X.env),(false,eval f X.env)]
section
variable{X:Cx}{aa:List (ag×Obj)}{Z:St}{H:Hp}{s:au}{a:ag}{y d:V}{u r:ai}{o:ak V}{A:cQ}{E:ai->au->Prop}
end
section
variable{X:Cx}{o e f:Expr}{apos bN:Pos}{td ty tx:TE}
end
section
variable{X:Cx}{aa:List (ag×Obj)}{Z:St}{H:Hp}{s:au}{a:ag}{kvs:List (Key×V)}{A:cQ}{E:ai->au->Prop}
end
section
variable{X:Cx}{aa:List (ag×Obj)}{Z:St}{H:Hp}{s:au}{a:ag}{y:V}{u:ai}{A:cQ}{E:ai->au->Prop}
end
end L2
namespace NQ
open PySem PySem.W PySem.Calls PyProof.Rows
variable{P:Params}{h:bV}{l:OpenLaw}{n:Nat}
def Um:∀(ns:List Int) (vs:List ai),WellAll P h vs (ns.map WData.int)->IntsAre vs ns:=by
 intro ns
 induction ns with
 |nil=>
  intro vs w;rw[xG] at w;cases w;exact .nil
 |cons n ns ih=>
  intro vs w;rw[bQ] at w;cases w with
  |cons a b=>
   cases a;exact .cons _ _ (ih _ b)
def V1(hn:l.most=some n){args:List WData}{vals:List ai}
  (wy:l.row.toRowW.claim.pre args=true) (H9:WellAll P h vals args) :
  ∃a vs ns,vals=[Value.ref a]/\args=[WData.list (ns.map WData.int)]/\h.get? a=some { cls:=.type "list",data:=.seq vs.toArray}/\IntsAre vs ns/\ns.length<=n:=by
 have hsh:WShape.hasAll [] args [.list .int]=true:=(pre_splitW wy).1;have hc:l.pre.holds [] { args:=args}=true:=(pre_splitW wy).2;obtain⟨d,r,rfl,h1,h2⟩:=hasAllW_cons hsh;obtain rfl:=hasAllW_nil h2;obtain⟨xs,rfl,h3⟩:=hasW_list h1;obtain⟨ns,rfl⟩:=items_int h3;have hlen:ns.length<=n:=by
  unfold OpenLaw.pre at hc;have h4:(WTm.not (.lt (.lit (.int (n:Int))) (.len (.arg 0)))).holds [] { args:=[.list (ns.map .int)]}=true:=by
   have h4:=(holds_andW hc).1;rw[hn] at h4;exact h4
  have h5:=condW_of h4 (w_not (w_lt w_lit (w_len_list (w_arg rfl))))
  simp_all
 cases H9 with
 |cons w1 w2=>
  cases w2;cases w1 with
  |list ho j5=>exact⟨_,_,ns,rfl,rfl,ho,Um ns _ j5,hlen⟩
def V2(l:OpenLaw)(args:List WData):l.row.toRowW.claim.post args (.bool true) args=true:=
 postW_of (r:=l.row.toRowW) (X:=(true == true))
  (show WShape.has [] (.bool true) .bool=true by first|rfl|decide|simp[WShape.has,WShape.arms,WShape.armsAll])
  (show(WTm.eq .res (.lit (.bool true))).value [] { args:=args,res:=some (.bool true),after:=args}=some (.bool (true == true)) from w_eq_bool (w_res rfl) w_lit) rfl
def oq{q:de}{loose:List Str}{XP:(Str->ak ai)->bV->Prop}{YP:cC->bV->Prop}{d:DefRec}
  (hn:l.most=some n) (D_:d.params.defaults=[])
  (call:∀(w:cC) (s₀ s₁:au) (mg mb:Str->ak ai) (fa:ag) (o:Obj) (pm cd doc:ai) (a:ag) (vs:List ai) (ns:List Int),Ground q loose [] XP w s₀ mg mb s₁.heap->YP w s₁.heap-> s₁.heap.get? fa=some o->o.data=.func (docDef d.name d.params d.body d.scope pm cd doc)->s₁.heap.CodeRec cd d.name->mg d.name=some (.ref fa)-> s₁.heap.get? a=some { cls:=.type "list",data:=.seq vs.toArray}->IntsAre vs ns->ns.length<=n->s₁.gens=#[]-> codeAny (model l.prog w) callerA (.call (.ref fa) ⟨[.ref a],[]⟩) (λr s'=>r=.ok (.ret (.bool true))/\OldK s₁.heap s'.heap/\s'.os=s₁.os/\AllBare s'.gens) s₁) :
  WalkO q loose XP YP l.row.toRowW d [] (λf vs=>PySem.call f vs):=by
 intro w s₀ s₁ mg mb G Y fa o pm cd doc dV kV ho hd rP hD hmg hg args vals as wy hlay hrd H9 hlo;obtain rfl:dV=.none:=Dflts.none hD D_;obtain rfl:kV=.none:=Dflts.noKw hD;obtain⟨a,vs,ns,rfl,rfl,As,hints,hlen⟩:=V1 hn wy H9;refine enter_call (codeAny_mono (call w s₀ s₁ mg mb fa o pm cd doc a vs ns G Y ho (fd_plain hd) rP hmg As hints hlen hg) λr s' hq=>?_)
 obtain⟨rfl,h2,h3,h4⟩:=hq;exact⟨.inl ⟨.bool true,.bool true,[],rfl,λ_=>rfl,.bool true,V2 l _,λ_=>⟨List.Pairwise.nil,λ_ hm=>(nomatch hm)⟩⟩,h2,h3,h4⟩
section
variable{prog:de}{w:cC}{A:cQ}{E:ai->au->Prop}{s:au}{K:Frag}
end
end NQ
namespace L2
open PySem PySem.Spec PyProof.Rows
theorem OU:∀{vs:List ai} {ns:List Int},IntsAre vs ns->Vals (ns.map V.int) vs
 |_,_,.nil=>.nil
 |_,_,.cons n t h=>.cons ⟨t,rfl⟩ (OU h)
def zp(H:Hp):Prop:=∀b,H b=none\/∃o xs,H b=some (.Y o (.lst xs))
def Xl{P:de}{w:cC}{K:PySem.W.Frag}{mg mb:Str->ak ai}{CX:uW}{k:Nat}{fa a:ag}{fd:bR}{x:Str}{sp:Sp}{s₁:au}{vs:List ai}{ns:List Int}
  (KX:K.In s₁.heap) (Tg:s₁.heap.Ns mainGlobals mg) (hb:s₁.heap.Ns builtinsNs mb) (hbb:∀x:Str,x≠"__name__"->mb x=bootBuiltins x) (LL:s₁.heap.NoLimit) (hg:s₁.gens=#[])
  (ha:s₁.heap.get? a=some { cls:=.type "list",data:=.seq vs.toArray}) (hi:IntsAre vs ns) (hl:ns.length<=sizeLine) (hr:cw k callerA)
  (F:∀base:bV,K.In base->base.Ns mainGlobals mg->dD P w K mg base CX k fa fd [x] sp) (D7:∀(s:au) (u:ai),BindsTo s fd ⟨[u],[]⟩ [(x,u)])
  (yr:∀H:Hp,zp H->cM K H a (ns.map V.int)->sp [.ref a] H (λv _=>v=.bl true) λ_ _ _=>False)
  (Lr:∀H e s',CX [] H s₁ (λ_ _ _=>False) e s'->False) :
  codeAny (model P w) callerA (.call (.ref fa) ⟨[.ref a],[]⟩) (λr s'=>r=.ok (.ret (.bool true))/\OldK s₁.heap s'.heap/\s'.os=s₁.os/\AllBare s'.gens) s₁:=by
 have rv:=OU hi;have Mg:=hi.length;have core:∀H:Hp,zp H->cM K H a (ns.map V.int)->jh P w H s₁.heap->(∀b,H b≠none->b=a)->(H a≠none->K.lookup a=none)->
   codeAny (model P w) callerA (.call (.ref fa) ⟨[.ref a],[]⟩) (λr s'=>r=.ok (.ret (.bool true))/\OldK s₁.heap s'.heap/\s'.os=s₁.os/\AllBare s'.gens) s₁:=by
  intro H hO hS bB hA hK;have qB:∀{b:ag} {o:Obj},s₁.heap.get? b=some o->H b=none->(nv s₁.heap H).get? b=some o:=λe n=>W7 e n
  have EJ:∀{b:ag} {o:Obj} {es:Array DictEntry} {ep:Nat},s₁.heap.get? b=some o->o.data=.dict es ep->H b=none:=λ{b o es ep} e d=>by
   grind
  have Ij:∀{b:ag} {m:Str->ak ai},s₁.heap.Ns b m->(nv s₁.heap H).Ns b m:=λ{b m} ⟨o,es,ep,e,d,r⟩=>⟨o,es,ep,qB e (EJ e d),d,r⟩
  have SY:K.In (nv s₁.heap H):=λb o e=>qB (KX b o e) (by
   grind)
  have hM:Mod K mg (nv s₁.heap H):=⟨SY,Ij Tg,⟨mb,Ij hb,hbb⟩,let ⟨mc,h1,h2⟩:=LL;⟨mc,Ij h1,h2⟩⟩
  have e0:pV P w K mg (nv s₁.heap H) callerA [] s₁ H:=⟨rfl,hM,λb o e=>ZN e,FH (VO _ _),trivial,λb hb=>b_ (show b∈([]:List ag) from hb) (by simp),bB,.of_eq hg⟩
  refine codeAny_mono ((F _ SY (Ij Tg)).run callerA [] s₁ H ⟨[.ref a],[]⟩ [.ref a] [.ref a] _ _ hr e0 (D7 s₁ (.ref a)) (.cons rfl .nil) (yr H hO hS)) λr s' h=>?_
  cases r with
  |error e=>exact(Lr H e s' h).elim
  |ok fl=>
   cases fl with
   |next=>exact False.elim h
   |brk=>exact False.elim h
   |cont=>exact False.elim h
   |ret u=>
    obtain⟨v,H',os,bare,un,LQ,r',q⟩:=h;have q':v=.bl true:=q;subst q';obtain rfl:u=Value.bool true:=r';refine⟨rfl,OldK.of_keep λb o e=>?_,os,bare⟩
    cases q:H b with
    |none=>exact un.keep b o e q (by intro z;exact b_ (show b∈([]:List ag) from z) (by simp)) (by simp)
    |some u=>
     rcases hO b with z|⟨ob,xs,z⟩
     .rw[q] at z;cases z
     .have z2:=un.kW b ob _ z;obtain⟨e1,_⟩:=bB b _ z;obtain⟨e2,_⟩:=LQ b _ z2
      lia
 cases hk:K.lookup a with
 |some o=>
  have e:=KX a o hk;rw[ha] at e;cases e;refine core (λ_=>none) (λ_=>.inl rfl) (.inr ⟨_,vs.toArray,_,hk,rfl,rfl,rfl,by rw[dA,Mg];exact hl,by simpa using rv⟩) (λb u z=>by have z':(none:ak HO)=some u:=z;cases z') (λb z=>b_ rfl z) λz=>b_ rfl z
 |none=>
  refine core (λb=>if b=a then some (.Y { cls:=.type "list",data:=.seq vs.toArray} (.lst (ns.map V.int))) else none) (λb=>?_) (.inl (.inr ⟨{ cls:=.type "list",data:=.seq vs.toArray},aX rfl⟩)) (λb u z=>?_) (λb z=>?_) λ_=>hk
  .by_cases hb:b=a
   .exact .inr ⟨_,_,aX hb⟩
   .exact .inl (aM hb)
  .by_cases hb:b=a
   .have z':=(aX hb).symm.trans z;cases z';subst hb;exact⟨ha,by rw[bh];exact hl,vs,_,rv,ha⟩
   .have z':=(aM hb).symm.trans z;cases z'
  .by_cases hb:b=a
   .exact hb
   .exact b_ (aM hb) z
def xx{l:PySem.W.OpenLaw}{n k:Nat}{q:de}{loose:List Str}{XP:(Str->ak ai)->bV->Prop}{YP:cC->bV->Prop}{d:DefRec}{K:Params->PySem.W.Frag}{CX:cC->uW}{sp:cC->Sp}{x:Str}
  (hn:l.most=some n) (Ap:n<=sizeLine) (D_:d.params.defaults=[]) (hr:cw k callerA)
  (hY:∀(w:cC) (h:bV),YP w h->(K w.params).In h)
  (F:∀(w:cC) (mg:Str->ak ai) (fa:ag) (h:bV),(K w.params).In h->h.Ns mainGlobals mg->mg d.name=some (.ref fa)-> ∃fd:bR,(∀(s:au) (u:ai),BindsTo s fd ⟨[u],[]⟩ [(x,u)])/\ ∀base:bV,(K w.params).In base->base.Ns mainGlobals mg->dD l.prog w (K w.params) mg base (CX w) k fa fd [x] (sp w))
  (yr:∀(w:cC) (H:Hp) (a:ag) (ns:List Int),ns.length<=n->zp H->cM (K w.params) H a (ns.map V.int)->sp w [.ref a] H (λv _=>v=.bl true) λ_ _ _=>False)
  (Lr:∀(w:cC) (H:Hp) (s:au) (e:ai) (s':au),CX w [] H s (λ_ _ _=>False) e s'->False) :
  PySem.W.WalkO q loose XP YP l.row.toRowW d [] (λf vs=>PySem.call f vs):=by
 refine NQ.oq hn D_ λw s₀ s₁ mg mb fa o pm cd doc a vs ns G Y ho hd rP hmg As hints hlen hg=>?_
 have KX:=hY w _ Y;obtain⟨fd,hb,hF⟩:=F w mg fa _ KX G.T.g hmg;exact Xl KX G.T.g G.T.b G.T.builtins G.T.nolimit hg As hints (i7 hlen Ap) hr hF hb (λH hO hS=>yr w H a ns hlen hO hS) λH e s'=>Lr w H s₁ e s'
variable{x qual:Str}{st:Stmt}{f:ag}{H H':Hp}
noncomputable def kD(s:Stmt)(j:Nat):Stmt:=match s with
 |.ClassDef _ _ _ body _ _ _ _ _ _ _=>body.getD j (.Pass ⟨0,0,0,0⟩)
 |_=>.Pass ⟨0,0,0,0⟩
noncomputable def Dh(s:Stmt):Arguments:=match s with
 |.FunctionDef _ a _ _ _ _ _ _ _ _=>a
 |_=>{ posonlyargs:=[],args:=[],vararg:=none,kwonlyargs:=[],kw_defaults:=[],kwarg:=none,defaults:=[]}
def zE(s:Stmt):List Stmt:=match s with
 |.FunctionDef _ _ b _ _ _ _ _ _ _=>b
 |_=>[]
noncomputable def sj(s:Stmt):Scope:=match s with
 |.FunctionDef _ _ _ _ _ _ sc _ _ _=>sc
 |_=>{ kind:=.function,names:=[],isGenerator:=false,isCoroutine:=false}
structure Fun (K:PySem.W.Frag) (x qual:Str) (st:Stmt) (f:ag) (fd:bR):Prop where
 ex:∃(oc:ai) (od:ak ag) (kV doc pm:ai) (an:ak ag) (gf ct:ai) (vy:Array (ak ai)),
  fd=PySem.W.fnOf x qual (Dh st) (zE st) (sj st) .none kV doc pm an gf ct/\K.lookup f=some ⟨oc,od,.func fd,vy⟩/\PySem.W.codeIn K gf qual=true
 kp:PySem.W.keepIn K (.ref f)=true
section
variable{P:de}{w:cC}{K:PySem.W.Frag}{mg:Str->ak ai}{base:bV}
def Fun.binds{fd:bR}{ps:List Str}(F:Fun K x qual st f fd)
  (h:∀(kV doc pm:ai) (an:ak ag) (gf ct:ai) (us:List ai),us.length=ps.length->bindArgs (PySem.W.fnOf x qual (Dh st) (zE st) (sj st) .none kV doc pm an gf ct) ⟨us,[]⟩=pure (ps.zip us)):Binds K fd ps []:=by
 obtain⟨oc,od,kV,doc,pm,an,gf,ct,vy,rfl,lk,rP⟩:=F.ex;exact .all (h kV doc pm an gf ct)
def fun_mk{oc:ai}{od an:ak ag}{vy:Array (ak ai)}{kV doc pm gf ct:ai}(l:K.lookup f=some ⟨oc,od,.func (PySem.W.fnOf x qual (Dh st) (zE st) (sj st) .none kV doc pm an gf ct),vy⟩)
  (c:PySem.W.codeIn K gf qual=true) (k:PySem.W.keepIn K (.ref f)=true):Fun K x qual st f (PySem.W.fnOf x qual (Dh st) (zE st) (sj st) .none kV doc pm an gf ct):=⟨⟨oc,od,kV,doc,pm,an,gf,ct,vy,rfl,l,c⟩,k⟩
end
section
variable{X:Cx}
def pv(i:Nat){pos:Pos}(hN:X.N[i]?=some x:=by rfl)(hv:FV X.env.scope x:=by first|exact Or.inl rfl|exact Or.inr (Or.inl rfl)|exact Or.inr (Or.inr rfl))(hd:(x == ("__debug__":Str))=false:=by decide)
  (rP:(x == ("__classdict__":Str))=false:=by decide):PE X (.Name x pos) (A7 i):=RC hN hv hd rP
end
def uo{A B:Prop}(h:B):if false=true then A else B:=by
 rw[aM pF];exact h
def uq{A B:Prop}(h:A):if true=true then A else B:=by
 rw[aX rfl];exact h
def aw(H H':Hp):Prop:=∀b o,H b=some o->H' b=some o
def aw.refl(H:Hp):aw H H:=λ_ _ h=>h
def aw.trans{H1 H2:Hp}(a:aw H H1)(b:aw H1 H2):aw H H2:=λc o h=>b c o (a c o h)
def aw.free(e:aw H H'){l:ag}(h:H' l=Option.none):H l=Option.none:=by
 cases q:H l with
 |none=>rfl
 |some o=>
  rw[e l o q] at h;cases h
def aw.seq{K:PySem.W.Frag}{a:ag}{xs:List V}(e:aw H H')(h:cM K H a xs):cM K H' a xs:=by
 rcases h with(h|⟨o,h⟩)|h
 .exact .inl (.inl (e _ _ h))
 .exact .inl (.inr ⟨o,e _ _ h⟩)
 .exact .inr h
section
variable{κ:Type}[DecidableEq κ]
end
end L2
set_option maxHeartbeats 4000000
namespace L2
open PySem PySem.Spec PyProof.Rows
variable{env:Env}{names:List (Str×qt)}{x:Str}{c:ag}{scope:Scope}{X:Cx}
noncomputable def kH(env:Env)(names:List (Str×qt)):List (Str×ag):=((names.filter λy=>y.2 == .free).reverse).map λy=>(y.1,(env.cells.lookup y.1).getD 0)
theorem Oj{g:Str->ag}{x:Str}:∀{l:List (Str×qt)},(∃k,(x,k)∈l)->(l.map λy=>(y.1,g y.1)).lookup x=some (g x)
 |[],h=>by obtain⟨k,h⟩:=h;cases h
 |(n,k)::r,h=>by
  show List.lookup x ((n,g n)::_)=_;cases hx:x == n with
  |true=>
   simp_all
  |false=>
   simp only[r_,hx];refine Oj (l:=r) ?_
   simp_all
theorem NX{g:Str->ag}{x:Str}{c:ag}:∀{l:List (Str×qt)},(l.map λy=>(y.1,g y.1)).lookup x=some c->c=g x/\∃k,(x,k)∈l
 |[],h=>by cases h
 |(n,k)::r,h=>by
  have h:List.lookup x ((n,g n)::(r.map λy=>(y.1,g y.1)))=some c:=h
  cases hx:x == n with
  |true=>
   have e:x=n:=by simpa using hx
   subst e;simp only[r_,hx] at h;exact⟨(Option.some.inj h).symm,k,r9⟩
  |false=>
   simp only[r_,hx] at h;obtain⟨e,k',hk⟩:=NX h;exact⟨e,k',qm _ hk⟩
def Px(h:(x,NameKind.free)∈names)(hc:env.cells.lookup x=some c):(kH env names).lookup x=some c:=by
 have:=Oj (g:=λn=>(env.cells.lookup n).getD 0) (x:=x) (l:=(names.filter λy=>y.2 == .free).reverse) ⟨.free,by simp[h]⟩
 unfold kH;rw[this,hc];rfl
def Ko(hf:∀y∈names,y.2=.free->∃c,env.cells.lookup y.1=some c)(h:(kH env names).lookup x=some c):env.cells.lookup x=some c:=by
 obtain⟨e,k,hk⟩:=NX (g:=λn=>(env.cells.lookup n).getD 0) h
 have B7:=sE.mp (List.mem_reverse.mp hk);obtain⟨c',lS⟩:=hf _ B7.1 (by simpa using B7.2)
 have LB:env.cells.lookup x=some c':=lS;rw[e,LB];rfl
theorem JB{env:Env}:∀(names:List (Str×qt)) (cs:List (Str×ag)),(∀y∈names,y.2=.free->∃c,env.cells.lookup y.1=some c)->
  (forIn names cs (λ(x:Str×qt) (r:List (Str×ag))=>if(x.2 == NameKind.free)=true then(do let a <-cellOf env x.1;pure (ForInStep.yield ((x.1,a)::r))) else(pure (ForInStep.yield r):Sem (ForInStep (List (Str×ag)))))) =
   pure (kH env names++cs)
 |[],cs,_=>by rw[List.forIn_nil];rfl
 |(n,k)::r,cs,h=>by
  rw[List.forIn_cons];cases hk:k == NameKind.free with
  |true=>
   obtain⟨c,hc⟩:=h (n,k) r9 (by simpa using hk)
   have lS:env.cells.lookup n=some c:=hc;have e:cellOf env n=pure c:=by unfold cellOf;rw[lS]
   simp only[hk,pS,e,pure_bind];rw[JB r _ λy hy=>h y (qm _ hy)]
   congr 1
   unfold kH;rw[vC];simp[hk,lS]
  |false=>
   simp only[hk,sH,j',pure_bind];rw[JB r _ λy hy=>h y (qm _ hy)]
   congr 1
   unfold kH;rw[vC];simp[hk]
def NT(h:∀y∈scope.names,y.2=.free->∃c,env.cells.lookup y.1=some c):closureFor scope env=pure (kH env scope.names):=by
 have:=JB (env:=env) scope.names [] h;rw[lY] at this;unfold closureFor;show(forIn scope.names [] _ >>= λr=>pure r)=_
 rw[bind_pure];exact this
theorem N7{env:Env}:∀{names:List (Str×qt)} {x:Str},names.lookup x=some .free->
  (names.map λ(n,k)=>if(k == NameKind.free&&env.scope.kind == .function&&env.kindOf n == some .cell) then(n,NameKind.cell) else(n,k)).lookup x=some .cell\/
  (names.map λ(n,k)=>if(k == NameKind.free&&env.scope.kind == .function&&env.kindOf n == some .cell) then(n,NameKind.cell) else(n,k)).lookup x=some .free
 |[],_,h=>by simp at h
 |(n,k)::r,x,h=>by
  have ih:=@N7 env r x;show List.lookup x ((if(k == NameKind.free&&env.scope.kind == .function&&env.kindOf n == some .cell)=true then(n,NameKind.cell) else(n,k))::_)=_\/List.lookup x ((if(k == NameKind.free&&env.scope.kind == .function&&env.kindOf n == some .cell)=true then(n,NameKind.cell) else(n,k))::_)=_
  cases hx:x == n with
  |true=>
   simp only[r_,hx] at h;cases h;by_cases hc:(NameKind.free == NameKind.free&&env.scope.kind == .function&&env.kindOf n == some .cell)=true
   .rw[aX hc];simp[r_,hx]
   .rw[aM hc];simp[r_,hx]
  |false=>
   simp only[r_,hx] at h;by_cases hc:(k == NameKind.free&&env.scope.kind == .function&&env.kindOf n == some .cell)=true
   .rw[aX hc];simp only[r_,hx];exact ih h
   .rw[aM hc];simp only[r_,hx];exact ih h
theorem JC{env:Env}:∀{names:List (Str×qt)} {x:Str} {q:qt},(q=.cell\/q=.free)->(∀y∈names,y.2≠.cell)->
  (names.map λ(n,k)=>if(k == NameKind.free&&env.scope.kind == .function&&env.kindOf n == some .cell) then(n,NameKind.cell) else(n,k)).lookup x=some q->(x,NameKind.free)∈names
 |[],_,_,_,_,h=>by simp at h
 |(n,k)::r,x,q,hq,hn,h=>by
  have ih:=@JC env r x q hq λy hy=>hn y (qm _ hy)
  have hk:k≠.cell:=hn (n,k) r9;have h:List.lookup x ((if(k == NameKind.free&&env.scope.kind == .function&&env.kindOf n == some .cell)=true then(n,NameKind.cell) else(n,k))::_)=some q:=h
  cases hx:x == n with
  |true=>
   have e:x=n:=by simpa using hx
   subst e;by_cases hc:(k == NameKind.free&&env.scope.kind == .function&&env.kindOf x == some .cell)=true
   .have hf:k=.free:=by
     simp only[eP,beq_iff_eq] at hc;exact hc.1.1
    subst hf;exact r9
   .rw[aM hc] at h;simp only[r_,hx] at h;have e:k=q:=Option.some.inj h;rcases hq with rfl|rfl
    .exact b_ e hk
    .rw[e];exact r9
  |false=>
   by_cases hc:(k == NameKind.free&&env.scope.kind == .function&&env.kindOf n == some .cell)=true
   .rw[aX hc] at h;simp only[r_,hx] at h;exact qm _ (ih h)
   .rw[aM hc] at h;simp only[r_,hx] at h;exact qm _ (ih h)
def fB(X:Cx)(scope:Scope)(M:List Str)(C:ag)(s:au)(H:Hp)(fp:List ag):Cx:=
 {X with N:=M,s₀:=s,H₀:=H,env:=compEnvC scope (kH X.env scope.names) C X.env,outer:=X.stack,ex:=fp,fn:=λ_=>false,pn:=[],xe:=λ_ _=>False}
noncomputable def kG(k:Nat)(cY:List Nat)(Z:St):St:=List.replicate k none++cY.map λi=>(Z[i]?).join
def tm(X:Cx)(ifs:List Expr)(t:TT):Prop:=
 ∀(aa:List (ag×Obj)) (s:au) (Z:St) (H:Hp) (Q:Bool->Hp->Prop),Inv X aa Z H s->t Z H Q->
  wpAny (model X.prog X.w) X.A (forIn ifs true λc r=>if r=true then do let ok <-isTrue c X.env (eval c X.env);pure (ForInStep.yield ok) else pure (ForInStep.yield r)) (TP X aa Z Q) X.xe s
def Nc:TT:=λ_ H Q=>Q true H
def Ψ:tm X [] Nc:=λ_ _ Z H _ I h=>wpAny_tests_nil ⟨H,I,h⟩
def Ω{c:Expr}{t:TT}(hc:PT X c t):tm X [c] t:=λaa s Z H Q I h=>wpAny_tests_one (hc aa s Z H Q I h)
def Ud{prog:de}{w:cC}{A:cQ}{R:Result->au->Prop}{s:au}{elt target iter:Expr}{ifs:List Expr}{pos:Pos}{it a_:ai}(I:Nat->au->Prop)
  (turn:∀n s,I n s->wpAny (model prog w) A (pyNext it) (λr s₁=>match r with
   |none=>R (.ok .next) s₁
   |some v=>wpAny (model prog w) A (letOwnedTupleGo target it v) (λ_ s₀=>wpAny (model prog w) A (assign target env v) (λ_ s₂=>
     wpAny (model prog w) A (forIn ifs true λc r=>if r=true then do let ok <-isTrue c env (eval c env);pure (ForInStep.yield ok) else pure (ForInStep.yield r)) (λok s₃=>
      if ok=true then wpAny (model prog w) A (eval elt env) (λx s₄=>
       wpAny (model prog w) A (call (.builtin "list.append") [a_,x]) (λ_ s₅=>∃m,m<n/\I m s₅) (λ_ _=>False) s₄) (λ_ _=>False) s₃
      else ∃m,m<n/\I m s₃) (λ_ _=>False) s₂) (λ_ _=>False) s₀) (λ_ _=>False) s₁) (λ_ _=>False) s)
  (n:Nat) (h:I n s) :
  codeAny (model prog w) A (.compLoop (.ListComp elt [⟨target,iter,ifs,0⟩] scope pos) 0 it a_ env) R s:=by
 refine codeAny_loop rfl I (λn s hI=>?_) n h
 show wpAny _ A ((compTurn (.ListComp elt [⟨target,iter,ifs,0⟩] scope pos) 0 it a_ env).onRaise (λx=>do noteFrame x env;theTreesLotGoes x)) _ _ s
 refine wpAny_noted ?_;rw[compTurn_list];refine ay (wpAny_standAt (ay (wpAny_mono (turn n s hI) (λr s₁ h₁=>?_) λ_ _ h'=>h'.elim)))
 cases r with
 |none=>exact aV h₁
 |some v=>
  refine ay (wpAny_mono h₁ (λ_ s₀ h₀=>?_) λ_ _ h'=>h'.elim)
  refine ay (wpAny_mono h₀ (λ_ s₂ h₂=>ay (wpAny_mono h₂ (λok s₃ h₃=>?_) λ_ _ h'=>h'.elim)) λ_ _ h'=>h'.elim)
  cases ok with
  |false=>exact aV ⟨rfl,h₃⟩
  |true=>
   exact ay (ay (wpAny_mono h₃ (λx s₄ h₄=>ay (wpAny_mono h₄ (λ_ s₅ h₅=>aV (aV ⟨rfl,h₅⟩)) λ_ _ h'=>h'.elim)) λ_ _ h'=>h'.elim))
variable{H:Hp}{s:au}{fp:List ag}{wi:TI}
def Inv.Ft{X:Cx}{aa:List (ag×Obj)}{Z:St}{a:ag}{o:HO}(I:Inv X aa Z H s)(hn:H a=none)(hy:X.s₀.heap.objs.size<=a)(hL:a≠X.env.locals)(hC:∀x c,X.env.cells.lookup x=some c->c≠a)
  (hP:∀p∈X.pn++aa,p.1≠a) (new:bH X.prog X.w (upd H a o) s.heap a o):Inv X aa Z (upd H a o) s:=by
 refine⟨I.ok,I.os,I.bare,⟨I.base.keep,I.base.slot,λb ob e n hx=>?_,I.base.there,λb xs e=>?_,λb ob u e=>?_,λb ps e=>?_⟩,I.loc,I.cell,?_,λx c e=>?_,λp hp=>?_,λb u e=>?_,I.len⟩
 .rw[c_ (gR (fX (cO e) hy))];exact I.base.free b ob e n hx
 .have z:=I.base.lX b xs e;rw[c_ (tH z hn)];exact z
 .have z:=I.base.kW b ob u e;rw[c_ (tH z hn)];exact z
 .obtain⟨m,z⟩:=I.base.lW b ps e;exact⟨m,by rw[c_ (tH z hn)];exact z⟩
 .rw[c_ (Ne.symm hL)];exact I.free
 .rw[c_ (hC x c e)];exact I.eG x c e
 .obtain⟨e,n,r⟩:=I.pin p hp;exact⟨e,by rw[c_ (hP p hp)];exact n,r⟩
 .by_cases hb:b=a
  .grind [aJ]
  .rw[c_ hb] at e;exact(I.bB b u e).jt (λc v _ q=>q) (λc q=>by rw[c_ (tH q hn)];exact q) λc xs q=>by rw[c_ (tH q hn)];exact q
def qu(J:It)(g:TG)(tt:TT)(te:TE)(τ₀:St)(H1:Hp)(Fin:List V->Hp->Prop):Prop:=
 ∃(n:Nat) (W:Nat->St->List V->Hp->Prop),W 0 τ₀ [] H1/\∀i τ a_ H,i<=n->W i τ a_ H->
  (J.stop i H/\Fin a_ H)\/(i<n/\J.go i H/\∀x H',J.uV i H x H'->g x τ H' λτ2 H2=>tt τ2 H2 λb H3=>if b=true then te τ2 H3 λv H4=>a_.length<sizeLine/\W (i+1) τ2 (a_++[v]) H4 else W (i+1) τ2 a_ H3)
structure dQ (X:Cx) (scope:Scope) (M:List Str) (k:Nat) (cY:List Nat):Prop where
 kind:scope.kind=.function
 cell:∀y∈scope.names,y.2≠.cell
 free:∀y∈scope.names,y.2=.free->X.env.kindOf y.1=some .cell\/X.env.kindOf y.1=some .free
 names:∀y∈scope.names,y.2=.local -> scope.names.lookup y.1=some .local
 len:M.length=k+cY.length
 K4:∀(j i:Nat) (x:Str),cY[j]?=some i->M[k+j]?=some x->X.N[i]?=some x/\scope.names.lookup x=some .free
section
variable{X:Cx}{aa:List (ag×Obj)}{Z:St}{tg elt iter:Expr}{ifs:List Expr}{scope:Scope}{pos:Pos}{M:List Str}{k:Nat}{cY:List Nat}{g:TG}{tt:TT}{te:TE}
def Inv.iX(I:Inv X aa Z H s)(ok:dQ X scope M k cY):∀y∈scope.names,y.2=.free->∃c,X.env.cells.lookup y.1=some c:=λy hy e=>I.ok.has y.1 (ok.free y hy e)
def Inv.block{s4:au}{C D:ag}{oD:Obj}{m:Str->ak ai}(I:Inv X aa Z H s)(ok:dQ X scope M k cY)(f2:∀b∈fp,jg X aa H b)(HV:∀b∈fp,∃o,s.heap.get? b=some o/\∀v,o.data≠.cell v)
  (hC:s.heap.objs.size<=C) (DZ:D≠C) (hD:s.heap.objs.size<=D) (old:∀b o,s.heap.get? b=some o->s4.heap.get? b=some o) (os:s4.os=s.os) (gens:s4.gens=s.gens)
  (ns:s4.heap.Ns C m) (LO:s4.heap.get? D=some oD) (LF:∀v,oD.data≠.cell v):Inv (fB X scope M C s H fp) [(D,oD)] (kG k cY Z) H s4:=by
 have hf:=I.iX ok;have fr:∀a,s.heap.objs.size<=a->H a=none:=λa ha=>I.bB.fresh ha
 have nfs:∀b∈kU X.stack,b<s.heap.objs.size:=λb hb=>by
  rcases y04.mp (I.lr b hb) with e|e
  .rw[e];exact I.lt
  .exact Nat.lt_of_not_le λz=>I.AJ z e
 have cl:∀x c,(kH X.env scope.names).lookup x=some c->X.env.cells.lookup x=some c:=λx c e=>Ko hf e
 refine⟨⟨I.ok.mod,ok.kind,I.ok.glob,I.ok.blt,hC,λx y c e1 e2=>I.ok.inj x y c (cl x c e1) (cl y c e2),λx hx=>?_,λx c e _=>?_,I.ok.hd,I.ok.frames,.inl rfl,λb hb=>?_,I.bs,i7 I.ok.tP I.sz,λb o e hb=>?_,λb hb z=>?_,I.stack,I.kq⟩,os,by rw[gens];exact I.bare,Un.kept old,⟨m,ns,λi x v h1 h2 h3=>?_⟩,λx c e=>?_,fr C hC,λx c e=>I.eG x c (cl x c e),λp hp=>?_,I.bB.kept old,?_⟩
 .have hx:(relabel scope X.env).names.lookup x=some .cell\/(relabel scope X.env).names.lookup x=some .free:=hx;have hm:(x,NameKind.free)∈scope.names:=by
   rcases hx with h|h
   .exact JC (env:=X.env) (.inl rfl) ok.cell h
   .exact JC (env:=X.env) (.inr rfl) ok.cell h
  obtain⟨c,hc⟩:=hf _ hm rfl;exact⟨c,Px hm hc⟩
 .cases e
 .obtain⟨f0,f1,f2,f3,f4,f5⟩:=f2 b hb;obtain⟨ob,eb,_⟩:=HV b hb;exact⟨gR (fX (cO eb) hC),λx c e=>f4 x c (cl x c e)⟩
 .obtain⟨f0,f1,f2,f3,f4,f5⟩:=f2 b hb;rcases f3 with q|q
  .exact I.ok.qh b o e q
  .exact b_ (fX (cO e) (i7 I.ok.tP q)) (j9 _)
 .obtain⟨f0,f1,f2,f3,f4,f5⟩:=f2 b hb;rcases y04.mp (I.lr b z) with q|q
  .exact f1 q
  .exact f2 q
 .unfold kG at h2;have hk:¬i<k:=λq=>by
   rw[xF (by simpa using q),Nv] at h2
   split at h2 <;> cases h2
  rw[vA (by simpa using hk),q_,gY] at h2
  cases e:cY[i - k]? with
  |none=>rw[e] at h2;cases h2
  |some j=>
   rw[e] at h2;have DY:(Z[j]?).join=some v:=Option.some.inj h2;have hj:Z[j]?=some (some v):=by
    cases q:Z[j]? with
    |none=>rw[q] at DY;cases DY
    |some z=>rw[q] at DY;simp at DY;rw[DY]
   have Ao:k+(i - k)=i:=by lia
   obtain⟨hN,uh⟩:=ok.K4 (i - k) j x e (by rw[Ao];exact h1)
   have hm:(x,NameKind.free)∈scope.names:=PySem.mem_of_lookup uh;have Te:=ok.free _ hm rfl;obtain⟨mX,hnX,hlX⟩:=I.loc;obtain⟨u,ru,lk⟩:=hlX j x v hN hj (by rcases Te with q|q;exact .inr (.inl q);exact .inr (.inr q))
   refine⟨u,ru,.inr ⟨N7 (env:=X.env) uh,?_⟩⟩;rcases lk with⟨q,_⟩|⟨_,c,hc,qO⟩
   .rcases Te with z|z
    .rw[show X.env.kindOf x=some .cell from z] at q;cases q
    .rw[show X.env.kindOf x=some .free from z] at q;cases q
   .exact⟨c,Px hm hc,qO.keeps old⟩
 .obtain⟨v,z⟩:=I.cell x c (cl x c e);exact⟨v,z.keeps old⟩
 .have e:p=(D,oD):=by simpa[fB] using hp
  subst e;exact⟨LO,fr D hD,DZ,λz=>b_ (fX (nfs D z) hD) (j9 _),LF⟩
 .unfold kG;rw[du,q_,bh];exact ok.len.symm
def OV{H2:Hp}{s2:au}{J:It}{it:ag}{tn:Nat->bV->Prop}{RR:ai->ag->Result->au->Prop}{E:ai->au->Prop}{Fin:List V->Hp->Prop}(I2:Inv X aa Z H2 s2)(hc:X.calm=true)(ok:dQ X scope M k cY)
  (T:Turn X.prog X.w X.K tg J fp it tn) (sC:tn 0 s2.heap) (f2:∀b∈fp,jg X aa H2 b)
  (hg:∀C s H fp,PG (fB X scope M C s H fp) tg g) (ht:∀C s H fp,tm (fB X scope M C s H fp) ifs tt) (he:∀C s H fp,PE (fB X scope M C s H fp) elt te)
  (hW:qu J g tt te (kG k cY Z) H2 Fin)
  (hRR:∀D C s' H' a_,Inv X aa Z (upd H' D (.lst a_)) s'->jg X aa (upd H' D (.lst a_)) C->(∃m,s'.heap.Ns C m)->H' D=none->Fin a_ H'->RR (.ref D) C (.ok .next) s') :
  wpAny (model X.prog X.w) X.A (newList []) (λa_ s₃=>wpAny (model X.prog X.w) X.A (newFunctionEnv scope X.env.globals (kH X.env scope.names) [] X.env.qual none .none (some X.env)) (λDJ s₄=> codeAny (model X.prog X.w) X.A (.compStart (.ListComp elt [⟨tg,iter,ifs,0⟩] scope pos) 0 (.ref it) a_ { DJ with scope:=relabel scope X.env}) (RR a_ DJ.locals) s₄) E s₃) E s2:=by
 refine wpAny_newObj_type (wpAny_newFunctionEnv ok.cell (by intro y hy;simp at hy) (λh₁ hns₁ hsb₁=>?_) ok.kind)
 dsimp only at hns₁ hsb₁ ⊢;generalize Lu:s2.heap.push { cls:=.type "list",dict:=none,data:=.seq ([]:List ai).toArray}=H3 at hns₁ hsb₁ ⊢;have Ls:H3.objs.size=s2.heap.objs.size+1:=by rw[<-Lu,Heap.size_push]
 have DZ:s2.heap.objs.size≠H3.objs.size:=by rw[Ls];exact gR (xD _)
 have below:∀b,b<s2.heap.objs.size->b≠H3.objs.size/\b≠s2.heap.objs.size:=λb hb=>⟨by rw[Ls];exact gR (A' hb),gR hb⟩
 have old:∀b o,s2.heap.get? b=some o->h₁.get? b=some o:=λb o e=>hsb₁.extBut b o (below b (cO e)).1 (c8 _ (Lu ▸ c8 _ e))
 have wj:h₁.get? s2.heap.objs.size=some { cls:=.type "list",data:=.seq ([]:List ai).toArray 0}:=hsb₁.extBut _ _ DZ (c8 _ (Lu ▸ jR _ rfl));have HV:=T.obj 0 _ sC;have wg:s2.heap.objs.size<=H3.objs.size:=by rw[Ls];exact xE _
 obtain⟨N,W,w0,turn⟩:=hW;have T2:tn 0 h₁:=T.keep _ _ _ sC λb _ o e=>old b o e
 have loop:∀s₃:au,s₃={ s2 with heap:=h₁,toks:=s2.toks+([]:List (Str×ai)).length}->
   codeAny (model X.prog X.w) X.A (.compLoop (.ListComp elt [⟨tg,iter,ifs,0⟩] scope pos) 0 (.ref it) (.ref s2.heap.objs.size) (compEnvC scope (kH X.env scope.names) H3.objs.size X.env))
    (RR (.ref s2.heap.objs.size) H3.objs.size) s₃:=by
  rintro s₃ rfl;have I3:Inv (fB X scope M H3.objs.size s2 H2 fp) [(s2.heap.objs.size,{ cls:=.type "list",data:=.seq ([]:List ai).toArray 0})] (kG k cY Z) H2 { s2 with heap:=h₁,toks:=s2.toks+([]:List (Str×ai)).length}:=
   I2.block ok f2 HV wg DZ (bM _) old rfl rfl hns₁ wj (λv z=>by cases z)
  have Ll:∀b∈fp,b≠H3.objs.size/\b≠s2.heap.objs.size:=λb hb=>let ⟨o,e,_⟩:=HV b hb;below b (cO e)
  have qk:∀{H':Hp} {oD:Obj},(∀b∈fp,H' b=none)->∀b∈fp,jg (fB X scope M H3.objs.size s2 H2 fp) [(s2.heap.objs.size,oD)] H' b:=λ{H' oD} hn b hb=>by
   obtain⟨f0,f1,f2,f3,f4,f5⟩:=f2 b hb;refine⟨hn b hb,(Ll b hb).1,λz=>?_,.inl hb,λx c e=>f4 x c (Ko (I2.iX ok) e),λp hp z=>?_⟩
   .rcases y04.mp (I2.lr b z) with q|q
    .exact f1 q
    .exact f2 q
   .have e:p=(s2.heap.objs.size,oD):=by simpa[fB] using hp
    subst e;exact(Ll b hb).2 z.symm
  refine Ud (λn s'=>∃(i:Nat) (τ:St) (a_:List V) (us:List ai) (c:Nat) (H':Hp),Vals a_ us/\a_.length<=sizeLine/\ Inv (fB X scope M H3.objs.size s2 H2 fp) [(s2.heap.objs.size,{ cls:=.type "list",data:=.seq us.toArray c})] τ H' s'/\tn i s'.heap/\(∀b∈fp,H' b=none)/\n=N - i/\i<=N/\W i τ a_ H') ?_ N
   ⟨0,kG k cY Z,[],[],0,H2,.nil,mU _,I3,T2,λb hb=>(f2 b hb).1,rfl,mU _,w0⟩
  rintro n s3 ⟨i,τ,a_,us,c,H',rv,hlen,I,st,fr,rfl,hiN,w⟩;have pinD:=(I.pin (s2.heap.objs.size,{ cls:=.type "list",data:=.seq us.toArray c}) (by simp[fB]))
  rcases turn i τ a_ H' hiN w with⟨stop,qn⟩|⟨jl,go,step⟩
  .refine bK (T.done (fB X scope M H3.objs.size s2 H2 fp) rfl rfl rfl hc i _ s3 τ H' (λ_ _=>False) I (qk fr) st stop) λr s4 ⟨hr,I4⟩=>?_
   subst hr;have uH:=(I4.pin (s2.heap.objs.size,{ cls:=.type "list",data:=.seq us.toArray c}) (by simp[fB]))
   have lE:∀b∈fp,(b∈X.ex\/X.s₀.heap.objs.size<=b)/\b≠X.env.locals/\(∀x c,X.env.cells.lookup x=some c->c≠b)/\∀p∈X.pn++aa,p.1≠b:=λb hb=>by
    obtain⟨f0,f1,f2,f3,f4,f5⟩:=f2 b hb;exact⟨f3,f1,f4,f5⟩
   have J1:Inv X aa Z H' s4:=I2.x8 (ch:=fp) I4.os I4.base I4.bB I4.bare lE;have young:X.s₀.heap.objs.size<=s2.heap.objs.size:=I2.sz;have apart:∀a,s2.heap.objs.size<=a->a≠X.env.locals/\(∀x c,X.env.cells.lookup x=some c->c≠a)/\∀p∈X.pn++aa,p.1≠a:=λa ha=>
    ⟨yY (fX I2.lt ha),λx c e z=>by
     obtain⟨v,q⟩:=I2.cell x c e;exact b_ (fX q.lt (by rw[z];exact ha)) (j9 _),λp hp z=>b_ (fX (cO (I2.pin p hp).1) (by rw[z];exact ha)) (j9 _)⟩
   have aD:=apart _ (bM _);have aC:=apart _ wg;have J2:Inv X aa Z (upd H' s2.heap.objs.size (.lst a_)) s4:=J1.Ft uH.2.1 young aD.1 aD.2.1 aD.2.2 ⟨hlen,us,c,rv,uH.1⟩;obtain⟨m,hn,_⟩:=I4.loc;have hCn:H' H3.objs.size=none:=I4.free;refine hRR _ _ s4 H' a_ J2 ⟨?_,aC.1,I2.AJ wg,.inr (i7 young wg),aC.2.1,aC.2.2⟩ ⟨m,hn⟩ uH.2.1 qn;rw[c_ (Ne.symm DZ)];exact hCn
  .refine bK (T.item (fB X scope M H3.objs.size s2 H2 fp) rfl rfl rfl hc i _ s3 τ H' (λ_ _=>False) I (qk fr) st go) λr s4 ⟨u,hr,h4⟩=>?_
   subst hr;refine bK h4 λ_ s5 hh=>?_
   obtain⟨x,H5,I5,r5,y5,A5,Ln⟩:=hh;have IW:=I5.pinned (qk Ln) (T.obj _ _ A5);refine bK (hg _ _ _ _ _ s5 τ H5 x u _ IW r5 (step x H5 y5)) λ_ s6 hh=>?_
   obtain⟨τ6,H6,I6,q6⟩:=hh;refine bK (ht _ _ _ _ _ s6 τ6 H6 _ I6 q6) λb s7 hh=>?_
   obtain⟨H7,I7,q7⟩:=hh;have ur:∀{s':au} {τ':St} {Hn:Hp},Inv (fB X scope M H3.objs.size s2 H2 fp) ([(s2.heap.objs.size,{ cls:=.type "list",data:=.seq us.toArray c})]++Dr fp s5.heap) τ' Hn s'->tn (i+1) s'.heap/\∀b∈fp,Hn b=none:=λ{s' τ' Hn} I'=>by
    refine⟨T.keep _ _ _ A5 λb hb o e=>(I'.pin (b,o) (pQ _ (pQ _ (CP hb e)))).1,λb hb=>?_⟩
    obtain⟨o,e,d⟩:=T.obj _ _ A5 b hb;exact(I'.pin (b,o) (pQ _ (pQ _ (CP hb e)))).2.1
   cases b with
   |false=>
    rw[aM pF] at q7;show ∃m,m<N - i/\_;obtain⟨st7,fr7⟩:=ur I7;exact⟨N - (i+1),by lia,i+1,τ6,a_,us,c,H7,rv,hlen,I7.eK,st7,fr7,rfl,jl,q7⟩
   |true=>
    rw[aX rfl] at q7;show wpAny _ _ (eval elt _) _ _ s7;refine bK (he _ _ _ _ _ s7 τ6 H7 _ I7 q7) λv s8 hh=>?_
    obtain⟨y,H8,I8,r8,hl8,w8⟩:=hh;obtain⟨st8,fr8⟩:=ur I8;have mS:=(I8.pin (s2.heap.objs.size,{ cls:=.type "list",data:=.seq us.toArray c}) (by simp[fB]))
    have hul:=rv.length;refine append_at (hsz:=by show us.toArray.size<=sizeLine;rw[dA,<-hul];exact hlen) mS.1 λh9 TR e9=>?_
    have e9':h9.get? s2.heap.objs.size=some { cls:=.type "list",data:=.seq (us++[v]).toArray (c+1)}:=by rw[e9,List.push_toArray]
    have Ub:=I8.eK;have D0:s2.heap.objs.size≠(fB X scope M H3.objs.size s2 H2 fp).env.locals:=mS.2.2.1;have nx:∀(b:ag),H8 b≠none->b≠s2.heap.objs.size:=λb hb z=>hb (by rw[z];exact mS.2.1)
    refine⟨N - (i+1),by lia,i+1,τ6,a_++[y],us++[v],c+1,H8,rv.append (.cons r8 .nil),by rw[du,vB];exact hl8,?_,?_,fr8,rfl,jl,w8⟩
    .have I9:Inv (fB X scope M H3.objs.size s2 H2 fp) [] τ6 H8 s8:=Ub.kl (λp hp=>b_ hp (by simp))
     have Ua:Inv (fB X scope M H3.objs.size s2 H2 fp) [] τ6 H8 { s8 with heap:=h9}:=I9.turned (t':=s8.toks) (λb o hb e=>(TR.2 b hb).trans e) mS.2.1 D0 (.inr (bM _))
      (λx cc e z=>by
       obtain⟨v',q⟩:=I2.cell x cc (Ko (I2.iX ok) e);exact b_ (fX q.lt (by rw[z];exact bM _)) (j9 _)) (λp hp=>b_ hp (by simp[fB]))
     refine Ua.kl λp hp=>?_
     have e:p=(s2.heap.objs.size,{ cls:=.type "list",data:=.seq (us++[v]).toArray (c+1)}):=by simpa using hp
     subst e;exact⟨e9',mS.2.1,D0,mS.2.2.2.1,λv' z=>by cases z⟩
    .exact T.keep _ _ _ st8 λb hb o e=>TR.extBut b o (Ll b hb).2 e
 exact codeAny_compStart_list (loop _ rfl) (T.self _ 0 _ _ _ T2 (loop _ rfl))
def yV(wi:TI)(g:TG)(tt:TT)(te:TE)(k:Nat)(cY:List Nat):TE:=λZ H Q=>wi Z H λJ H1=>qu J g tt te (kG k cY Z) H1 λa_ H'=>∀l,H' l=none->Q (.ref l) (upd H' l (.lst a_))
def γ(hc:X.calm=true)(ok:dQ X scope M k cY)(hi:PI X tg iter wi)
  (hg:∀C s H fp,PG (fB X scope M C s H fp) tg g) (ht:∀C s H fp,tm (fB X scope M C s H fp) ifs tt) (he:∀C s H fp,PE (fB X scope M C s H fp) elt te)
  (hs:∀x,foldedSetIterable iter X.env x=pure x:=by intro _;rfl):PE X (.ListComp elt [⟨tg,iter,ifs,0⟩] scope pos) (yV wi g tt te k cY):=by
 intro aa s Z H Q I h;rw[eval_ListComp];refine wpAny_comprehension_free (use:=none) rfl hs (NT (I.iX ok)) ok.kind ok.names (bK (hi aa s Z H _ I h) λv s1 h1=>bK h1 λIg s2 h2=>?_)
 obtain⟨it,fp,tn,J,H2,e,I2,T,sC,f2,hW⟩:=h2;subst e;refine OV (RR:=λa_ C=>compPost (model X.prog X.w) X.A X.xe none (EP X aa Z Q) a_ C) I2 hc ok T sC f2 hg ht he hW ?_
 intro D C s' H' a_ I' fC ⟨m,hn⟩ hD hq;refine⟨m,hn,λh' sb=>?_⟩
 obtain⟨f0,f1,f2,f3,f4,f5⟩:=fC;exact⟨.ref D,_,I'.turned (t':=s'.toks) (λb o hb e=>(sb.2 b hb).trans e) f0 f1 f3 f4 f5,rfl,hq D hD⟩
def E0(wi:TI)(g:TG)(tt:TT)(te:TE)(k:Nat)(cY:List Nat)(i:Nat):TS:=λD Z H=>yV wi g tt te k cY Z H λv H'=>D.nx (Z.set i (some v)) H'
def δ{i:Nat}{x:Str}{px pB:Pos}(hc:X.calm=true)(ok:dQ X scope M k cY)(hN:X.N.Nodup)(Ao:X.N[i]?=some x)(hx:Loc X.env.scope x)(hi:PI X tg iter wi)
  (hg:∀C s H fp,PG (fB X scope M C s H fp) tg g) (ht:∀C s H fp,tm (fB X scope M C s H fp) ifs tt) (he:∀C s H fp,PE (fB X scope M C s H fp) elt te)
  (Ek:swapsWith (.ListComp elt [⟨tg,iter,ifs,0⟩] scope pos) (some (.Name x px)) pB.line X.env=pure true)
  (hs:∀x,foldedSetIterable iter X.env x=pure x:=by intro _;rfl) (hf:X.fn x=true\/X.env.scope.names.lookup x=some .local := by first|exact .inl rfl|exact .inr rfl|assumption) :
  PS X (.Assign [.Name x px] (.ListComp elt [⟨tg,iter,ifs,0⟩] scope pos) pB) (E0 wi g tt te k cY i):=by
 intro aa s Z H D I h;rw[exec_Assign_Name_used _ _ _ _ Ek];refine ay (wpAny_standAt (ay ?_));show wpAny _ X.A (do let _ <-comprehension (.ListComp elt [⟨tg,iter,ifs,0⟩] scope pos) scope X.env _ (newList []) false (eval iter X.env) (some (assign (.Name x px) X.env))) _ _ s
 refine ay (wpAny_mono (wpAny_comprehension_free (use:=some (assign (.Name x px) X.env)) (Q:=λ_ s'=>SP X aa D .next s') rfl hs (NT (I.iX ok)) ok.kind ok.names (bK (hi aa s Z H _ I h) λv s1 h1=>bK h1 λIg s2 h2=>?_)) (λ_ s' hq=>aV (aV hq)) λ_ _ e=>e)
 obtain⟨it,fp,tn,J,H2,e,I2,T,sC,f2,hW⟩:=h2;subst e;refine OV (RR:=λa_ C=>compPost (model X.prog X.w) X.A X.xe (some (assign (.Name x px) X.env)) (λ_ s'=>SP X aa D .next s') a_ C) I2 hc ok T sC f2 hg ht he hW ?_
 intro D' C s' H' a_ I' fC ⟨m,hn⟩ hD hq;obtain⟨f0,f1,f2,f3,f4,f5⟩:=fC;show wpAny _ X.A (assign (.Name x px) X.env (.ref D')) _ _ _;refine wpAny_assign_Name (OP I' hN Ao hx (v:=.ref D') rfl (λuL T_ hh=>?_) hf)
 obtain⟨a,sb,ha⟩:=hh;have hCa:C≠a:=by
  rcases ha with e|e
  .rw[e];exact f1
  .exact λz=>f4 _ _ e z.symm
 refine⟨m,hn.sameBut sb hCa,λh' sb'=>⟨_,_,T_.turned (t':=uL.toks) (λb o hb e=>(sb'.2 b hb).trans e) f0 f1 f3 f4 f5,hq D' hD⟩⟩
end
variable{w:cC}{tg:Expr}{X:Cx}
def jZ(c:Nat):Str:=⟨#[c]⟩
def FO(x:Str):It:=⟨λi _=>i<x.cps.size,λi H v H'=>H'=H/\∃c,x.cps[i]?=some c/\v=.str (jZ c),λi _=>x.cps.size<=i⟩
def Xm{P:de}{K:PySem.W.Frag}(it:ag)(x:Str)(t:Tok)(ty:String)(wB:ty="str_ascii_iterator"\/ty="str_iterator"):Turn P w K tg (FO x) [it] it (λi h=>h.IsStrIter it ty x t i) where
 mem:=by simp
 obj:=λi h st b hb=>by
  have e:b=it:=by simpa using hb
  subst e;obtain⟨o,e,c,d⟩:=st;exact⟨o,e,λv z=>by rw[d] at z;cases z⟩
 keep:=λi h h' st k=>by
  obtain⟨o,e,c,d⟩:=st;exact⟨o,k it (by simp) o e,c,d⟩
 item:=by
  intro X hP hw hK hc i aa s Z H E I hf st hg;subst hP hw hK;have hi:i<x.cps.size:=hg;obtain⟨f0,f1,f2,f3,f4,f5⟩:=hf it (by simp)
  have fin:∀h',h'.IsStrIter it ty x t (i+1)->Heap.SameBut it s.heap h'->∃u,some (Value.str ⟨#[x.cps[i]]⟩ s.toks)=some u/\
    wpAny (model X.prog X.w) X.A (letOwnedTupleGo tg (.ref it) u) (λ_ s2=>∃y H',Inv X aa Z H' s2/\RelV y u/\(FO x).uV i H y H'/\s2.heap.IsStrIter it ty x t (i+1)/\∀b∈[it],H' b=none) E { s with heap:=h',toks:=s.toks+1}:=λh' ko sb=>by
   have I1:Inv X aa Z H { s with heap:=h',toks:=s.toks+1}:=I.turned (λb o hb e=>(sb.2 b hb).trans e) f0 f1 f3 f4 f5
   obtain⟨o,e,c,d⟩:=id ko;refine⟨_,rfl,zV (s:={ s with heap:=h',toks:=s.toks+1}) e c d (by rcases wB with z|z <;> subst z <;> decide) ⟨.str (jZ x.cps[i]),H,I1,⟨_,rfl⟩,⟨rfl,_,by simp[hi],rfl⟩,ko,λb hb=>(hf b hb).1⟩⟩
  rcases wB with z|z
  .subst z;exact wpAny_pyNext_ascii_item st (c:=x.cps[i]) (by simp[hi]) fin
  .subst z;exact wpAny_pyNext_wide_item st (c:=x.cps[i]) (by simp[hi]) fin
 done:=by
  intro X hP hw hK hc i aa s Z H E I hf st hg;subst hP hw hK;have hi:x.cps.size<=i:=hg;obtain⟨f0,f1,f2,f3,f4,f5⟩:=hf it (by simp)
  rcases wB with z|z
  .subst z;exact wpAny_pyNext_ascii_end (I.ok.hd hc) st (by simp;lia) λh' eb=>⟨rfl,I.turned (t':=s.toks) (λb o hb e=>eb b o hb e) f0 f1 f3 f4 f5⟩
  .subst z;exact wpAny_pyNext_wide_end (I.ok.hd hc) st (by simp;lia) λh' eb=>⟨rfl,I.turned (t':=s.toks) (λb o hb e=>eb b o hb e) f0 f1 f3 f4 f5⟩
 self:=λ_ _ _ _ _ st h=>by
  rcases wB with z|z
  .subst z;exact wpAny_pyIter_striter_ascii st h
  .subst z;exact wpAny_pyIter_striter_wide st h
def Er(tl:TE):TI:=λZ H R=>tl Z H λx H1=>∃z,x=.str z/\R (FO z) H1
def e2s{l:Expr}{tl:TE}(hl:PE X l tl):PI X tg l (Er tl):=by
 intro aa s Z H R I h;refine bK (hl aa s Z H _ I h) λv s1 hh=>?_
 obtain⟨x,H1,I1,r1,q1⟩:=hh;obtain⟨z,e,q⟩:=q1;subst e;obtain⟨t,rfl⟩:=r1;have key:∀ty:String,ty="str_ascii_iterator"\/ty="str_iterator"->Je X aa Z tg R (.ref s1.heap.objs.size) { s1 with heap:=s1.heap.push { cls:=.type ty,data:=.fields #[.str z t,.int 0 0]}}:=λty wB=>by
  refine⟨s1.heap.objs.size,[s1.heap.objs.size],_,_,H1,rfl,I1.kept (t':=s1.toks) λb o e=>c8 _ e,Xm _ z t ty wB,⟨_,jR _ (by rcases wB with e|e <;> subst e <;> rfl),rfl,rfl⟩,λb hb=>?_,q⟩
  have e:b=s1.heap.objs.size:=by simpa using hb
  subst e;exact I1.lR (bM _) (I1.bB.fresh (bM _))
 cases ha:z.cps.all (· < 128)
 .exact wpAny_pyIter_wide ha (key _ (.inr rfl))
 .exact wpAny_pyIter_ascii ha (key _ (.inl rfl))
def fY(names outer:List (Str×qt))(N M:List Str)(k:Nat)(cY:List Nat):Bool:=
 names.all (λy=>y.2 != .cell)&&(names.all (λy=>y.2 != .free || (outer.lookup y.1 == some .cell || outer.lookup y.1 == some .free))&&(names.all (λy=>y.2 != .local || names.lookup y.1 == some .local) && (M.length == k+cY.length&&(List.range cY.length).all (λj=>match cY[j]?,M[k+j]? with|some i,some x=>N[i]? == some x&&names.lookup x == some .free|_,_=>true))))
def dQ.of{scope:Scope}{M:List Str}{k:Nat}{cY:List Nat}(outer:List (Str×qt))(N:List Str)(h:fY scope.names outer N M k cY=true)(ho:X.env.scope.names=outer:=by rfl)(hN:X.N=N:=by rfl)(hk:scope.kind=.function:=by rfl):dQ X scope M k cY:=by
 unfold fY at h;simp only[eP,pR,Nw,bne_iff_ne,ne_eq,beq_iff_eq] at h;obtain⟨h1,h2,h3,h4,h5⟩:=h;refine⟨hk,h1,λy hy e=>?_,λy hy e=>?_,h4,λj i x e1 e2=>?_⟩
 .rcases h2 y hy with z|z
  .exact b_ e z
  .show X.env.scope.names.lookup y.1=_\/X.env.scope.names.lookup y.1=_;rw[ho];exact z
 .rcases h3 y hy with z|z
  .exact b_ e z
  .exact z
 .have hj:j<cY.length:=(eQ.mp e1).1;have:=h5 j (sF.mpr hj);rw[e1,e2] at this;simp only[eP,beq_iff_eq] at this;rw[hN];exact this
section
variable{X:Cx}
def e2t:dF X (compareOp .Is) (λx y H Q=>∃a b,x=.bl a/\y=.bl b/\Q (.bl (a == b)) H):=by
 intro aa s Z H x y v u Q I rx ry h;obtain⟨a,b,rfl,rfl,q⟩:=h;cases rx;cases ry;exact is_bool (vY I q rfl)
def ε:dF X (compareOp .IsNot) (λx y H Q=>∃a b,x=.bl a/\y=.bl b/\Q (.bl (a != b)) H):=by
 intro aa s Z H x y v u Q I rx ry h;obtain⟨a,b,rfl,rfl,q⟩:=h;cases rx;cases ry;exact isnot_bool (vY I q rfl)
def Ds(K:PySem.W.Frag)(H:Hp):V->String->Prop
 |.aI,n=>n="NoneType"
 |.bl _,n=>n="bool"
 |.int _,n=>n="int"
 |.str _,n=>n="str"
 |.ref a,n=>(n="list"/\∃xs,cM K H a xs)\/(n="tuple"/\∃xs,g7 K H a xs)
 |_,_=>False
def rW(k T:String):Bool:=k == T || (k == "bool" && T == "int")
def Xn:bS X (.builtin "isinstance") (λxs H Q=>∃x k T,xs=[x,.ty T]/\Ds X.K H x k/\(T="int"\/T="str"\/T="bool"\/T="list"\/T="tuple")/\Q (.bl (rW k T)) H):=by
 intro aa s Z H xs us Q I r h;obtain⟨x,k,T,rfl,hk,hT,q⟩:=h;obtain⟨u,w',rfl,rx,ry⟩:=vals2 r;cases ry;have fin:∀b,b=rW k T->EP X aa Z Q (.bool b) s:=λb e=>vY I q e.symm
 have df:∀b,b=rW k T->EP X aa Z Q (.bool b) { s with toks:=s.toks+1}:=λb e=>vY (I.tok _) q e.symm
 cases x with
 |aI=>
  cases rx;have hk:k="NoneType":=hk;subst hk;rcases hT with rfl|rfl|rfl|rfl|rfl
  .exact IsiPair.NoneType_int (df _ (by decide))
  .exact IsiPair.NoneType_str (df _ (by decide))
  .exact IsiPair.NoneType_bool (df _ (by decide))
  .exact IsiPair.NoneType_list (df _ (by decide))
  .exact IsiPair.NoneType_tuple (df _ (by decide))
 |bl b=>
  cases rx;have hk:k="bool":=hk;subst hk;rcases hT with rfl|rfl|rfl|rfl|rfl
  .exact IsiPair.bool_int (fin _ (by decide))
  .exact IsiPair.bool_str (df _ (by decide))
  .exact IsiPair.bool_bool (fin _ (by decide))
  .exact IsiPair.bool_list (df _ (by decide))
  .exact IsiPair.bool_tuple (df _ (by decide))
 |int i=>
  obtain⟨t,rfl⟩:=rx;have hk:k="int":=hk;subst hk;rcases hT with rfl|rfl|rfl|rfl|rfl
  .exact IsiPair.int_int (fin _ (by decide))
  .exact IsiPair.int_str (df _ (by decide))
  .exact IsiPair.int_bool (df _ (by decide))
  .exact IsiPair.int_list (df _ (by decide))
  .exact IsiPair.int_tuple (df _ (by decide))
 |str z=>
  obtain⟨t,rfl⟩:=rx;have hk:k="str":=hk;subst hk;rcases hT with rfl|rfl|rfl|rfl|rfl
  .exact IsiPair.str_int (df _ (by decide))
  .exact IsiPair.str_str (fin _ (by decide))
  .exact IsiPair.str_bool (df _ (by decide))
  .exact IsiPair.str_list (df _ (by decide))
  .exact IsiPair.str_tuple (df _ (by decide))
 |ref a=>
  cases rx;rcases hk with⟨hk,ys,hs⟩|⟨hk,ys,hs⟩
  .subst hk;obtain⟨aF,_,⟨o,n,e,hc,_⟩,_⟩:=I.list hs;rcases hT with rfl|rfl|rfl|rfl|rfl
   .exact IsiPair.list_int e hc (df _ (by decide))
   .exact IsiPair.list_str e hc (df _ (by decide))
   .exact IsiPair.list_bool e hc (df _ (by decide))
   .exact IsiPair.list_list e hc (fin _ (by decide))
   .exact IsiPair.list_tuple e hc (df _ (by decide))
  .subst hk;obtain⟨aF,_,⟨o,e,hc,_⟩,_⟩:=I.tuple hs;rcases hT with rfl|rfl|rfl|rfl|rfl
   .exact IsiPair.tuple_int e hc (df _ (by decide))
   .exact IsiPair.tuple_str e hc (df _ (by decide))
   .exact IsiPair.tuple_bool e hc (df _ (by decide))
   .exact IsiPair.tuple_list e hc (df _ (by decide))
   .exact IsiPair.tuple_tuple e hc (fin _ (by decide))
 |x6 _=>exact False.elim hk
 |yk _=>exact False.elim hk
 |ty _=>exact False.elim hk
def e8d{x:Str}{n:String}{pos:Pos}(hg:Gl X x)(hm:X.mg x=none)(hv:bootBuiltins x=some (.type n))(hn:x≠"__name__":=by decide)(hd:(x == ("__debug__":Str))=false:=by decide):PE X (.Name x pos) (tC (.ty n)):=
 ZP hg hm hv rfl hn hd
def UU{prog:de}{A:cQ}(aF:List ai)(bs:List Bool)(hv:Vals (bs.map V.bl) aF):TruthOf prog w A (λi v=>aF.toArray[i]?=some v) (λi=>bs.getD i false):=by
 intro i v s Q E hP hQ;have S7:aF[i]?=some v:=by simpa using hP
 have hl:=hv.length;rw[bh] at hl;have hi:i<aF.length:=(eQ.mp S7).1;have hb:(bs.map V.bl)[i]?=some (.bl bs[i]):=by simp[show i<bs.length by lia]
 obtain⟨u,hu,ru⟩:=hv.get hb;rw[S7] at hu;cases hu;cases ru;have e:bs.getD i false=bs[i]:=by simp[show i<bs.length by lia]
 have S8:Q (bs.getD i false) s:=hQ;rw[e] at S8;exact wpAny_truthy_bool S8
def V3(bs:List Bool):(List.range bs.length).all (λi=>bs.getD i false)=bs.all id:=by
 rw[Ba,pR,pR];constructor
 .intro h b hb;obtain⟨i,hi,e⟩:=List.mem_iff_getElem.mp hb;have:=h i (sF.mpr hi);simp[hi] at this;rw[<-e];exact this
 .intro h i hi;have hi:=sF.mp hi;have:=h bs[i] (FI hi);simp[hi];exact this
def V4(hc:X.calm=true):bS X (.builtin "all") (λxs H Q=>∃(a:ag) (bs:List Bool),xs=[.ref a]/\cM X.K H a (bs.map V.bl)/\Q (.bl (bs.all id)) H):=by
 intro aa s Z H xs us Q I r h;obtain⟨a,bs,rfl,hs,q⟩:=h;obtain⟨u,rfl,ru⟩:=vals1 r;cases ru;obtain⟨aF,rv,p,hz⟩:=I.list hs;have hl:=rv.length;rw[bh] at hl;refine call_all_walk (wpAny_pyIter_list p.isList ?_);have fG:a≠s.heap.objs.size:=by obtain⟨o,n,e,_⟩:=p;exact gR (cO e)
 refine⟨s.heap.objs.size,_,_,aF.toArray.size,_,_,λi=>bs.getD i false,rfl,Walks.list (A:=X.A.in1) (show X.A.in1.handled=none from I.ok.hd hc) _ a fG aF.toArray,⟨⟨_,jR _ rfl,rfl,rfl⟩,?_⟩,UU aF bs rv,λh' tk hk=>?_⟩
 .exact p.isList.at λo e=>c8 _ e
 .have e1:aF.toArray.size=bs.length:=by rw[dA,<-hl]
  refine⟨.bl (bs.all id),H,I.kept (h':=h') (t':=tk) (λb o e=>hk b o (λz=>b_ (fX (cO e) (FH (lz.mp z).symm)) (j9 _)) (c8 _ e)),?_,q⟩
  show Value.bool _=Value.bool _;rw[e1,V3]
end
structure aY (K:PySem.W.Frag) (mg:Str->ak ai) (x:Str) (st:Stmt) (f:ag) (fd:bR) (ps:List Str):Prop where
 fn:Fun K x x st f fd
 mg:mg x=some (.ref f)
 bd:Binds K fd ps []
section
variable{X:Cx}{k:Nat}{f:ag}{fd:bR}{ps:List Str}{sp:Sp}{x:Str}{p pos:Pos}{e:Expr}{es:List Expr}{t:TA}{st:Stmt}
end
section
variable{X:Cx}{a b:Expr}{rest:List Expr}{pos:Pos}{ta tb:TE}{tA tB:TT}
end
def aw.put{H H':Hp}{a:ag}{o:HO}(s:aw H H')(h:H' a=none):aw H (upd H' a o):=λb u e=>by
 have z:=s b u e;rw[c_ (tH z h)];exact z
def tJ{H:Hp}{a:ag}{o:HO}(h:H a=none):aw H (upd H a o):=(aw.refl H).put h
def Xo{α:Type}{xs:List α}{k:Int}(d:α)(h0:0<=k)(hk:k<xs.length):dU xs k=some (xs.getD k.toNat d):=by
 have B7:k.toNat<xs.length:=by lia
 have e:xs[k.toNat]?=some (xs.getD k.toNat d):=by simp[B7]
 have z:=vS e
 rwa[show((k.toNat:Nat):Int)=k by lia] at z
def z6:bootBuiltins "str"=some (.type "str"):=by decide +kernel
def qC:bootBuiltins "list"=some (.type "list"):=by decide +kernel
def tQ:bootBuiltins "tuple"=some (.type "tuple"):=by decide +kernel
def zZ:bootBuiltins "isinstance"=some (.builtin "isinstance"):=by decide +kernel
def zY:bootBuiltins "all"=some (.builtin "all"):=by decide +kernel
def z5:bootBuiltins "len"=some (.builtin "len"):=by decide +kernel
section
variable{X:Cx}
noncomputable def rS(xs:List V)(k:Nat)(y:V):List V:=xs.take k++y::xs.drop k
def UW(xs:List V)(k:Nat)(y:V):(rS xs k y).length=xs.length+1:=by
 grind [rS]
def Qw:V->List V->Hp->VK->Prop:=λx vs H Q=>∃l xs i y,x=.ref l/\vs=[.int i,y]/\H l=some (.lst xs)/\0<=i/\i<2^62/\xs.length<sizeLine/\Q .aI (upd H l (.lst (rS xs i.toNat y)))
theorem V5:Bj X "list.insert" Qw:=by
 intro aa s Z H x vs v us Q I rx rv h;obtain⟨l,xs,i,y,rfl,rfl,hH,h0,hi,hz,q⟩:=h;cases rx;obtain⟨u,u',rfl,⟨t,rfl⟩,ru⟩:=rv.two;obtain⟨z,aF,n,r,hl,e⟩:=I.AB hH;have LG:¬(!Builtin.List.listFitsIndex i)=true:=by
  unfold Builtin.List.listFitsIndex;simp;lia
 refine call_meets F.slot_list_insert ⟨_,e,rfl⟩ F.entry_list_insert (F.args_list_insert_3 _ _ _) (PySem.AutoSeq1.list_insert_list_int_val_1 l aF.toArray n i t u' LG (by rw[dA];lia)) ⟨e,?_⟩
 refine⟨.aI,_,I.AA (its':=aF.take i.toNat++u'::aF.drop i.toNat) hH e ?_ ((r.take i.toNat).append (.cons ru (r.drop i.toNat))) ?_,rfl,q⟩
 .have h1:¬i<0:=by lia
  simp only[h1,j'];apply Array.ext';simp only[Array.toList_append,Array.toList_push,Array.toList_extract,dA];rw[List.extract_eq_drop_take,List.extract_eq_drop_take];have e1:min i.toNat aF.length - 0=min i.toNat aF.length:=by lia
  rw[e1];simp only[List.drop_zero];have e2:aF.take (min i.toNat aF.length)=aF.take i.toNat:=by rw[List.take_eq_take_iff];lia
  rw[e2];by_cases hc:i.toNat<=aF.length
  .rw[Nat.min_eq_left hc,vD (l:=List.drop i.toNat aF) (by rw[Cn];lia)]
   simp
  .have hc:aF.length<=i.toNat:=by lia
   rw[Nat.min_eq_right hc,ID (bM _),ID hc];simp
 .show(rS xs i.toNat y).length<=sizeLine;rw[UW];lia
def IX(a c:Int)(n:Nat):It:=⟨λi _=>i<n,λi H x H'=>H'=H/\x=.int (a+i*c),λi _=>n<=i⟩
def UX{P:de}{w:cC}{K:PySem.W.Frag}{tg:Expr}(it:ag)(a c:Int)(n:Nat):Turn P w K tg (IX a c n) [it] it (λi h=>IsRangeIter h it (a+(i:Nat)*c) ((n:Int) - (i:Nat)) c) where
 mem:=by simp
 obj:=λi h st b hb=>by
  simp_all
 keep:=λi h h' st k=>k it (by simp) _ st
 item:=by
  intro X hP hw hK hc i aa s Z H E I hf st hg;subst hP hw hK;obtain⟨f0,f1,f2,f3,f4,f5⟩:=hf it (by simp)
  have W:=Walks.range (prog:=X.prog) (w:=X.w) (I.ok.hd hc) it a c n;refine W.item i s _ _ hg st λv h' tk hv ko kk=>?_
  obtain⟨t,rfl⟩:=hv;have I1:Inv X aa Z H { s with heap:=h',toks:=tk}:=I.turned (λb o hb e=>kk b o (by simpa using hb) e) f0 f1 f3 f4 f5
  exact⟨_,rfl,zV (s:={ s with heap:=h',toks:=tk}) (n:="range_iterator") ko rfl rfl (by decide) ⟨.int (a+i*c),H,I1,⟨t,rfl⟩,⟨rfl,rfl⟩,ko,λb hb=>(hf b hb).1⟩⟩
 done:=by
  intro X hP hw hK hc i aa s Z H E I hf st hg;subst hP hw hK;obtain⟨f0,f1,f2,f3,f4,f5⟩:=hf it (by simp)
  exact wpAny_pyNext_range_end (I.ok.hd hc) st (by have:n<=i:=hg;lia) λh' eb=>⟨rfl,I.turned (t':=s.toks) (λb o hb e=>eb b o hb e) f0 f1 f3 f4 f5⟩
 self:=λ_ _ _ _ _ st h=>wpAny_pyIter_rangeiter st h
def EZ:V->ak Int->ak Int->Hp->VK->Prop:=λx lo hi H Q=>∃z,x=.str z/\z.length<=sizeLine/\Q (.str (Txt.slice z lo hi)) H
theorem A3:tu X EZ:=by
 intro aa s Z H x v vl vu lo hi sl Q I rx hs pl pu h;obtain⟨z,rfl,hz,q⟩:=h;obtain⟨t,rfl⟩:=rx;refine⟨"str",_,F.slot_str_getitem.lookup,typeIs_str _ _ _,?_⟩;have fin:∀t' k,EP X aa Z Q (.str (Txt.slice z lo hi) t') { s with toks:=k}:=λt' k=>⟨.str _,H,I.tok _,⟨_,rfl⟩,q⟩
 cases pl with
 |none=>
  cases pu with
  |none=>exact wpAny_getItem_str_slice (l:=none) (u:=none) (st:=none) hs rfl (post_val_or_str ⟨i7 (Txt.slice_le z _ _) hz,fin⟩)
  |int j tj=>exact wpAny_getItem_str_slice (l:=none) (u:=some (j,tj)) (st:=none) hs rfl (post_val_or_str ⟨i7 (Txt.slice_le z _ _) hz,fin⟩)
 |int i ti=>
  cases pu with
  |none=>exact wpAny_getItem_str_slice (l:=some (i,ti)) (u:=none) (st:=none) hs rfl (post_val_or_str ⟨i7 (Txt.slice_le z _ _) hz,fin⟩)
  |int j tj=>exact wpAny_getItem_str_slice (l:=some (i,ti)) (u:=some (j,tj)) (st:=none) hs rfl (post_val_or_str ⟨i7 (Txt.slice_le z _ _) hz,fin⟩)
def Vj:dF X (binaryOp .Mult) (λx y H Q=>∃z n,x=.str z/\y=.int n/\MulOk z n/\Q (.str (Txt.mul z n)) H):=by
 intro aa s Z H x y v u Q I rx ry h;obtain⟨z,n,rfl,rfl,hm,q⟩:=h;obtain⟨t,rfl⟩:=rx;obtain⟨t',rfl⟩:=ry;exact SB.mul hm λt' k=>⟨.str _,H,I.tok _,⟨_,rfl⟩,q⟩
end
inductive zg (K:PySem.W.Frag) (H:Hp):Nat->V->V->Bool->Prop
 |flat {d:Nat} {x y:V}:yj x=true->yj y=true->zg K H d x y (eqV x y)
 |same {d:Nat} {a:ag}:zg K H d (.ref a) (.ref a) true
 |lst {d:Nat} {a b:ag} {xs ys:List V} {e:Nat->Bool}:a≠b->cM K H a xs->cM K H b ys->xs.length=ys.length->(∀(i:Nat) x y,xs[i]?=some x->ys[i]?=some y->zg K H d x y (e i))->zg K H (d+1) (.ref a) (.ref b) ((List.range xs.length).all e)
 |lstN {d:Nat} {a b:ag} {xs ys:List V}:a≠b->cM K H a xs->cM K H b ys->xs.length≠ys.length->zg K H (d+1) (.ref a) (.ref b) false
 |tup {d:Nat} {a b:ag} {xs ys:List V} {e:Nat->Bool}:a≠b->g7 K H a xs->g7 K H b ys->(∀(i:Nat) x y,xs[i]?=some x->ys[i]?=some y->zg K H d x y (e i))->zg K H (d+1) (.ref a) (.ref b) ((List.range (min xs.length ys.length)).all e&&xs.length == ys.length)
section
variable{X:Cx}{aa:List (ag×Obj)}{Z:St}{H:Hp}{s:au}
def Vals.at{xs:List V}{us:List ai}(r:Vals xs us){j:Nat}(h:j<us.toArray.size):∃x,xs[j]?=some x/\RelV x us.toArray[j]:=by
 have hl:=r.length;have h':j<us.length:=by simpa using h
 have hx:xs[j]?=some xs[j]:=by simp[show j<xs.length by lia]
 obtain⟨u,hu,ru⟩:=r.get hx
 simp_all
end
section
variable{X:Cx}
def Xp(K:PySem.W.Frag)(hK:X.K=K:=by rfl):rD X (AW K):=hK ▸ Ξ
def ζ(K:PySem.W.Frag)(hK:X.K=K:=by rfl):rD X (AX K):=hK ▸ e2q
def Uy(K:PySem.W.Frag)(hK:X.K=K:=by rfl):bS X (.builtin "len") (λxs H Q=>∃p ys,xs=[.ref p]/\(cM K H p ys\/g7 K H p ys)/\Q (.int ys.length) H):=hK ▸ UH
def Xq(K:PySem.W.Frag)(hK:X.K=K:=by rfl):tu X (AY K):=hK ▸ Φ
def η(K:PySem.W.Frag)(hK:X.K=K:=by rfl):tu X (AZ K):=hK ▸ e2p
def V6(K:PySem.W.Frag)(hK:X.K=K:=by rfl):bS X (.builtin "isinstance") (λxs H Q=>∃x k T,xs=[x,.ty T]/\Ds K H x k/\(T="int"\/T="str"\/T="bool"\/T="list"\/T="tuple")/\Q (.bl (rW k T)) H):=hK ▸ Xn
def Uz(K:PySem.W.Frag)(hK:X.K=K:=by rfl):bS X (.type "list") (λxs H Q=>∃p ys,xs=[.ref p]/\(cM K H p ys\/g7 K H p ys)/\∀l,H l=none->Q (.ref l) (upd H l (.lst ys))):=hK ▸ UI
end
end L2
set_option autoImplicit false
namespace L2
open PySem PySem.Spec PyProof.Rows
theorem Gq{α β:Type}{R:α->β->Prop}:∀{l:List α} {m:List β} (i:Nat) {b:β},Paired R l m->m[i]?=some b->∃a,l[i]?=some a/\R a b
 |_,_,_,_,.nil,e=>by simp at e
 |_,_,0,_,.cons r _,e=>by simp at e;subst e;exact⟨_,rfl,r⟩
 |_,_,i+1,_,.cons _ t,e=>by
  obtain⟨a,h1,h2⟩:=Gq i t (by simpa using e)
  exact⟨a,by simpa using h1,h2⟩
theorem CY{α β:Type}{R:α->β->Prop}:∀{l:List α} {m:List β} (i:Nat) {a:α},Paired R l m->l[i]?=some a->∃b,m[i]?=some b/\R a b
 |_,_,_,_,.nil,e=>by simp at e
 |_,_,0,_,.cons r _,e=>by simp at e;subst e;exact⟨_,rfl,r⟩
 |_,_,i+1,_,.cons _ t,e=>by
  obtain⟨a,h1,h2⟩:=CY i t (by simpa using e)
  exact⟨a,by simpa using h1,h2⟩
inductive D where
 |aI|bl (b:Bool)|int (i:Int)|str (x:Str)|ty (n:String)|ref (n:Nat)
 |lst (xs:List D)|tup (xs:List D)|aB (kvs:List (TK×D))
mutual
def TK.d:TK->D
 |.inl i=>.int i
 |.inr x=>.str x
 |.tp l=>.tup (TK.dl l)
 |.aI=>.aI
def TK.dl:List TK->List D
 |[]=>[]
 |k::l=>TK.d k::TK.dl l
end
noncomputable def xW:D->ak V
 |.aI=>some .aI
 |.bl b=>some (.bl b)
 |.int i=>some (.int i)
 |.str x=>some (.str x)
 |.ty n=>some (.ty n)
 |_=>none
structure Kn where
 F:Hp
 A:List ag
 T:List ag
inductive ah (K:PySem.W.Frag) (k:Kn):List V->List D->Prop
 |nil:ah K k [] []
 |flat {v:V} {d:D} {vs:List V} {ds:List D}:xW d=some v->ah K k vs ds->ah K k (v::vs) (d::ds)
 |ref {n:Nat} {a:ag} {vs:List V} {ds:List D}:k.A[n]?=some a->ah K k vs ds->ah K k (.ref a::vs) (.ref n::ds)
 |lst {a:ag} {ws vs:List V} {es ds:List D}:cM K k.F a ws->ah K k ws es->ah K k vs ds->ah K k (.ref a::vs) (.lst es::ds)
 |tup {a:ag} {ws vs:List V} {es ds:List D}:g7 K k.F a ws->ah K k ws es->ah K k vs ds->ah K k (.ref a::vs) (.tup es::ds)
 |aB {a:ag} {kvs:List (TK×V×V)} {es:List (TK×D)} {ep:Nat} {vs:List V} {ds:List D}:k.F a=some (.dG kvs ep)->kvs.map (·.1)=es.map (·.1)->ah K k (kvs.map (·.2.1)) (es.map (·.1.d))->ah K k (kvs.map (·.2.2)) (es.map (·.2))->ah K k vs ds->ah K k (.ref a::vs) (.aB es::ds)
def aw.rd{H H':Hp}{a:ag}{u:HO}(e:aw H H')(h:Rd H a u):Rd H' a u:=by
 rcases h with h|⟨o,h⟩
 .exact .inl (e _ _ h)
 .exact .inr ⟨o,e _ _ h⟩
def aw.A4{K:PySem.W.Frag}{H H':Hp}{a:ag}{xs:List V}(e:aw H H')(h:g7 K H a xs):g7 K H' a xs:=h.imp e.rd id
def aw.MY{K:PySem.W.Frag}{H H':Hp}{a:ag}{xs:List V}(e:aw H H')(h:cM K H a xs):cM K H' a xs:=h.imp e.rd id
structure Kn.le (k k':Kn):Prop where
 f:aw k.F k'.F
 a:k.A <+: k'.A
def Hh{α:Type}{l l':List α}{n:Nat}{x:α}(h:l <+: l')(e:l[n]?=some x):l'[n]?=some x:=by
 obtain⟨t,rfl⟩:=h;rw[xF (eQ.mp e).1];exact e
section
variable{K:PySem.W.Frag}{k k':Kn}{v:V}{vs ws:List V}{d:D}{ds es:List D}
def ah.mono(s:k.le k')(h:ah K k vs ds):ah K k' vs ds:=by
 induction h with
 |nil=>exact .nil
 |flat e _ ih=>exact .flat e ih
 |ref e _ ih=>exact .ref (Hh s.a e) ih
 |lst e _ _ i1 i2=>exact .lst (s.f.MY e) i1 i2
 |tup e _ _ i1 i2=>exact .tup (s.f.A4 e) i1 i2
 |aB e q _ _ _ i0 i1 i2=>exact .aB (s.f _ _ e) q i0 i1 i2
def ah.length(h:ah K k vs ds):vs.length=ds.length:=by
 induction h with
 |nil=>rfl
 |flat _ _ ih=>exact congrArg _ ih
 |ref _ _ ih=>exact congrArg _ ih
 |lst _ _ _ _ ih=>exact congrArg _ ih
 |tup _ _ _ _ ih=>exact congrArg _ ih
 |aB _ _ _ _ _ _ _ ih=>exact congrArg _ ih
def ah.inv(h:ah K k (v::vs) (d::ds)):ah K k [v] [d]/\ah K k vs ds:=by
 cases h with
 |flat e t=>exact⟨.flat e .nil,t⟩
 |ref e t=>exact⟨.ref e .nil,t⟩
 |lst e i t=>exact⟨.lst e i .nil,t⟩
 |tup e i t=>exact⟨.tup e i .nil,t⟩
 |aB e q j i t=>exact⟨.aB e q j i .nil,t⟩
def ah.cons(h:ah K k [v] [d])(t:ah K k vs ds):ah K k (v::vs) (d::ds):=by
 cases h with
 |flat e _=>exact .flat e t
 |ref e _=>exact .ref e t
 |lst e i _=>exact .lst e i t
 |tup e i _=>exact .tup e i t
 |aB e q j i _=>exact .aB e q j i t
def ah.cg(h:ah K k vs (d::ds)):∃w us,vs=w::us/\ah K k [w] [d]/\ah K k us ds:=by
 cases vs with
 |nil=>have:=h.length;cases this
 |cons w us=>exact⟨w,us,rfl,h.inv⟩
def ah.fW(h:ah K k vs []):vs=[]:=List.eq_nil_of_length_eq_zero h.length
def ah.get{i:Nat}(h:ah K k vs ds)(e:ds[i]?=some d):∃v,vs[i]?=some v/\ah K k [v] [d]:=by
 induction ds generalizing vs i with
 |nil=>cases e
 |cons x ds ih=>
  obtain⟨w,us,rfl,h1,h2⟩:=h.cg;cases i with
  |zero=>cases e;exact⟨w,rfl,h1⟩
  |succ i=>exact ih (vs:=us) (i:=i) h2 e
def ah.append(h:ah K k vs ds)(t:ah K k ws es):ah K k (vs++ws) (ds++es):=by
 induction ds generalizing vs with
 |nil=>rw[h.fW];exact t
 |cons x ds ih=>
  obtain⟨w,us,rfl,h1,h2⟩:=h.cg;exact .cons h1 (ih h2)
def ah.take(n:Nat)(h:ah K k vs ds):ah K k (vs.take n) (ds.take n):=by
 induction n generalizing vs ds with
 |zero=>exact .nil
 |succ n ih=>
  cases ds with
  |nil=>rw[h.fW];exact .nil
  |cons x ds=>
   obtain⟨w,us,rfl,h1,h2⟩:=h.cg;exact .cons h1 (ih h2)
def ah.drop(n:Nat)(h:ah K k vs ds):ah K k (vs.drop n) (ds.drop n):=by
 induction n generalizing vs ds with
 |zero=>exact h
 |succ n ih=>
  cases ds with
  |nil=>rw[h.fW];exact .nil
  |cons x ds=>
   obtain⟨w,us,rfl,h1,h2⟩:=h.cg;exact ih h2
def Xr(ns:List Int):ah K k (ns.map V.int) (ns.map D.int):=by
 induction ns with
 |nil=>exact .nil
 |cons n ns ih=>exact .flat rfl ih
def ah.bc{u:V}(h:ah K k [v] [d])(e:xW d=some u):v=u:=by
 cases h with
 |flat q _=>rw[e] at q;exact(Option.some.inj q).symm
 |_=>cases e
def ah.isRef{n:Nat}(h:ah K k [v] [.ref n]):∃a,v=.ref a/\k.A[n]?=some a:=by
 cases h with
 |flat q _=>cases q
 |ref e _=>exact⟨_,rfl,e⟩
def ah.yA(h:ah K k [v] [.lst es]):∃a ws,v=.ref a/\cM K k.F a ws/\ah K k ws es:=by
 cases h with
 |flat q _=>cases q
 |lst e i _=>exact⟨_,_,rfl,e,i⟩
def ah.isTup(h:ah K k [v] [.tup es]):∃a ws,v=.ref a/\g7 K k.F a ws/\ah K k ws es:=by
 cases h with
 |flat q _=>cases q
 |tup e i _=>exact⟨_,_,rfl,e,i⟩
def ah.yz{kvs:List (TK×D)}(h:ah K k [v] [.aB kvs]):∃a es ep,v=.ref a/\k.F a=some (.dG es ep)/\es.map (·.1)=kvs.map (·.1)/\ah K k (es.map (·.2.1)) (kvs.map (·.1.d))/\ah K k (es.map (·.2.2)) (kvs.map (·.2)):=by
 cases h with
 |flat q _=>cases q
 |aB e q j i _=>exact⟨_,_,_,rfl,e,q,j,i⟩
end
end L2
set_option autoImplicit false
namespace L2
open PySem PySem.Spec PyProof.Rows
inductive Bx where
 |lst (xs:List D)|aB (kvs:List (TK×D))
noncomputable def Bx.d:Bx->D
 |.lst xs=>.lst xs
 |.aB kvs=>.aB kvs
inductive Cell where
 |o (c:Bx)|z (c:Bx)|ins (C:ag) (fs:List (Str×D))
structure aO where
 s:List Cell
 r:List Cell
inductive Val where
 |d (x:D)|c (n:Nat)
abbrev Gm:=List (ak Val)
inductive Rv where
 |v (x:Val)|o (c:Bx)
inductive Rs (α:Type) where
 |ok (a:α) (S:aO)|ex (C:ag) (l:ak Int) (S:aO)
abbrev Gx(α:Type):=Gm->aO->ak (Rs α)
def bd{α β:Type}(x:ak (Rs α))(f:α->aO->ak (Rs β)):ak (Rs β):=match x with
 |none=>none
 |some (.ok a S)=>f a S
 |some (.ex C l S)=>some (.ex C l S)
noncomputable def wH:Nat->HO->Bool
 |0,_=>false
 |1,.dG _ _=>true
 |1,_=>false
 |_,_=>true
def dC(K:PySem.W.Frag)(k:Kn)(H:Hp)(a:ag):Bx->Prop
 |.lst xs=>∃ws,H a=some (.lst ws)/\ah K k ws xs
 |.aB kvs=>∃es ep,H a=some (.dG es ep)/\es.map (·.1)=kvs.map (·.1)/\ah K k (es.map (·.2.1)) (kvs.map (·.1.d))/\ah K k (es.map (·.2.2)) (kvs.map (·.2))
def bj(K:PySem.W.Frag)(k:Kn)(H:Hp)(a:ag):Cell->Prop
 |.o c=>k.F a=none/\dC K k H a c
 |.z c=>k.F a≠none/\ah K k [.ref a] [c.d]
 |.ins C fs=>k.F a=none/\∃dx gs,H a=some (.ins C dx gs)/\gs.map (·.1)=fs.map (·.1)/\ah K k (gs.map (·.2)) (fs.map (·.2))
structure Lay (K:PySem.W.Frag) (k:Kn) (H:Hp) (as:List ag) (cs:List Cell):Prop where
 ln:as.length=cs.length
 at':∀(n:Nat) (a:ag) (c:Cell),as[n]?=some a->cs[n]?=some c->bj K k H a c
structure bY (K:PySem.W.Frag) (k:Kn) (H:Hp) (S:aO):Prop where
 le:aw k.F H
 nd:(k.A++k.T).Nodup
 r:Lay K k H k.A S.r
 s:Lay K k H k.T S.s
structure Up (q:Nat) (k:Kn) (H:Hp) (k':Kn) (H':Hp):Prop where
 f:aw k.F k'.F
 a:k.A <+: k'.A
 t:k.T <+: k'.T
 h:∀a o,wH q o=true->H a=some o->H' a=some o
def cT(K:PySem.W.Frag)(k:Kn)(x:V):Val->Prop
 |.d y=>ah K k [x] [y]
 |.c n=>∃a,x=.ref a/\k.T[n]?=some a
structure gw (K:PySem.W.Frag) (k:Kn) (Z:St) (U:Gm):Prop where
 ln:Z.length=U.length
 at':∀(i:Nat) (v:Val),U[i]?=some (some v)->∃x,Z[i]?=some (some x)/\cT K k x v
def qa(K:PySem.W.Frag)(k:Kn)(H:Hp)(x:V):Rv->Prop
 |.v y=>cT K k x y
 |.o c=>∃a,x=.ref a/\k.F a=none/\a∉k.A++k.T/\dC K k H a c
section
variable{q:Nat}{K:PySem.W.Frag}{k k' Tr:Kn}{F' H H' Cy:Hp}{S S':aO}{Z:St}{U:Gm}{n:Nat}{a:ag}{as:List ag}{cs:List Cell}{c:Cell}{b:Bx}
theorem Kn.le.refl:k.le k:=⟨aw.refl _,lZ _⟩
def Up.le(u:Up q k H k' H'):k.le k':=⟨u.f,u.a⟩
theorem Up.refl:Up q k H k H:=⟨aw.refl _,lZ _,lZ _,λ_ _ _ h=>h⟩
theorem Up.trans(x:Up q k H k' H')(y:Up q k' H' Tr Cy):Up q k H Tr Cy:=⟨x.f.trans y.f,x.a.trans y.a,x.t.trans y.t,λa o z h=>y.h a o z (x.h a o z h)⟩
def Up.of{F':Hp}(s:aw k.F F')(t:aw H H'):Up q k H ⟨F',k.A,k.T⟩ H':=⟨s,lZ _,lZ _,λa o _ h=>t a o h⟩
def cT.up{x:V}{v:Val}(h:cT K k x v)(u:Up q k H k' H'):cT K k' x v:=by
 cases v with
 |d y=>exact ah.mono u.le h
 |c n=>obtain⟨a,e,z⟩:=h;exact⟨a,e,Hh u.t z⟩
theorem xJ.up{xs:List V}{vs:List Val}(h:Paired (cT K k) xs vs)(u:Up q k H k' H'):Paired (cT K k') xs vs:=Paired.ED h λ_ _ r=>r.up u
theorem gw.up(h:gw K k Z U)(u:Up q k H k' H'):gw K k' Z U:=⟨h.ln,λi v e=>let ⟨x,z,r⟩:=h.at' i v e;⟨x,z,r.up u⟩⟩
def dC.keep(h:dC K k H a b)(s:k.le k')(e:∀o,H a=some o->H' a=some o):dC K k' H' a b:=by
 cases b with
 |lst xs=>obtain⟨ws,z,r⟩:=h;exact⟨ws,e _ z,r.mono s⟩
 |aB kvs=>obtain⟨es,ep,z,q,r,t⟩:=h;exact⟨es,ep,e _ z,q,r.mono s,t.mono s⟩
theorem bj.keep(h:bj K k H a c)(s:k.le k')(e:∀o,H a=some o->H' a=some o)(fr:k.F a=none->k'.F a=none):bj K k' H' a c:=by
 cases c with
 |o b=>exact⟨fr h.1,h.2.keep s e⟩
 |z b=>exact⟨λz=>h.1 (s.f.free z),h.2.mono s⟩
 |ins C fs=>obtain⟨h0,dx,gs,h1,h2,h3⟩:=h;exact⟨fr h0,dx,gs,e _ h1,h2,h3.mono s⟩
def dC.there(h:dC K k H a b):H a≠none:=λz=>by
 cases b with
 |lst xs=>obtain⟨_,e,_⟩:=h;rw[e] at z;cases z
 |aB kvs=>obtain⟨_,_,e,_⟩:=h;rw[e] at z;cases z
theorem bj.there(h:bj K k H a c)(le:aw k.F H):H a≠none:=by
 cases c with
 |o b=>exact h.2.there
 |z b=>exact λz=>h.1 (le.free z)
 |ins C fs=>obtain⟨_,dx,gs,h1,_⟩:=h;rw[h1];exact λz=>nomatch z
def Lay.get(h:Lay K k H as cs)(e:as[n]?=some a):∃c,cs[n]?=some c/\bj K k H a c:=by
 have hn:n<cs.length:=h.ln ▸ (eQ.mp e).1;exact⟨_,i8 hn,h.at' n a _ e (i8 hn)⟩
def Lay.keep(h:Lay K k H as cs)(f:∀a∈as,∀c,bj K k H a c->bj K k' H' a c):Lay K k' H' as cs:=⟨h.ln,λn a c e1 e2=>f a (uS e1) c (h.at' n a c e1 e2)⟩
def Qx{α:Type}{l:List α}{x y:α}(e:(l++[x])[n]?=some y):l[n]?=some y\/(n=l.length/\y=x):=by
 by_cases h:n<l.length
 .rw[xF h] at e;exact .inl e
 .have h1:=Nat.le_of_not_lt h;rw[vA h1] at e;have h2:n - l.length=0:=Nat.lt_one_iff.mp (eQ.mp e).1;rw[h2] at e;cases e;exact .inr ⟨by lia,rfl⟩
def G1{α:Type}{l:List α}{x:α}:(l++[x])[l.length]?=some x:=by rw[vA (bM _),Nx];rfl
def Lay.push(h:Lay K k H as cs)(hc:bj K k H a c):Lay K k H (as++[a]) (cs++[c]):=by
 refine⟨by rw[du,du,h.ln];rfl,λn b d e1 e2=>?_⟩
 rcases Qx e1 with e1|⟨z,rfl⟩ <;> rcases Qx e2 with e2|⟨y,rfl⟩
 .exact h.at' n b d e1 e2
 .exact b_ (eQ.mp e1).1 (by rw[y,h.ln];exact j9 _)
 .exact b_ (eQ.mp e2).1 (by rw[z,h.ln];exact j9 _)
 .exact hc
def Py{α:Type}{l:List α}{i j:Nat}{x:α}(nd:l.Nodup)(e1:l[i]?=some x)(e2:l[j]?=some x):i=j:=by
 obtain⟨h1,z1⟩:=eQ.mp e1;obtain⟨h2,z2⟩:=eQ.mp e2;exact(FG nd).mp (z1.trans z2.symm)
def Lay.set(h:Lay K k H as cs)(nd:as.Nodup)(ha:as[n]?=some a)(hc:bj K k' H' a c)(f:∀b∈as,b≠a->∀c,bj K k H b c->bj K k' H' b c):Lay K k' H' as (cs.set n c):=by
 refine⟨by rw[nW];exact h.ln,λj b d e1 e2=>?_⟩
 by_cases e0:n=j
 .subst e0;rw[xA (h.ln ▸ (eQ.mp ha).1)] at e2;cases e2;cases ha.symm.trans e1;exact hc
 .rw[Cm e0] at e2;exact f b (uS e1) (λz=>e0 (Py nd ha (z ▸ e1))) d (h.at' j b d e1 e2)
def Lay.take(h:Lay K k H as cs)(m:Nat):Lay K k H (as.take m) (cs.take m):=by
 refine⟨by rw[yZ,yZ,h.ln],λj b d e1 e2=>?_⟩
 rw[List.getElem?_take] at e1 e2;split at e1
 .rename_i hj
  rw[aX hj] at e2;exact h.at' j b d e1 e2
 .cases e1
theorem Lay.there(h:Lay K k H as cs)(le:aw k.F H):∀a∈as,H a≠none:=λa m=>by
 obtain⟨n,e⟩:=Bb.mp m;obtain⟨c,_,hc⟩:=h.get e;exact hc.there le
theorem bY.there(h:bY K k H S):∀a∈k.A++k.T,H a≠none:=λa m=>(dr.mp m).elim (h.r.there h.le a) (h.s.there h.le a)
def bY.fresh(h:bY K k H S)(e:H a=none):k.F a=none/\a∉k.A++k.T:=⟨h.le.free e,λm=>h.there a m e⟩
def bY.new(h:bY K k H S)(s1:aw k.F F')(s2:∀a∈k.A++k.T,∀o,H a=some o->H' a=some o)(s3:aw F' H')(fr:∀p∈k.A++k.T,k.F p=none->F' p=none):bY K ⟨F',k.A,k.T⟩ H' S:=
 have go:∀a∈k.A++k.T,∀c,bj K k H a c->bj K ⟨F',k.A,k.T⟩ H' a c:=λa m _ q=>q.keep ⟨s1,lZ _⟩ (s2 a m) (fr a m)
 ⟨s3,h.nd,h.r.keep λa m=>go a (FF _ m),h.s.keep λa m=>go a (pQ _ m)⟩
def bj.le(h:bj K k H a c)(s:k.le k')(e:k.F=k'.F):bj K k' H a c:=h.keep s (λ_ z=>z) λz=>by rw[<-e];exact z
def J3{α:Type}{l:List α}{x:α}:l <+: l++[x]:=List.prefix_append _ _
def e2u{α:Type}{l m:List α}{x:α}(h:(l++m).Nodup)(n:x∉l++m):((l++[x])++m).Nodup:=by
 rw[l0];exact(List.perm_middle (l₁:=l) (l₂:=m) (a:=x)).nodup_iff.mpr (qo.mpr ⟨n,h⟩)
def bY.pushS(h:bY K k H S)(hF:k.F a=none)(hn:a∉k.A++k.T)(hb:dC K k H a b):bY K ⟨k.F,k.A,k.T++[a]⟩ H ⟨S.s++[.o b],S.r⟩/\∀q,Up q k H ⟨k.F,k.A,k.T++[a]⟩ H:=by
 have go:k.le ⟨k.F,k.A,k.T++[a]⟩:=⟨aw.refl _,lZ _⟩;refine⟨⟨h.le,?_,h.r.keep λ_ _ _ z=>z.le go rfl,(h.s.push (c:=.o b) ⟨hF,hb⟩).keep λ_ _ _ z=>z.le go rfl⟩,λq=>⟨aw.refl _,lZ _,J3,λ_ _ _ z=>z⟩⟩
 rw[<-l0];exact jS.mpr ⟨h.nd,by simp,λx m y m' e=>hn (by rw[lz.mp m'] at e;exact e ▸ m)⟩
def bY.yK(h:bY K k H S)(hn:a∉k.A++k.T)(hc:bj K k H a c):bY K ⟨k.F,k.A++[a],k.T⟩ H ⟨S.s,S.r++[c]⟩/\∀q,Up q k H ⟨k.F,k.A++[a],k.T⟩ H:=by
 have go:k.le ⟨k.F,k.A++[a],k.T⟩:=⟨aw.refl _,J3⟩;exact⟨⟨h.le,e2u h.nd hn,(h.r.push hc).keep λ_ _ _ z=>z.le go rfl,h.s.keep λ_ _ _ z=>z.le go rfl⟩,λq=>⟨aw.refl _,J3,lZ _,λ_ _ _ z=>z⟩⟩
def l9(H H':Hp)(a:ag):Prop:=∀b,b≠a->H' b=H b
def C2{o:HO}:l9 H (upd H a o) a:=λ_ z=>c_ z
def bY.chg(h:bY K k H S)(ho:l9 H H' a)(hF:k.F a=none)(hq:∀o,H a=some o->wH q o=false):aw k.F H'/\Up q k H k H'/\∀b,b≠a->∀c,bj K k H b c->bj K k H' b c:=
 ⟨λb o e=>by rw[ho b λz=>by rw[z,hF] at e;cases e];exact h.le b o e,⟨aw.refl _,lZ _,lZ _,λb o e z=>by
  by_cases y:b=a
  .subst y;rw[hq o z] at e;cases e
  .rw[ho b y];exact z⟩,λb y c z=>z.keep .refl (λo e=>by rw[ho b y];exact e) id⟩
def bY.E2(h:bY K k H S)(ha:k.A[n]?=some a)(ho:l9 H H' a)(hF:k.F a=none)(hq:∀o,H a=some o->wH q o=false)(hc:bj K k H' a c):bY K k H' ⟨S.s,S.r.set n c⟩/\Up q k H k H':=by
 obtain⟨h1,h2,h3⟩:=h.chg ho hF hq;obtain⟨n1,n2,n3⟩:=jS.mp h.nd;exact⟨⟨h1,h.nd,h.r.set n1 ha hc λb _=>h3 b,h.s.keep λb m=>h3 b λz=>n3 a (uS ha) b m z.symm⟩,h2⟩
def bY.MR(h:bY K k H S)(ha:k.T[n]?=some a)(ho:l9 H H' a)(hF:k.F a=none)(hq:∀o,H a=some o->wH q o=false)(hc:bj K k H' a c):bY K k H' ⟨S.s.set n c,S.r⟩/\Up q k H k H':=by
 obtain⟨h1,h2,h3⟩:=h.chg ho hF hq;obtain⟨n1,n2,n3⟩:=jS.mp h.nd;exact⟨⟨h1,h.nd,h.r.keep λb m=>h3 b λz=>n3 b m a (uS ha) z,h.s.set n2 ha hc λb _=>h3 b⟩,h2⟩
def dC.Y(h:dC K k H a b)(le:aw k.F H)(hF:k.F a=none):∃o,H a=some o/\aw k.F (upd k.F a o)/\aw (upd k.F a o) H/\ah K ⟨upd k.F a o,k.A,k.T⟩ [.ref a] [b.d]:=by
 have sm:∀o,aw k.F (upd k.F a o):=λo=>tJ hF
 have sh:∀o,H a=some o->aw (upd k.F a o) H:=λo e p u q=>by
  by_cases z:p=a
  .subst z;rw[aJ] at q;cases q;exact e
  .rw[c_ z] at q;exact le p u q
 cases b with
 |lst xs=>
  obtain⟨ws,e,r⟩:=h;exact⟨_,e,sm _,sh _ e,.lst (.inl (.inl aJ)) (r.mono ⟨sm _,lZ _⟩) .nil⟩
 |aB kvs=>
  obtain⟨es,ep,e,q,r,t⟩:=h;exact⟨_,e,sm _,sh _ e,.aB aJ q (r.mono ⟨sm _,lZ _⟩) (t.mono ⟨sm _,lZ _⟩) .nil⟩
def bY.Lo(h:bY K k H S)(hF:k.F a=none)(hn:a∉k.A++k.T)(hb:dC K k H a b):∃F',bY K ⟨F',k.A,k.T⟩ H S/\(∀q,Up q k H ⟨F',k.A,k.T⟩ H)/\ah K ⟨F',k.A,k.T⟩ [.ref a] [b.d]:=by
 obtain⟨o,e,s1,s2,rp⟩:=hb.Y h.le hF;exact⟨_,h.new s1 (λ_ _ _ z=>z) s2 λp m z=>by rw[c_ (show p≠a from λy=>hn (y ▸ m))];exact z,λq=>.of s1 (aw.refl _),rp⟩
def bY.Lp(h:bY K k H S)(ha:k.T[n]?=some a)(hc:S.s[n]?=some (.o b)):∃F',bY K ⟨F',k.A,k.T⟩ H ⟨S.s.set n (.z b),S.r⟩/\(∀q,Up q k H ⟨F',k.A,k.T⟩ H)/\ah K ⟨F',k.A,k.T⟩ [.ref a] [b.d]:=by
 obtain⟨hF,hb⟩:=h.s.at' n a _ ha hc;obtain⟨o,e,s1,s2,rp⟩:=hb.Y h.le hF;obtain⟨n1,n2,n3⟩:=jS.mp h.nd;have go:∀p,p≠a->∀c,bj K k H p c->bj K ⟨upd k.F a o,k.A,k.T⟩ H p c:=λp y c z=>z.keep ⟨s1,lZ _⟩ (λ_ z=>z) λz=>(c_ y).trans z
 exact⟨_,⟨s2,h.nd,h.r.keep λp m=>go p λz=>n3 p m a (uS ha) z,h.s.set n2 ha (c:=.z b) ⟨λz=>(nomatch aJ.symm.trans z),rp⟩ λp _=>go p⟩,λq=>.of s1 (aw.refl _),rp⟩
theorem bY.take(h:bY K k H S)(m:Nat):bY K ⟨k.F,k.A,k.T.take m⟩ H ⟨S.s.take m,S.r⟩:=
 have go:k.le ⟨k.F,k.A,k.T.take m⟩:=⟨aw.refl _,lZ _⟩
 ⟨h.le,h.nd.sublist ((List.Sublist.refl _).append (List.take_sublist _ _)),h.r.keep λ_ _ _ z=>z.le go rfl,(h.s.take m).keep λ_ _ _ z=>z.le go rfl⟩
def Pz{α:Type}{l l':List α}{m:Nat}(h:l <+: l')(hm:l.length<=m):l <+: l'.take m:=by
 grind
def Up.take(u:Up q k H k' H'){m:Nat}(h:k.T.length<=m):Up q k H ⟨k'.F,k'.A,k'.T.take m⟩ H':=⟨u.f,u.a,Pz u.t h,u.h⟩
end
end L2
set_option autoImplicit false
namespace L2
open PySem PySem.Spec PyProof.Rows
variable{X:Cx}{e:Expr}{t:TE}{t':TT}{v x:V}{k:Kn}{S:aO}{r:R2}{Q:List V->Hp->Prop}{vs:List Val}{ds:List D}{o:List D->ak Rv}
def PE.mono{t':TE}(h:PE X e t)(m:∀Z H Q,t' Z H Q->t Z H Q):PE X e t':=λaa s Z H Q I q=>h aa s Z H Q I (m _ _ _ q)
def PT.mono{t:TT}(h:PT X e t)(m:∀Z H Q,t' Z H Q->t Z H Q):PT X e t':=λaa s Z H Q I q=>h aa s Z H Q I (m _ _ _ q)
def PW.mono{t:TT}(h:PW X e t)(m:∀Z H Q,t' Z H Q->t Z H Q):PW X e t':=λwh aa s Z H Q I q=>h wh aa s Z H Q I (m _ _ _ q)
def PA.mono{e:List Expr}{t t':TA}(h:PA X e t)(m:∀Z H Q,t' Z H Q->t Z H Q):PA X e t':=λpos aa s Z H Q I q=>h pos aa s Z H Q I (m _ _ _ q)
def PS.mono{e:Stmt}{t t':TS}(h:PS X e t)(m:∀D Z H,t' D Z H->t D Z H):PS X e t':=λaa s Z H D I q=>h aa s Z H D I (m _ _ _ q)
def ji.mono{e:List Stmt}{t t':TS}(h:ji X e t)(m:∀D Z H,t' D Z H->t D Z H):ji X e t':=λaa s Z H D I q=>h aa s Z H D I (m _ _ _ q)
abbrev XW:=ag->ak ag->St->Hp->Prop
def Cu(F:Hp)(dx:ak ag):ak Int->Prop
 |none=>dx=none
 |some n=>∃d,dx=some d/\F d=some (.xd [("line",.int n)])
abbrev Rp(α β:Type):=Kn->Hp->β->α->Prop
section
variable{α β α' β':Type}(R:Rp α β){R':Rp α' β'}(K:PySem.W.Frag)(W:XW)(q:Nat){Z:St}{H H':Hp}{k k':Kn}{U:Gm}{S:aO}{Q:β->Hp->Prop}{Q':β'->Hp->Prop}
def f_(Z:St)(k:Kn)(H:Hp)(Q:β->Hp->Prop):Rs α->Prop
 |.ok a S=>∀b k' H',Up q k H k' H'->bY K k' H' S->R k' H' b a->Q b H'
 |.ex C l S=>∀dx k' H',Up q k H k' H'->bY K k' H' S->Cu k'.F dx l->W C dx Z H'
def tX(g:Gx α):St->Hp->(β->Hp->Prop)->Prop:=λZ H Q=>∃k U S res,bY K k H S/\gw K k Z U/\g U S=some res/\f_ R K W q Z k H Q res
variable{R K W q}
def f_.up{res:Rs α}(w:f_ R K W q Z k H Q res)(u:Up q k H k' H'):f_ R K W q Z k' H' Q res:=by
 cases res with
 |ok a S=>exact λb k2 H2 u2 k r=>w b k2 H2 (u.trans u2) k r
 |ex C l S=>exact λdx k2 H2 u2 k r=>w dx k2 H2 (u.trans u2) k r
def BR{x:ak (Rs α)}{f:α->aO->ak (Rs α')}{res:Rs α'}(e:bd x f=some res):(∃a S,x=some (.ok a S)/\f a S=some res)\/∃C l S,x=some (.ex C l S)/\res=.ex C l S:=by
 unfold bd at e;split at e
 .cases e
 .exact .inl ⟨_,_,rfl,e⟩
 .cases e;exact .inr ⟨_,_,_,rfl,rfl⟩
def tX.bd{g:Gx α}{f:α->aO->ak (Rs α')}{res:Rs α'}(ok:bY K k H S)(gk:gw K k Z U)(e:bd (g U S) f=some res)(w:f_ R' K W q Z k H Q' res)
  (h:∀a S1 b k1 H1,bY K k1 H1 S1->gw K k1 Z U->R k1 H1 b a->f a S1=some res->f_ R' K W q Z k1 H1 Q' res->Up q k H k1 H1->Q b H1):tX R K W q g Z H Q:=by
 rcases BR e with⟨a,S1,e1,e2⟩|⟨C,l,S1,e1,rfl⟩
 .exact⟨k,U,S,_,ok,gk,e1,λb k' H' u fI r=>h a S1 b k' H' fI (gk.up u) r e2 (w.up u) u⟩
 .exact⟨k,U,S,_,ok,gk,e1,w⟩
def f_.now{a:α}{b:β}(w:f_ R K W q Z k H Q (.ok a S))(ok:bY K k H S)(r:R k H b a):Q b H:=w b k H .refl ok r
def qd{g:Gx α}{Q₂:β->Hp->Prop}(h:tX R K W q g Z H Q)(m:∀b H,Q b H->Q₂ b H):tX R K W q g Z H Q₂:=by
 obtain⟨k,U,S,res,ok,gk,e,w⟩:=h;refine⟨k,U,S,res,ok,gk,e,?_⟩;cases res with
 |ok a S=>exact λb k2 H2 u k r=>m _ _ (w b k2 H2 u k r)
 |ex C l S=>exact w
end
abbrev RE(K:PySem.W.Frag):Rp Rv V:=λk H x r=>qa K k H x r
abbrev RA(K:PySem.W.Frag):Rp (List Val) (List V):=λk _ xs vs=>Paired (cT K k) xs vs
abbrev RB:Rp Bool Bool:=λ_ _ b a=>b=a
abbrev GE:=Gx Rv
variable{g f:GE}
abbrev GA:=Gx (List Val)
variable{h:GA}
abbrev GT:=Gx Bool
abbrev tE(K:PySem.W.Frag)(W:XW)(q:Nat)(g:GE):TE:=tX (RE K) K W q g
abbrev gq(K:PySem.W.Frag)(W:XW)(q:Nat)(g:GA):TA:=tX (RA K) K W q g
abbrev tT(K:PySem.W.Frag)(W:XW)(q:Nat)(g:GT):TT:=tX RB K W q g
noncomputable def gC(d:D):GE:=λ_ S=>some (.ok (.v (.d d)) S)
noncomputable def uc(i:Nat):GE:=λU S=>((U[i]?).join).map λv=>.ok (.v v) S
def OW{α:Type}{x:ak (ak α)}{v:α}(h:x.join=some v):x=some (some v):=by
 cases x with
 |none=>cases h
 |some y=>exact congrArg some h
noncomputable def nP:Rv->Val
 |.v x=>x
 |.o c=>.d c.d
noncomputable def hpR(S:aO):Rv->Rs Rv
 |.o c=>.ok (.v (.d (.ref S.r.length))) ⟨S.s,S.r++[.o c]⟩
 |r=>.ok r S
def jL(g:GE):GE:=λU S=>bd (g U S) λr S1=>some (hpR S1 r)
noncomputable def gN:GA:=λ_ S=>some (.ok [] S)
def om(g:GE)(h:GA):GA:=λU S=>bd (g U S) λr S1=>bd (h U S1) λvs S2=>some (.ok (nP r::vs) S2)
section
variable{X:Cx}{K:PySem.W.Frag}{W:XW}{q:Nat}{e a b:Expr}{es:List Expr}{nq fb fc:GE}{fs:GA}{ft fu:GT}{pos:Pos}{Z:St}{H:Hp}
def Aa{d:D}(h:PE X e (tC v))(hf:xW d=some v:=by rfl):PE X e (tE K W q (gC d)):=h.mono λZ H Q t=>by
 obtain⟨k,U,S,res,ok,gk,e,w⟩:=t;cases e;exact w.now ok (show ah K k [v] [d] from .flat hf .nil)
def e2v{i:Nat}(h:PE X e (A7 i)):PE X e (tE K W q (uc i)):=h.mono λZ H Q t=>by
 obtain⟨k,U,S,res,ok,gk,e,w⟩:=t;obtain⟨v,q,rfl⟩:=dm.mp e;obtain⟨x,hx,r⟩:=gk.at' i v (OW q);exact⟨x,hx,w.now ok (show qa K k H x (.v v) from r)⟩
def sv{r:Rv}(ok:bY K k H S)(h:qa K k H x r):∃k',(∀q,Up q k H k' H)/\bY K k' H S/\cT K k' x (nP r):=by
 cases r with
 |v y=>exact⟨k,λ_=>.refl,ok,h⟩
 |o c=>
  obtain⟨p,rfl,hF,hi,hc⟩:=h;obtain⟨F',fI,u,rp⟩:=ok.Lo hF hi hc;exact⟨_,u,fI,rp⟩
def v_(h:PE X e (tE K W q nq)):PE X e (tE K W q (jL nq)):=h.mono λZ H Q t=>by
 obtain⟨k,U,S,res,ok,gk,e,w⟩:=t;refine tX.bd ok gk e w λr S1 x k1 H1 bI g1 r1 e1 w1 _=>?_
 cases r with
 |v y=>cases e1;exact w1.now bI r1
 |o c=>
  cases e1;obtain⟨p,rfl,hF,hi,hc⟩:=r1;obtain⟨cJ,u⟩:=bI.yK hi (c:=.o c) ⟨hF,hc⟩;exact w1 _ _ _ (u q) cJ (show ah K _ [.ref p] [.ref S1.r.length] from .ref (by rw[<-bI.r.ln];exact G1) .nil)
def vT(t:gq K W q (om g h) Z H Q):tE K W q g Z H λx H1=>gq K W q h Z H1 λxs H2=>Q (x::xs) H2:=by
 obtain⟨k,U,S,res,ok,gk,e,w⟩:=t;refine tX.bd ok gk e w λr S1 x k1 H1 bI g1 r1 e1 w1 _=>?_
 obtain⟨k2,u2,cJ,r2⟩:=sv bI r1;refine tX.bd cJ (g1.up (u2 q)) e1 (w1.up (u2 q)) λvs S3 xs k3 H3 j6 g3 r3 e3 w3 u3=>?_
 cases e3;exact w3.now j6 (.cons (r2.up u3) r3)
def BS(t:gq K W q gN Z H Q):Q [] H:=by
 obtain⟨k,U,S,res,ok,gk,e,w⟩:=t;cases e;exact w.now ok .nil
def Ab:PA X [] (gq K W q gN):=nF.mono λZ H Q t=>BS t
def θ(ha:PE X e (tE K W q g))(hr:PA X es (gq K W q h))(hs:starEach (e::es) X.env=(false,eval e X.env)::starEach es X.env):PA X (e::es) (gq K W q (om g h)):=(GZ ha hr hs).mono λZ H Q t=>vT t
def Top(K:PySem.W.Frag)(k:Kn)(H:Hp)(x:V)(d:D):Prop:=ah K k [x] [d]\/∃p c,x=.ref p/\d=Bx.d c/\dC K k H p c
noncomputable def Cell.wZ:Cell->ak D
 |.o c=>some c.d
 |.z c=>some c.d
 |.ins _ _=>none
def wZ(S:aO):Val->ak D
 |.d (.ref n)=>(S.r[n]?).bind Cell.wZ
 |.d x=>some x
 |.c n=>(S.s[n]?).bind Cell.wZ
def w6(S:aO):List Val->ak (List D)
 |[]=>some []
 |v::vs=>(wZ S v).bind λd=>(w6 S vs).map λds=>d::ds
def PB{x:ag}{c:Cell}{d:D}(h:bj K k H x c)(e:c.wZ=some d):Top K k H (.ref x) d:=by
 cases c with
 |o b=>cases e;exact .inr ⟨x,b,rfl,rfl,h.2⟩
 |z b=>cases e;exact .inl h.2
 |ins _ _=>cases e
def Hi{v:Val}{d:D}(ok:bY K k H S)(h:cT K k x v)(e:wZ S v=some d):Top K k H x d:=by
 cases v with
 |d y=>
  cases y with
  |ref n=>
   obtain⟨p,rfl,h1⟩:=ah.isRef h;obtain⟨c,h2,e⟩:=cB.mp e;exact PB (ok.r.at' n p c h1 h2) e
  |_=>cases e;exact .inl h
 |c n=>
  obtain⟨p,rfl,h1⟩:=h;obtain⟨c,h2,e⟩:=cB.mp e;exact PB (ok.s.at' n p c h1 h2) e
def Qy{xs:List V}(ok:bY K k H S)(h:Paired (cT K k) xs vs)(e:w6 S vs=some ds):Paired (Top K k H) xs ds:=by
 induction h generalizing ds with
 |nil=>cases e;exact .nil
 |cons r _ ih=>
  obtain⟨d,e1,e⟩:=cB.mp e;obtain⟨es,e2,rfl⟩:=dm.mp e;exact .cons (Hi ok r e1) (ih e2)
def Uc(K:PySem.W.Frag)(k':Kn)(H H':Hp)(x:V):Rv->Prop
 |.v (.d y)=>ah K k' [x] [y]
 |.o c=>∃p,x=.ref p/\H p=none/\k'.F p=none/\dC K k' H' p c
 |_=>False
def lM(K:PySem.W.Frag)(k:Kn)(H:Hp)(r:Rv)(Q:VK):Prop:=∀x F' H',aw k.F F'->aw H H'->aw F' H'->(∀p,H p≠none->k.F p=none->F' p=none)->Uc K ⟨F',k.A,k.T⟩ H H' x r->Q x H'
def bZ(K:PySem.W.Frag)(r:List V->Hp->VK->Prop)(o:List D->ak Rv):Prop:=∀k H xs ds y Q,aw k.F H->Paired (Top K k H) xs ds->o ds=some y->lM K k H y Q->r xs H Q
def gO(o:List D->ak Rv)(g:GA):GE:=λU S=>bd (g U S) λvs S1=>(w6 S1 vs).bind λds=>(o ds).map λr=>.ok r S1
def lM.fin{y:Rv}{Q:VK}(ok:bY K k H S)(w:f_ (RE K) K W q Z k H Q (.ok y S)):lM K k H y Q:=λx F' H' s1 s2 s3 fr nw=>by
 refine w x ⟨F',k.A,k.T⟩ H' (.of s1 s2) (ok.new s1 (λp _ o z=>s2 p o z) s3 λp m=>fr p (ok.there p m)) ?_
 cases y with
 |v z=>
  cases z with
  |d z=>exact nw
  |_=>exact nw.elim
 |o c=>obtain⟨p,e4,e5,e6,e7⟩:=nw;exact⟨p,e4,e6,(ok.fresh e5).2,e7⟩
def v5{r:List V->Hp->VK->Prop}(bB:bZ K r o){g:GA}{Q:VK}(t:tE K W q (gO o g) Z H Q):gq K W q g Z H λxs H1=>r xs H1 Q:=by
 obtain⟨k,U,S,res,ok,gk,e,w⟩:=t;refine tX.bd ok gk e w λvs S1 xs k1 H1 bI g1 r1 e1 w1 _=>?_
 obtain⟨ds,e2,e1⟩:=cB.mp e1;obtain⟨y,e3,rfl⟩:=dm.mp e1;exact bB k1 H1 xs ds y Q bI.le (Qy bI r1 e2) e3 (.fin bI w1)
section
variable{k:Kn}{x:V}{Q:VK}
def lM.rep{y:D}(h:lM K k H (.v (.d y)) Q)(le:aw k.F H)(r:ah K k [v] [y]):Q v H:=h v k.F H (aw.refl _) (aw.refl _) le (λ_ _ z=>z) r
theorem lM.flat{y:D}{v:V}(h:lM K k H (.v (.d y)) Q)(le:aw k.F H)(e:xW y=some v):Q v H:=h.rep le (.flat e .nil)
def lM.lst{ds:List D}{ws:List V}(h:lM K k H (.o (.lst ds)) Q)(le:aw k.F H)(r:ah K k ws ds){l:ag}(hn:H l=none):Q (.ref l) (upd H l (.lst ws)):=
 h _ k.F _ (aw.refl _) (tJ hn) (le.put hn) (λ_ _ z=>z) ⟨l,rfl,hn,le.free hn,ws,aJ,r⟩
def lM.aB{kvs:List (TK×D)}{es:List (TK×V×V)}{ep:Nat}(h:lM K k H (.o (.aB kvs)) Q)(le:aw k.F H)(q:es.map (·.1)=kvs.map (·.1))(r:ah K k (es.map (·.2.1)) (kvs.map (·.1.d)))(t:ah K k (es.map (·.2.2)) (kvs.map (·.2))){l:ag}(hn:H l=none):Q (.ref l) (upd H l (.dG es ep)):=
 h _ k.F _ (aw.refl _) (tJ hn) (le.put hn) (λ_ _ z=>z) ⟨l,rfl,hn,le.free hn,es,ep,aJ,q,r,t⟩
theorem lM.tup{ds:List D}{ws:List V}(h:lM K k H (.v (.d (.tup ds))) Q)(le:aw k.F H)(r:ah K k ws ds){l:ag}(hn:H l=none):Q (.ref l) (upd H l (.tup ws)):=by
 have hF:=le.free hn;refine h _ (upd k.F l (.tup ws)) _ (tJ hF) (tJ hn) (λb u z=>?_) (λp z1 z2=>by rw[c_ (show p≠l from λz=>z1 (z ▸ hn))];exact z2) (show ah K ⟨upd k.F l (.tup ws),k.A,k.T⟩ [.ref l] [.tup ds] from .tup (.inl (.inl aJ)) (r.mono ⟨tJ hF,lZ _⟩) .nil)
 by_cases q:b=l
 .subst q;rw[aJ] at z ⊢;exact z
 .rw[c_ q] at z ⊢;exact le b u z
noncomputable abbrev Kn.all(k:Kn)(H:Hp):Kn:=⟨H,k.A,k.T⟩
def ah.all{vs:List V}{ds:List D}(h:ah K k vs ds)(le:aw k.F H):ah K (k.all H) vs ds:=h.mono ⟨le,lZ _⟩
def Top.rep{d:D}(h:Top K k H x d)(le:aw k.F H):ah K (k.all H) [x] [d]:=by
 rcases h with h|⟨p,c,rfl,rfl,h⟩
 .exact h.all le
 .cases c with
  |lst xs=>obtain⟨ws,e,r⟩:=h;exact .lst (.inl (.inl e)) (r.all le) .nil
  |aB kvs=>obtain⟨es,ep,e,q,r,t⟩:=h;exact .aB e q (r.all le) (t.all le) .nil
def Top.flat{d:D}(h:Top K k H x d)(e:xW d=some v):x=v:=by
 rcases h with h|⟨p,c,rfl,rfl,h⟩
 .exact h.bc e
 .cases c <;> cases e
def Top.lst{ds:List D}(h:Top K k H x (.lst ds))(le:aw k.F H):∃p ws,x=.ref p/\cM K H p ws/\ah K k ws ds:=by
 rcases h with h|⟨p,c,rfl,e,h⟩
 .obtain⟨p,ws,rfl,q,r⟩:=h.yA;exact⟨p,ws,rfl,le.MY q,r⟩
 .cases c <;> cases e;obtain⟨ws,e,r⟩:=h;exact⟨p,ws,rfl,.inl (.inl e),r⟩
def Top.tup{ds:List D}(h:Top K k H x (.tup ds))(le:aw k.F H):∃p ws,x=.ref p/\g7 K H p ws/\ah K k ws ds:=by
 rcases h with h|⟨p,c,rfl,e,h⟩
 .obtain⟨p,ws,rfl,q,r⟩:=h.isTup;exact⟨p,ws,rfl,le.A4 q,r⟩
 .cases c <;> cases e
def Top.aB{kvs:List (TK×D)}(h:Top K k H x (.aB kvs))(le:aw k.F H):∃p es ep,x=.ref p/\H p=some (.dG es ep)/\es.map (·.1)=kvs.map (·.1)/\ah K k (es.map (·.2.1)) (kvs.map (·.1.d))/\ah K k (es.map (·.2.2)) (kvs.map (·.2)):=by
 rcases h with h|⟨p,c,rfl,e,h⟩
 .obtain⟨p,es,ep,rfl,q,r⟩:=h.yz;exact⟨p,es,ep,rfl,le _ _ q,r⟩
 .cases c <;> cases e;obtain⟨es,ep,h⟩:=h;exact⟨p,es,ep,rfl,h⟩
end
def nI(r:R2):List V->Hp->VK->Prop:=λxs H Q=>∃x y,xs=[x,y]/\r x y H Q
def MG(r:V->Hp->VK->Prop):List V->Hp->VK->Prop:=λxs H Q=>∃x,xs=[x]/\r x H Q
abbrev br(f:GE):GA:=om f gN
abbrev cz(f g:GE):GA:=om f (om g gN)
def HF{r:V->V->Hp->Prop}(h:gq K W q (cz f g) Z H λxs H1=>∃x y,xs=[x,y]/\r x y H1):tE K W q f Z H λx H1=>tE K W q g Z H1 λy H2=>r x y H2:=
 qd (vT h) λx H1 t=>qd (vT t) λy H2 t=>by
  obtain⟨x',y',e,q⟩:=BS t;cases e;exact q
def Ld{r:V->Hp->Prop}(h:gq K W q (br f) Z H λxs H1=>∃x,xs=[x]/\r x H1):tE K W q f Z H r:=
 qd (vT h) λx H1 t=>by
  obtain⟨x',e,q⟩:=BS t;cases e;exact q
def e8f{op:Operator}(ho:dF X (binaryOp op) r)(ok:bZ K (nI r) o)(ha:PE X a (tE K W q nq))(hb:PE X b (tE K W q fb)):PE X (.BinOp a op b pos) (tE K W q (gO o (cz nq fb))):=(e7y ho ha hb).mono λ_ _ _ t=>HF (v5 ok t)
def e8g{op:UnaryOp}{r:V->Hp->VK->Prop}(ho:FU X (unaryOp op) r)(ok:bZ K (MG r) o)(ha:PE X a (tE K W q nq)):PE X (.UnaryOp op a pos) (tE K W q (gO o (br nq))):=(e7z ho ha).mono λ_ _ _ t=>Ld (v5 ok t)
def e2w{op:CmpOp}(ho:dF X (compareOp op) r)(ok:bZ K (nI r) o)(ha:PE X a (tE K W q nq))(hb:PE X b (tE K W q fb))(hm:behindInMarks op b=false):PE X (.Compare a [op] [b] pos) (tE K W q (gO o (cz nq fb))):=(ZW ho ha hb hm).mono λ_ _ _ t=>HF (v5 ok t)
def e8h(ho:rD X r)(ok:bZ K (nI r) o)(ha:PE X a (tE K W q nq))(hb:PE X b (tE K W q fb))(hs:Kl b):PE X (.Subscript a b pos) (tE K W q (gO o (cz nq fb))):=(e8c ho ha hb hs).mono λ_ _ _ t=>HF (v5 ok t)
end
noncomputable def Rv.bool:Rv->ak Bool
 |.v (.d (.bl b))=>some b
 |_=>none
def Rv.v7{r:Rv}{b:Bool}(h:r.bool=some b):r=.v (.d (.bl b)):=by
 unfold Rv.bool at h;split at h
 .cases h;rfl
 .cases h
noncomputable def A_:D->ak Bool
 |.aI=>some false
 |.bl b=>some b
 |.int i=>some (i != 0)
 |.str y=>if y.length<=1000000 then some ((y.length:Int) != 0) else none
 |.lst xs=>some (!xs.isEmpty)
 |.tup xs=>some (!xs.isEmpty)
 |_=>none
noncomputable def gB(g:GE):GT:=λU S=>bd (g U S) λr S1=>r.bool.map λb=>.ok b S1
def cZ(g:GE):GT:=λU S=>bd (g U S) λr S1=>((wZ S1 (nP r)).bind A_).map λb=>.ok b S1
noncomputable def fq(g:GT):GT:=λU S=>bd (g U S) λb S1=>some (.ok (!b) S1)
noncomputable def DW(c g h:GT):GT:=λU S=>bd (c U S) λb S1=>if b=true then g U S1 else h U S1
def iV(b:Bool):GT:=λ_ S=>some (.ok b S)
def dz(g h:GT):GT:=DW g h (iV false)
def kZ(g h:GT):GT:=DW g (iV true) h
noncomputable def B3(c:GT)(g h:GE):GE:=λU S=>bd (c U S) λb S1=>if b=true then g U S1 else h U S1
def t_(g h:GE):GE:=B3 (gB g) h (gC (.bl false))
section
variable{X:Cx}{K:PySem.W.Frag}{W:XW}{q:Nat}{e a b:Expr}{es rest:List Expr}{f g h:GE}{fs:GA}{ft fu:GT}{pos:Pos}{Z:St}{H:Hp}
def SO{Q:Bool->Hp->Prop}(t:tT K W q (gB f) Z H Q):tE K W q f Z H λx H1=>∃k,x=.bl k/\Q k H1:=by
 obtain⟨k,U,S,res,ok,gk,e,w⟩:=t;refine tX.bd ok gk e w λr S1 x k1 H1 bI g1 r1 e1 w1 _=>?_
 obtain⟨b,e2,rfl⟩:=dm.mp e1;cases Rv.v7 e2;exact⟨b,(show ah K k1 [x] [.bl b] from r1).bc rfl,w1.now bI rfl⟩
def ι{d:D}{b:Bool}(le:aw k.F H)(h:Top K k H x d)(e:A_ d=some b):zr K x H b:=by
 cases d with
 |aI=>cases h.flat rfl;cases e;rfl
 |bl b=>cases h.flat rfl;cases e;rfl
 |int i=>cases h.flat rfl;cases e;rfl
 |str y=>
  cases h.flat rfl;unfold A_ at e;dsimp only at e;split at e
  .cases e;exact⟨i7 (by assumption) (by decide),rfl⟩
  .cases e
 |lst xs=>
  cases e;obtain⟨p,ws,rfl,h1,h2⟩:=h.lst le;refine .inl ⟨ws,h1,?_⟩;have:=h2.length
  grind
 |tup xs=>
  cases e;obtain⟨p,ws,rfl,h1,h2⟩:=h.tup le;refine .inr (.inl ⟨ws,h1,?_⟩);have:=h2.length
  grind
 |_=>cases e
def e2x(hK:X.K=K)(he:PE X a (tE K W q f))(ht:∀whole,isTrue a X.env whole=(do let v <-whole;standAt a.pos;holding [v] (truthy v))):PT X a (tT K W q (cZ f)):=(Xc he ht).mono λZ H Q t=>by
 obtain⟨k,U,S,res,ok,gk,e,w⟩:=t;refine tX.bd ok gk e w λr S1 x k1 H1 bI g1 r1 e1 w1 _=>?_
 obtain⟨b,e2,rfl⟩:=dm.mp e1;obtain⟨d,e3,e4⟩:=cB.mp e2;obtain⟨k2,u2,cJ,r2⟩:=sv bI r1;rw[hK];exact⟨b,ι cJ.le (Hi cJ r2 e3) e4,(w1.up (u2 q)).now cJ rfl⟩
def SQ(h:PT X a (uP t))(m:∀Z H Q,tE K W q f Z H Q->t Z H Q):PT X a (tT K W q (gB f)):=h.mono λZ H Q q=>m Z H _ (SO q)
def Ah(h:PT X a (tT K W q ft)):PT X (.UnaryOp .Not a pos) (tT K W q (fq ft)):=(e1v h).mono λZ H Q t=>by
 obtain⟨k,U,S,res,ok,gk,e,w⟩:=t;refine tX.bd ok gk e w λb S1 x k1 H1 bI g1 r1 e1 w1 _=>?_
 cases e1;cases r1;exact w1.now bI rfl
def Hz{β' α':Type}{R':Rp α' β'}{gx gy:Gx α'}{Q':β'->Hp->Prop}(t:tX R' K W q (λU S=>bd (ft U S) λb S1=>if b=true then gx U S1 else gy U S1) Z H Q'):tT K W q ft Z H λb H1=>if b=true then tX R' K W q gx Z H1 Q' else tX R' K W q gy Z H1 Q':=by
 obtain⟨k,U,S,res,ok,gk,e,w⟩:=t;refine tX.bd ok gk e w λb S1 x k1 H1 bI g1 r1 e1 w1 _=>?_
 cases r1;cases b with
 |true=>exact uq ⟨k1,U,S1,res,bI,g1,e1,w1⟩
 |false=>exact uo ⟨k1,U,S1,res,bI,g1,e1,w1⟩
def DG{α β:Type}{R:Rp α β}{c:α}{b:β}{Q:β->Hp->Prop}(t:tX R K W q (λ_ S=>some (.ok c S)) Z H Q)(r:∀k H,R k H b c):Q b H:=by
 obtain⟨k,U,S,res,ok,gk,e,w⟩:=t;cases e;exact w.now ok (r k H)
def Kp{c:Bool}{p p' q q':Prop}(h:if c=true then p else q)(h1:p->p')(h2:q->q'):if c=true then p' else q':=by
 cases c with
 |true=>exact h1 h
 |false=>exact h2 h
def Ai(ha:PT X a (tT K W q ft))(hb:PW X (.BoolOp .And (b::rest) pos) (tT K W q fu)):PW X (.BoolOp .And (a::b::rest) pos) (tT K W q (dz ft fu)):=(e1u ha hb).mono λZ H Q t=>
 qd (Hz t) λc H1 z=>Kp z id λz=>DG z λ_ _=>rfl
def DP(ha:PT X a (tT K W q ft))(hb:PW X (.BoolOp .Or (b::rest) pos) (tT K W q fu)):PW X (.BoolOp .Or (a::b::rest) pos) (tT K W q (kZ ft fu)):=(e7w ha hb).mono λZ H Q t=>
 qd (Hz t) λc H1 z=>Kp z (λz=>DG z λ_ _=>rfl) id
def Ac(ha:PE X a (tE K W q f))(hb:PE X (.BoolOp .And (b::rest) pos) (tE K W q g)):PE X (.BoolOp .And (a::b::rest) pos) (tE K W q (t_ f g)):=(e1w ha hb).mono λZ H Q t=>
 qd (SO (Hz t)) λx H1 ⟨c,e,z⟩=>⟨c,e,Kp z id λz=>DG z λ_ _=>ah.flat rfl .nil⟩
def DM{c:Expr}(hc:PT X c (tT K W q ft))(ha:PE X a (tE K W q f))(hb:PE X b (tE K W q g)):PE X (.IfExp c a b pos) (tE K W q (B3 ft f g)):=(W8 hc ha hb).mono λZ H Q t=>Hz t
end
noncomputable def qg(S:aO):Val->ak (D×aO)
 |.d x=>some (x,S)
 |.c n=>(S.s[n]?).bind λc=>match c with
  |.o b=>some (b.d,⟨S.s.set n (.z b),S.r⟩)
  |.z b=>some (b.d,S)
  |.ins _ _=>none
def rN:List Val->aO->ak (List D×aO)
 |[],S=>some ([],S)
 |v::vs,S=>(qg S v).bind λp=>(rN vs p.2).map λq=>(p.1::q.1,q.2)
section
variable{K:PySem.W.Frag}{k:Kn}{H:Hp}{S S':aO}
def G2{v:Val}{d:D}(ok:bY K k H S)(h:cT K k x v)(e:qg S v=some (d,S')):∃k',(∀q,Up q k H k' H)/\bY K k' H S'/\ah K k' [x] [d]:=by
 cases v with
 |d y=>cases e;exact⟨k,λ_=>.refl,ok,h⟩
 |c n=>
  obtain⟨p,rfl,hp⟩:=h;obtain⟨c,h1,e⟩:=cB.mp e;cases c with
  |o b=>
   cases e;obtain⟨F',fI,u,rp⟩:=ok.Lp hp h1;exact⟨_,u,fI,rp⟩
  |z b=>cases e;exact⟨k,λ_=>.refl,ok,(ok.s.at' n p _ hp h1).2⟩
  |ins C fs=>cases e
def G3{xs:List V}(ok:bY K k H S)(h:Paired (cT K k) xs vs)(e:rN vs S=some (ds,S')):∃k',(∀q,Up q k H k' H)/\bY K k' H S'/\ah K k' xs ds:=by
 induction vs generalizing xs ds k S with
 |nil=>cases e;cases h;exact⟨k,λ_=>.refl,ok,.nil⟩
 |cons v vs ih=>
  cases h with
  |cons r t=>
   obtain⟨⟨v1,S1⟩,e1,e⟩:=cB.mp e;obtain⟨⟨vs2,S2⟩,e2,e⟩:=dm.mp e;cases e;obtain⟨k1,u1,bI,r1⟩:=G2 ok r e1;obtain⟨k2,u2,cJ,r2⟩:=ih bI (xJ.up t (u1 0)) e2;exact⟨k2,λb=>(u1 b).trans (u2 b),cJ,.cons (r1.mono (u2 0).le) r2⟩
end
noncomputable def MQ(t:Bool)(p:List D×aO):Rs Rv:=.ok (if t=true then .v (.d (.tup p.1)) else .o (.lst p.1)) p.2
def aZ(t:Bool)(g:GA):GE:=λU S=>bd (g U S) λvs S1=>if vs.length<=1000000 then(rN vs S1).map (MQ t) else none
section
variable{X:Cx}{K:PySem.W.Frag}{W:XW}{q:Nat}{es:List Expr}{fs:GA}{pos:Pos}{Z:St}{H:Hp}
def ml{n:Nat}(h:n<=1000000):n<=sizeLine:=i7 h (by decide)
def RK{t:Bool}{Q:VK}(h:tE K W q (aZ t fs) Z H Q):gq K W q fs Z H λxs H1=>xs.length<=sizeLine/\∀p,H1 p=none->Q (.ref p) (upd H1 p (if t=true then .tup xs else .lst xs)):=by
 obtain⟨k,U,S,res,ok,gk,e,w⟩:=h;refine tX.bd ok gk e w λvs S1 xs k1 H1 bI g1 r1 e1 w1 _=>?_
 split at e1
 .rename_i hl
  refine⟨by rw[Paired.length r1];exact ml hl,λp hp=>?_⟩
  obtain⟨⟨ds,S2⟩,e2,e3⟩:=dm.mp e1;obtain⟨k2,u2,cJ,r2⟩:=G3 bI r1 e2;have w2:=w1.up (u2 q);cases e3;cases t with
  |false=>exact lM.lst (.fin cJ w2) cJ.le r2 hp
  |true=>exact lM.tup (.fin cJ w2) cJ.le r2 hp
 .cases e1
def Ae{x1}(h:PA X es (gq K W q fs)):PE X (.Tuple es x1 pos) (tE K W q (aZ true fs)):=(e2m h).mono λZ H Q t=>RK t
def Ad(h:PA X es (gq K W q fs)):PE X (.List es pos) (tE K W q (aZ false fs)):=(e2n h).mono λZ H Q t=>RK t
end
variable{base:bV}{env:Env}{outer:List Env}{L e C:ag}{dx:ak ag}{n:Nat}{H:Hp}{Q:Unit->au->Prop}
structure fL (fs ch:List ag) (h h':bV):Prop where
 keep:∀b o,b∉fs->b∉ch->h.get? b=some o->h'.get? b=some o
 slot:∀b o,b∈fs->b∉ch->h.get? b=some o->∃sl,h'.get? b=some { o with slots:=sl}
def iw(n:Nat)(h:bV)(H:Hp)(e C:ag)(dx:ak ag):Prop:=n<=e/\H e=none/\∃oe vs,h.get? e=some oe/\oe.cls=.ref C/\oe.dict=dx/\oe.data=.fields vs/\1<vs.size/\
 (vs[1]?=some .none\/∃T oT ts,vs[1]?=some (.ref T)/\n<=T/\H T=none/\T≠e/\h.get? T=some oT/\oT.data=.fields ts/\ts[3]?=some .none)
def V7(f:Array ai->Array ai)(o:Obj):(Obj.mapFields f o).dict=o.dict:=by obtain⟨c,d,dt,sl⟩:=o;cases dt <;> rfl
section
variable{M:Model}{A:cQ}{E:ai->au->Prop}{s:au}
def Qz{oe:Obj}{vs:Array ai}{head:ai}{had:Bool}
  (uh:A.frames=some (env::outer)) (hl:s.heap.FunFrames base (env::outer)) (hf:env.frame=some L) (he:s.heap.get? e=some oe) (hc:oe.cls=.ref C) (hx:oe.dict=dx) (hd:oe.data=.fields vs) (hsz:1<vs.size) (hn:n<=s.heap.objs.size) (fG:n<=e) (vm:H e=none) (hH:∀a,s.heap.objs.size<=a->H a=none)
  (h:∀h',fL (kU (env::outer)) [e] s.heap h'->iw n h' H e C dx->Q () { s with heap:=h'}) :
  wpAny M A (do let a <-frameOf env;let pl <-entryPlaceOf L had;let b <-EntryCells.newEntry head a .none (rawInt L) .none pl;setField (.ref e) 1 b) (λ_ s'=>wpAny M A (setFlight (.ref e) none) Q E s') E s:=by
 have ene:e∉kU (env::outer):=λm=>by
  obtain⟨_,o,ho,LN⟩:=hl.mem m
  simp_all
 refine ay (wpAny_frameOf_fun uh hl hf λh1 so=>ay (wpAny_entryPlaceOf λpl kg=>?_))
 unfold EntryCells.newEntry newFields;refine ay (wpAny_newObj_type ?_ (kg.sizeOk5 _ _ _ _ _));generalize eN:({ cls:=.type "traceback",dict:=none,data:=.fields ([head,.ref L,.none,rawInt L,.none]++(if pl.isEmpty then List.replicate 6 Value.none else pl)).toArray}:Obj)=oN
 have e1:h1.get? e=some oe:=(so.2.1 e ene).trans he;have e2:(h1.push oN).get? e=some oe:=c8 _ e1;have nT:h1.objs.size≠e:=yY (cO e1);have fN:oN.data=.fields ([head,.ref L,.none,rawInt L,.none]++(if pl.isEmpty then List.replicate 6 Value.none else pl)).toArray:=by rw[<-eN]
 have lN:3<([head,.ref L,.none,rawInt L,.none]++(if pl.isEmpty then List.replicate 6 Value.none else pl)).toArray.size:=by simp only[dA,du,ju,Co];lia
 have dE:=Obj.data_mapFields hd (·.setIfInBounds 1 (Value.ref h1.objs.size))
 have e3:=sG (Obj.mapFields (·.setIfInBounds 1 (Value.ref h1.objs.size))) e2 (Obj.isFreed_of_fields dE)
 have t3:((h1.push oN).update e (Obj.mapFields (·.setIfInBounds 1 (Value.ref h1.objs.size)))).get? h1.objs.size=some oN:=(qp _ _ (Ne.symm nT)).trans (jR h1 (Obj.isFreed_of_fields fN))
 have dT:=Obj.data_mapFields fN (·.setIfInBounds 3 ((none:ak ag).elim Value.none λf=>rawInt f))
 refine wpAny_setField e2 hd hsz ?_;unfold setFlight;refine ay (wpAny_field e3 dE (x:=.ref h1.objs.size) (by simp[hsz]) ?_)
 rw[aX (show(Value.ref h1.objs.size != Value.none)=true by simp)]
 refine wpAny_setField t3 fN lN (h _ ⟨λb o hb lS g=>?_,λb o hb lS g=>?_⟩ ⟨fG,vm,_,_,(qp _ _ nT).trans e3,(Obj.cls_mapFields _ _).trans hc,(V7 _ _).trans hx,dE,by simpa using hsz,.inr ⟨h1.objs.size,_,_,by simp[hsz],by rw[so.1];exact hn,hH _ (by rw[so.1];exact bM _),nT,sG _ t3 (Obj.isFreed_of_fields dT),dT,by simp[Array.getElem?_setIfInBounds,lN]⟩⟩)
 .have be:b≠e:=λz=>lS (by simp[z])
  have b1:h1.get? b=some o:=(so.2.1 b hb).trans g;rw[qp _ _ (yY (cO b1)),qp _ _ (Ne.symm be)];exact c8 _ b1
 .have be:b≠e:=λz=>lS (by simp[z])
  obtain⟨sl,b1⟩:=so.2.2 b o g;refine⟨sl,?_⟩;rw[qp _ _ (yY (cO b1)),qp _ _ (Ne.symm be)];exact c8 _ b1
def RL
  (uh:A.frames=some (env::outer)) (hl:s.heap.FunFrames base (env::outer)) (hf:env.frame=some L) (hn:n<=s.heap.objs.size) (hH:∀a,s.heap.objs.size<=a->H a=none) (fl:iw n s.heap H e C dx)
  (h:∀h' ch,(∀b∈ch,n<=b/\H b=none)->fL (kU (env::outer)) ch s.heap h'->iw n h' H e C dx->Q () { s with heap:=h'}):wpAny M A (noteFrame (.ref e) env) (λ_ s'=>wpAny M A (setFlight (.ref e) none) Q E s') E s:=by
 obtain⟨fG,vm,oe,vs,he,hc,hx,hd,hsz,h1⟩:=fl;unfold noteFrame;simp only[hf];rcases h1 with h1|⟨T,oT,ts,h1,H0,HM,HN,hT,D9,h3⟩
 .refine ay (wpAny_field he hd h1 ?_);rw[aM (by decide)]
  exact Qz uh hl hf he hc hx hd hsz hn fG vm hH λh' l f=>h h' [e] (λb m=>by cases lz.1 m;exact⟨fG,vm⟩) l f
 .refine ay (wpAny_field he hd h1 ?_);rw[aX (show(Value.ref T != Value.none)=true by simp)]
  refine ay (wpAny_field hT D9 h3 ?_);rw[aM (show ¬(Value.none == rawInt L)=true by simp[rawInt])]
  refine ay (wpAny_setField hT D9 (Cp.mp h3).1 ?_);have ot:∀b,b≠T->(s.heap.update T (Obj.mapFields (·.setIfInBounds 3 Value.none))).get? b=s.heap.get? b:=λb z=>qp _ _ (Ne.symm z)
  have nr:∀b o,s.heap.get? b=some o->(∀vs,o.data≠.fields vs)->b≠T:=λb o hb LN z=>by
   simp_all
  refine Qz (s:={ s with heap:=s.heap.update T (Obj.mapFields (·.setIfInBounds 3 Value.none))}) uh (hl.of_keeps λb o hb LN=>⟨o,(ot b (nr b o hb LN)).trans hb,rfl⟩) hf ((ot e (Ne.symm HN)).trans he) hc hx hd hsz (by simpa[Heap.size_after_update] using hn) fG vm (λa z=>hH a (by simpa[Heap.size_after_update] using z)) λh' l f=>h h' [e,T] (λb m=>?_) ⟨λb o hb lS g=>?_,λb o hb lS g=>?_⟩ f
  .simp only[y04,y1r,or_false] at m;rcases m with rfl|rfl
   .exact⟨fG,vm⟩
   .exact⟨H0,HM⟩
  .simp only[y04,y1r,or_false,not_or] at lS;exact l.keep b o hb (by simp[lS.1]) ((ot b lS.2).trans g)
  .simp only[y04,y1r,or_false,not_or] at lS;exact l.slot b o hb (by simp[lS.1]) ((ot b lS.2).trans g)
def μ
  (uh:A.frames=some (env::outer)) (hl:s.heap.FunFrames base (env::outer)) (hf:env.frame=some L) (hn:n<=s.heap.objs.size) (hH:∀a,s.heap.objs.size<=a->H a=none) (fl:iw n s.heap H e C dx)
  (h:∀h' ch,(∀b∈ch,n<=b/\H b=none)->fL (kU (env::outer)) ch s.heap h'->iw n h' H e C dx->Q () { s with heap:=h'}):wpAny M A (leaving env (.ref e)) Q E s:=by
 unfold leaving;exact ay (RL uh hl hf hn hH fl h)
end
variable{n:Nat}{h h':bV}{H:Hp}{e C:ag}{dx:ak ag}{X:Cx}{ch:List ag}{x:Str}{k:Kn}{Q:VK}
structure FK (P:de) (w:cC) (outer:List Env) (H:Hp) (s:au) (H':Hp) (s':au) (e C:ag) (dx:ak ag):Prop where
 os:s'.os=s.os
 bare:AllBare s'.gens
 un:Un (kU outer) [] H H' s.heap s'.heap
 bB:jh P w H' s'.heap
 HI:iw s.heap.objs.size s'.heap H' e C dx
def nX(P:de)(w:cC):uW:=λouter H s E e s'=>∃a C dx H',e=.ref a/\FK P w outer H s H' s' a C dx/\E (.ref C) dx H'
def eR(X:Cx)(W:XW):Prop:=∀(aa:List (ag×Obj)) (Z:St) (H:Hp) (s:au) (H':Hp) (s':au) (e C:ag) (dx:ak ag),Inv X aa Z H s->FK X.prog X.w X.stack H s H' s' e C dx->W C dx Z H'->X.xe (.ref e) s'
def iw.mono{n':Nat}(f:iw n h H e C dx)(l:n'<=n):iw n' h H e C dx:=by
 obtain⟨a,b,oe,vs,c1,c2,c3,c4,c5,c6⟩:=f;refine⟨i7 l a,b,oe,vs,c1,c2,c3,c4,c5,?_⟩;rcases c6 with c6|⟨T,oT,ts,d1,d2,d3⟩
 .exact .inl c6
 .exact .inr ⟨T,oT,ts,d1,i7 l d2,d3⟩
def iw.lt(f:iw n h H e C dx):n<=h.objs.size:=by
 obtain⟨a,b,oe,vs,c1,_⟩:=f;exact IB (Ny a (cO c1))
def FK.inv{aa:List (ag×Obj)}{Z:St}{H':Hp}{s s':au}(c:FK X.prog X.w X.stack H s H' s' e C dx)(I:Inv X aa Z H s):Inv X aa Z H' s':=
 I.x8 (ch:=[]) c.os c.un c.bB c.bare λ_ z=>nomatch z
def fL.bB{P:de}{w:cC}{fs:List ag}(l:fL fs ch h h')(k:jh P w H h)(hf:∀b∈fs,H b=none)(hc:∀b∈ch,H b=none):jh P w H h':=λb o q=>
 (k b o q).jt (λc u z g=>l.keep c u (λm=>by
  simp_all) (λm=>by
  simp_all) g) (λ_ z=>z) λ_ _ z=>z
def fL.any{fs:List ag}(l:fL fs ch h h'){b:ag}{o:Obj}(g:h.get? b=some o)(hc:b∉ch):∃sl,h'.get? b=some { o with slots:=sl}:=by
 by_cases m:b∈fs
 .exact l.slot b o m hc g
 .exact⟨o.slots,l.keep b o m hc g⟩
def WF(E:XK):XW:=λC dx _ H'=>E (.ref C) dx H'
section
variable{P:de}{w:cC}{K:PySem.W.Frag}{mg:Str->ak ai}{base:bV}{N:List Str}{qual:Str}{scope:Scope}{f:ag}{cd:ai}{A:cQ}{outer:List Env}{s₀:au}{H₀:Hp}{E:XK}
def wQ:eR (nj (nX P w) P w K mg base N qual scope f cd A outer s₀ H₀ E) (WF E):=by
 intro aa Z H s H' s' e C dx I c q;have I':=c.inv I;have uh:(A.deeper (envOfC qual scope s₀.heap.objs.size f cd)).frames=some (envOfC qual scope s₀.heap.objs.size f cd::outer):=I.ok.frames;have sz:s₀.heap.objs.size<=s.heap.objs.size:=I.sz;refine μ (base:=base) (L:=s₀.heap.objs.size) uh I'.stack rfl c.HI.lt (λa z=>I'.bB.fresh z) c.HI λh' ch lE lx fl=>⟨e,C,dx,H',rfl,⟨I'.os,I'.bare,?_,lx.bB I'.bB I'.kq λb m=>(lE b m).2,fl.mono sz⟩,q⟩
 have wJ:∀b o,s₀.heap.get? b=some o->b∉ch:=λb o g m=>b_ (fX (cO g) (i7 sz (lE b m).1)) (j9 _)
 have nL:∀b o,s₀.heap.get? b=some o->b∉kU outer->b∉kU (envOfC qual scope s₀.heap.objs.size f cd::outer):=λb o g z m=>by
  rcases y04.mp (show b∈s₀.heap.objs.size::kU outer from m) with m|m
  .exact b_ (m ▸ cO g) (j9 _)
  .exact z m
 have B:Un (kU outer) [] H₀ H' s₀.heap s'.heap:=I'.base;refine⟨λb o g n hb hx=>lx.keep b o (nL b o g hb) (wJ b o g) (B.keep b o g n hb hx),λb o g n hb hx=>?_,B.free,λb o g hx=>?_,B.lX,B.kW,B.lW⟩
 .obtain⟨sl,g1⟩:=B.slot b o g n hb hx;obtain⟨MS,g2⟩:=lx.any g1 (wJ b o g);exact⟨MS,g2⟩
 .obtain⟨o',g1⟩:=B.there b o g hx;obtain⟨sl,g2⟩:=lx.any g1 (wJ b o g);exact⟨_,g2⟩
def EO:PassesOwn (model P w) (A.deeper (envOfC qual scope s₀.heap.objs.size f cd)) (envOfC qual scope s₀.heap.objs.size f cd) (nj (nX P w) P w K mg base N qual scope f cd A outer s₀ H₀ E).xe:=PassesOwn.leaving
end
def EW(W:XW):St->XK:=λZ c dx H'=>∃C,c=.ref C/\W C dx Z H'
def qT{W:XW}(h:eR X W):zP (nX X.prog X.w) X (EW W):=λaa Z H s e s' I ⟨a,C,dx,H',he,c,C',hc,q⟩=>by
 cases hc;subst he;exact h aa Z H s H' s' a C dx I c q
abbrev GM:=List Val->aO->ak (Rs Rv)
def uY(K:PySem.W.Frag)(q n:Nat)(m:GM):Sp:=λxs H Q E=>xs.length=n/\∃k vs S res,bY K k H S/\Paired (cT K k) xs vs/\m vs S=some res/\f_ (RE K) K (WF E) q [] k H Q res
def jw(m:GM)(n:Nat):Prop:=∀vs S res,m vs S=some res->vs.length=n
def ar(m:GM)(g:GA):GE:=λU S=>bd (g U S) m
noncomputable def Rv.ref:Rv->ak Nat
 |.v (.d (.ref n))=>some n
 |_=>none
def Cell.kh(C:ag)(m:Str):Cell->Bool
 |.ins C' fs=>C' == C&&(fs.lookup m).isNone
 |_=>false
noncomputable def aN(C:ag)(x:Str)(m:GM)(f:GE)(g:GA):GE:=λU S=>bd (f U S) λr S1=>r.ref.bind λn=>if(S1.r[n]?).any (Cell.kh C x)=true then bd (g U S1) λvs S2=>m (.d (.ref n)::vs) S2 else none
noncomputable def Rv.yB:Rv->Bool
 |.v (.d .aI)=>true
 |_=>false
noncomputable def ua(C:ag)(m:GM)(g:GA):GE:=λU S=>bd (g U S) λvs S1=>bd (m (.d (.ref S1.r.length)::vs) ⟨S1.s,S1.r++[.ins C []]⟩) λr S2=>if r.yB=true then some (.ok (.v (.d (.ref S1.r.length))) S2) else none
def any_some{α:Type}{x:ak α}{p:α->Bool}(h:x.any p=true):∃c,x=some c/\p c=true:=by
 cases x with
 |none=>cases h
 |some c=>exact⟨c,rfl,h⟩
def Rv.nJ{r:Rv}(h:r.ref=some n):r=.v (.d (.ref n)):=by
 unfold Rv.ref at h;split at h
 .cases h;rfl
 .cases h
def V8{fs:List (Str×D)}{gs:List (Str×V)}(h:gs.map (·.1)=fs.map (·.1))(e:fs.lookup x=none):gs.lookup x=none:=by
 induction fs generalizing gs with
 |nil=>cases gs with
  |nil=>rfl
  |cons _ _=>cases h
 |cons p fs ih=>
  obtain⟨y,d⟩:=p;cases gs with
  |nil=>cases h
  |cons r gs=>
   obtain⟨z,v⟩:=r;obtain⟨h1,h2⟩:=List.cons.inj (show z::gs.map (·.1)=y::fs.map (·.1) from h)
   subst h1;rw[r_] at e ⊢;split at e
   .cases e
   .exact ih h2 e
section
variable{X:Cx}{K:PySem.W.Frag}{W:XW}{Z:St}{H:Hp}{q n:Nat}{m:GM}{g:GA}{f:GE}
def f_.wf{res:Rs Rv}(w:f_ (RE K) K W q Z k H Q res):f_ (RE K) K (WF (EW W Z)) q [] k H Q res:=by
 cases res with
 |ok a S=>exact w
 |ex C l S=>exact λdx k' H' u k r=>⟨C,rfl,w dx k' H' u k r⟩
def ν(hm:jw m n)(t:tE K W q (ar m g) Z H Q):gq K W q g Z H λxs H1=>uY K q n m (xs++[]) H1 Q (EW W Z):=by
 obtain⟨k,U,S,res,ok,gk,e,w⟩:=t;refine tX.bd ok gk e w λvs S1 xs k1 H1 bI g1 r1 e1 w1 _=>?_
 rw[lY];exact⟨(Paired.length r1).trans (hm _ _ _ e1),k1,vs,S1,res,bI,r1,e1,w1.wf⟩
def Dt{S:aO}{fs:List (Str×D)}{x:V}(ok:bY K k H S)(r:ah K k [x] [.ref n])(hn:S.r[n]?=some (.ins C fs)):∃a dx gs,x=.ref a/\k.A[n]?=some a/\k.F a=none/\H a=some (.ins C dx gs)/\gs.map (·.1)=fs.map (·.1)/\ah K k (gs.map (·.2)) (fs.map (·.2)):=by
 obtain⟨a,rfl,h1⟩:=r.isRef;obtain⟨h0,dx,gs,h2,h3,h4⟩:=ok.r.at' n a _ h1 hn;exact⟨a,dx,gs,rfl,h1,h0,h2,h3,h4⟩
def QA(hm:jw m n)(t:tE K W q (aN C x m f g) Z H Q):uO C x (uY K q n m) [] (EW W) (tE K W q f) (gq K W q g) Z H Q:=by
 obtain⟨k,U,S,res,ok,gk,e,w⟩:=t;refine tX.bd ok gk e w λr S1 y k1 H1 bI g1 r1 e1 w1 _=>?_
 obtain⟨j,e2,e3⟩:=cB.mp e1;clear e1;cases Rv.nJ e2;split at e3
 .rename_i hi
  obtain⟨c,h1,h2⟩:=any_some hi;cases c with
  |ins C' fs=>
   obtain⟨h3,h4⟩:=Cq.mp h2;cases(beq_iff_eq.mp h3);obtain⟨a,dx,gs,q1,q2,q3,q4,q5,q6⟩:=Dt bI r1 h1;refine⟨a,dx,gs,q1,q4,V8 q5 (Option.isNone_iff_eq_none.mp h4),?_⟩;refine tX.bd bI g1 e3 w1 λvs S2 xs k2 H2 cJ g2 r2 e2 w2 u2=>?_
   rw[lY];have r3:Paired (cT K k2) (y::xs) (.d (.ref j)::vs):=.cons (cT.up (v:=.d (.ref j)) r1 u2) r2;exact⟨(Paired.length r3).trans (hm _ _ _ e2),k2,_,S2,res,cJ,r3,e2,w2.wf⟩
  |_=>cases h2
 .cases e3
def ξ(hm:jw m n)(t:tE K W q (ua C m g) Z H Q):yW C (uY K q n m) [] (EW W) (gq K W q g) Z H Q:=by
 obtain⟨k,U,S,res,ok,gk,e,w⟩:=t;refine tX.bd ok gk e w λvs S1 xs k1 H1 bI g1 r1 e1 w1 _=>?_
 intro x dx hx hdx ne;rw[lY];have sm:aw H1 (upd (upd H1 dx (.own x)) x (.ins C dx [])):=(tJ hdx).put (by rw[c_ (Ne.symm ne)];exact hx)
 obtain⟨fx,nx⟩:=bI.fresh hx;have cJ:bY K k1 _ S1:=bI.new (aw.refl _) (λa _ o z=>sm a o z) (bI.le.trans sm) λ_ _ z=>z
 obtain⟨j6,u3⟩:=cJ.yK nx (c:=.ins C []) ⟨fx,dx,[],aJ,rfl,.nil⟩;have h3:ah K ⟨k1.F,k1.A++[x],k1.T⟩ [.ref x] [.ref S1.r.length]:=.ref (by rw[<-bI.r.ln];exact G1) .nil
 have u4:Up q k1 H1 ⟨k1.F,k1.A++[x],k1.T⟩ (upd (upd H1 dx (.own x)) x (.ins C dx [])):=(Up.of (aw.refl _) sm).trans (u3 q);have r3:Paired (cT K ⟨k1.F,k1.A++[x],k1.T⟩) (.ref x::xs) (.d (.ref S1.r.length)::vs):=.cons h3 (xJ.up r1 u4);rcases BR e1 with⟨r,S2,e2,e1⟩|⟨C',l,S2,e2,rfl⟩
 .refine⟨(Paired.length r3).trans (hm _ _ _ e2),_,_,_,_,j6,r3,e2,λv k' H' u fI r'=>?_⟩
  split at e1
  .rename_i hr
   cases e1;unfold Rv.yB at hr;split at hr
   .exact⟨(show ah K k' [v] [.aI] from r').bc rfl,w1 (.ref x) k' H' (u4.trans u) fI (ah.mono u.le h3)⟩
   .cases hr
  .cases e1
 .exact⟨(Paired.length r3).trans (hm _ _ _ e2),_,_,_,_,j6,r3,e2,λex k' H' u fI r'=>⟨C',rfl,w1 ex k' H' (u4.trans u) fI r'⟩⟩
end
end L2
set_option autoImplicit false
namespace L2
open PySem PySem.Spec PyProof.Rows
variable{p i:Nat}{P:St->Hp->Prop}{H:Hp}{Z:St}{ts:uZ}
inductive Fr where
 |nx (U:Gm) (S:aO)|bk (U:Gm) (S:aO)|ct (U:Gm) (S:aO)|rt (r:Rv) (S:aO)|ex (C:ag) (l:ak Int) (U:Gm) (S:aO)
abbrev GS:=Gm->aO->ak Fr
section
variable(K:PySem.W.Frag)(W:XW)(q:Nat){D:Ends}{k k':Kn}{H H':Hp}{Z:St}{U:Gm}{S:aO}{fr:Fr}
def bX(k:Kn)(H:Hp)(P:St->Hp->Prop)(U:Gm)(S:aO):Prop:=∀Z' k' H',Up q k H k' H'->bY K k' H' S->gw K k' Z' U->P Z' H'
def Done(D:Ends)(k:Kn)(H:Hp):Fr->Prop
 |.nx U S=>bX K q k H D.nx U S
 |.bk U S=>bX K q k H D.bk U S
 |.ct U S=>bX K q k H D.ct U S
 |.rt r S=>∀v k' H',Up q k H k' H'->bY K k' H' S->qa K k' H' v r->D.rt v H'
 |.ex C l U S=>∀dx Z' k' H',Up q k H k' H'->bY K k' H' S->gw K k' Z' U->Cu k'.F dx l->W C dx Z' H'
def tS(f:GS):TS:=λD Z H=>∃k U S fr,bY K k H S/\gw K k Z U/\f U S=some fr/\Done K W q D k H fr
variable{K W q}
def J4{q:Nat}{o:HO}(h:p<=q)(e:wH p o=true):wH q o=true:=by
 match p,q with
 |0,_=>cases e
 |1,0=>lia
 |1,1=>exact e
 |1,n+2=>rfl
 |n+2,0=>lia
 |n+2,1=>lia
 |n+2,m+2=>rfl
def Up.weak(u:Up q k H k' H')(h:p<=q):Up p k H k' H':=⟨u.f,u.a,u.t,λa o z e=>u.h a o (J4 h z) e⟩
def bX.up(w:bX K q k H P U S)(u:Up q k H k' H'):bX K q k' H' P U S:=λZ' k2 H2 u2 ok g=>w Z' k2 H2 (u.trans u2) ok g
def bX.now(w:bX K q k H P U S)(ok:bY K k H S)(g:gw K k Z U):P Z H:=w Z k H .refl ok g
theorem Done.up(w:Done K W q D k H fr)(u:Up q k H k' H'):Done K W q D k' H' fr:=by
 cases fr with
 |nx U S=>exact bX.up w u
 |bk U S=>exact bX.up w u
 |ct U S=>exact bX.up w u
 |rt r S=>exact λv k2 H2 u2 k r=>w v k2 H2 (u.trans u2) k r
 |ex C l U S=>exact λdx Z' k2 H2 u2 k g r=>w dx Z' k2 H2 (u.trans u2) k g r
theorem Done.weak{p:Nat}(w:Done K W q D k H fr)(h:q<=p):Done K W p D k H fr:=by
 cases fr with
 |nx U S=>exact λZ' k2 H2 u=>w Z' k2 H2 (u.weak h)
 |bk U S=>exact λZ' k2 H2 u=>w Z' k2 H2 (u.weak h)
 |ct U S=>exact λZ' k2 H2 u=>w Z' k2 H2 (u.weak h)
 |rt r S=>exact λv k2 H2 u=>w v k2 H2 (u.weak h)
 |ex C l U S=>exact λdx Z' k2 H2 u=>w dx Z' k2 H2 (u.weak h)
def lC{α:Type}(U:Gm)(x:ak (Rs α))(f:α->aO->ak Fr):ak Fr:=match x with
 |none=>none
 |some (.ok a S)=>f a S
 |some (.ex C l S)=>some (.ex C l U S)
def tS.DD{α β:Type}{R:Rp α β}{g:Gx α}{f:α->aO->ak Fr}{Q:β->Hp->Prop}(ok:bY K k H S)(gk:gw K k Z U)(e:lC U (g U S) f=some fr)(w:Done K W q D k H fr)
  (h:∀a S1 b k1 H1,bY K k1 H1 S1->gw K k1 Z U->R k1 H1 b a->f a S1=some fr->Done K W q D k1 H1 fr->Up q k H k1 H1->Q b H1):tX R K W q g Z H Q:=by
 unfold lC at e;split at e
 .cases e
 .rename_i a S1 e1
  exact⟨k,U,S,_,ok,gk,e1,λb k' H' u fI r=>h a S1 b k' H' fI (gk.up u) r e (w.up u) u⟩
 .rename_i C l S1 e1
  cases e;exact⟨k,U,S,_,ok,gk,e1,λdx k' H' u fI r=>w dx Z k' H' u fI (gk.up u) r⟩
def tS.bd{α β:Type}{R:Rp α β}{g:Gx α}{f:α->aO->ak Fr}{Q:β->Hp->Prop}(ok:bY K k H S)(gk:gw K k Z U)(e:lC U (g U S) f=some fr)(w:Done K W q D k H fr)
  (h:∀a S1 b k1 H1,bY K k1 H1 S1->gw K k1 Z U->R k1 H1 b a->f a S1=some fr->Done K W q D k1 H1 fr->Q b H1):tX R K W q g Z H Q:=tS.DD ok gk e w λa S1 b k1 H1 h1 h2 h3 h4 h5 _=>h a S1 b k1 H1 h1 h2 h3 h4 h5
end
def pj:GS:=λU S=>some (.nx U S)
noncomputable def dR(f g:GS):GS:=λU S=>(f U S).bind λr=>match r with
 |.nx U S=>g U S
 |r=>some r
def aG(g:GE):GS:=λU S=>lC U (g U S) λr S1=>some (.rt r S1)
noncomputable def gj(c:GT)(f g:GS):GS:=λU S=>lC U (c U S) λb S1=>if b=true then f U S1 else g U S1
def cW(g:GE):GS:=λU S=>lC U (g U S) λ_ S1=>some (.nx U S1)
def asg(mu:Bool)(S:aO):Rv->Val×aO
 |.o c=>if mu=true then(.c S.s.length,⟨S.s++[.o c],S.r⟩) else(.d c.d,S)
 |.v x=>(x,S)
def av(i:Nat)(mu:Bool)(g:GE):GS:=λU S=>lC U (g U S) λr S1=>if i<U.length then some (.nx (U.set i (some (asg mu S1 r).1)) (asg mu S1 r).2) else none
section
variable{X:Cx}{K:PySem.W.Frag}{W:XW}{q:Nat}{st:Stmt}{rest sa sb:List Stmt}{e c:Expr}{f g:GS}{nq:GE}{ft:GT}{pos:Pos}
def Af:ji X [] (tS K W q pj):=qU.mono λD Z H t=>by
 obtain⟨k,U,S,fr,ok,gk,e,w⟩:=t;cases e;exact bX.now w ok gk
def wc(h1:PS X st (tS K W q f))(h2:ji X rest (tS K W q g)):ji X (st::rest) (tS K W q (dR f g)):=(W9 h1 h2).mono λD Z H t=>by
 obtain⟨k,U,S,fr,ok,gk,e,w⟩:=t;obtain⟨r,e1,e⟩:=cB.mp e;refine⟨k,U,S,r,ok,gk,e1,?_⟩;cases r with
 |nx U1 S1=>exact λZ' k' H' u fI g'=>⟨k',U1,S1,fr,fI,g',e,w.up u⟩
 |bk U1 S1=>cases e;exact w
 |ct U1 S1=>cases e;exact w
 |rt r S1=>cases e;exact w
 |ex C l U1 S1=>cases e;exact w
def Ag(h:PE X e (tE K W q nq)):PS X (.Return (some e) pos) (tS K W q (aG nq)):=(e1x h).mono λD Z H t=>by
 obtain⟨k,U,S,fr,ok,gk,e,w⟩:=t;refine tS.bd ok gk e w λr S1 v k1 H1 bI g1 r1 e1 w1=>?_
 cases e1;exact w1 v k1 H1 .refl bI r1
def DN(hc:PT X c (tT K W q ft))(ha:ji X sa (tS K W q f))(hb:ji X sb (tS K W q g)):PS X (.If c sa sb pos) (tS K W q (gj ft f g)):=(e7x hc ha hb).mono λD Z H t=>by
 obtain⟨k,U,S,fr,ok,gk,e,w⟩:=t;refine tS.bd ok gk e w λb S1 v k1 H1 bI g1 r1 e1 w1=>?_
 cases r1;cases b with
 |true=>exact uq ⟨k1,U,S1,fr,bI,g1,e1,w1⟩
 |false=>exact uo ⟨k1,U,S1,fr,bI,g1,e1,w1⟩
def ο(he:PE X e (tE K W q nq))(hs:swapsWith e none pos.line X.env=pure false):PS X (.Expr e pos) (tS K W q (cW nq)):=(ZR he hs).mono λD Z H t=>by
 obtain⟨k,U,S,fr,ok,gk,e,w⟩:=t;refine tS.bd ok gk e w λr S1 v k1 H1 bI g1 r1 e1 w1=>?_
 cases e1;exact bX.now w1 bI g1
def e2y{mu:Bool}{k:Kn}{S:aO}{x:V}{r:Rv}(ok:bY K k H S)(h:qa K k H x r):∃k',(∀q,Up q k H k' H)/\bY K k' H (asg mu S r).2/\cT K k' x (asg mu S r).1:=by
 cases r with
 |v y=>exact sv ok h
 |o c=>
  cases mu with
  |false=>exact sv (r:=.o c) ok h
  |true=>
   obtain⟨p,rfl,hF,hi,hc⟩:=h;obtain⟨bI,u⟩:=ok.pushS hF hi hc;exact⟨_,u,bI,p,rfl,by rw[<-ok.s.ln];exact G1⟩
def gw.set{k:Kn}{Z:St}{U:Gm}{i:Nat}{x:V}{v:Val}(g:gw K k Z U)(r:cT K k x v)(hi:i<U.length):gw K k (Z.set i (some x)) (U.set i (some v)):=by
 refine⟨by rw[nW,nW,g.ln],λj w e=>?_⟩
 by_cases z:i=j
 .subst z;rw[xA hi] at e;cases e;exact⟨x,xA (g.ln ▸ hi),r⟩
 .rw[Cm z] at e ⊢;exact g.at' j w e
def RM{mu:Bool}{D:Ends}(t:tS K W q (av i mu nq) D Z H):tE K W q nq Z H λv H1=>D.nx (Z.set i (some v)) H1:=by
 obtain⟨k,U,S,fr,ok,gk,e,w⟩:=t;refine tS.bd ok gk e w λr S1 v k1 H1 bI g1 r1 e1 w1=>?_
 split at e1
 .cases e1;obtain⟨k2,u,cJ,r2⟩:=e2y (mu:=mu) bI r1;exact bX.now (bX.up w1 (u q)) cJ ((g1.up (u q)).set r2 (by assumption))
 .cases e1
def e2z{mu:Bool}{x:Str}{pos':Pos}(hN:X.N.Nodup)(hi:X.N[i]?=some x)(hx:Loc X.env.scope x)(he:PE X e (tE K W q nq))(hs:swapsWith e (some (.Name x pos')) pos.line X.env=pure false)(hf:X.fn x=true\/X.env.scope.names.lookup x=some .local):
  PS X (.Assign [.Name x pos'] e pos) (tS K W q (av i mu nq)):=(e2b hN hi hx he hs hf).mono λD Z H t=>RM t
def cS(c:GT)(f:GS):Nat->GS
 |0=>λ_ _=>none
 |n+1=>λU S=>lC U (c U S) λb S1=>if b=true then(f U S1).bind λr=>match r with
   |.nx U2 S2=>cS c f n U2 S2
   |.ct U2 S2=>cS c f n U2 S2
   |.bk U2 S2=>some (.nx U2 S2)
   |r=>some r
  else some (.nx U S1)
def tY(n:Nat)(hp:PassesOwn (model X.prog X.w) X.A X.env X.xe)(hc:PT X c (tT K W q ft))(hb:ji X sa (tS K W q f)):PS X (.While c sa [] pos) (tS K W q (cS ft f n)):=(W_ hp hc hb).mono λD Z H t=>by
 obtain⟨k,U,S,fr,ok,gk,e,w⟩:=t;refine⟨λn Z H=>∃k U S,bY K k H S/\gw K k Z U/\cS ft f n U S=some fr/\Done K W q D k H fr,⟨n,k,U,S,ok,gk,e,w⟩,?_⟩
 clear ok gk e w;rintro n Z H ⟨k,U,S,ok,gk,e,w⟩;cases n with
 |zero=>cases e
 |succ n=>
  refine tS.bd ok gk e w λb S1 v k1 H1 bI g1 r1 e1 w1=>?_
  cases r1;cases b with
  |false=>cases e1;exact uo (bX.now w1 bI g1)
  |true=>
   refine uq ⟨λZ' H'=>∃k U S,bY K k H' S/\gw K k Z' U/\cS ft f n U S=some fr/\Done K W q D k H' fr,λZ' H' h=>⟨n,xD _,h⟩,?_⟩
   obtain⟨r,e2,e3⟩:=cB.mp (show((f U S1).bind _)=some fr from e1);refine⟨k1,U,S1,r,bI,g1,e2,?_⟩;cases r with
   |nx U2 S2=>exact λZ' k' H' u fI g'=>⟨k',U2,S2,fI,g',e3,w1.up u⟩
   |ct U2 S2=>exact λZ' k' H' u fI g'=>⟨k',U2,S2,fI,g',e3,w1.up u⟩
   |bk U2 S2=>cases e3;exact w1
   |rt r S2=>cases e3;exact w1
   |ex C l U2 S2=>cases e3;exact w1
end
abbrev GG:=D->Gm->ak Gm
variable{gs:List GG}
noncomputable def af(i:Nat):GG:=λd U=>if i<U.length then some (U.set i (some (.d d))) else none
noncomputable def qL:List GG->List D->Gm->ak Gm
 |[],[],U=>some U
 |g::gs,d::ds,U=>(g d U).bind λU1=>qL gs ds U1
 |_,_,_=>none
def bF(gs:List GG):GG:=λd U=>match d with
 |.tup ds=>qL gs ds U
 |_=>none
section
variable{K:PySem.W.Frag}
def kz(K:PySem.W.Frag)(t:TG)(g:GG):Prop:=
 ∀(k:Kn) (H:Hp) (Z:St) (U U1:Gm) (x:V) (d:D) (Q:St->Hp->Prop),aw k.F H->gw K k Z U->ah K k [x] [d]->g d U=some U1->(∀Z',gw K k Z' U1->Q Z' H)->t x Z H Q
def qw(K:PySem.W.Frag)(t:uZ)(gs:List GG):Prop:=
 ∀(k:Kn) (H:Hp) (Z:St) (U U1:Gm) (xs:List V) (ds:List D) (Q:St->Hp->Prop),aw k.F H->gw K k Z U->ah K k xs ds->qL gs ds U=some U1->(∀Z',gw K k Z' U1->Q Z' H)->t xs Z H Q
def xa:kz K (qJ i) (af i):=by
 intro k H Z U U1 x v Q le gk r e w;unfold af at e;split at e
 .cases e;exact w _ (gk.set (v:=.d v) r (by assumption))
 .cases e
def xh:qw K DU []:=by
 intro k H Z U U1 xs vs Q le gk r e w;cases vs with
 |nil=>cases e;exact⟨r.fW,w Z gk⟩
 |cons _ _=>cases e
def uQ{t:TG}{g:GG}(h1:kz K t g)(h2:qw K ts gs):qw K (ym t ts) (g::gs):=by
 intro k H Z U U1 xs vs Q le gk r e w;cases vs with
 |nil=>cases e
 |cons d ds=>
  obtain⟨U2,e1,e2⟩:=cB.mp e;obtain⟨x,xs,rfl,r1,r2⟩:=r.cg;exact⟨_,_,rfl,h1 k H Z U U2 _ _ _ le gk r1 e1 λZ1 g1=>h2 k H Z1 U2 U1 _ _ Q le g1 r2 e2 w⟩
def V9:∀{gs:List GG} {vs:List D} {U U1:Gm},qL gs vs U=some U1->vs.length=gs.length:=by
 intro gs
 induction gs with
 |nil=>intro vs U U1 e;cases vs with
  |nil=>rfl
  |cons _ _=>cases e
 |cons g gs ih=>intro vs U U1 e;cases vs with
  |nil=>cases e
  |cons v vs=>obtain⟨U2,_,e2⟩:=cB.mp e;exact congrArg (·+1) (ih e2)
def A9{n:Nat}(h:qw K ts gs)(hn:n=gs.length):kz K (Ak K n ts) (bF gs):=by
 intro k H Z U U1 x d Q le gk r e w;cases d with
 |tup es=>
  obtain⟨a,ws,rfl,sq,rp⟩:=r.isTup;exact⟨a,ws,rfl,le.A4 sq,by rw[hn,<-V9 e,rp.length],h k H Z U U1 _ _ Q le gk rp e w⟩
 |_=>cases e
end
def gD(g:GE):Gx D:=λU S=>bd (g U S) λr S1=>(qg S1 (nP r)).map λp=>.ok p.1 p.2
abbrev RD(K:PySem.W.Frag):Rp D V:=λk _ x d=>ah K k [x] [d]
section
variable{X:Cx}{K:PySem.W.Frag}{W:XW}{q:Nat}{g:GE}{gg:GG}{t:TG}{e tg:Expr}{pos:Pos}
def Nb{Q:VK}(t:tX (RD K) K W q (gD g) Z H Q):tE K W q g Z H Q:=by
 obtain⟨k,U,S,res,ok,gk,e,w⟩:=t;refine tX.bd ok gk e w λr S1 x k1 H1 bI g1 r1 e1 w1 _=>?_
 obtain⟨p,e2,rfl⟩:=dm.mp e1;obtain⟨k2,u2,cJ,r2⟩:=sv bI r1;obtain⟨k3,u3,j6,r3⟩:=G2 cJ r2 e2;exact((w1.up (u2 q)).up (u3 q)).now j6 r3
end
variable{N:List Str}{n p:Nat}{m:GS}
def aO.cut(S:aO)(b:Nat):aO:=⟨S.s.take b,S.r⟩
def DC:Cell->ak Rv
 |.o x=>some (.o x)
 |.z x=>some (.v (.d x.d))
 |_=>none
def back(b:Nat)(S:aO):Rv->ak Rv
 |.v (.c n)=>if n<b then some (.v (.c n)) else(S.s[n]?).bind DC
 |r=>some r
def leave(b:Nat):Fr->ak (Rs Rv)
 |.nx _ S=>some (.ok (.v (.d .aI)) (S.cut b))
 |.rt r S=>(back b S r).map λr'=>.ok r' (S.cut b)
 |.ex C l _ S=>some (.ex C l (S.cut b))
 |_=>none
def runM(p n:Nat)(m:GS):GM:=λvs S=>if vs.length=p then(m (vs.map some++List.replicate (n - vs.length) none) S).bind (leave S.s.length) else none
section
variable{K:PySem.W.Frag}{k k':Kn}{H H':Hp}{S:aO}{q b:Nat}
def π{v:V}{r r':Rv}(ok:bY K k H S)(h:qa K k H v r)(e:back b S r=some r'):qa K ⟨k.F,k.A,k.T.take b⟩ H v r':=by
 have go:k.le ⟨k.F,k.A,k.T.take b⟩:=⟨aw.refl _,lZ _⟩;cases r with
 |o c=>
  cases e;obtain⟨a,e1,e2,e3,e4⟩:=h;exact⟨a,e1,e2,λm=>e3 ((dr.mp m).elim (FF _) λm=>pQ _ (List.mem_of_mem_take m)),e4.keep go λ_ z=>z⟩
 |v x=>
  cases x with
  |d y=>cases e;exact ah.mono go h
  |c n=>
   obtain⟨a,e1,e2⟩:=h;unfold back at e;dsimp only at e;split at e
   .rename_i hn
    cases e;exact⟨a,e1,by rw[List.getElem?_take,aX hn];exact e2⟩
   .rename_i hn
    obtain⟨c,h1,h2⟩:=cB.mp e;have h3:=ok.s.at' n a c e2 h1;cases c with
    |ins _ _=>cases h2
    |z x=>cases h2;rw[e1];exact ah.mono go h3.2
    |o x=>
     cases h2;obtain⟨n1,n2,n3⟩:=jS.mp ok.nd;refine⟨a,e1,h3.1,λm=>?_,h3.2.keep go λ_ z=>z⟩
     rcases dr.mp m with m|m
     .exact n3 a m a (uS e2) rfl
     .obtain⟨j,hj⟩:=Bb.mp m;rw[List.getElem?_take] at hj;split at hj
      .rename_i HW
       have:=Py n2 hj e2;lia
      .cases hj
def V_{xs:List V}{vs:List Val}(h:Paired (cT K k) xs vs)(hn:N.length=n):gw K k (start N xs) (vs.map some++List.replicate (n - vs.length) none):=by
 have hl:=Paired.length h;refine⟨by unfold start;simp[hl,hn],λi v e=>?_⟩
 by_cases hi:i<vs.length
 .rw[xF (by rw[bh];exact hi),gY] at e
  obtain⟨w,e1,e2⟩:=dm.mp e;cases e2;obtain⟨x,h1,h2⟩:=Gq i h e1;refine⟨x,?_,h2⟩;unfold start;rw[xF (by rw[bh,hl];exact hi),gY,h1]
  rfl
 .rw[vA (by rw[bh];lia),Nv] at e
  split at e <;> cases e
end
section
variable{P:de}{w:cC}{K:PySem.W.Frag}{mg:Str->ak ai}{base:bV}
def e3a{x qual:Str}{st:Stmt}{f:ag}{fd:bR}{ps:List Str}{k q:Nat}(F:Fun K x qual st f fd)(S:iy N ps (sj st))(hp:ps.length=p)(hn:N.length=n)
  (ue:∀(gf:ai) (A:cQ) (outer:List Env) (s:au) (H:Hp) (E:XK),cw k (A.deeper (envOfC qual (sj st) s.heap.objs.size f gf))->ji (nj (nX P w) P w K mg base N qual (sj st) f gf A outer s H E) (zE st) (tS K (WF E) q m)) :
  dD P w K mg base (nX P w) (k+1) f fd ps (uY K q p (runM p n m)):=by
 obtain⟨oc,od,kV,doc,pm,an,gf,ct,vy,rfl,lk,rP⟩:=F.ex;refine e8b lk rP S (λvs H Q E h=>h.1.trans hp.symm) λA outer s H xs Q E hr yr=>⟨_,ue gf A outer s H E hr,?_⟩
 obtain⟨hl,k,vs,S,res,ok,rp,e,w⟩:=yr;unfold runM at e;split at e
 .obtain⟨fr,e1,e2⟩:=cB.mp e;refine⟨k,_,S,fr,ok,V_ rp hn,e1,?_⟩;have lb:k.T.length<=S.s.length:=FH ok.s.ln;cases fr with
  |nx U S'=>
   cases e2;exact λZ' k' H' u fI g'=>w .aI _ H' (u.take lb) (fI.take _) (show ah K _ [.aI] [.aI] from .flat rfl .nil)
  |bk U S'=>cases e2
  |ct U S'=>cases e2
  |rt r S'=>
   obtain⟨r',e3,rfl⟩:=dm.mp e2;exact λv k' H' u fI r1=>w v _ H' (u.take lb) (fI.take _) (π fI r1 e3)
  |ex C l U S'=>
   cases e2;exact λdx Z' k' H' u fI g' el=>w dx _ H' (u.take lb) (fI.take _) el
 .cases e
def r6:jw (runM p n m) p:=λvs S res e=>by
 unfold runM at e;split at e
 .assumption
 .cases e
end
section
variable{prog:de}{w:cC}{A:cQ}{E:ai->au->Prop}{h:bV}{g:Array GenState}{d:Drawn}{t:Nat}{os:OsState}
variable{nm q:Str}{C N:ag}{bs bm zX:List ai}{hdct:Bool}{sn:List Str}{sub:List ai}{ab:Bool}{col:ak Bool}{dd:ak ag}{k0 k1 k2 k3 k5:ak ai}{B Bn newId TC nz Tp:String}{P_:List ai}
def Fs(Fn:ExcBaseFacts Bn newId Tp P_)(HL:zX.contains (.type Bn)=true)(F:ExcBaseFacts B TC nz zX)(T:OwnTail h zX bm){mN:Str->ak ai}{rest:List ai}{Q:Fin->au->Prop}
  (hC:h.get? C=some (excClassObj nm q C N bs bm hdct sn sub ab col dd k0 k1 k2 k3 k5 newId)) (hn:h.Ns N mN) (uj:rest.length<=sizeLine)
  (hq:∀i,i=(mN "__init__").getD (.builtin nz)->wpAny (model prog w) A (bindSpecial i (.ref (h.objs.size+1))) (λp s'=>wpAny (model prog w) A (call p.1 (p.2++rest)) (λr uL=>r=.none/\Q (.done (.ret (.ref (h.objs.size+1)))) uL) E s') E ⟨((h.push { cls:=.type "tuple",data:=.seq rest.toArray}).push { cls:=.ref C,data:=.fields #[.ref h.objs.size,.none,.none,.none,.bool false,.none]}),g,d,t,os⟩) :
  wpAny (model prog w) A (Builtin.«type.__call__» ⟨.ref C::rest,[]⟩) Q E ⟨h,g,d,t,os⟩:=by
 repeat (first|with_reducible refine wpAny_loadPart_at hC ?_|with_reducible refine wpAny_madeBy_exc hC ?_|wp_step)
 refine codeAny_call_builtin_code (Code.quiet_builtin _ Fn.quiet) (wpAny_check_new_subU Fn HL T hC (codeAny_exc_new_subU Fn HL F T hC ?_ uj));show wpAny _ _ _ _ _ _;have st:∀b o,h.get? b=some o->((h.push { cls:=.type "tuple",data:=.seq rest.toArray}).push { cls:=.ref C,data:=.fields #[.ref h.objs.size,.none,.none,.none,.bool false,.none]}).get? b=some o:=λb o e=>c8 _ (c8 _ e)
 have hC₁:=st _ _ hC;have An:((h.push { cls:=.type "tuple",data:=.seq rest.toArray}).push { cls:=.ref C,data:=.fields #[.ref h.objs.size,.none,.none,.none,.bool false,.none]}).get? (h.objs.size+1)=some { cls:=.ref C,data:=.fields #[.ref h.objs.size,.none,.none,.none,.bool false,.none]}:=by heap_get
 have hcC:(Value.ref C::bm).contains (.ref C)=true:=by simp
 unfold isInstance
 repeat (first|with_reducible refine wpAny_loadPart_at An ?_|(with_reducible refine wpAny_isSubtype_exc hC₁ ?_;rw[hcC])|wp_step)
 show wpAny _ _ (typeLookup (.ref C) _) _ _ _;refine wpAny_typeLookup_tail hC₁ (hn.keeps st) (T.keeps st) F.mroIs F.init.lookup ?_;cases hv:mN "__init__" with
 |none=>
  refine lH (ay (wpAny_mono (hq _ (by rw[hv];rfl)) (λp s' z=>ay (wpAny_mono z (λr uL y=>?_) λ_ _ y=>y)) λ_ _ y=>y))
  obtain⟨rfl,y⟩:=y
  wp_walk
  exact y
 |some v=>
  refine lH (ay (wpAny_mono (hq _ (by rw[hv];rfl)) (λp s' z=>ay (wpAny_mono z (λr uL y=>?_) λ_ _ y=>y)) λ_ _ y=>y))
  obtain⟨rfl,y⟩:=y
  wp_walk
  exact y
def Xs(Fn:ExcBaseFacts Bn newId Tp P_)(HL:zX.contains (.type Bn)=true)(F:ExcBaseFacts B TC nz zX)(T:OwnTail h zX bm){mN:Str->ak ai}{rest:List ai}{Q:ai->au->Prop}
  (hC:h.get? C=some (excClassObj nm q C N bs bm hdct sn sub ab col dd k0 k1 k2 k3 k5 newId)) (hn:h.Ns N mN) (uj:rest.length<=sizeLine)
  (hq:∀i,i=(mN "__init__").getD (.builtin nz)->wpAny (model prog w) (A.under (.builtin "type.__call__" ⟨.ref C::rest,[]⟩)) (bindSpecial i (.ref (h.objs.size+1))) (λp s'=>wpAny (model prog w) (A.under (.builtin "type.__call__" ⟨.ref C::rest,[]⟩)) (call p.1 (p.2++rest)) (λr uL=>r=.none/\Q (.ref (h.objs.size+1)) uL) E s') E ⟨((h.push { cls:=.type "tuple",data:=.seq rest.toArray}).push { cls:=.ref C,data:=.fields #[.ref h.objs.size,.none,.none,.none,.bool false,.none]}),g,d,t,os⟩) :
  wpAny (model prog w) A (call (.ref C) rest) Q E ⟨h,g,d,t,os⟩:=by
 have f1:=tc_lookup;have f2:=tc_bind (.ref C);have hT:(⟨h,g,d,t,os⟩:au).TypeIs (.ref C) "type":=⟨_,hC,rfl⟩;refine wpAny_call (codeAny_of_tree (show wpAny _ _ (callAny (.ref C) _) _ _ _ from ?_))
 repeat (any_goals (first|assumption|with_reducible refine wpAny_loadPart_at hC ?_|wp_step))
 exact⟨rfl,codeAny_call_builtin_at (Code.quiet_builtin _ (by decide +kernel)) entry_typeCall (wpAny_check_type_call_sub hC (Fs Fn HL F T hC hn uj λi e=>hq i e))⟩
end
end L2
namespace L2
open PySem PySem.Spec PySem.W PySem.Calls PyProof.Rows
noncomputable def t5(C t:ag)(d:ak ag):Obj:={ cls:=.ref C,dict:=d,data:=.fields #[.ref t,.none,.none,.none,.bool false,.none]}
section
variable{prog:de}{w:cC}{A:cQ}{E:ai->au->Prop}{h:bV}{g:Array GenState}{d:Drawn}{tt:Nat}{os:OsState}{x t:ag}
variable{nm q:Str}{C N:ag}{bs bm zX:List ai}{hdct:Bool}{sn:List Str}{sub:List ai}{ab:Bool}{col:ak Bool}{dd:ak ag}{k0 k1 k2 k3 k5:ak ai}{newId:String}
def FA{u:ai}{Q:ai->au->Prop}(T:OwnTail h [.type "ValueError",.type "Exception",.type "BaseException",.type "object"] bm)(hC:h.get? C=some (excClassObj nm q C N bs bm hdct sn sub ab col dd k0 k1 k2 k3 k5 newId))(hx:h.get? x=some (t5 C t none))
  (hq:∀h',h'.get? x=some (t5 C h.objs.size none)->(∀b o,b≠x->h.get? b=some o->h'.get? b=some o)->Q .none ⟨h',g,d,tt,os⟩) :
  wpAny (model prog w) A (call (.builtin "ValueError.__init__") [.ref x,u]) Q E ⟨h,g,d,tt,os⟩:=by
 have FB:=F.excBase_ValueError;have vt:h.get? x=some { cls:=.ref C,data:=.fields #[.ref t,.none,.none,.none,.bool false,.none]}:=hx;refine wpAny_call (codeAny_call_builtin FB.init.plain FB.initEntry (wpAny_check_init_subU FB T hC vt rfl ?_))
 wp_walk
 refine hq _ ?_ λb o n e=>?_
 .rw[sG _ (c8 _ vt) rfl];rfl
 .rw[qp _ _ (Ne.symm n)];exact c8 _ e
end
noncomputable abbrev sy:List ai:=[.type "ValueError",.type "Exception",.type "BaseException",.type "object"]
def fK(K:Frag)(C:ag)(bm:List ai)(Ib:ak ai):Prop:=∃nm q N bs sn sub ab col dd k0 k1 k2 k3 k5 on Cf es ep Cg,
 K.lookup C=some (excClassObj nm q C N bs bm true sn sub ab col dd k0 k1 k2 k3 k5 "ValueError.__new__")/\K.lookup N=some ⟨on,Cf,.dict es ep,Cg⟩/\StrKeys es/\nsFind es "__init__"=Ib
section
variable{K:Frag}{C C' B0 a:ag}{bm Kz:List ai}{i i':ak ai}{l:ak Int}
theorem fK.cls(G:fK K C bm i):∃cd,clsIn K C=some cd/\cd.mro=.ref C::bm/\cd.hasDict=true/\typeIn K (.ref C)=some (.type "type"):=by
 obtain⟨nm,q,N,bs,sn,sub,ab,col,dd,k0,k1,k2,k3,k5,on,Cf,es,ep,Cg,g1,g2,g3,g4⟩:=G;exact⟨_,by unfold clsIn;rw[g1],rfl,rfl,by show(K.lookup C).map (·.cls)=_;rw[g1];rfl⟩
def fK.sub(G:fK K C bm i)(b:ai):subIn K (.ref C) b=some ((Value.ref C::bm).contains b):=by
 obtain⟨cd,c1,c2,c3,c4⟩:=G.cls;show mroIn K C b=_;unfold mroIn;rw[c1,vE,c2];rfl
def fK.exm{C C':ag}{bm Kz:List ai}{i i':ak ai}(G:fK K C bm i)(G':fK K C' Kz i')(h:(Value.ref C'::Kz).contains (.type "BaseException")=true):exmOne K (.ref C) (.ref C')=some ((Value.ref C::bm).contains (.ref C')):=by
 obtain⟨cd,c1,c2,c3,c4⟩:=G'.cls;unfold exmOne;rw[G'.sub,h,aX (by decide)]
 unfold kitCls;dsimp only;rw[aX (by rw[c1,c4];rfl)]
 exact G.sub _
end
section
variable{X:Cx}{aa:List (ag×Obj)}{Z:St}{H:Hp}{s:au}{C B0:ag}{R:ai->au->Prop}
def Xt{u:ai}(G:fK X.K C (.ref B0::sy) none)(G0:fK X.K B0 sy none)(I:Inv X aa Z H s)(h:∀h' t,(∀b o,s.heap.get? b=some o->h'.get? b=some o)->h'.get? (s.heap.objs.size+1)=some (t5 C t none)->R (.ref (s.heap.objs.size+1)) { s with heap:=h'}):
  wpAny (model X.prog X.w) X.A (call (.ref C) [u]) R X.xe s:=by
 obtain⟨hh,g,d,tt,os⟩:=s;have KX:X.K.In hh:=I.kj;obtain⟨nm,q,N,bs,sn,sub,ab,col,dd,k0,k1,k2,k3,k5,on,Cf,es,ep,Cg,g1,g2,g3,g4⟩:=G;obtain⟨nm',q',N',bs',sn',sub',ab',col',dd',k0',k1',k2',k3',k5',on',odn',wd,qf,sln',g1',g2',g3',g4'⟩:=G0;have FB:=F.excBase_ValueError;have T:OwnTail hh sy (.ref B0::sy):=.own (KX _ _ g1') (mA:=λn=>nsFind wd n) ⟨_,_,_,KX _ _ g2',rfl,g3',λ_=>rfl⟩ g4' .base
 refine Xs FB rfl FB T (KX _ _ g1) (mN:=λn=>nsFind es n) ⟨_,_,_,KX _ _ g2,rfl,g3,λ_=>rfl⟩ (by rw[sizeLine_eq];exact(by decide:1<=16777216)) λi ei=>?_
 rw[g4] at ei;subst ei;have st:∀b o,hh.get? b=some o->((hh.push { cls:=.type "tuple",data:=.seq [u].toArray}).push { cls:=.ref C,data:=.fields #[.ref hh.objs.size,.none,.none,.none,.bool false,.none]}).get? b=some o:=λb o e=>c8 _ (c8 _ e)
 have An:((hh.push { cls:=.type "tuple",data:=.seq [u].toArray}).push { cls:=.ref C,data:=.fields #[.ref hh.objs.size,.none,.none,.none,.bool false,.none]}).get? (hh.objs.size+1)=some (t5 C hh.objs.size none):=by unfold t5;heap_get
 refine wpAny_of_eq (FB.init.bind _) (FA (T.keeps st) (st _ _ (KX _ _ g1)) An λh' e1 e2=>?_)
 exact⟨rfl,h h' _ (λb o z=>e2 b o (gR (A' (cO z))) (st b o z)) e1⟩
end
noncomputable abbrev Cx.dP(X:Cx)(pn:List (ag×Obj))(E:ai->au->Prop):Cx:={ X with pn:=pn,xe:=E}
noncomputable abbrev Cx.dO(X:Cx)(e:ai):Cx:={ X with A:=X.A.mark (some e),calm:=false,xe:=λ_ _=>False}
structure CD (X:Cx) (aa:List (ag×Obj)) (n:Nat):Prop where
 s:X.s₀.heap.objs.size<=n
 l:X.env.locals<n
 c:∀x c,X.env.cells.lookup x=some c->c<n
 p:∀q∈X.pn++aa,q.1<n
section
variable{X:Cx}{aa pz:List (ag×Obj)}{pn:List (ag×Obj)}{Z:St}{H:Hp}{s:au}{E:ai->au->Prop}{n:Nat}{ch:List ag}{h':bV}
def Cx.Ok.dP(ok:X.Ok):(X.dP pn E).Ok:=⟨ok.mod,ok.kind,ok.glob,ok.blt,ok.above,ok.inj,ok.has,ok.z7,ok.hd,ok.frames,ok.Ci,ok.HH,ok.bs,ok.tP,ok.qh,ok.rM,ok.iT,ok.we⟩
def Cx.Ok.dY(ok:(X.dP pn E).Ok):X.Ok:=⟨ok.mod,ok.kind,ok.glob,ok.blt,ok.above,ok.inj,ok.has,ok.z7,ok.hd,ok.frames,ok.Ci,ok.HH,ok.bs,ok.tP,ok.qh,ok.rM,ok.iT,ok.we⟩
theorem Inv.dP(I:Inv X aa Z H s):Inv (X.dP (X.pn++aa) E) [] Z H s:=⟨I.ok.dP,I.os,I.bare,I.base,I.loc,I.cell,I.free,I.eG,λp hp=>I.pin p (by rw[lY] at hp;exact hp),I.bB,I.len⟩
theorem Inv.dY(I:Inv (X.dP (X.pn++aa) E) pz Z H s):Inv X aa Z H s:=⟨I.ok.dY,I.os,I.bare,I.base,I.loc,I.cell,I.free,I.eG,λp hp=>I.pin p (FF _ hp),I.bB,I.len⟩
def Inv.dO{e:ai}(I:Inv X aa Z H s):Inv (X.dO e) aa Z H s:=
 ⟨⟨I.ok.mod,I.ok.kind,I.ok.glob,I.ok.blt,I.ok.above,I.ok.inj,I.ok.has,I.ok.z7,λz=>(nomatch z),I.ok.frames,I.ok.Ci,I.ok.HH,I.ok.bs,I.ok.tP,I.ok.qh,I.ok.rM,I.ok.iT,I.ok.we⟩,I.os,I.bare,I.base,I.loc,I.cell,I.free,I.eG,I.pin,I.bB,I.len⟩
def Inv.eJ{e:ai}(I:Inv (X.dO e) aa Z H s)(hd:X.calm=true->X.A.handled=none):Inv X aa Z H s:=
 ⟨⟨I.ok.mod,I.ok.kind,I.ok.glob,I.ok.blt,I.ok.above,I.ok.inj,I.ok.has,I.ok.z7,hd,I.ok.frames,I.ok.Ci,I.ok.HH,I.ok.bs,I.ok.tP,I.ok.qh,I.ok.rM,I.ok.iT,I.ok.we⟩,I.os,I.bare,I.base,I.loc,I.cell,I.free,I.eG,I.pin,I.bB,I.len⟩
def Inv.T9(I:Inv X aa Z H s):CD X aa s.heap.objs.size:=⟨I.sz,I.lt,λx c e=>by obtain⟨v,o,ho,_⟩:=I.cell x c e;exact cO ho,λq hq=>cO (I.pin q hq).1⟩
def CD.far(y:CD X aa n){b:ag}(h:n<=b):(b∈X.ex\/X.s₀.heap.objs.size<=b)/\b≠X.env.locals/\(∀x c,X.env.cells.lookup x=some c->c≠b)/\∀p∈X.pn++aa,p.1≠b:=
 ⟨.inr (i7 y.s h),λz=>b_ (fX y.l h) (z ▸ j9 _),λx c e z=>b_ (fX (y.c x c e) h) (z ▸ j9 _),λp hp z=>b_ (fX (y.p p hp) h) (z ▸ j9 _)⟩
def fL.un{fs:List ag}{h:bV}(l:fL fs ch h h'):Un fs ch H H h h':=
 ⟨λb o g _ hb hx=>l.keep b o hb hx g,λb o g _ hb hx=>l.slot b o hb hx g,λ_ _ _ n _=>n,λb o g hx=>let ⟨_,g2⟩:=l.any g hx;⟨_,g2⟩,λ_ _ q=>q,λ_ _ _ q=>q,λ_ ps q=>⟨#[],by rw[q];simp⟩⟩
def Inv.left{t':Nat}(I:Inv X aa Z H s)(y:CD X aa n)(l:fL (kU X.stack) ch s.heap h')(lE:∀b∈ch,n<=b/\H b=none):Inv X aa Z H { s with heap:=h',toks:=t'}:=
 I.call (g':=s.gens) (d':=s.drawn) (ch:=ch) l.un (l.bB I.bB I.kq λb m=>(lE b m).2) I.bare λb m=>y.far (lE b m).1
def Xu{M:Model}{A:cQ}{e C:ag}{dx:ak ag}{Q:Unit->au->Prop}(fl:iw n s.heap H e C dx)(h:∀h' ch,(∀b∈ch,n<=b/\H b=none)->fL (kU X.stack) ch s.heap h'->iw n h' H e C dx->Q () { s with heap:=h'}):wpAny M A (setFlight (.ref e) none) Q E s:=by
 obtain⟨fG,vm,oe,vs,he,hc,hx,hd,hsz,h1⟩:=fl;unfold setFlight;rcases h1 with h1|⟨T,oT,ts,h1,H0,HM,HN,hT,D9,h3⟩
 .refine ay (wpAny_field he hd h1 ?_);rw[aM (by decide)]
  exact aV (h s.heap [] (λ_ z=>nomatch z) ⟨λ_ _ _ _ g=>g,λ_ o _ _ g=>⟨o.slots,g⟩⟩ ⟨fG,vm,oe,vs,he,hc,hx,hd,hsz,.inl h1⟩)
 .refine ay (wpAny_field he hd h1 ?_);rw[aX (show(Value.ref T != Value.none)=true by simp)]
  have l3:3<ts.size:=(Cp.mp h3).1;have dT:=Obj.data_mapFields D9 (·.setIfInBounds 3 ((none:ak ag).elim Value.none λf=>rawInt f))
  refine wpAny_setField hT D9 l3 (h _ [T] (λb m=>by cases lz.1 m;exact⟨H0,HM⟩) ⟨λb o _ hb g=>(qp _ _ (by simpa using Ne.symm (by simpa using hb:b≠T))).trans g,λb o _ hb g=>⟨o.slots,(qp _ _ (by simpa using Ne.symm (by simpa using hb:b≠T))).trans g⟩⟩ ⟨fG,vm,oe,vs,(qp _ _ HN).trans he,hc,hx,hd,hsz,.inr ⟨T,_,_,h1,H0,HM,HN,sG _ hT (Obj.isFreed_of_fields dT),dT,by simp[Array.getElem?_setIfInBounds,l3]⟩⟩)
end
end L2
namespace L2
open PySem PySem.Spec PyProof.Rows
variable{P:de}{w:cC}{K:PySem.W.Frag}{tg l:Expr}{X:Cx}{ta:TA}{p pos:Pos}{Q:ak ai->au->Prop}{n t' x1:Nat}{ob:Obj}{L:List ag}{elts:List Expr}{it:ag}
def tf(K:PySem.W.Frag)(a:ag)(n:Nat):It:=
 ⟨λi H=>i<n/\∃xs,cM K H a xs/\xs.length=n,λi H x H'=>H'=H/\∀xs,cM K H a xs->xs[n - 1 - i]?=some x,λi H=>n<=i⟩
def Xv(a it:ag)(n:Nat):Turn P w K tg (tf K a n) [it] it (λi h=>i<=n/\h.IsRevIter it a ((n:Int) - 1 - i)) where
 mem:=by simp
 obj:=λi h st b hb=>by
  have e:b=it:=by simpa using hb
  subst e;obtain⟨_,o,e,c,d⟩:=st;exact⟨o,e,λv z=>by rw[d] at z;cases z⟩
 keep:=λi h h' st k=>⟨st.1,st.2.at λo e=>k it (by simp) o e⟩
 item:=by
  intro X hP hw hK hc i aa s Z H E I hf st hg;subst hP hw hK;obtain⟨hi,xs,hq,hx⟩:=hg;obtain⟨aF,rv,p,hz⟩:=I.list hq;have vt:xs[n - 1 - i]?=some xs[n - 1 - i]:=i8 (by lia)
  obtain⟨u,hu,ru⟩:=rv.get vt;obtain⟨f0,f1,f2,f3,f4,f5⟩:=hf it (by simp)
  have sC:s.heap.IsRevIter it a (((n - 1 - i:Nat):Int)):=by
   lia
  refine wpAny_pyNext_rev_item sC p.isList (x:=u) (by simpa using hu) λh' ko sb=>?_
  have I1:Inv X aa Z H { s with heap:=h'}:=I.turned (t':=s.toks) (λb o hb e=>(sb.2 b hb).trans e) f0 f1 f3 f4 f5
  obtain⟨o,e,c,d⟩:=id ko;refine⟨u,rfl,zV (s:={ s with heap:=h'}) e c d (by decide) ⟨_,H,I1,ru,⟨rfl,λys hy=>by rw[I.lh hy hq];exact vt⟩,⟨by lia,?_⟩,λb hb=>(hf b hb).1⟩⟩
  grind
 done:=by
  intro X hP hw hK hc i aa s Z H E I hf st hg;subst hP hw hK;obtain⟨f0,f1,f2,f3,f4,f5⟩:=hf it (by simp)
  have hg:n<=i:=hg;have sC:s.heap.IsRevIter it a (-1):=by
   have:=st.2
   rwa[show((n:Int) - 1 - i) = -1 by have:=st.1;lia] at this
  exact wpAny_pyNext_rev_end (I.ok.hd hc) sC λh' eb=>⟨rfl,I.turned (t':=s.toks) (λb o hb e=>eb b o hb e) f0 f1 f3 f4 f5⟩
 self:=λ_ _ _ _ _ st h=>wpAny_pyIter_revIter st.2 h
def Ep(K:PySem.W.Frag)(ta:TA):TI:=λZ H R=>ta Z H λvs H1=>∃a xs,vs=[.ref a]/\cM K H1 a xs/\R (tf K a xs.length) H1
def e3b(hg:Gl X "reversed")(hm:X.mg "reversed"=none)(ha:PA X [l] ta)(hs:starEach [l] X.env=[(false,eval l X.env)]:=by rfl):PI X tg (.Call (.Name "reversed" p) [l] [] pos) (Ep X.K ta):=by
 intro aa s Z H R I h;refine Call_ (xV I hg hm boot_reversed (PyProof.Rows.callWith_type1 (bK (ha pos aa s Z H _ I h) λus s1 hh=>?_) hs rfl))
 obtain⟨vs,H1,I1,r1,q1⟩:=hh;obtain⟨a,xs,e,hq,q⟩:=q1;subst e;cases r1 with
 |cons r rr=>
  cases rr;cases r;obtain⟨aF,rv,pl,hz⟩:=I1.list hq;have hl:=rv.length;refine call_reversed_list pl.isList ?_;have st:(s1.heap.push (revObj a ((aF.toArray.size:Int) - 1))).IsRevIter s1.heap.objs.size a ((aF.toArray.size:Int) - 1):=⟨_,jR _ rfl,rfl,rfl⟩;refine wpAny_pyIter_revIter st ?_;refine⟨s1.heap.objs.size,[s1.heap.objs.size],_,_,H1,rfl,I1.kept (t':=s1.toks) λb o e=>c8 _ e,Xv a _ xs.length,⟨mU _,?_⟩,λb hb=>?_,q⟩
  .simp_all
  .have e:b=s1.heap.objs.size:=by simpa using hb
   subst e;exact I1.lR (bM _) (I1.bB.fresh (bM _))
section
variable{X:Cx}{aa:List (ag×Obj)}{Z:St}{H:Hp}{A:cQ}{E:ai->au->Prop}{s:au}{d it:ag}{es:List (TK×V×V)}{ep i:Nat}
theorem PC{Q:ai->au->Prop}(I:Inv X aa Z H s)(hd:H d=some (.dG es ep))
  (hQ:Q (.ref s.heap.objs.size) { s with heap:=s.heap.push { cls:=.type "dict_keyiterator",data:=.fields #[.ref d,.int 0 0,.int es.length 0,.int ep 0]}}):wpAny (model X.prog X.w) A (pyIter (.ref d)) Q E s:=by
 obtain⟨_,z,ob,xs,g1,g5,g2,g3,g4⟩:=(show bH X.prog X.w H s.heap d (.dG es ep) from I.bB d _ hd);have hT:s.TypeIs (.ref d) "dict":=⟨ob,g1,g5.1⟩;have hl:xs.size=es.length:=by have:=Paired.length g3;simpa using this.symm
 refine wpAny_pyIter_slot hT F.slot_dict_iter (wpAny_call_entry F.slot_dict_iter hT F.entry_dict_iter ?_ (F.args_dict_iter_1 _));unfold Builtin.«dict.__iter__»;refine ay ?_;unfold Builtin.Dict.dictSlotNone;refine ay (wpAny_notOrdered_dict hT (show wpAny _ _ (pure (Value.ref d)) _ _ s from aV (show wpAny _ _ (Builtin.Dict.showsAll d >>= _) _ _ s from ?_)));unfold Builtin.Dict.showsAll;rw[aM (by rw[z];exact pF)]
 refine ay (aV (ay (wpAny_dictEntries g1 g2 (ay (wpAny_dictEpoch g1 g2 ?_)))));refine ay (wpAny_newObj_type (aV ⟨_,rfl,"dict_keyiterator",_,⟨_,jR _ rfl,rfl⟩,F.slot_dict_keyiterator_next.lookup,?_⟩));simpa[rawInt,hl] using hQ
theorem OB{xs:Array DictEntry}(g1:s.heap.get? d=some ob)(g2:ob.data=.dict xs ep)(hl:xs.size=n)(hit:s.heap.IsKeyIter it d i n ep)(lt':i<xs.size)
  (hQ:∀h',h'.IsKeyIter it d (i+1) n ep->Heap.SameBut it s.heap h'->Q (some xs[i].key) { s with heap:=h'}):wpAny (model P w) A (pyNext (.ref it)) Q E s:=by
 obtain⟨o,k1,k2,k3⟩:=id hit;unfold pyNext;refine ay (wpAny_attempt (wpAny_callSpecial?_slot (name:=Str.ofString "__next__") hit.typeIs F.slot_dict_keyiterator_next (wpAny_call_entry F.slot_dict_keyiterator_next hit.typeIs F.entry_dict_keyiterator_next (ay (aV (ay (ay ?_)))) (F.args_dict_keyiterator_next_1 _))))
 (first|refine ay (wpAny_typeNameOfWhole_keyiter hit.typeIs (aV ?_))|refine ay (wpAny_typeNameOf_keyiter hit.typeIs (aV ?_)));refine ay (wpAny_fieldsOf k1 k3 ?_)
 have AQ:Builtin.Dict_items.ownsTuple "dict_keyiterator"=false:=by decide
 simp only[AQ,sH,j']
 (show wpAny _ _ (if(Value.ref d == Value.none)=true then _ else _) _ _ s);rw[aM (show ¬((Value.ref d == Value.none)=true) from pF)]
 refine ay (aV (ay (wpAny_dictEntries g1 g2 ?_)));rw[aM (by rw[hl];simp)]
 refine ay (aV (ay (wpAny_dictEpoch g1 g2 ?_)));rw[aM (by simp)]
 refine aV ?_;simp only[show ¬((i:Int)<0) from by lia,j',Int.toNat_natCast,vF lt']
 refine ay ?_
 (first|refine ay (wpAny_typeNameOfWhole_keyiter hit.typeIs (aV ?_))|refine ay (wpAny_typeNameOf_keyiter hit.typeIs (aV ?_)));refine ay (wpAny_isOneOf_keyiter hit.typeIs ?_)
 (show wpAny _ _ (setField (.ref it) 1 (rawInt ((i:Int)+1)) >>= _) _ _ s);refine ay (wpAny_setField k1 k3 (by simp) ?_)
 have Ed:(s.heap.update it (Obj.mapFields (·.setIfInBounds 1 (rawInt ((i:Int)+1))))).IsKeyIter it d (i+1) n ep:=
  ⟨_,sG _ k1 (Obj.isFreed_of_fields (Obj.data_mapFields k3 _)),(Obj.cls_mapFields ..).trans k2,by rw[Obj.data_mapFields k3];simp[rawInt]⟩
 refine ay (lH (ay (wpAny_isOneOf_keyiter (s:={ s with heap:=s.heap.update it (Obj.mapFields (·.setIfInBounds 1 (rawInt ((i:Int)+1))))}) Ed.typeIs ?_)))
 show wpAny _ _ (pure xs[i].key) _ _ _;exact aV (aV ⟨_,rfl,aV (hQ _ Ed (Heap.SameBut.update ..))⟩)
def Vk(I:Inv X aa Z H s)(hd:H d=some (.dG es ep))(hit:s.heap.IsKeyIter it d i es.length ep){e:TK×V×V}(hx:es[i]?=some e)
  (hQ:∀key h',RelV e.2.1 key->h'.IsKeyIter it d (i+1) es.length ep->Heap.SameBut it s.heap h'->Q (some key) { s with heap:=h'}):wpAny (model X.prog X.w) A (pyNext (.ref it)) Q E s:=by
 obtain⟨_,z,ob,xs,g1,g5,g2,g3,g4⟩:=(show bH X.prog X.w H s.heap d (.dG es ep) from I.bB d _ hd);have hl:xs.size=es.length:=by have:=Paired.length g3;simpa using this.symm
 obtain⟨x,x1,x2⟩:=CY i g3 hx;have lt':i<xs.size:=by
  have:=(eQ.mp hx).1;lia
 have ex:xs[i]=x:=by
  have:xs[i]?=some x:=by rw[<-y0];exact x1
  rw[vF lt'] at this;exact Option.some.inj this
 exact OB g1 g2 hl hit lt' λh' B' sb=>hQ _ h' (by rw[ex];exact x2.2.1) B' sb
theorem OX{xs:Array DictEntry}(hh:A.handled=none)(g1:s.heap.get? d=some ob)(g2:ob.data=.dict xs ep)(hl:xs.size=n)(hit:s.heap.IsKeyIter it d i n ep)(hx:n<=i)
  (hQ:∀h',Heap.ExtBut it s.heap h'->Q none { s with heap:=h'}):wpAny (model P w) A (pyNext (.ref it)) Q E s:=by
 obtain⟨o,k1,k2,k3⟩:=id hit;unfold pyNext;refine ay (wpAny_attempt (wpAny_callSpecial?_slot (name:=Str.ofString "__next__") hit.typeIs F.slot_dict_keyiterator_next (wpAny_call_entry F.slot_dict_keyiterator_next hit.typeIs F.entry_dict_keyiterator_next (ay (aV (ay (ay ?_)))) (F.args_dict_keyiterator_next_1 _))))
 (first|refine ay (wpAny_typeNameOfWhole_keyiter hit.typeIs (aV ?_))|refine ay (wpAny_typeNameOf_keyiter hit.typeIs (aV ?_)));refine ay (wpAny_fieldsOf k1 k3 ?_)
 have AQ:Builtin.Dict_items.ownsTuple "dict_keyiterator"=false:=by decide
 simp only[AQ,sH,j']
 (show wpAny _ _ (if(Value.ref d == Value.none)=true then _ else _) _ _ s);rw[aM (show ¬((Value.ref d == Value.none)=true) from pF)]
 refine ay (aV (ay (wpAny_dictEntries g1 g2 ?_)));rw[aM (by rw[hl];simp)]
 refine ay (aV (ay (wpAny_dictEpoch g1 g2 ?_)));rw[aM (by simp)]
 refine aV ?_;have hge:xs.size<=i:=by lia
 simp only[show ¬((i:Int)<0) from by lia,j',Int.toNat_natCast,Array.getElem?_eq_none hge]
 refine ay ?_
 (first|refine ay (wpAny_typeNameOfWhole_keyiter hit.typeIs (aV ?_))|refine ay (wpAny_typeNameOf_keyiter hit.typeIs (aV ?_)));(show wpAny _ _ (setField (.ref it) 0 .none >>= _) _ _ s);refine ay (wpAny_setField k1 k3 (by simp) ?_)
 (show wpAny _ _ (newExc (.type "StopIteration") [] >>= _) _ _ _);refine ay ?_
 simp only[newExc,newTuple];refine ay (wpAny_newObj_type (ay (m:=firstArgMember _ _) (wpAny_of_eq (a:=Value.none) (by first|rfl|(simp only[firstArgMember];rfl)) (wpAny_newObj_type ?_ (by size_fits)))) (by size_fits))
 simp only[raiseNew];refine ay (wpAny_handled ?_);rw[show A.in1.handled=none from hh]
 (refine ay (aV (wpAny_throw ?_)));refine ay (wpAny_isInstance (T:="StopIteration") (b:=true) ⟨_,jR _ rfl,rfl⟩ isSubtype_stop ?_)
 exact aV (hQ _ (((Heap.SameBut.update ..).extBut.push _).push _))
def V'(hh:A.handled=none)(I:Inv X aa Z H s)(hd:H d=some (.dG es ep))(hit:s.heap.IsKeyIter it d i es.length ep)(hx:es.length<=i)
  (hQ:∀h',Heap.ExtBut it s.heap h'->Q none { s with heap:=h'}):wpAny (model X.prog X.w) A (pyNext (.ref it)) Q E s:=by
 obtain⟨_,z,ob,xs,g1,g5,g2,g3,g4⟩:=(show bH X.prog X.w H s.heap d (.dG es ep) from I.bB d _ hd);exact OX hh g1 g2 (by have:=Paired.length g3;simpa using this.symm) hit hx hQ
end
def IY(a:ag)(n ep:Nat):It:=
 ⟨λi H=>∃es,H a=some (.dG es ep)/\es.length=n/\i<n,λi H x H'=>H'=H/\∀es,H a=some (.dG es ep)->∃e,es[i]?=some e/\e.2.1=x,λi H=>∃es,H a=some (.dG es ep)/\es.length=n/\n<=i⟩
def Wa(a it:ag)(n ep:Nat):Turn P w K tg (IY a n ep) [it] it (λi h=>h.IsKeyIter it a i n ep) where
 mem:=by simp
 obj:=λi h st b hb=>by
  have e:b=it:=by simpa using hb
  subst e;obtain⟨o,e,c,d⟩:=st;exact⟨o,e,λv z=>by rw[d] at z;cases z⟩
 keep:=λi h h' st k=>st.at λo e=>k it (by simp) o e
 item:=by
  intro X hP hw hK hc i aa s Z H E I hf st hg;subst hP hw hK;obtain⟨es,hd,hl,hi⟩:=hg;subst hl;obtain⟨f0,f1,f2,f3,f4,f5⟩:=hf it (by simp)
  refine Vk I hd st (e:=es[i]) (i8 hi) λkey h' rk ko sb=>?_
  have I1:Inv X aa Z H { s with heap:=h'}:=I.turned (t':=s.toks) (λb o hb e=>(sb.2 b hb).trans e) f0 f1 f3 f4 f5
  obtain⟨o,e,c,d⟩:=id ko;refine⟨key,rfl,zV (s:={ s with heap:=h'}) e c d (by decide) ⟨es[i].2.1,H,I1,rk,⟨rfl,λys hy=>?_⟩,ko,λb hb=>(hf b hb).1⟩⟩
  rw[hd] at hy;cases hy;exact⟨_,i8 hi,rfl⟩
 done:=by
  intro X hP hw hK hc i aa s Z H E I hf st hg;subst hP hw hK;obtain⟨es,hd,hl,hi⟩:=hg;subst hl;obtain⟨f0,f1,f2,f3,f4,f5⟩:=hf it (by simp)
  exact V' (I.ok.hd hc) I hd st hi λh' eb=>⟨rfl,I.turned (t':=s.toks) (λb o hb e=>eb b o hb e) f0 f1 f3 f4 f5⟩
 self:=λ_ _ _ _ _ st h=>wpAny_pyIter_keyiter st h
def yu(tl:TE):TI:=λZ H R=>tl Z H λx H1=>∃a es ep,x=.ref a/\H1 a=some (.dG es ep)/\R (IY a es.length ep) H1
def ρ{tl:TE}(hl:PE X l tl):PI X tg l (yu tl):=by
 intro aa s Z H R I h;refine bK (hl aa s Z H _ I h) λv s1 hh=>?_
 obtain⟨x,H1,I1,r1,q1⟩:=hh;obtain⟨a,es,ep,e,hd,q⟩:=q1;subst e;cases r1;refine PC I1 hd ?_;refine⟨s1.heap.objs.size,[s1.heap.objs.size],_,_,H1,rfl,I1.kept (t':=s1.toks) λb o e=>c8 _ e,Wa a _ _ _,⟨_,jR _ rfl,rfl,rfl⟩,λb hb=>?_,q⟩
 have e:b=s1.heap.objs.size:=by simpa using hb
 subst e;exact I1.lR (bM _) (I1.bB.fresh (bM _))
def K6{w1 w2:TI}(h1:PI X tg l w1)(h2:PI X tg l w2):PI X tg l (λZ H R=>w1 Z H R\/w2 Z H R):=by
 intro aa s Z H R I h;rcases h with h|h
 .exact h1 aa s Z H R I h
 .exact h2 aa s Z H R I h
open PySem PySem.Spec PyProof.Rows
section
variable{X:Cx}{aa:List (ag×Obj)}{Z:List (ak V)}{H:Hp}{s:au}{h':bV}
def Inv.xq{T:ag}{o:HO}(I:Inv X aa Z H s)(k:∀b ob,b∉L->s.heap.get? b=some ob->h'.get? b=some ob)(hL:∀b∈L,jg X aa H b)(hT:s.heap.objs.size<=T)
  (new:bH X.prog X.w (upd H T o) h' T o):Inv X aa Z (upd H T o) { s with heap:=h',toks:=t'}:=by
 have hn:H T=none:=I.bB.fresh hT;have nL:∀b u,H b=some u->b∉L:=λb u e z=>by rw[(hL b z).1] at e;cases e
 have nT:∀b u,H b=some u->b≠T:=λb u e z=>by rw[z,hn] at e;cases e
 refine I.step (g':=s.gens) (d':=s.drawn) (ch:=L) (λb hb=>?_) (λb ob _ _ hc e _=>k b ob hc e) (λb ob _ _ hc e _=>⟨ob.slots,k b ob hc e⟩) (λb ob _ e n=>?_)
  (λb ob hc e=>⟨ob,k b ob hc e⟩) (λb xs e=>?_) (λb ob u e=>?_) (λb ps e=>⟨#[],?_⟩) (λm hm=>?_) (λb u e=>?_) I.bare
 .obtain⟨f0,f1,f2,f3,f4,f5⟩:=hL b hb;exact⟨f3,f1,f4,f5⟩
 .rw[c_ (λz=>by subst z;exact b_ (fX (cO e) hT) (j9 _))];exact n
 .rw[c_ (nT b _ e)];exact e
 .rw[c_ (nT b _ e)];exact e
 .rw[c_ (nT b _ e),e];simp
 .obtain⟨ob,es,ep,ho,r⟩:=hm;exact⟨ob,es,ep,k _ ob (λz=>(hL _ z).2.1 rfl) ho,r⟩
 .by_cases hb:b=T
  .grind [aJ]
  .rw[c_ hb] at e;refine(I.bB b u e).jt (λc v hc q=>k c v ?_ q) (λc q=>by rw[c_ (nT c _ q)];exact q) λc xs q=>by rw[c_ (nT c _ q)];exact q
   rcases hc with z|z
   .rw[z];exact nL b u e
   .exact nL c _ z
def Inv.Fu(I:Inv X aa Z H s)(k:∀b ob,b∉L->s.heap.get? b=some ob->h'.get? b=some ob)(hL:∀b∈L,jg X aa H b):Inv X aa Z H { s with heap:=h',toks:=t'}:=by
 have nL:∀b u,H b=some u->b∉L:=λb u e z=>by rw[(hL b z).1] at e;cases e
 refine I.step (g':=s.gens) (d':=s.drawn) (ch:=L) (λb hb=>?_) (λb ob _ _ hc e _=>k b ob hc e) (λb ob _ _ hc e _=>⟨ob.slots,k b ob hc e⟩) (λb ob _ e n=>n)
  (λb ob hc e=>⟨ob,k b ob hc e⟩) (λb xs e=>e) (λb ob u e=>e) (λb ps e=>⟨#[],by rw[e];simp⟩) (λm hm=>?_) (λb u e=>?_) I.bare
 .obtain⟨f0,f1,f2,f3,f4,f5⟩:=hL b hb;exact⟨f3,f1,f4,f5⟩
 .obtain⟨ob,es,ep,ho,r⟩:=hm;exact⟨ob,es,ep,k _ ob (λz=>(hL _ z).2.1 rfl) ho,r⟩
 .refine(I.bB b u e).jt (λc v hc q=>k c v ?_ q) (λc q=>q) λc xs q=>q
  rcases hc with z|z
  .rw[z];exact nL b u e
  .exact nL c _ z
end
def Bi(Src:Hp->Prop)(n:Nat)(val:Nat->List V->Prop):It:=
 ⟨λi H=>i<n/\Src H,λi H x H'=>∃p ws,x=.ref p/\H p=none/\val i ws/\H'=upd H p (.tup ws),λi H=>n<=i/\Src H⟩
def OY{FP wr:List ag}{Src:Hp->Prop}{val:Nat->List V->Prop}{tn:Nat->bV->Prop}(mem:it∈FP)(sub:∀b∈wr,b∈FP)
  (obj:∀i h,tn i h->∀b∈FP,∃o,h.get? b=some o/\∀v,o.data≠.cell v) (keep:∀i h h',tn i h->(∀b∈FP,∀o,h.get? b=some o->h'.get? b=some o)->tn i h')
  (hW:∀(X:Cx),X.prog=P->X.w=w->X.K=K->X.calm=true->∀(aa:List (ag×Obj)) (s:au) (Z:St) (H:Hp),Inv X aa Z H s->Src H->∃(Lm:List ag) (Pt:Nat->Array ai->Prop) (St:Nat->bV->Prop) (Jb:Nat->ag->bV->Prop),WalksT P w X.A it Lm wr n Pt St Jb/\(∀i,tn i s.heap->St i s.heap)/\(∀i h,St i h->tn i h)/\∀i vals,Pt i vals->∃ws,val i ws/\Vals ws vals.toList/\ws.length<=10)
  (self:∀(A:cQ) (i:Nat) (s:au) (Q:ai->au->Prop) (E:ai->au->Prop),tn i s.heap->Q (.ref it) s->wpAny (model P w) A (pyIter (.ref it)) Q E s) :
  Turn P w K (.Tuple elts x1 pos) (Bi Src n val) FP it (λi h=>i<=n/\tn i h) where
 mem:=mem
 obj:=λi h st=>obj i h st.2
 keep:=λi h h' st k=>⟨st.1,keep i h h' st.2 k⟩
 item:=by
  intro X hP hw hK hc i aa s Z H E I hf st hg;obtain⟨Lm,Pt,St,Jb,W,toSt,EM,pv⟩:=hW X hP hw hK hc aa s Z H I hg.2;subst hP hw hK;refine W.item i s _ E hg.1 (toSt i st.2) λT vals h1 tk hPt hsz Lw D5 hk1=>?_
  refine⟨.ref T,rfl,W.go elts x1 pos i T _ _ E D5 λh2 hSt Td=>?_⟩
  obtain⟨ws,hv,rv,H9⟩:=pv i vals hPt;have Lv:IsTup h2 T vals:=by
   obtain⟨o,e,c⟩:=Lw;exact⟨o,Td T o (W.apart i T h1 D5) e,c⟩
  have hn:H T=none:=I.bB.fresh hsz;have I2:Inv X aa Z (upd H T (.tup ws)) { s with heap:=h2,toks:=tk}:=I.xq (L:=wr) (λb ob hb e=>Td b ob hb (hk1 b ob hb e)) (λb hb=>hf b (sub b hb)) hsz ⟨by rw[sizeLine_eq];lia,vals.toList,rv,by simpa using Lv⟩
  refine⟨.ref T,_,I2,rfl,⟨T,ws,rfl,hn,hv,rfl⟩,⟨by have:=hg.1;lia,EM _ _ hSt⟩,λb hb=>?_⟩
  have hb0:=(hf b hb).1;rw[c_]
  .exact hb0
  .intro z;subst z;obtain⟨o,e,_⟩:=obj i s.heap st.2 b hb;exact b_ (fX (cO e) hsz) (j9 _)
 done:=by
  intro X hP hw hK hc i aa s Z H E I hf st hg;obtain⟨Lm,Pt,St,Jb,W,toSt,EM,pv⟩:=hW X hP hw hK hc aa s Z H I hg.2;subst hP hw hK;have ei:i=n:=by have:=hg.1;have:=st.1;lia
  subst ei;exact W.done s _ E (toSt i st.2) λh2 tk hk=>⟨rfl,I.Fu (L:=wr) (λb ob hb e=>hk b ob hb e) λb hb=>hf b (sub b hb)⟩
 self:=λA i s Q E st h=>self A i s Q E st.2 h
def Xw{h:bV}{a l:ag}{i:Nat}(p:h.IsListIter a l i):∃o,h.get? a=some o/\∀v,o.data≠.cell v:=by
 obtain⟨o,e,_,d⟩:=p;exact⟨o,e,λv z=>by rw[d] at z;cases z⟩
def Fw(xs:List V)(i:Nat)(ws:List V):Prop:=∃x,xs[i]?=some x/\ws=[.int i,x]
def Wb{e l:ag}(n1:e≠it)(n2:l≠e)(n3:l≠it)(xs:List V):
  Turn P w K (.Tuple elts x1 pos) (Bi (λH=>cM K H l xs) xs.length (Fw xs)) [e,it] e (λi h=>i<=xs.length/\((∃old,IsEnum h e it (i:Int) old)/\h.IsListIter it l i)):=by
 refine OY (FP:=[e,it]) (wr:=[e,it]) (by simp) (λb hb=>hb) (λi h st b hb=>?_) (λi h h' st k=>?_) (λX hP hw hK hc aa s Z H I hS=>?_) (λA i s Q E st h=>?_)
 .obtain⟨⟨old,s1⟩,s2⟩:=st;simp only[y04,y1r,or_false] at hb;rcases hb with rfl|rfl
  .exact⟨_,s1,λv z=>by cases z⟩
  .exact Xw s2
 .obtain⟨⟨old,s1⟩,s2⟩:=st;exact⟨⟨old,k e (by simp) _ s1⟩,s2.at λo q=>k it (by simp) o q⟩
 .subst hP hw hK;obtain⟨wD,ML,p1,_⟩:=I.list hS;have e1:=ML.length;have W:=WalksT.enumerate (prog:=X.prog) (w:=X.w) (A:=X.A) (I.ok.hd hc) e it l n1 n2 n3 wD.toArray;rw[show wD.toArray.size=xs.length by rw[dA,<-e1]] at W
  refine⟨_,_,_,_,W,λi st=>?_,λi h st=>?_,λi vals hp=>?_⟩
  .exact⟨st.1,st.2,p1.isList⟩
  .exact⟨st.1,st.2.1⟩
  .obtain⟨t,u,hu,rfl⟩:=hp;have hu:wD[i]?=some u:=by simpa using hu
   have Tb:i<xs.length:=by have:=(eQ.mp hu).1;lia
   obtain⟨u',rR,ru⟩:=ML.get (i8 Tb);rw[hu] at rR;cases rR;exact⟨[.int i,xs[i]],⟨_,i8 Tb,rfl⟩,.cons ⟨t,rfl⟩ (.cons ru .nil),by show 2<=10;decide⟩
 .obtain⟨old,s1⟩:=st.1;exact wpAny_pyIter_enum s1 h
def yv(K:PySem.W.Frag)(ta:TA):TI:=λZ H R=>ta Z H λvs H1=>∃a xs,vs=[.ref a]/\cM K H1 a xs/\R (Bi (λH=>cM K H a xs) xs.length (Fw xs)) H1
def σ{fE:Pos}{a:Expr}(hg:Gl X "enumerate")(hm:X.mg "enumerate"=none)(ha:PA X [a] ta)(hs:starEach [a] X.env=[(false,eval a X.env)]:=by rfl):
  PI X (.Tuple elts x1 fE) (.Call (.Name "enumerate" p) [a] [] pos) (yv X.K ta):=by
 intro aa s Z H R I h;refine Call_ (xV I hg hm PyProof.Rows.Boot.enumerate (PyProof.Rows.callWith_type1 (bK (ha pos aa s Z H _ I h) λus s1 hh=>?_) hs rfl))
 obtain⟨vs,H1,I1,r1,q1⟩:=hh;obtain⟨l1,xs,e,hq1,q⟩:=q1;subst e;cases r1 with
 |cons r rr=>
  cases rr;cases r;obtain⟨wD,ML,p1,_⟩:=I1.list hq1;refine call_enumerate_list p1.isList λh' z1 z2 z3 z4=>?_
  have L1:l1<s1.heap.objs.size:=by obtain⟨o,n,e,_⟩:=p1;exact cO e
  refine wpAny_pyIter_enum z1 ?_;refine⟨s1.heap.objs.size+1,[s1.heap.objs.size+1,s1.heap.objs.size],_,_,H1,rfl,I1.kept (t':=s1.toks) z4,Wb (e:=s1.heap.objs.size+1) (it:=s1.heap.objs.size) (l:=l1) (yY (by lia)) (gR (fX L1 (IE _ _))) (gR L1) xs,⟨mU _,⟨_,z1⟩,z2⟩,λb hb=>?_,q⟩
  simp only[y04,y1r,or_false] at hb;have kf:s1.heap.objs.size<=b:=by rcases hb with rfl|rfl <;> lia
  exact I1.lR kf (I1.bB.fresh kf)
noncomputable def fT(i j:Int):Nat:=((j - i+1) / 2).toNat
def N2(i j:Int):Builtin.Range.rangeSize i j 2=(fT i j:Nat):=by
 grind [PySem.Builtin.Range.rangeSize,fT]
def Wc{i j:Int}(h1:-(2^20)<=i)(h2:i<2^20)(h3:-(2^20)<=j)(h4:j<2^20):Builtin.Range.small i j 2=true:=by
 have:=N2 i j;unfold fT at this;unfold Builtin.Range.small;rw[this];simp only[Builtin.Range.rangeFitsLong,eP,Nw,decide_eq_true_eq,beq_iff_eq,show(2:Int) > 0 by decide,pS]
 lia
section
variable{X:Cx}{pos p:Pos}{tg a b c:Expr}
def yy(ta:TA):TI:=λZ H R=>ta Z H λvs H1=>∃i j:Int,vs=[.int i,.int j,.int 2]/\(-(2^20)<=i/\i<2^20 /\ -(2^20)<=j/\j<2^20)/\R (IX i 2 (fT i j)) H1
def Wd(hg:Gl X "range")(hm:X.mg "range"=none)(ha:PA X [a,b,c] ta)(hs:starEach [a,b,c] X.env=[(false,eval a X.env),(false,eval b X.env),(false,eval c X.env)]:=by rfl)
  (wz:starEach [b,c] X.env=[(false,eval b X.env),(false,eval c X.env)]:=by rfl):PI X tg (.Call (.Name "range" p) [a,b,c] [] pos) (yy ta):=by
 intro aa s Z H R I h;refine Call_ (xV I hg hm boot_range (PyProof.Rows.callWith_type1 (bK (ha pos aa s Z H _ I h) λus s1 ⟨vs,H1,I1,r1,q1⟩=>?_) (by rw[hs,wz]) (by rw[wz];rfl)))
 obtain⟨i,j,e,⟨q1,q2,q3,q4⟩,q⟩:=q1;subst e;cases r1 with
 |cons r rr=>
  cases rr with
  |cons r' rr=>
   cases rr with
   |cons r'' rr=>
    cases rr;obtain⟨t,rfl⟩:=r;obtain⟨t',rfl⟩:=r';obtain⟨Cj,rfl⟩:=r'';refine call_range_3 (by decide) ?_ (Or.inl (PyProof.noPylong_small (by lia)))
    refine wpAny_pyIter_range (IsRange.new ..) (Wc q1 q2 q3 q4) ?_;have I2:Inv X aa Z H1 { s1 with heap:=s1.heap.push { cls:=.type "range",data:=.fields #[.int i t,.int j t',.int 2 Cj]}}:=I1.kept (t':=s1.toks) λb o e=>c8 _ e
    refine⟨(s1.heap.push { cls:=.type "range",data:=.fields #[.int i t,.int j t',.int 2 Cj]}).objs.size,[(s1.heap.push { cls:=.type "range",data:=.fields #[.int i t,.int j t',.int 2 Cj]}).objs.size],_,_,H1,rfl,I2.kept (t':=s1.toks) λb o e=>c8 _ e,UX _ i 2 (fT i j),?_,λb hb=>?_,q⟩
    .have e1:i+((0:Nat):Int)*2=i:=by simp
     have e2:((fT i j:Nat):Int) - ((0:Nat):Int)=Builtin.Range.rangeSize i j 2:=by rw[N2];lia
     show IsRangeIter _ _ (i+((0:Nat):Int)*2) (((fT i j:Nat):Int) - ((0:Nat):Int)) 2;rw[e1,e2];exact jR _ rfl
    .have e:b=(s1.heap.push { cls:=.type "range",data:=.fields #[.int i t,.int j t',.int 2 Cj]}).objs.size:=by simpa using hb
     subst e;exact I2.lR (bM _) (I2.bB.fresh (bM _))
end
end L2
set_option autoImplicit false
namespace L2
open PySem PySem.Spec PyProof.Rows
variable{a:ag}{c lo j i:Int}{k:Kn}{q:Nat}{H H':Hp}
def Kept(q:Nat)(H H':Hp):Prop:=∀a o,wH q o=true->H a=some o->H' a=some o
def jW(K:PySem.W.Frag)(k:Kn)(H:Hp)(q:Nat)(x:V):D->Prop
 |.lst ds=>∃a ws,x=.ref a/\ah K k ws ds/\∀H',aw k.F H'->Kept q H H'->cM K H' a ws
 |.tup ds=>∃a ws,x=.ref a/\ah K k ws ds/\∀H',aw k.F H'->Kept q H H'->g7 K H' a ws
 |.aB kvs=>∃a es ep,x=.ref a/\es.map (·.1)=kvs.map (·.1)/\ah K k (es.map (·.2.1)) (kvs.map (·.1.d))/\ah K k (es.map (·.2.2)) (kvs.map (·.2))/\∀H',aw k.F H'->Kept q H H'->H' a=some (.dG es ep)
 |.str z=>x=.str z
 |_=>True
def Bx.lv:Bx->Nat
 |.lst _=>2
 |.aB _=>1
def ui:Cell->ak (Nat×D)
 |.o b=>some (b.lv,b.d)
 |.z b=>some (0,b.d)
 |.ins _ _=>none
def Eh(fz:Bool)(S:aO):Rv->ak (Rs (Nat×D))
 |.o c=>some (.ok (0,c.d) S)
 |.v (.d (.ref n))=>(S.r[n]?).bind λc=>(ui c).map λp=>.ok p S
 |.v (.d x)=>some (.ok (0,x) S)
 |.v (.c n)=>if fz=true then(qg S (.c n)).map λp=>.ok (0,p.1) p.2 else(S.s[n]?).bind λc=>(ui c).map λp=>.ok p S
def yo(fz:Bool)(g:GE):Gx (Nat×D):=λU S=>bd (g U S) (λr S1=>Eh fz S1 r)
abbrev RH(K:PySem.W.Frag)(q:Nat):Rp (Nat×D) V:=λk H x p=>jW K k H (max q p.1) x p.2
section
variable{X:Cx}{K:PySem.W.Frag}{W:XW}{q:Nat}{k:Kn}{H:Hp}{x:V}{d:D}{g:GE}{Z:St}
def GC(h:ah K k [x] [d]):jW K k H q x d:=by
 cases d with
 |lst ds=>obtain⟨a,ws,rfl,h1,h2⟩:=h.yA;exact⟨a,ws,rfl,h2,λH' s _=>s.MY h1⟩
 |tup ds=>obtain⟨a,ws,rfl,h1,h2⟩:=h.isTup;exact⟨a,ws,rfl,h2,λH' s _=>s.A4 h1⟩
 |aB kvs=>obtain⟨a,es,ep,rfl,h1,h2,h3,h4⟩:=h.yz;exact⟨a,es,ep,rfl,h2,h3,h4,λH' s _=>s _ _ h1⟩
 |str z=>exact h.bc rfl
 |_=>exact uU
def Me{o:HO}:wH (max q 2) o=true:=J4 (p:=2) (Nat.le_max_right _ _) rfl
def υ{b:Bx}(h:dC K k H a b):jW K k H (max q b.lv) (.ref a) b.d:=by
 cases b with
 |lst xs=>obtain⟨ws,h1,h2⟩:=h;exact⟨a,ws,rfl,h2,λH' _ c=>.inl (.inl (c _ _ Me h1))⟩
 |aB kvs=>obtain⟨es,ep,h1,h2,h3,h4⟩:=h;exact⟨a,es,ep,rfl,h2,h3,h4,λH' _ c=>c _ _ (J4 (p:=1) (Nat.le_max_right _ _) rfl) h1⟩
def OZ{c:Cell}{p:Nat×D}(h:bj K k H a c)(e:ui c=some p):jW K k H (max q p.1) (.ref a) p.2:=by
 cases c with
 |o b=>cases e;exact υ h.2
 |z b=>cases e;exact GC h.2
 |ins _ _=>cases e
def QB{fz:Bool}{Q:VK}(t:tX (RH K q) K W q (yo fz g) Z H Q):tE K W q g Z H Q:=by
 obtain⟨k,U,S,res,ok,gk,e,w⟩:=t;refine tX.bd ok gk e w λr S1 x k1 H1 bI g1 r1 e1 w1 _=>?_
 cases r with
 |o c=>
  cases e1;obtain⟨k2,u2,cJ,r2⟩:=sv bI r1;exact(w1.up (u2 q)).now cJ (GC r2)
 |v y=>
  cases y with
  |d y=>
   cases y with
   |ref n=>
    obtain⟨c,h1,e2⟩:=cB.mp e1;obtain⟨p,h2,rfl⟩:=dm.mp e2;obtain⟨a,rfl,h3⟩:=ah.isRef r1;exact w1.now bI (OZ (bI.r.at' n a c h3 h1) h2)
   |_=>cases e1;exact w1.now bI (GC r1)
  |c n=>
   cases fz with
   |true=>
    obtain⟨p,h1,rfl⟩:=dm.mp (show(qg S1 (.c n)).map _=some res from e1);obtain⟨k2,u2,cJ,r2⟩:=G2 (v:=.c n) bI r1 h1;exact(w1.up (u2 q)).now cJ (GC r2)
   |false=>
    obtain⟨c,h1,e2⟩:=cB.mp (show(S1.s[n]?).bind _=some res from e1);obtain⟨p,h2,rfl⟩:=dm.mp e2;obtain⟨a,rfl,h3⟩:=r1;exact w1.now bI (OZ (bI.s.at' n a c h3 h1) h2)
end
structure gZ (K:PySem.W.Frag) (k1:Kn) (H1:Hp) (q:Nat) (J:It) (ds:List D):Prop where
 go:∀i k H,k1.le k->aw k.F H->Kept q H1 H->i<ds.length->J.go i H
 stop:∀i k H,k1.le k->aw k.F H->Kept q H1 H->ds.length<=i->J.stop i H
 uV:∀i k H x H',k1.le k->aw k.F H->Kept q H1 H->J.uV i H x H'->∀d,ds[i]?=some d->∃F',aw k.F F'/\aw H H'/\aw F' H'/\(∀p,H p≠none->k.F p=none->F' p=none)/\ah K ⟨F',k.A,k.T⟩ [x] [d]
abbrev RI(K:PySem.W.Frag)(q:Nat):Rp (Nat×List D) It:=λk H J p=>gZ K k H (max q p.1) J p.2
section
variable{K:PySem.W.Frag}{k1:Kn}{H1:Hp}{q n:Nat}{ds:List D}{J:It}{a:ag}{ws xs:List V}
def gZ.old(hn:ds.length=n)(h1:∀i H,aw k1.F H->Kept q H1 H->i<n->J.go i H)(h2:∀i H,aw k1.F H->Kept q H1 H->n<=i->J.stop i H)(h3:∀i H x H' d,aw k1.F H->Kept q H1 H->J.uV i H x H'->ds[i]?=some d->H'=H/\ah K k1 [x] [d]):gZ K k1 H1 q J ds where
 go:=λi k H l s c hi=>h1 i H (l.f.trans s) c (hn ▸ hi)
 stop:=λi k H l s c hi=>h2 i H (l.f.trans s) c (hn ▸ hi)
 uV:=λi k H x H' l s c y d hd=>by
  obtain⟨rfl,r⟩:=h3 i H x H' d (l.f.trans s) c y hd;exact⟨k.F,aw.refl _,aw.refl _,s,λ_ _ z=>z,r.mono l⟩
def gZ.EI{Src:Hp->Prop}{val:Nat->List V->Prop}{f:Nat->List D}(hs:∀H,aw k1.F H->Kept q H1 H->Src H)(hv:∀i us,i<n->val i us->ah K k1 us (f i)):gZ K k1 H1 q (Bi Src n val) ((List.range n).map λi=>.tup (f i)) where
 go:=λi k H l s c hi=>⟨by simpa using hi,hs H (l.f.trans s) c⟩
 stop:=λi k H l s c hi=>⟨by simpa using hi,hs H (l.f.trans s) c⟩
 uV:=λi k H x H' l s c y d hd=>by
  obtain⟨p,us,rfl,hp,hw,rfl⟩:=y;have hi:i<n:=by have:=(eQ.mp hd).1;simpa using this
  rw[gY,Bc hi] at hd;cases hd;have hF:=s.free hp;refine⟨upd k.F p (.tup us),tJ hF,tJ hp,λb u z=>?_,λb z1 z2=>?_,.tup (.inl (.inl aJ)) ((hv i us hi hw).mono ⟨l.f.trans (tJ hF),l.a⟩) .nil⟩
  .by_cases z3:b=p
   .subst z3;rw[aJ] at z ⊢;exact z
   .rw[c_ z3] at z ⊢;exact s b u z
  .rw[c_ (show b≠p from λz=>z1 (z ▸ hp))];exact z2
def χ(h:∀H',aw k1.F H'->Kept q H1 H'->cM K H' a ws)(r:ah K k1 ws ds):gZ K k1 H1 q (IZ K a) ds:=
 .old r.length.symm (λi H s c hi=>⟨ws,ws[i],h H s c,i8 _⟩) (λi H s c hi=>⟨ws,h H s c,hi⟩) λi H x H' d s c y hd=>by
  obtain⟨rfl,y⟩:=y;obtain⟨v,h1,h2⟩:=r.get hd
  simp_all
def e3c(h:∀H',aw k1.F H'->Kept q H1 H'->g7 K H' a ws)(r:ah K k1 ws ds):gZ K k1 H1 q (I_ K a) ds:=
 .old r.length.symm (λi H s c hi=>⟨ws,ws[i],h H s c,i8 _⟩) (λi H s c hi=>⟨ws,h H s c,hi⟩) λi H x H' d s c y hd=>by
  obtain⟨rfl,y⟩:=y;obtain⟨v,h1,h2⟩:=r.get hd
  simp_all
def e3d(h:∀H',aw k1.F H'->Kept q H1 H'->cM K H' a ws)(r:ah K k1 ws ds):gZ K k1 H1 q (tf K a ws.length) ds.reverse:=
 .old (by rw[List.length_reverse,r.length]) (λi H s c hi=>⟨hi,ws,h H s c,rfl⟩) (λi H s c hi=>hi) λi H x H' d s c y hd=>by
  obtain⟨rfl,y⟩:=y;have hi:=(eQ.mp hd).1;rw[List.length_reverse] at hi;rw[List.getElem?_reverse hi,<-r.length] at hd;obtain⟨v,h1,h2⟩:=r.get hd
  simp_all
def ψ{es:List (TK×V×V)}{ep:Nat}(h:∀H',aw k1.F H'->Kept q H1 H'->H' a=some (.dG es ep))(r:ah K k1 (es.map (·.2.1)) ds):gZ K k1 H1 q (IY a es.length ep) ds:=
 .old (by rw[<-r.length,bh]) (λi H s c hi=>⟨es,h H s c,rfl,hi⟩) (λi H s c hi=>⟨es,h H s c,rfl,hi⟩) λi H x H' d s c y hd=>by
  obtain⟨rfl,y⟩:=y;obtain⟨v,h1,h2⟩:=r.get hd;rw[gY] at h1;obtain⟨e,h3,rfl⟩:=dm.mp h1;obtain⟨e',h4,rfl⟩:=y es (h _ s c);cases h3.symm.trans h4;exact⟨rfl,h2⟩
def e3e{z:Str}:gZ K k1 H1 q (FO z) (z.cps.toList.map λc=>.str (jZ c)):=
 .old (by rw[bh,IC]) (λi H s _ hi=>hi) (λi H s _ hi=>hi) λi H x H' d s _ y hd=>by
  obtain⟨rfl,c,h1,rfl⟩:=y;rw[gY,y0,h1] at hd;cases hd;exact⟨rfl,.flat rfl .nil⟩
def nN(lo c:Int)(n:Nat):List D:=(List.range n).map λ(i:Nat)=>D.int (lo+(i:Int)*c)
def ω:gZ K k1 H1 q (IX lo c n) (nN lo c n):=
 .old (by unfold nN;rw[bh,vG]) (λi H s _ hi=>hi) (λi H s _ hi=>hi) λi H x H' d s _ y hd=>by
  obtain⟨rfl,rfl⟩:=y;have hi:=(eQ.mp hd).1;unfold nN at hi hd;rw[bh,vG] at hi;rw[gY,Bc hi] at hd;cases hd;exact⟨rfl,.flat rfl .nil⟩
def gp(lo:Int)(n:Nat):List D:=(List.range n).map λ(i:Nat)=>D.int (lo+(i:Int))
theorem e3f:gZ K k1 H1 q (FN lo n) (gp lo n):=
 .old (by unfold gp;rw[bh,vG]) (λi H s _ hi=>hi) (λi H s _ hi=>hi) λi H x H' d s _ y hd=>by
  obtain⟨rfl,rfl⟩:=y;have hi:=(eQ.mp hd).1;unfold gp at hi hd;rw[bh,vG] at hi;rw[gY,Bc hi] at hd;cases hd;exact⟨rfl,.flat rfl .nil⟩
end
abbrev ng:=Gx (Nat×List D)
def bL(fz:Bool)(o:D->ak (List D))(g:GE):ng:=λU S=>bd (yo fz g U S) λp S1=>(o p.2).map λds=>.ok (p.1,ds) S1
noncomputable def fH:D->ak (List D)
 |.lst ds=>some ds
 |.tup ds=>some ds
 |.aB kvs=>some (kvs.map (·.1.d))
 |.str z=>some (z.cps.toList.map λc=>.str (jZ c))
 |_=>none
def A0:D->ak (List D)
 |.lst ds=>some ds.reverse
 |_=>none
def eC(ds:List D):List D:=(List.range ds.length).map λi=>.tup [.int (i:Nat),(ds[i]?).getD .aI]
def Le:D->ak (List D)
 |.lst ds=>some (eC ds)
 |_=>none
noncomputable def nK:List Val->ak (List D)
 |[.d (.int j)]=>if Nat.ble j.natAbs 1000000000000=true then some (gp 0 j.toNat) else none
 |_=>none
def wW:List Val->ak (List D)
 |[.d (.int i),.d (.int j),.d (.int c)]=>if c=2/\(Nat.ble i.natAbs 1000000&&Nat.ble j.natAbs 1000000)=true then some (nN i 2 (fT i j)) else none
 |_=>none
noncomputable def j0(o:List Val->ak (List D))(g:GA):ng:=λU S=>bd (g U S) λvs S1=>(o vs).map λds=>.ok (0,ds) S1
section
variable{X:Cx}{K:PySem.W.Frag}{W:XW}{q:Nat}{g:GE}{ga:GA}{fz:Bool}{Z:St}{H:Hp}{R:It->Hp->Prop}
def Gr{o:D->ak (List D)}(t:tX (RI K q) K W q (bL fz o g) Z H R):(∀Q:VK,tE K W q g Z H Q)\/∃d ds n,o d=some ds/\∀Q:VK,(∀k1 H1 x,aw k1.F H1->jW K k1 H1 n x d->(∀J,gZ K k1 H1 n J ds->R J H1)->Q x H1)->tE K W q g Z H Q:=by
 obtain⟨k,U,S,res,ok,gk,e,w⟩:=t;rcases BR e with⟨⟨n,d⟩,S1,e1,e2⟩|⟨C,l,S1,e1,rfl⟩
 .obtain⟨ds,e3,rfl⟩:=dm.mp e2;exact .inr ⟨d,ds,max q n,e3,λQ h=>QB ⟨k,U,S,_,ok,gk,e1,λx k1 H1 u bI r=>h k1 H1 x bI.le r λJ j=>w J k1 H1 u bI j⟩⟩
 .exact .inl λQ=>QB ⟨k,U,S,_,ok,gk,e1,w⟩
def jW.now{x:V}{P:Hp->Prop}{n:Nat}(h:∀H',aw k.F H'->Kept n H H'->P H')(le:aw k.F H):P H:=h H le λ_ _ _ z=>z
def Eo(K:PySem.W.Frag)(te:TE):TI:=λZ H R=>yw K te Z H R\/Es K te Z H R\/yu te Z H R\/Er te Z H R
def e3g{tg l:Expr}{te:TE}(h:PE X l te):PI X tg l (Eo X.K te):=K6 (ZU h) (K6 (e2d h) (K6 (ρ h) (e2s h)))
def e3h(t:tX (RI K q) K W q (bL fz fH g) Z H R):Eo K (tE K W q g) Z H R:=by
 rcases Gr t with h|⟨d,ds,n,e,h⟩
 .exact .inl (h _)
 .cases d with
  |lst _=>
   cases e;refine .inl (h _ λk1 H1 x le hd j=>?_)
   obtain⟨a,ws,rfl,q2,q1⟩:=hd;exact⟨a,rfl,⟨ws,jW.now (x:=.aI) q1 le⟩,j _ (χ q1 q2)⟩
  |tup _=>
   cases e;refine .inr (.inl (h _ λk1 H1 x le hd j=>?_))
   obtain⟨a,ws,rfl,q2,q1⟩:=hd;exact⟨a,rfl,⟨ws,jW.now (x:=.aI) q1 le⟩,j _ (e3c q1 q2)⟩
  |aB kvs=>
   cases e;refine .inr (.inr (.inl (h _ λk1 H1 x le hd j=>?_)))
   obtain⟨a,es,ep,rfl,q2,q3,q4,q1⟩:=hd;exact⟨a,es,ep,rfl,jW.now (x:=.aI) q1 le,j _ (ψ q1 q3)⟩
  |str z=>
   cases e;exact .inr (.inr (.inr (h _ λk1 H1 x le hd j=>⟨z,hd,j _ e3e⟩)))
  |_=>cases e
def d7c(t:tX (RI K q) K W q (bL fz A0 g) Z H R):Ep K (uN (tE K W q g) w_) Z H R:=by
 rcases Gr t with h|⟨d,ds,n,e,h⟩
 .exact h _
 .cases d with
  |lst _=>
   cases e;refine h _ λk1 H1 x le hd j=>?_
   obtain⟨a,ws,rfl,q2,q1⟩:=hd;exact⟨a,ws,rfl,jW.now (x:=.aI) q1 le,j _ (e3d q1 q2)⟩
  |_=>cases e
def e3i(t:tX (RI K q) K W q (bL fz Le g) Z H R):yv K (uN (tE K W q g) w_) Z H R:=by
 rcases Gr t with h|⟨d,ds,n,e,h⟩
 .exact h _
 .cases d with
  |lst es=>
   cases e;refine h _ λk1 H1 x le hd j=>?_
   obtain⟨a,ws,rfl,q2,q1⟩:=hd;refine⟨a,ws,rfl,jW.now (x:=.aI) q1 le,j _ ?_⟩;unfold eC;rw[<-q2.length];refine .EI q1 λi us hi hv=>?_
   obtain⟨x,h1,rfl⟩:=hv;obtain⟨d,hd⟩:∃d,es[i]?=some d:=⟨es[i]'(by rw[<-q2.length];exact hi),i8 _⟩
   obtain⟨v,h3,h4⟩:=q2.get hd;cases h1.symm.trans h3;rw[hd];exact .flat rfl h4
  |_=>cases e
theorem rep1{xs:List V}(h:Paired (cT K k) xs [.d (.int j)]):xs=[.int j]:=by
 cases h with
 |cons r t=>cases t;rw[(show ah K k [_] [_] from r).bc rfl]
def rep2{xs:List V}(h:Paired (cT K k) xs [.d (.int i),.d (.int j)]):xs=[.int i,.int j]:=by
 cases h with
 |cons r t=>rw[(show ah K k [_] [_] from r).bc rfl,rep1 t]
def rep3{xs:List V}(h:Paired (cT K k) xs [.d (.int i),.d (.int j),.d (.int c)]):xs=[.int i,.int j,.int c]:=by
 cases h with
 |cons r t=>rw[(show ah K k [_] [_] from r).bc rfl,rep2 t]
def O0{o:List Val->ak (List D)}{Q:List V->Hp->Prop}(t:tX (RI K q) K W q (j0 o ga) Z H R)(h:∀vs ds k1 H1 xs,o vs=some ds->(∀J,gZ K k1 H1 (max q 0) J ds->R J H1)->Paired (cT K k1) xs vs->Q xs H1):gq K W q ga Z H Q:=by
 obtain⟨k,U,S,res,ok,gk,e,w⟩:=t;rcases BR e with⟨vs,S1,e1,e2⟩|⟨C,l,S1,e1,rfl⟩
 .obtain⟨ds,e3,rfl⟩:=dm.mp e2;exact⟨k,U,S,_,ok,gk,e1,λxs k1 H1 u bI r=>h vs ds k1 H1 xs e3 (λJ j=>w J k1 H1 u bI j) r⟩
 .exact⟨k,U,S,_,ok,gk,e1,w⟩
def d7d(t:tX (RI K q) K W q (j0 nK ga) Z H R):yx (gq K W q ga) Z H R:=O0 t λvs ds k1 H1 xs e j r=>by
 unfold nK at e;split at e
 .split at e
  .rename_i h
   have h:=Bd h
   grind [rep1,e3f]
  .cases e
 .cases e
def d7e(t:tX (RI K q) K W q (j0 wW ga) Z H R):yy (gq K W q ga) Z H R:=O0 t λvs ds k1 H1 xs e j r=>by
 unfold wW at e;split at e
 .split at e
  .rename_i h
   obtain⟨rfl,h⟩:=h;obtain⟨h1,h2⟩:=Cq.mp h;have h1:=Bd h1;have h2:=Bd h2;cases e;exact⟨_,_,rep3 r,⟨by lia,by lia,by lia,by lia⟩,j _ ω⟩
  .cases e
 .cases e
end
def aH(g:GG)(f:GS):List D->GS
 |[]=>λU S=>some (.nx U S)
 |d::ds=>λU S=>(g d U).bind λU1=>(f U1 S).bind λr=>match r with
   |.nx U2 S2=>aH g f ds U2 S2
   |.ct U2 S2=>aH g f ds U2 S2
   |.bk U2 S2=>some (.nx U2 S2)
   |r=>some r
noncomputable def bO(q:Nat)(src:ng)(g:GG)(f:Nat->GS):GS:=λU S=>lC U (src U S) λp S1=>aH g (f (max q p.1)) p.2 U S1
def Up.kept{k':Kn}(u:Up q k H k' H'):Kept q H H':=u.h
def Kept.refl:Kept q H H:=λ_ _ _ z=>z
def Kept.trans{Cy:Hp}(a:Kept q H H')(b:Kept q H' Cy):Kept q H Cy:=λx o z h=>b x o z (a x o z h)
def Kept.same(a:aw H H'):Kept q H H':=λx o _ h=>a x o h
section
variable{X:Cx}{K:PySem.W.Frag}{W:XW}{q:Nat}{tg iter:Expr}{body:List Stmt}{wi:TI}{t:TG}{gg:GG}{f:Nat->GS}{src:ng}{pos:Pos}
def e3j(hp:PassesOwn (model X.prog X.w) X.A X.env X.xe)(hc:X.calm=true)(hi:PI X tg iter wi)(rQ:∀Z H R,tX (RI K q) K W q src Z H R->wi Z H R)(hg:PG X tg t)(ht:kz K t gg)(hb:∀n,ji X body (tS K W n (f n)))(hs:∀x,foldedSetIterable iter X.env x=pure x):
  PS X (.For tg iter body [] pos) (tS K W q (bO q src gg f)):=by
 intro aa s Z H De I t;obtain⟨k,U,S,fr,ok,gk,e,w⟩:=t;unfold bO lC at e;split at e
 .cases e
 .rename_i p S1 e1
  obtain⟨n,ds⟩:=p;refine RF hp hc hi hg (hb (max q n)) hs aa s Z H De I (rQ _ _ _ ⟨k,U,S,_,ok,gk,e1,λJ k1 H1 u1 bI r1=>?_⟩)
  have w1:=(w.up u1).weak (Nat.le_max_left q n);have g1:=gk.up u1;clear w gk ok e1 u1;refine⟨λi m Z H=>m=ds.length - i/\i<=ds.length/\∃k U S,bY K k H S/\gw K k Z U/\k1.le k/\Kept (max q n) H1 H/\aH gg (f (max q n)) (ds.drop i) U S=some fr/\Done K W (max q n) De k H fr,⟨_,rfl,mU _,k1,U,S1,bI,g1,.refl,.refl,e,w1⟩,?_⟩
  rintro i m Z H ⟨rfl,hi,k,U,S,ok,gk,l,c,e,w⟩;rcases Nat.lt_or_ge i ds.length with h|h
  .rw[Nz h] at e;refine .inr ⟨r1.go i k H l ok.le c h,λZ' H'=>∃k U S,bY K k H' S/\gw K k Z' U/\k1.le k/\Kept (max q n) H1 H'/\aH gg (f (max q n)) (ds.drop (i+1)) U S=some fr/\Done K W (max q n) De k H' fr,λZ' H' z=>⟨_,by lia,rfl,h,z⟩,λx H' y=>?_⟩
   obtain⟨F',s1,s2,s3,s4,rp⟩:=r1.uV i k H x H' l ok.le c y _ (i8 h);have u:Up (max q n) k H ⟨F',k.A,k.T⟩ H':=.of s1 s2;obtain⟨U1,e1,e2⟩:=cB.mp e;obtain⟨r,e3,e4⟩:=cB.mp e2;have fI:bY K ⟨F',k.A,k.T⟩ H' S:=ok.new s1 (λp _ o z=>s2 p o z) s3 λp m=>s4 p (ok.there p m)
   have l':k1.le ⟨F',k.A,k.T⟩:=⟨l.f.trans s1,l.a⟩;refine ht _ H' Z U U1 x ds[i] _ s3 (gk.up u) rp e1 λZ1 g1=>⟨_,U1,S,r,fI,g1,e3,?_⟩
   have w':=w.up u;have c':Kept (max q n) H1 H':=c.trans (.same s2);cases r with
   |nx U2 S2=>exact λZ' k2 H2 u2 cJ g2=>⟨k2,U2,S2,cJ,g2,⟨l'.f.trans u2.f,l'.a.trans u2.a⟩,c'.trans u2.kept,e4,w'.up u2⟩
   |ct U2 S2=>exact λZ' k2 H2 u2 cJ g2=>⟨k2,U2,S2,cJ,g2,⟨l'.f.trans u2.f,l'.a.trans u2.a⟩,c'.trans u2.kept,e4,w'.up u2⟩
   |bk U2 S2=>cases e4;exact w'
   |rt r S2=>cases e4;exact w'
   |ex C l U2 S2=>cases e4;exact w'
  .rw[ID h] at e;cases e;exact .inl ⟨r1.stop i k H l ok.le c h,bX.now w ok gk⟩
 .rename_i C l S1 e1
  cases e;exact RF hp hc hi hg (hb q) hs aa s Z H De I (rQ _ _ _ ⟨k,U,S,_,ok,gk,e1,λdx k' H' u fI r=>w dx Z k' H' u fI (gk.up u) r⟩)
end
end L2
set_option autoImplicit false
namespace L2
open PySem PySem.Spec PyProof.Rows
variable{ds:List D}{U:Gm}{Z:St}
def ve{α β:Type}(x:ak (Rs α))(f:α->aO->ak (Rs β)):ak (Rs β):=match x with
 |some (.ok a S)=>f a S
 |_=>none
def W0:XW:=λ_ _ _ _=>False
def bC(gg:GG)(tt:GT)(te:GE):List D->Gm->aO->List D->ak (Rs (List D))
 |[],_,S,a_=>some (.ok a_ S)
 |d::ds,U,S,a_=>(gg d U).bind λU1=>ve (tt U1 S) λb S1=>if b=true then ve (gD te U1 S1) λx S2=>if a_.length<1000000 then bC gg tt te ds U1 S2 (a_++[x]) else none else bC gg tt te ds U1 S1 a_
def v9(n:Nat)(cY:List Nat)(U:Gm):Gm:=List.replicate n none++cY.map λi=>(U[i]?).join
def cv(q:Nat)(src:ng)(gg:GG)(tt:Nat->GT)(te:Nat->GE)(n:Nat)(cY:List Nat):GE:=λU S=>bd (src U S) λp S1=>bd (bC gg (tt (max q p.1)) (te (max q p.1)) p.2 (v9 n cY U) S1 []) λds S2=>some (.ok (.o (.lst ds)) S2)
section
variable{X:Cx}{K:PySem.W.Frag}{W:XW}{q:Nat}{tg iter elt:Expr}{ifs:List Expr}{scope:Scope}{wi:TI}{t:TG}{gg:GG}{tt:Nat->GT}{te:Nat->GE}{src:ng}{pos:Pos}{M:List Str}{n:Nat}{cY:List Nat}
def G4{α β:Type}{x:ak (Rs α)}{f:α->aO->ak (Rs β)}{res:Rs β}(e:ve x f=some res):∃a S,x=some (.ok a S)/\f a S=some res:=by
 unfold ve at e;split at e
 .exact⟨_,_,rfl,e⟩
 .cases e
def Xx{gg:GG}{tt:GT}{te:GE}{S:aO}{a_:List D}{res:Rs (List D)}(e:bC gg tt te ds U S a_=some res):∃l S',res=.ok l S':=by
 induction ds generalizing U S a_ with
 |nil=>cases e;exact⟨_,_,rfl⟩
 |cons d ds ih=>
  obtain⟨U1,_,e⟩:=cB.mp e;obtain⟨b,S1,_,e⟩:=G4 e;cases b with
  |false=>exact ih e
  |true=>
   obtain⟨x,S2,_,e⟩:=G4 (show ve _ _=some res from e);split at e
   .exact ih e
   .cases e
def d7f{k:Kn}(g:gw K k Z U):gw K k (kG n cY Z) (v9 n cY U):=by
 refine⟨by unfold kG v9;rw[du,du,bh,bh,q_,q_],λi v e=>?_⟩
 unfold v9 at e;unfold kG;by_cases hi:i<n
 .rw[xF (by rw[q_];exact hi),Nv,aX hi] at e;cases e
 .have hi:=Nat.le_of_not_lt hi;rw[vA (by rw[q_];exact hi),q_,gY] at e ⊢
  obtain⟨j,h1,h2⟩:=dm.mp e;obtain⟨x,h3,h4⟩:=g.at' j v (OW h2)
  simp_all
def e3k{J:It}{k1:Kn}{H1:Hp}{m:Nat}{out:List D}{S1 S2:aO}{τ:St}{gt:GT}{ge:GE}{f_:List V->Hp->Prop}(ht:kz K t gg)(r1:gZ K k1 H1 m J ds)(bI:bY K k1 H1 S1)(g1:gw K k1 τ U)(e:bC gg gt ge ds U S1 []=some (.ok out S2))
  (w:∀k H vs,Up m k1 H1 k H->bY K k H S2->ah K k vs out->f_ vs H):qu J t (tT K W0 m gt) (tE K W0 m ge) τ H1 f_:=by
 refine⟨ds.length,λi τ vs H=>i<=ds.length/\∃k U S a_,bY K k H S/\gw K k τ U/\ah K k vs a_/\Up m k1 H1 k H/\bC gg gt ge (ds.drop i) U S a_=some (.ok out S2),⟨mU _,k1,U,S1,[],bI,g1,.nil,.refl,e⟩,?_⟩
 rintro i τ vs H hi ⟨_,k,U,S,a_,ok,gk,rv,u,e⟩;rcases Nat.lt_or_ge i ds.length with h|h
 .rw[Nz h] at e;refine .inr ⟨h,r1.go i k H u.le ok.le u.kept h,λx H' y=>?_⟩
  obtain⟨F',s1,s2,s3,s4,rp⟩:=r1.uV i k H x H' u.le ok.le u.kept y _ (i8 h);have u2:Up m k H ⟨F',k.A,k.T⟩ H':=.of s1 s2;have fI:bY K ⟨F',k.A,k.T⟩ H' S:=ok.new s1 (λp _ o z=>s2 p o z) s3 λp m=>s4 p (ok.there p m)
  obtain⟨U1,e1,e2⟩:=cB.mp e;refine ht _ H' τ U U1 x ds[i] _ s3 (gk.up u2) rp e1 λτ1 g1=>?_
  obtain⟨b,S3,e3,e4⟩:=G4 e2;refine⟨_,U1,S,_,fI,g1,e3,λb' k3 H3 u3 j6 r3=>?_⟩
  cases r3;have u4:=(u.trans u2).trans u3;cases b with
  |false=>exact uo ⟨h,k3,U1,S3,a_,j6,g1.up u3,rv.mono (u2.trans u3).le,u4,e4⟩
  |true=>
   obtain⟨y,S4,e5,e6⟩:=G4 (show ve _ _=some _ from e4);refine uq (Nb ⟨_,U1,S3,_,j6,g1.up u3,e5,λv k5 H5 u5 nD r5=>?_⟩)
   split at e6
   .rename_i hl
    refine⟨fX (by rw[rv.length];exact hl) (by decide),h,k5,U1,S4,a_++[y],nD,(g1.up u3).up u5,(rv.mono ((u2.trans u3).trans u5).le).append r5,u4.trans u5,e6⟩
   .cases e6
 .rw[ID h] at e;cases e;exact .inl ⟨r1.stop i k H u.le ok.le u.kept h,w k H vs u ok rv⟩
def QC{H:Hp}{Q:VK}(ht:kz K t gg)(h:tE K W q (cv q src gg tt te n cY) Z H Q):∃m,tX (RI K q) K W q src Z H λJ H1=>qu J t (tT K W0 m (tt m)) (tE K W0 m (te m)) (kG n cY Z) H1 λa_ H'=>∀l,H' l=none->Q (.ref l) (upd H' l (.lst a_)):=by
 obtain⟨k,U,S,res,ok,gk,e,w⟩:=h;rcases BR e with⟨⟨m,ds⟩,S1,e1,e2⟩|⟨C,l,S1,e1,rfl⟩
 .refine⟨max q m,k,U,S,_,ok,gk,e1,λJ k1 H1 u1 bI r1=>?_⟩
  rcases BR e2 with⟨out,S2,e3,e4⟩|⟨C,l,S2,e3,rfl⟩
  .cases e4;refine e3k ht r1 bI (d7f (gk.up u1)) e3 λk2 H2 vs u2 cJ rv l hl=>?_
   exact lM.lst (.fin cJ ((w.up u1).up (u2.weak (Nat.le_max_left q m)))) cJ.le rv hl
  .obtain⟨_,_,z⟩:=Xx e3;cases z
 .exact⟨0,k,U,S,_,ok,gk,e1,w⟩
def d7g(hc:X.calm=true)(ok:dQ X scope M n cY)(hi:PI X tg iter wi)(rQ:∀Z H R,tX (RI K q) K W q src Z H R->wi Z H R)(ht:kz K t gg)
  (hg:∀C s H fp,PG (fB X scope M C s H fp) tg t) (hT:∀m C s H fp,tm (fB X scope M C s H fp) ifs (tT K W0 m (tt m))) (hE:∀m C s H fp,PE (fB X scope M C s H fp) elt (tE K W0 m (te m)))
  (hs:∀x,foldedSetIterable iter X.env x=pure x):PE X (.ListComp elt [⟨tg,iter,ifs,0⟩] scope pos) (tE K W q (cv q src gg tt te n cY)):=λaa s Z H Q I h=>by
 obtain⟨m,h⟩:=QC ht h;exact γ hc ok hi hg (hT m) (hE m) hs aa s Z H Q I (rQ _ _ _ h)
def d7h{mu:Bool}{i:Nat}{x:Str}{px pB:Pos}(hc:X.calm=true)(ok:dQ X scope M n cY)(hN:X.N.Nodup)(Ao:X.N[i]?=some x)(hx:Loc X.env.scope x)(hi:PI X tg iter wi)(rQ:∀Z H R,tX (RI K q) K W q src Z H R->wi Z H R)(ht:kz K t gg)
  (hg:∀C s H fp,PG (fB X scope M C s H fp) tg t) (hT:∀m C s H fp,tm (fB X scope M C s H fp) ifs (tT K W0 m (tt m))) (hE:∀m C s H fp,PE (fB X scope M C s H fp) elt (tE K W0 m (te m)))
  (Ek:swapsWith (.ListComp elt [⟨tg,iter,ifs,0⟩] scope pos) (some (.Name x px)) pB.line X.env=pure true) (hs:∀x,foldedSetIterable iter X.env x=pure x) (hf:X.fn x=true\/X.env.scope.names.lookup x=some .local) :
  PS X (.Assign [.Name x px] (.ListComp elt [⟨tg,iter,ifs,0⟩] scope pos) pB) (tS K W q (av i mu (cv q src gg tt te n cY))):=λaa s Z H D I h=>by
 obtain⟨m,h⟩:=QC ht (RM h);exact δ hc ok hN Ao hx hi hg (hT m) (hE m) Ek hs hf aa s Z H D I (rQ _ _ _ h)
end
end L2
namespace L2
open PySem PySem.Spec PySem.W PySem.Calls PyProof.Rows
variable{hs:List ExceptHandler}
noncomputable def pI(C:ag)(fe:GE):GS:=λU S=>lC U (fe U S) λ_ S1=>some (.ex C none U S1)
section
variable{X:Cx}{K:Frag}{W:XW}{q:Nat}{C B0:ag}{x:Str}{p cp pos:Pos}{e:Expr}{fe:GE}
def Xy(G:fK K C (.ref B0::sy) none)(G0:fK K B0 sy none)(hk:keepIn K (.ref C)=true)(hm:X.mg x=some (.ref C))(hp:eR X W)(he:PE X e (tE K W q fe))(hc:X.calm=true)(hg:Gl X x)(lT:(x == ("__debug__":Str))=false)
  (lU:starEach [e] X.env=(false,eval e X.env)::starEach [] X.env) (hK:X.K=K):PS X (.Raise (some (.Call (.Name x p) [e] [] cp)) none pos) (tS K W q (pI C fe)):=by
 subst hK;intro aa s Z H D I t;have t1:tE X.K W q fe Z H λ_ H1=>W C none Z H1:=by
  obtain⟨k,U,S,fr,ok,gk,e,w⟩:=t;refine tS.bd ok gk e w λr S1 v k1 H1 bI g1 r1 e1 w1=>?_
  cases e1;exact w1 none Z k1 H1 .refl bI g1 rfl
 obtain⟨nm,qq,N,bs,sn,sub,ab,col,dd,k0,k1,k2,k3,k5,on,Cf,es,ep,Cg,g1,g2,g3,g4⟩:=id G;rw[arm_exec_Raise];show wpAny _ _ (do standAt pos;raiseStmt X.env (some (do let v <-eval (.Call (.Name x p) [e] [] cp) X.env;standAt pos;pure v)) none) _ _ _
 refine ay (wpAny_standAt (wpAny_raiseStmt_made_sub (C:=C) (nm:=nm) (q:=qq) (N:=N) (bs:=bs) (bm:=.ref B0::sy) (hdct:=true) (sn:=sn) (sub:=sub) (ab:=ab) (col:=col) (dd:=dd) (k0:=k0) (k1:=k1) (k2:=k2) (k3:=k3) (k5:=k5) (newId:="ValueError.__new__") rfl (I.ok.hd hc) (ay (bK ?_ λv s3 h3=>ay (wpAny_standAt (aV h3))))))
 refine wpAny_Call_Name_kw (BH I hg hm ?_ lT);have kg:(backTo cp (starEach [] X.env)).any (·.1)=false:=by rw[starEach];rfl
 refine PySem.W.callWith_K (h₀:=X.base) I.ok.mod.Ca hk (bK ((GZ he nF lU) cp aa s Z H (λvs H1=>vs.length=1/\W C none Z H1) I (qd t1 λ_ H1 h=>⟨rfl,h⟩)) λus s1 hh=>?_) lU kg
 obtain⟨vs,H1,I1,r,hl,pp⟩:=hh;refine⟨I1.kj,?_⟩;obtain⟨u,rfl⟩:∃u,us=[u]:=by
  have l:=r.length;rw[hl] at l;cases us with
  |nil=>cases l
  |cons u us=>cases us with
   |nil=>exact⟨u,rfl⟩
   |cons _ _=>cases l
 refine Xt G G0 I1 λh' t kp g=>⟨_,t,rfl,kp _ _ (I1.kj _ _ g1),g,?_⟩
 exact hp aa Z H1 s1 H1 _ _ C none I1 ⟨rfl,I1.bare,Un.kept kp,I1.bB.kept kp,xE _,I1.bB.fresh (xE _),_,_,g,rfl,rfl,rfl,by show 1<6;decide,.inl rfl⟩ pp
end
abbrev GH:=(ag->ak Bool)×GS
variable{gs:List GH}
noncomputable def EK:Fr->ak Fr
 |.ex _ _ _ _=>none
 |r=>some r
def xm:List GH->ag->GS
 |[],_=>λ_ _=>none
 |h::hs,C=>λU S=>(h.1 C).bind λb=>if b=true then(h.2 U S).bind EK else xm hs C U S
def ud(f:GS)(hs:List GH):GS:=λU S=>(f U S).bind λr=>match r with
 |.ex C _ U1 S1=>xm hs C U1 S1
 |r=>some r
section
variable{X:Cx}{K:Frag}{W:XW}{q:Nat}
theorem SP.eJ{aa:List (ag×Obj)}{D:Ends}{f:Flow}{s':au}{e:ai}(h:SP (X.dO e) aa D f s')(hd:X.calm=true->X.A.handled=none):SP X aa D f s':=by
 cases f with
 |next=>obtain⟨Z',H',I,q⟩:=h;exact⟨Z',H',I.eJ hd,q⟩
 |brk=>obtain⟨Z',H',I,q⟩:=h;exact⟨Z',H',I.eJ hd,q⟩
 |cont=>obtain⟨Z',H',I,q⟩:=h;exact⟨Z',H',I.eJ hd,q⟩
 |ret u=>obtain⟨v,Z',H',I,r,q⟩:=h;exact⟨v,Z',H',I.eJ hd,r,q⟩
def Done.EK{D:Ends}{k:Kn}{H:Hp}{r fr:Fr}(w:Done K W q D k H fr)(e:L2.EK r=some fr):Done K W0 q D k H r:=by
 cases r with
 |ex _ _ _ _=>cases e
 |_=>cases e;exact w
def HB(X:Cx)(K:Frag)(W:XW)(q:Nat)(hs:List ExceptHandler)(gs:List GH):Prop:=∀(aa:List (ag×Obj)) (Z:St) (H:Hp) (s:au) (D:Ends) (e C:ag) (dx:ak ag) (k:Kn) (U:Gm) (S:aO) (fr:Fr) (n:Nat),Inv X aa Z H s->CD X aa n->iw n s.heap H e C dx->bY K k H S->gw K k Z U->xm gs C U S=some fr->Done K W q D k H fr->
 wpAny (model X.prog X.w) X.A (handleBy (.ref e) X.env hs) (SP X aa D) X.xe s
def e3l:HB X K W q [] []:=λ_ _ _ _ _ _ _ _ _ _ _ _ _ _ _ _ _ _ e _=>nomatch e
def d7i{x:Str}{np hp:Pos}{b0:Stmt}{pC:List Stmt}{wh:ag->ak Bool}{g:GS}{Cc:ag}(hm:X.mg x=some (.ref Cc))(hw:∀C b,wh C=some b->exmOne K (.ref C) (.ref Cc)=some b)(hS:∀e,ji (X.dO e) (b0::pC) (tS K W0 q g))(rest:HB X K W q hs gs)(hg:Gl X x)(lT:(x == ("__debug__":Str))=false)(hK:X.K=K):
  HB X K W q (.ExceptHandler (some (.Name x np)) none (b0::pC) hp::hs) ((wh,g)::gs):=by
 subst hK;intro aa Z H s D e C dx k U S fr n I y f ok gk ee w;obtain⟨bb,q1,ee⟩:=cB.mp ee;dsimp only at q1 ee;refine wpAny_handleBy_cons (codeAny_handlers_test (BH (I.dO (e:=.ref e)) hg hm ?_ lT)) (by intro q;cases q)
 obtain⟨fG,vm,oe,vs,he,hc,hr⟩:=id f;have LT:Looks (model X.prog X.w) s.heap (typeOf (.ref e)) (.ref C):=by
  rw[<-hc];exact(Looks.ld he).andThen .now
 refine(exm_one I.kj LT (hw C bb q1)).here ?_;cases bb with
 |true=>
  obtain⟨r,e2,e3⟩:=cB.mp (show(g U S).bind L2.EK=some fr from ee);refine codeAny_handlers_suite (Xu (X:=X) f λh' ch lE lx f2=>?_)
  have I2:Inv X aa Z H { s with heap:=h',toks:=s.toks}:=I.left y lx lE;refine wpAny_mono (hS (.ref e) aa _ Z H D I2.dO ⟨k,U,S,r,ok,gk,e2,w.EK e3⟩) (λfl s2 q=>?_) λ_ _ z=>z.elim
  exact q.eJ I.ok.hd
 |false=>exact rest aa Z H s D e C dx k U S fr n I y f ok gk ee w
theorem SP.dY{aa:List (ag×Obj)}{E:ai->au->Prop}{D:Ends}{f:Flow}{s':au}(h:SP (X.dP (X.pn++aa) E) [] D f s'):SP X aa D f s':=by
 cases f with
 |next=>obtain⟨Z',H',I,q⟩:=h;exact⟨Z',H',I.dY,q⟩
 |brk=>obtain⟨Z',H',I,q⟩:=h;exact⟨Z',H',I.dY,q⟩
 |cont=>obtain⟨Z',H',I,q⟩:=h;exact⟨Z',H',I.dY,q⟩
 |ret u=>obtain⟨v,Z',H',I,r,q⟩:=h;exact⟨v,Z',H',I.dY,r,q⟩
def e3m{body:List Stmt}{h0:ExceptHandler}{f:GS}{pos:Pos}(hb:∀(pn:List (ag×Obj)) (E:ai->au->Prop) (W:XW),eR (X.dP pn E) W->ji (X.dP pn E) body (tS K W q f))(hh:HB X K W q (h0::hs) gs)(lU:X.stack=X.env::X.outer)(hf:X.env.frame=some X.env.locals):
  PS X (.Try body (h0::hs) [] [] pos) (tS K W q (ud f gs)):=by
 intro aa s Z H D I t;obtain⟨k,U,S,fr,ok,gk,e,w⟩:=t;obtain⟨r1,e1,e⟩:=cB.mp e;refine wpAny_Try_except ?_;have hp:eR (X.dP (X.pn++aa) λe s₁=>wpAny (model X.prog X.w) X.A (noteFrame e X.env) (λ_ s₂=>wpAny (model X.prog X.w) X.A (setFlight e none) (λ_ s₃=>wpAny (model X.prog X.w) X.A (handleBy e X.env (h0::hs)) (SP X aa D) X.xe s₃) X.xe s₂) X.xe s₁)
   (λC dx Z' H'=>∃k' U1 S1 fr,bY K k' H' S1/\gw K k' Z' U1/\xm gs C U1 S1=some fr/\Done K W q D k' H' fr):=by
  intro pz Z' H1 s1 H' s' e C dx I1 c q;obtain⟨k',U2,S2,fr2,cJ,gk2,e2,w2⟩:=q;have I':Inv X aa Z' H' s':=(c.inv I1).dY;have J:Inv X aa Z' H1 s1:=I1.dY;refine RL (base:=X.base) (n:=s1.heap.objs.size) (by rw[<-lU];exact I.ok.frames) (by rw[<-lU];exact I'.stack) hf c.HI.lt (λa z=>I'.bB.fresh z) c.HI λh' ch lE lx fl=>?_
  rw[<-lU] at lx;have I3:Inv X aa Z' H' { s' with heap:=h',toks:=s'.toks}:=I'.left J.T9 lx lE;exact hh aa Z' H' _ D e C dx k' U2 S2 fr2 _ I3 J.T9 fl cJ gk2 e2 w2
 refine wpAny_mono (hb _ _ _ hp [] s Z H D I.dP ⟨k,U,S,r1,ok,gk,e1,?_⟩) (λff s1 z=>?_) λe s1 z=>z
 .cases r1 with
  |ex C l U1 S1=>exact λdx Z' k' H' u fI g' el=>⟨k',U1,S1,fr,fI,g',e,w.up u⟩
  |_=>cases e;exact w
 .have z:=z.dY;cases ff with
  |next=>
   obtain⟨Z',H',J,r⟩:=z;exact qU aa s1 Z' H' D J r
  |brk=>exact z
  |cont=>exact z
  |ret u=>exact z
end
end L2
namespace L2
open PySem PySem.Spec PyProof.Rows
variable{K:PySem.W.Frag}{es:List D}{j n:Nat}
abbrev bo(K:PySem.W.Frag)(H:Hp):List V->List D->Prop:=ah K ⟨H,[],[]⟩
def ah.IA{H H1:Hp}{vs:List V}{ds:List D}(h:ah K ⟨H,[],[]⟩ vs ds)(s:aw H H1):ah K ⟨H1,[],[]⟩ vs ds:=ah.mono (k:=⟨H,[],[]⟩) ⟨s,lZ ([]:List ag)⟩ h
section
variable{X:Cx}
mutual
def aR:D->D->Bool
 |.lst xs,.lst ys=>cR xs ys
 |.tup xs,.tup ys=>cR xs ys
 |.aI,.aI=>true
 |.bl a,.bl b=>a == b
 |.bl a,.int b=>(if a then 1 else 0) == b
 |.int a,.bl b=>a == (if b then 1 else 0)
 |.int a,.int b=>a == b
 |.str a,.str b=>a == b
 |_,_=>false
def cR:List D->List D->Bool
 |[],[]=>true
 |x::xs,y::ys=>aR x y&&cR xs ys
 |_,_=>false
end
noncomputable def c7:Nat->D->Bool
 |n+1,.lst xs=>xs.all (c7 n)
 |n+1,.tup xs=>xs.all (c7 n)
 |_,.aI=>true
 |_,.bl _=>true
 |_,.int _=>true
 |_,.str _=>true
 |_,_=>false
theorem C3:∀{xs ys:List D},xs.length≠ys.length->cR xs ys=false
 |[],[],h=>b_ rfl h
 |[],_::_,_=>by unfold cR;rfl
 |_::_,[],_=>by unfold cR;rfl
 |x::xs,y::ys,h=>by unfold cR;rw[C3 (by simpa using h),Bool.and_false]
theorem C4:∀{xs ys:List D} (n:Nat),xs.length=n->ys.length=n->cR xs ys=(List.range n).all λj=>aR (xs.getD j .aI) (ys.getD j .aI)
 |[],[],0,_,_=>by unfold cR;rfl
 |x::xs,y::ys,n+1,h1,h2=>by
  unfold cR;rw[C4 n (by simpa using h1) (by simpa using h2),List.range_succ_eq_map,qr,FJ]
  rfl
 |[],_,_+1,h,_=>by simp at h
 |_::_,[],_+1,_,h=>by simp at h
 |_::_,_,0,h,_=>by simp at h
 |[],_::_,0,_,h=>by simp at h
variable{aa:List (ag×Obj)}{Z:St}{H:Hp}{s:au}
def xX{F:Hp}{ws:List V}(r:bo K F ws es){aF:List ai}(rv:Vals ws aF)(h:j<aF.toArray.size):∃x,RelV x aF.toArray[j]/\bo K F [x] [es.getD j .aI]/\j<es.length:=by
 obtain⟨x,hx,rx⟩:=rv.at h;have hl:=r.length;have hj:j<es.length:=by
  have:=(eQ.mp hx).1;lia
 obtain⟨y,hy,ry⟩:=r.get (i:=j) (d:=es[j]) (by simp[hj])
 rw[hx] at hy;cases hy;refine⟨x,rx,?_,hj⟩;rw[show es.getD j .aI=es[j] by simp[hj]]
 exact ry
def xQ{p:D->Bool}(h:es.all p=true)(hj:j<es.length):p (es.getD j .aI)=true:=by
 simp_all
inductive zq (K:PySem.W.Frag) (H:Hp) (s:au):ai->D->Prop
 |none:zq K H s .none .aI
 |bool (b:Bool):zq K H s (.bool b) (.bl b)
 |int (i:Int) (t:Tok):zq K H s (.int i t) (.int i)
 |str (x:Str) (t:Tok):zq K H s (.str x t) (.str x)
 |list {a:ag} {aF:List ai} {ws:List V} {es:List D}:s.heap.IsList a aF.toArray->Vals ws aF->bo K H ws es->zq K H s (.ref a) (.lst es)
 |tuple {a:ag} {aF:List ai} {ws:List V} {es:List D}:s.heap.IsTuple a aF.toArray->Vals ws aF->bo K H ws es->zq K H s (.ref a) (.tup es)
def Hj(I:Inv X aa Z H s){x:V}{u:ai}{d:D}(r:bo X.K H [x] [d])(ru:RelV x u)(ok:c7 n d=true):zq X.K H s u d:=by
 cases r with
 |lst q i _=>
  cases ru;obtain⟨aF,rv,pl,_⟩:=I.list q;exact .list pl.isList rv i
 |tup q i _=>
  cases ru;obtain⟨aF,rv,pl,_⟩:=I.tuple q;exact .tuple pl rv i
 |aB _ _ _ _ _=>cases n <;> cases ok
 |ref _ _=>cases n <;> cases ok
 |flat q _=>
  cases d with
  |aI=>cases q;cases ru;exact .none
  |bl b=>cases q;cases ru;exact .bool b
  |int i=>cases q;obtain⟨t,rfl⟩:=ru;exact .int i t
  |str z=>cases q;obtain⟨t,rfl⟩:=ru;exact .str z t
  |ty _=>cases n <;> cases ok
  |lst _=>cases q
  |tup _=>cases q
  |aB _=>cases q
  |ref _=>cases q
def zF(h:c7 n (.lst es)=true):∃m,n=m+1/\es.all (c7 m)=true:=by
 cases n with
 |zero=>cases h
 |succ n=>exact⟨n,rfl,h⟩
def zG(h:c7 n (.tup es)=true):∃m,n=m+1/\es.all (c7 m)=true:=by
 cases n with
 |zero=>cases h
 |succ n=>exact⟨n,rfl,h⟩
def O1(h:∀d∈es,aR d d=true):cR es es=true:=by
 induction es with
 |nil=>unfold cR;rfl
 |cons d es ih=>unfold cR;rw[h d (by simp),ih λd m=>h d (by simp[m])];rfl
def J5:∀(n:Nat) {d:D},c7 n d=true->aR d d=true:=by
 intro n
 induction n with
 |zero=>intro d h;cases d <;> first|(cases h;done)|simp[aR]
 |succ n ih=>
  intro d h;cases d with
  |lst es=>simp only[aR];exact O1 λd m=>ih (pR.mp h d m)
  |tup es=>simp only[aR];exact O1 λd m=>ih (pR.mp h d m)
  |aB _=>cases h
  |ref _=>cases h
  |ty _=>cases h
  |_=>simp[aR]
def UJ{xs ys:List D}(hl:xs.length=ys.length)(h:∀j,j<xs.length->xs.getD j .aI=ys.getD j .aI):xs=ys:=by
 apply List.ext_getElem hl;intro j h1 h2;have:=h j h1;simpa[h1,h2] using this
noncomputable def Ng:V->D
 |.bl b=>.bl b
 |.int i=>.int i
 |.str x=>.str x
 |.ty n=>.ty n
 |_=>.aI
def O2{d:D}{v:V}(h:xW d=some v):d=Ng v:=by cases d <;> cases h <;> rfl
def BE{d:D}{a:ag}(h:xW d=some (.ref a)):False:=by cases d <;> cases h
def G5(I:Inv X aa Z H s):∀(n m:Nat) {x:V} {d e:D},bo X.K H [x] [d]->bo X.K H [x] [e]->c7 n d=true->c7 m e=true->d=e:=by
 intro n
 induction n using Nat.strongRecOn with
 |ind n ih=>
 intro m x d e rd re od oe;have go:∀{ws:List V} {es mE:List D} {n' m':Nat},n'<n->bo X.K H ws es->bo X.K H ws mE->es.all (c7 n')=true->mE.all (c7 m')=true->es=mE:=by
  intro ws es mE n' m' hn r1 r2 o1 o2;have l1:=r1.length;have l2:=r2.length;refine UJ (by lia) λj hj=>?_
  have HW:j<mE.length:=by lia
  obtain⟨v,g1,g2⟩:=r1.get (i:=j) (d:=es[j]) (by simp[hj])
  obtain⟨v',p1,p2⟩:=r2.get (i:=j) (d:=mE[j]) (by simp[HW])
  rw[g1] at p1;cases p1;rw[show es.getD j .aI=es[j] by simp[hj],show mE.getD j .aI=mE[j] by simp[HW]]
  exact ih n' hn m' g2 p2 (pR.mp o1 _ (FI hj)) (pR.mp o2 _ (FI HW))
 cases rd with
 |flat q _=>
  cases re with
  |flat q' _=>
   rw[O2 q,O2 q']
  |lst _ _ _=>exact(BE q).elim
  |tup _ _ _=>exact(BE q).elim
  |aB _ _ _ _ _=>exact(BE q).elim
  |ref _ _=>exact(BE q).elim
 |lst q i _=>
  obtain⟨n',rfl,uB⟩:=zF od;cases re with
  |flat q' _=>exact(BE q').elim
  |lst q' i' _=>
   obtain⟨m',rfl,uC⟩:=zF oe;cases I.lh q q';rw[go (xD _) i i' uB uC]
  |tup q' i' _=>
   obtain⟨_,_,p1,_⟩:=I.list q;obtain⟨_,_,p2,_⟩:=I.tuple q';exact b_ rfl (SeqAt.ne_of_list_tuple p1.isList p2)
  |aB _ _ _ _ _=>cases m <;> cases oe
  |ref _ _=>cases m <;> cases oe
 |tup q i _=>
  obtain⟨n',rfl,uB⟩:=zG od;cases re with
  |flat q' _=>exact(BE q').elim
  |tup q' i' _=>
   obtain⟨m',rfl,uC⟩:=zG oe;cases I.mT q q';rw[go (xD _) i i' uB uC]
  |lst q' i' _=>
   obtain⟨_,_,p1,_⟩:=I.list q';obtain⟨_,_,p2,_⟩:=I.tuple q;exact b_ rfl (SeqAt.ne_of_list_tuple p1.isList p2)
  |aB _ _ _ _ _=>cases m <;> cases oe
  |ref _ _=>cases m <;> cases oe
 |aB _ _ _ _ _=>cases n <;> cases od
 |ref _ _=>cases n <;> cases od
def Du(I:Inv X aa Z H s):∀(n m:Nat) {A:cQ} {x y:V} {u v:ai} {d e:D},bo X.K H [x] [d]->bo X.K H [y] [e]->c7 n d=true->c7 m e=true->RelV x u->RelV y v->A.units+n<cLine->
  SeqAt.EqAt A s u v (aR d e)/\SeqAt.RcAt A s u v (aR d e):=by
 intro n
 induction n using Nat.strongRecOn with
 |ind n ih=>
 intro m A x y u v d e rd re od oe ru rv hu;have cI:A.units<cLine:=by lia
 have s1:=Hj I rd ru od;have s2:=Hj I re rv oe;cases s1 with
 |none=>
  cases s2 with
  |none=>
   exact⟨SeqAt.EqAt.same _,SeqAt.RcAt.none_none⟩
  |bool a2=>
   simp only[aR];exact⟨SeqAt.EqAt.none_bool a2,SeqAt.RcAt.none_bool a2⟩
  |int a2 t2=>
   simp only[aR];exact⟨SeqAt.EqAt.none_int a2 t2,SeqAt.RcAt.none_int a2 t2⟩
  |str a2 t2=>
   simp only[aR];exact⟨SeqAt.EqAt.none_str a2 t2,SeqAt.RcAt.none_str a2 t2⟩
  |list l2 v2 r2=>
   simp only[aR];exact⟨SeqAt.EqAt.none_list l2 cI,SeqAt.RcAt.none_list l2 cI⟩
  |tuple l2 v2 r2=>
   simp only[aR];exact⟨SeqAt.EqAt.none_tuple l2 cI,SeqAt.RcAt.none_tuple l2 cI⟩
 |bool a1=>
  cases s2 with
  |none=>
   simp only[aR];exact⟨SeqAt.EqAt.bool_none a1,SeqAt.RcAt.bool_none a1⟩
  |bool a2=>
   simp only[aR];exact⟨SeqAt.EqAt.bool_bool a1 a2,SeqAt.RcAt.bool_bool a1 a2⟩
  |int a2 t2=>
   simp only[aR];exact⟨SeqAt.EqAt.bool_int a1 a2 t2,SeqAt.RcAt.bool_int a1 a2 t2⟩
  |str a2 t2=>
   simp only[aR];exact⟨SeqAt.EqAt.bool_str a1 a2 t2,SeqAt.RcAt.bool_str a1 a2 t2⟩
  |list l2 v2 r2=>
   simp only[aR];exact⟨SeqAt.EqAt.bool_list a1 l2 cI,SeqAt.RcAt.bool_list a1 l2 cI⟩
  |tuple l2 v2 r2=>
   simp only[aR];exact⟨SeqAt.EqAt.bool_tuple a1 l2 cI,SeqAt.RcAt.bool_tuple a1 l2 cI⟩
 |int a1 t1=>
  cases s2 with
  |none=>
   simp only[aR];exact⟨SeqAt.EqAt.int_none a1 t1,SeqAt.RcAt.int_none a1 t1⟩
  |bool a2=>
   simp only[aR];exact⟨SeqAt.EqAt.int_bool a1 t1 a2,SeqAt.RcAt.int_bool a1 t1 a2⟩
  |int a2 t2=>
   simp only[aR];exact⟨SeqAt.EqAt.int_int a1 t1 a2 t2,SeqAt.RcAt.int_int a1 t1 a2 t2⟩
  |str a2 t2=>
   simp only[aR];exact⟨SeqAt.EqAt.int_str a1 t1 a2 t2,SeqAt.RcAt.int_str a1 t1 a2 t2⟩
  |list l2 v2 r2=>
   simp only[aR];exact⟨SeqAt.EqAt.int_list a1 t1 l2 cI,SeqAt.RcAt.int_list a1 t1 l2 cI⟩
  |tuple l2 v2 r2=>
   simp only[aR];exact⟨SeqAt.EqAt.int_tuple a1 t1 l2 cI,SeqAt.RcAt.int_tuple a1 t1 l2 cI⟩
 |str a1 t1=>
  cases s2 with
  |none=>
   simp only[aR];exact⟨SeqAt.EqAt.str_none a1 t1,SeqAt.RcAt.str_none a1 t1⟩
  |bool a2=>
   simp only[aR];exact⟨SeqAt.EqAt.str_bool a1 t1 a2,SeqAt.RcAt.str_bool a1 t1 a2⟩
  |int a2 t2=>
   simp only[aR];exact⟨SeqAt.EqAt.str_int a1 t1 a2 t2,SeqAt.RcAt.str_int a1 t1 a2 t2⟩
  |str a2 t2=>
   simp only[aR];exact⟨SeqAt.EqAt.str_str a1 t1 a2 t2,SeqAt.RcAt.str_str a1 t1 a2 t2⟩
  |list l2 v2 r2=>
   simp only[aR];exact⟨SeqAt.EqAt.str_list a1 t1 l2 cI,SeqAt.RcAt.str_list a1 t1 l2 cI⟩
  |tuple l2 v2 r2=>
   simp only[aR];exact⟨SeqAt.EqAt.str_tuple a1 t1 l2 cI,SeqAt.RcAt.str_tuple a1 t1 l2 cI⟩
 |list l1 v1 r1=>
  cases s2 with
  |none=>
   simp only[aR];exact⟨SeqAt.EqAt.list_none l1 cI,SeqAt.RcAt.list_none l1 cI⟩
  |bool a2=>
   simp only[aR];exact⟨SeqAt.EqAt.list_bool a2 l1 cI,SeqAt.RcAt.list_bool a2 l1 cI⟩
  |int a2 t2=>
   simp only[aR];exact⟨SeqAt.EqAt.list_int a2 t2 l1 cI,SeqAt.RcAt.list_int a2 t2 l1 cI⟩
  |str a2 t2=>
   simp only[aR];exact⟨SeqAt.EqAt.list_str a2 t2 l1 cI,SeqAt.RcAt.list_str a2 t2 l1 cI⟩
  |list l2 v2 r2=>
   rename_i a aF ws es b iY Fy mE
   obtain⟨n',rfl,uB⟩:=zF od;obtain⟨m',rfl,uC⟩:=zF oe;have la:=v1.length;have lb:=v2.length;have Cb:=r1.length;have Mf:=r2.length;have rc:SeqAt.RcAt A s (.ref a) (.ref b) (aR (.lst es) (.lst mE)):=by
    simp only[aR];by_cases hl:es.length=mE.length
    .rw[C4 aF.toArray.size (by simp only[dA];lia) (by simp only[dA];lia)]
     refine SeqAt.RcAt.lists (A:=A) l1 l2 (by simp only[dA];lia) cI λj h1 h2=>?_
     obtain⟨x1,q1,q2,q3⟩:=xX r1 v1 h1;obtain⟨y1,p1,p2,p3⟩:=xX r2 v2 h2;exact(ih n' (xD _) m' q2 p2 (xQ uB q3) (xQ uC p3) q1 p1 (by show A.units+1+n'<cLine;lia)).1
    .rw[C3 hl];exact SeqAt.RcAt.lists_lengths (A:=A) l1 l2 (by simp only[dA,bne_iff_ne,ne_eq];lia) cI
   refine⟨?_,rc⟩;by_cases D6:a=b
   .subst D6;have Lj:x=y:=RelV.inj ru rv;subst Lj;have e2:=G5 I _ _ rd re od oe;cases e2;rw[J5 _ od];exact SeqAt.EqAt.same _
   .exact SeqAt.EqAt.of_refs D6 rc
  |tuple l2 v2 r2=>
   simp only[aR];exact⟨SeqAt.EqAt.list_tuple l1 l2 cI,SeqAt.RcAt.list_tuple l1 l2 cI⟩
 |tuple l1 v1 r1=>
  cases s2 with
  |none=>
   simp only[aR];exact⟨SeqAt.EqAt.tuple_none l1 cI,SeqAt.RcAt.tuple_none l1 cI⟩
  |bool a2=>
   simp only[aR];exact⟨SeqAt.EqAt.tuple_bool a2 l1 cI,SeqAt.RcAt.tuple_bool a2 l1 cI⟩
  |int a2 t2=>
   simp only[aR];exact⟨SeqAt.EqAt.tuple_int a2 t2 l1 cI,SeqAt.RcAt.tuple_int a2 t2 l1 cI⟩
  |str a2 t2=>
   simp only[aR];exact⟨SeqAt.EqAt.tuple_str a2 t2 l1 cI,SeqAt.RcAt.tuple_str a2 t2 l1 cI⟩
  |list l2 v2 r2=>
   simp only[aR];exact⟨SeqAt.EqAt.tuple_list l1 l2 cI,SeqAt.RcAt.tuple_list l1 l2 cI⟩
  |tuple l2 v2 r2=>
   rename_i a aF ws es b iY Fy mE
   obtain⟨n',rfl,uB⟩:=zG od;obtain⟨m',rfl,uC⟩:=zG oe;have la:=v1.length;have lb:=v2.length;have Cb:=r1.length;have Mf:=r2.length;have rc:SeqAt.RcAt A s (.ref a) (.ref b) (aR (.tup es) (.tup mE)):=by
    have z:=SeqAt.RcAt.tuples (A:=A) (e:=λj=>aR (es.getD j .aI) (mE.getD j .aI)) l1 l2 cI λj h1 h2=>by
     obtain⟨x1,q1,q2,q3⟩:=xX r1 v1 h1;obtain⟨y1,p1,p2,p3⟩:=xX r2 v2 h2;exact(ih n' (xD _) m' q2 p2 (xQ uB q3) (xQ uC p3) q1 p1 (by show A.units+1+n'<cLine;lia)).1
    simp only[aR];by_cases hl:es.length=mE.length
    .rw[C4 aF.toArray.size (by simp only[dA];lia) (by simp only[dA];lia)]
     have e1:iY.toArray.size=aF.toArray.size:=by simp only[dA];lia
     rw[e1,Nat.min_self,eL,Bool.and_true] at z;exact z
    .rw[C3 hl];have e1:(aF.toArray.size == iY.toArray.size)=false:=by rw[nQ];simp only[dA];lia
     rw[e1,Bool.and_false] at z;exact z
   refine⟨?_,rc⟩;by_cases D6:a=b
   .subst D6;have Lj:x=y:=RelV.inj ru rv;subst Lj;have e2:=G5 I _ _ rd re od oe;cases e2;rw[J5 _ od];exact SeqAt.EqAt.same _
   .exact SeqAt.EqAt.of_refs D6 rc
end
mutual
theorem Kq:∀k j:TK,aR k.d j.d=decide (k=j)
 |.inl a,.inl b=>by simp only[TK.d,aR];rw[Ba];simp
 |.inr a,.inr b=>by simp only[TK.d,aR];rw[Ba];simp
 |.tp l,.tp m=>by simp only[TK.d,aR];rw[oR l m,Ba];simp
 |.inl _,.inr _=>by simp[TK.d,aR]
 |.inl _,.tp _=>by simp[TK.d,aR]
 |.inr _,.inl _=>by simp[TK.d,aR]
 |.inr _,.tp _=>by simp[TK.d,aR]
 |.tp _,.inl _=>by simp[TK.d,aR]
 |.tp _,.inr _=>by simp[TK.d,aR]
 |.aI,.aI=>by simp[TK.d,aR]
 |.aI,.inl _=>by simp[TK.d,aR]
 |.aI,.inr _=>by simp[TK.d,aR]
 |.aI,.tp _=>by simp[TK.d,aR]
 |.inl _,.aI=>by simp[TK.d,aR]
 |.inr _,.aI=>by simp[TK.d,aR]
 |.tp _,.aI=>by simp[TK.d,aR]
theorem oR:∀l m:List TK,cR (TK.dl l) (TK.dl m)=decide (l=m)
 |[],[]=>by simp[TK.dl,cR]
 |a::l,b::m=>by simp only[TK.dl,cR];rw[Kq a b,oR l m,Ba];simp
 |[],_::_=>by simp[TK.dl,cR]
 |_::_,[]=>by simp[TK.dl,cR]
end
theorem Hk:∀l:List TK,TK.dl l=l.map TK.d
 |[]=>by simp[TK.dl]
 |a::l=>by simp[TK.dl,Hk l]
theorem BI:∀(n:Nat) {k:TK},k.ok n=true->c7 n k.d=true
 |n,.inl i,_=>by cases n <;> simp[TK.d,c7]
 |n,.inr i,_=>by cases n <;> simp[TK.d,c7]
 |n,.aI,_=>by cases n <;> simp[TK.d,c7]
 |0,.tp l,h=>by simp[TK.ok] at h
 |n+1,.tp l,h=>by
  simp only[TK.d,c7,Hk,FJ];refine pR.mpr λa m=>?_
  exact BI n (pR.mp (by simpa only[TK.ok] using h) a m)
def Wf{α:Type}{M:Model}{A:cQ}{E:ai->au->Prop}{s:au}{c:Prop}[Decidable c]{a b:Sem α}{Q:α->au->Prop}(h1:wpAny M A a Q E s)(h2:wpAny M A b Q E s):wpAny M A (if c then a else b) Q E s:=by
 split
 .exact h1
 .exact h2
theorem N8(w:cC):∀l m:List TK,TK.dN w (l++m)=TK.dN w l++TK.dN w m
 |[],m=>by simp[TK.dN]
 |a::l,m=>by simp[TK.dN,N8 w l m]
section
variable{X:Cx}{aa:List (ag×Obj)}{Z:St}{H:Hp}
def QD{A:cQ}{E:ai->au->Prop}{s:au}{y:V}{u:ai}{i:Int}{Q:Int->au->Prop}(r:bo X.K H [y] [TK.d (.inl i)])(ru:RelV y u)(h:∀t,Q (TK.hash X.w (.inl i)) { s with toks:=t}):wpAny (model X.prog X.w) A (pyHash u) Q E s:=by
 simp only[TK.d] at r;cases r with
 |flat q _=>cases q;obtain⟨t,rfl⟩:=ru;exact wpAny_pyHash_int (by simpa only[TK.hash] using h _)
def QE{A:cQ}{E:ai->au->Prop}{s:au}{y:V}{u:ai}{i:Str}{Q:Int->au->Prop}(r:bo X.K H [y] [TK.d (.inr i)])(ru:RelV y u)(h:∀t,Q (TK.hash X.w (.inr i)) { s with toks:=t}):wpAny (model X.prog X.w) A (pyHash u) Q E s:=by
 simp only[TK.d] at r;cases r with
 |flat q _=>cases q;obtain⟨t,rfl⟩:=ru;exact wpAny_pyHash_str (by simpa only[TK.hash] using h _)
theorem QF{A:cQ}{E:ai->au->Prop}{s:au}{y:V}{u:ai}{Q:Int->au->Prop}(r:bo X.K H [y] [TK.d .aI])(ru:RelV y u)(h:∀t,Q (TK.hash X.w .aI) { s with toks:=t}):wpAny (model X.prog X.w) A (pyHash u) Q E s:=by
 simp only[TK.d] at r;cases r with
 |flat q _=>
  cases q;cases ru;have hT:s.TypeIs .none "NoneType":=rfl;unfold pyHash;have hv:[Value.none].any Value.onHeap=false:=rfl;refine ay ?_;rw[cRoomFor,aM (by rw[hv];exact pF)];refine aV ?_
  refine ay (wpAny_specialOf hT F.slot_NoneType_hash.lookup ?_);show wpAny _ _ (if(some (Value.builtin "NoneType.__hash__") == some Value.none)=true then _ else _) Q E s
  rw[aM (by rw[beq_builtin_none];exact pF)]
  refine ay (wpAny_specialOf hT F.slot_NoneType_hash.lookup ?_);show wpAny _ _ (callSpecialIfBoundUnlessNone? .none "__hash__" _ >>= _) Q E s;refine ay (wpAny_callSpecialIfBoundUnlessNone?_slot hT F.slot_NoneType_hash (wpAny_call_entry F.slot_NoneType_hash hT F.entry_NoneType_hash (show wpAny _ _ (do ret (<-mkInt 4238894112)) _ _ s from wpAny_ret_mkInt ?_) (F.args_NoneType_hash_1 _)))
  refine aV ?_;have e:(if((4238894112:Int) == -1)=true then(-2:Int) else 4238894112)=4238894112:=by decide
  rw[e];simpa only[TK.hash] using h _
theorem PD:∀(n:Nat) {A:cQ} {E:ai->au->Prop} {s:au} {y:V} {u:ai} {k:TK} {Q:Int->au->Prop},Inv X aa Z H s->bo X.K H [y] [k.d]->k.ok n=true->RelV y u->A.units+n<cLine->
  (∀t,Q (k.hash X.w) { s with toks:=t})->wpAny (model X.prog X.w) A (pyHash u) Q E s:=by
 intro n
 induction n with
 |zero=>
  intro A E s y u k Q I r ok ru hu h;cases k with
  |tp l=>simp[TK.ok] at ok
  |inl i=>exact QD r ru h
  |inr x=>exact QE r ru h
  |aI=>exact QF r ru h
 |succ n ih=>
  intro A E s y u k Q I r ok ru hu h;cases k with
  |inl i=>exact QD r ru h
  |inr x=>exact QE r ru h
  |aI=>exact QF r ru h
  |tp l=>
   simp only[TK.d] at r;cases r with
   |flat q _=>cases q
   |@tup a ws _ _ _ q i _=>
    cases ru;obtain⟨aF,rv,pl,_⟩:=I.tuple q;have hT:s.TypeIs (.ref a) "tuple":=pl.typeIs;obtain⟨o,g1,g2,nn,g3⟩:=pl;have ok:l.all (TK.ok n)=true:=by simpa only[TK.ok] using ok
    show wpAny _ _ (pyHashByItsType (.ref a)) Q E s;unfold pyHashByItsType;refine ay (wpAny_cRoomFor_or (.inr (by lia)) (ay (wpAny_specialOf hT F.slot_tuple_hash.lookup ?_)))
    dsimp only;rw[aM (by rw[beq_builtin_none];exact pF)]
    refine ay (wpAny_specialOf hT F.slot_tuple_hash.lookup (ay ?_));refine wpAny_callSpecialIfBoundUnlessNone?_slot hT F.slot_tuple_hash (wpAny_call_entry F.slot_tuple_hash hT F.entry_tuple_hash ?_ (F.args_tuple_hash_1 _));show wpAny _ _ (Builtin.Tuple.tupleItemsOf (.ref a) >>= λz=>_) _ _ s
    refine ay (wpAny_tupleItemsOf g1 g3 (ay ?_));rw[<-Array.forIn_toList];refine wpAny_forIn_list _ (λrest (b:Array Int) s'=>∃done left wl t,l=done++left/\bo X.K H wl (TK.dl left)/\Vals wl rest/\b.toList=TK.dN X.w done/\s'={ s with toks:=t}) _ ?_ ?_ _ _ ⟨[],l,ws,s.toks,rfl,i,rv,by simp[TK.dN],rfl⟩
    .rintro x rest b s' ⟨done,left,wl,t,e,r',v',hb,rfl⟩;cases v' with
     |@cons w1 _ wl _ MM v'=>
      cases left with
      |nil=>have:=r'.length;simp[TK.dl] at this
      |cons k1 left=>
       simp only[TK.dl] at r';have bI:k1.ok n=true:=pR.mp ok k1 (by rw[e];simp)
       have fin:∀t',∃ye yF T8 Cj,l=ye++yF/\bo X.K H T8 (TK.dl yF)/\Vals T8 rest/\(b.push (k1.hash X.w)).toList=TK.dN X.w ye/\({ s with toks:=t'}:au)={ s with toks:=Cj}:=
        λt'=>⟨done++[k1],left,wl,t',by simp[e],r'.inv.2,v',by rw[N8,<-hb];simp[TK.dN],rfl⟩
       exact ay (ih (I.tok t) r'.inv.1 bI MM (by show A.units+1+n<cLine;lia) λt'=>by
        first
         |exact aV (fin t')
         |exact ay (aV (aV (fin t'))))
    .rintro b s' ⟨done,left,wl,t,e,r',v',hb,rfl⟩;cases v';have hl:left=[]:=by
      cases left with
      |nil=>rfl
      |cons _ _=>have:=r'.length;simp[TK.dl] at this
     subst hl;rw[lY] at e;subst e;show wpAny _ _ (retInt (Builtin.Tuple.tupleHashOf b.toList)) _ _ _;rw[hb];refine wpAny_ret_mkInt ?_;have h':∀t,Q (reduceHash (Builtin.Tuple.tupleHashOf (TK.dN X.w l))) { s with toks:=t}:=λt=>by simpa only[TK.hash] using h t
     unfold reduceHash at h';show wpAny _ _ (if(decide (-(2:Int)^63<=Builtin.Tuple.tupleHashOf (TK.dN X.w l))&&decide (Builtin.Tuple.tupleHashOf (TK.dN X.w l)<2^63))=true then _ else _) Q E _
     split
     .rename_i hc
      rw[aX hc] at h';exact aV (h' _)
     .rename_i hc
      rw[aM hc] at h';exact ay (wpAny_rule (aV (h' _)))
theorem O3:∀(n:Nat) {A:cQ} {E:ai->au->Prop} {s:au} {y:V} {u:ai} {k:TK} {Q:Bool->au->Prop},Inv X aa Z H s->bo X.K H [y] [k.d]->k.ok n=true->RelV y u->Q true s->
  wpAny (model X.prog X.w) A (eqIsQuiet n u) Q E s:=by
 intro n
 induction n with
 |zero=>
  intro A E s y u k Q I r ok ru h;cases k with
  |tp l=>simp[TK.ok] at ok
  |inl i=>simp only[TK.d] at r;cases r with|flat q _=>cases q;obtain⟨t,rfl⟩:=ru;rw[eqIsQuiet_byValue 0 rfl];exact aV h
  |inr i=>simp only[TK.d] at r;cases r with|flat q _=>cases q;obtain⟨t,rfl⟩:=ru;rw[eqIsQuiet_byValue 0 rfl];exact aV h
  |aI=>simp only[TK.d] at r;cases r with|flat q _=>cases q;cases ru;rw[eqIsQuiet_byValue 0 rfl];exact aV h
 |succ n ih=>
  intro A E s y u k Q I r ok ru h;cases k with
  |inl i=>simp only[TK.d] at r;cases r with|flat q _=>cases q;obtain⟨t,rfl⟩:=ru;rw[eqIsQuiet_byValue (n+1) rfl];exact aV h
  |inr i=>simp only[TK.d] at r;cases r with|flat q _=>cases q;obtain⟨t,rfl⟩:=ru;rw[eqIsQuiet_byValue (n+1) rfl];exact aV h
  |aI=>simp only[TK.d] at r;cases r with|flat q _=>cases q;cases ru;rw[eqIsQuiet_byValue (n+1) rfl];exact aV h
  |tp l=>
   simp only[TK.d] at r;cases r with
   |flat q _=>cases q
   |@tup a ws _ _ _ q i _=>
    cases ru;obtain⟨aF,rv,pl,_⟩:=I.tuple q;have hT:s.TypeIs (.ref a) "tuple":=pl.typeIs;obtain⟨o,g1,g2,nn,g3⟩:=pl;have ok:l.all (TK.ok n)=true:=by simpa only[TK.ok] using ok
    unfold eqIsQuiet;refine ay (wpAny_specialOf hT F.slot_tuple_eq.lookup (ay (wpAny_isInstance hT isSubtype_tuple_tuple ?_)));simp only[lG,sH,j'];refine ay (wpAny_seqItems g1 g3 (ay ?_));show wpAny _ _ (forIn aF.toArray _ _) _ _ s;rw[<-Array.forIn_toList];refine wpAny_forIn_list _ (λrest r s'=>r.1=none/\s'=s/\∃left wl,bo X.K H wl (TK.dl left)/\Vals wl rest/\∀x∈left,x.ok n=true) _ ?_ ?_ _ _ ⟨rfl,rfl,l,ws,i,rv,λx m=>pR.mp ok x m⟩
    .rintro v rest r s' ⟨hr,rfl,left,wl,r',v',hk⟩;cases v' with
     |@cons w1 _ wl _ MM v'=>
      cases left with
      |nil=>have:=r'.length;simp[TK.dl] at this
      |cons k1 left=>
       simp only[TK.dl] at r';refine ay (ih I r'.inv.1 (hk k1 (by simp)) MM ?_)
       simp only[lG,sH,j'];exact aV ⟨rfl,rfl,left,wl,r'.inv.2,v',λx m=>hk x (by simp[m])⟩
    .rintro⟨r1,r2⟩ s' ⟨hr,rfl,_⟩;cases(show r1=none from hr);exact aV h
structure Ct (X:Cx) (A:cQ) (E:ai->au->Prop) (s:au) (xs:Array DictEntry) (es:List (TK×V×V)) (k:TK) (u:ai):Prop where
 ent:∀(j:Nat) (x:DictEntry),xs[j]?=some x->∃e,es[j]?=some e/\i_ X.w e x/\(∀(R:Bool->au->Prop),R (decide (e.1=k)) s->wpAny (model X.prog X.w) A (eqBool x.key u) R E s)/\
  ∀(R:Bool->au->Prop),R true s->wpAny (model X.prog X.w) A (eqIsQuiet 8 x.key) R E s
 ents:∀(j:Nat) (e:TK×V×V),es[j]?=some e->∃x:DictEntry,xs[j]?=some x/\i_ X.w e x
 uniq:∀(i j:Nat) (e f:TK×V×V),es[i]?=some e->es[j]?=some f->e.1=k->f.1=k->i=j
def e3n{A:cQ}{E:ai->au->Prop}{s:au}{xs:Array DictEntry}{es:List (TK×V×V)}{k:TK}{y:V}{u:ai}(I:Inv X aa Z H s)(g3:Paired (i_ X.w) es xs.toList)(g4:(es.map (·.1)).Nodup)
  (rk:bo X.K H (es.map (·.2.1)) (es.map (·.1.d))) (ry:bo X.K H [y] [k.d]) (ok:k.ok 8=true) (ru:RelV y u) (hu:A.units+8<cLine):Ct X A E s xs es k u where
 ent:=λj x hx=>by
  obtain⟨e,e1,e2⟩:=Gq j g3 (by rw[y0];exact hx)
  obtain⟨v,v1,v2⟩:=rk.get (i:=j) (d:=e.1.d) (by rw[gY,e1];rfl)
  rw[gY,e1] at v1;cases v1;refine⟨e,e1,e2,λR hR=>?_,λR hR=>O3 8 I v2 e2.2.2.2 e2.2.1 hR⟩
  refine(Du I 8 8 v2 ry (BI 8 e2.2.2.2) (BI 8 ok) e2.2.1 ru hu).1 X.prog X.w E R ?_;rw[Kq];exact hR
 ents:=λj e he=>by
  obtain⟨x,x1,x2⟩:=CY j g3 he;exact⟨x,by rw[<-y0];exact x1,x2⟩
 uniq:=λi j e f he hf ek fk=>by
  have hi:(es.map (·.1))[i]?=some k:=by rw[gY,he,<-ek];rfl
  have hj:(es.map (·.1))[j]?=some k:=by rw[gY,hf,<-fk];rfl
  exact(List.getElem?_inj (eQ.mp hi).1 g4).mp (hi.trans hj.symm)
section
variable{A:cQ}{E:ai->au->Prop}{s:au}{d:ag}{o:Obj}{xs:Array DictEntry}{ep:Nat}{es:List (TK×V×V)}{k:TK}{u:ai}{Q:ak Nat->au->Prop}
noncomputable abbrev pA(xs:Array DictEntry)(h:Int):List Nat:=placesWithHash xs.size (λi=>xs[i]?.map (·.hash)) h
def nG{h:Int}{i:Nat}:i∈pA xs h↔∃x,xs[i]?=some x/\x.hash=h:=by
 unfold pA placesWithHash;rw[sE,sF];constructor
 .rintro⟨h1,h2⟩;refine⟨xs[i],vF h1,?_⟩;dsimp only at h2;rw[vF h1] at h2;simpa using h2
 .rintro⟨x,h1,h2⟩;refine⟨(Cp.mp h1).1,?_⟩;dsimp only;rw[h1,FC,h2];simp
def Wg{h:Int}:(pA xs h).Nodup:=List.Nodup.sublist IF NA
def Ct.pA(D:Ct X A E s xs es k u){j:Nat}{e:TK×V×V}(he:es[j]?=some e)(ek:e.1=k):j∈pA xs (k.hash X.w):=by
 obtain⟨x,x1,x2⟩:=D.ents j e he;exact nG.mpr ⟨x,x1,by rw[x2.1,ek]⟩
def Wh(D:Ct X A E s xs es k u)(g1:s.heap.get? d=some o)(g2:o.data=.dict xs ep)
  (q0:(∀(j:Nat) (e:TK×V×V),es[j]?=some e->e.1≠k)->Q none s) (q1:∀(j:Nat) (e:TK×V×V),es[j]?=some e->e.1=k->Q (some j) s) :
  wpAny (model X.prog X.w) A (dictWalkPlain d u (k.hash X.w) xs (pA xs (k.hash X.w))) Q E s:=by
 unfold dictWalkPlain;refine ay (wpAny_forIn_list _ (λrest b s'=>s'=s/\b=(none,())/\∃done,pA xs (k.hash X.w)=done++rest/\∀j e,j∈done->es[j]?=some e->e.1≠k) _ ?_ ?_ _ _ ⟨rfl,rfl,[],rfl,λ_ _ m=>by cases m⟩)
 .rintro i rest b s' ⟨rfl,rfl,done,hd,vq⟩;obtain⟨x,x1,x2⟩:=nG.mp (show i∈pA xs (k.hash X.w) by rw[hd];simp)
  obtain⟨e,e1,e2,eq,_⟩:=D.ent i x x1;simp only[x1];rw[aX (by rw[x2];simp)]
  refine ay (wpAny_dictEpoch g1 g2 (ay (eq _ (ay (wpAny_dictEpoch g1 g2 ?_)))));rw[aM (by simp)]
  by_cases ek:e.1=k
  .rw[sd ek];exact ay (wpAny_rule (aV (aV (q1 i e e1 ek))))
  .rw[sL ek];refine ay (wpAny_rule (aV ⟨rfl,rfl,done++[i],by simp[hd],λj f m hf=>?_⟩))
   rcases dr.mp m with m|m
   .exact vq j f m hf
   .simp at m;subst m;rw[e1] at hf;cases hf;exact ek
 .rintro b s' ⟨rfl,rfl,done,hd,vq⟩;refine aV (q0 λj e he ek=>vq j e ?_ he ek)
  have:=D.pA he ek;rw[hd] at this;simpa using this
def idv(u:ai):ai:=u
def Xz(D:Ct X A E s xs es k u)(g1:s.heap.get? d=some o)(g2:o.data=.dict xs ep)(hq:∀(R:Bool->au->Prop),R true s->wpAny (model X.prog X.w) A (eqIsQuiet 8 u) R E s)
  (hs:∀z t,u=.str z t->k=.inr z) (lU:∀(j:Nat) (x:DictEntry) (e:TK×V×V) z t,xs[j]?=some x->es[j]?=some e->x.key=.str z t->e.1=.inr z) (hh:∀a (j:Nat) (x:DictEntry) (e:TK×V×V),u=.ref a->xs[j]?=some x->es[j]?=some e->x.key=u->e.1=k)
  (q0:(∀(j:Nat) (e:TK×V×V),es[j]?=some e->e.1≠k)->Q none s) (q1:∀(j:Nat) (e:TK×V×V),es[j]?=some e->e.1=k->Q (some j) s) :
  wpAny (model X.prog X.w) A (dictFind d u (k.hash X.w)) Q E s:=by
 have walk:=Wh D g1 g2 q0 q1;have stored:∀v∈(pA xs (k.hash X.w)).filterMap (λi=>xs[i]?.map (·.key)),∀(R:Bool->au->Prop),R true s->wpAny (model X.prog X.w) A (eqIsQuiet 8 v) R E s:=by
  intro v hv R hR;obtain⟨i,_,hi⟩:=pG.mp hv;cases hx:xs[i]? with
  |none=>rw[hx] at hi;cases hi
  |some x=>
   rw[hx] at hi;obtain rfl:x.key=v:=by simpa using hi
   obtain⟨e,_,_,_,h⟩:=D.ent i x hx;exact h R hR
 have tell:∀(R:Bool->au->Prop),R false s->wpAny (model X.prog X.w) A (tableMayTell u ((pA xs (k.hash X.w)).filterMap λi=>xs[i]?.map (·.key))) R E s:=by
  intro R hR;unfold tableMayTell;split
  .exact aV hR
  .refine ay (hq _ ?_);simp only[lG,sH,j'];refine ay (wpAny_forIn_list _ (λrest r s'=>s'=s/\r=(none,())/\∀v∈rest,∀(R:Bool->au->Prop),R true s->wpAny (model X.prog X.w) A (eqIsQuiet 8 v) R E s) _ ?_ ?_ _ _ ⟨rfl,rfl,stored⟩)
   .rintro x rest r s' ⟨rfl,rfl,hr⟩;refine ay (hr x (by simp) _ ?_)
    simp only[lG,sH,j'];exact aV ⟨rfl,rfl,λv hv=>hr v (by simp[hv])⟩
   .rintro r s' ⟨rfl,rfl,_⟩;exact aV hR
 have tell2:∀(R:Bool->au->Prop),R false s->wpAny (model X.prog X.w) A (if((pA xs (k.hash X.w)).filterMap (λi=>xs[i]?.map (·.key)) == [u])=true then pure false else tableMayTell u ((pA xs (k.hash X.w)).filterMap λi=>xs[i]?.map (·.key))) R E s:=by
  intro R hR;split
  .exact aV hR
  .exact tell R hR
 have fin:∀(i:Nat) (x:DictEntry) (e:TK×V×V),xs[i]?=some x->es[i]?=some e->i_ X.w e x->(x.hash == k.hash X.w)=false->e.1≠k:=λi x e _ _ he hf ek=>by
  rw[he.1,ek] at hf;simp at hf
 unfold dictFind
 (try with_reducible refine lH ?_);refine ay (wpAny_dictEntries g1 g2 ?_)
 dsimp only;by_cases j5:((u::(pA xs (k.hash X.w)).filterMap λi=>xs[i]?.map (·.key)).all carriedByValue)=true
 .rw[aX j5];split;next z t=>
   split;next LW=>
    unfold foundByValue;cases hf:xs.findIdx? (λe=>e.key.isStr z) with
    |none=>
     refine aV (q0 λj e he ek=>?_)
     obtain⟨x,x1,x2⟩:=D.ents j e he;have n1:=Array.findIdx?_eq_none_iff.mp hf x (Array.mem_of_getElem? x1);have e2:=x2.2.1;have n2:isExactStrKey x.key=true:=by
      have h:=Array.all_eq_true.mp LW j (Cp.mp x1).1;rw[(Cp.mp x1).2] at h;exact h
     cases hk:x.key with
     |str z2 t2=>
      have e3:=lU j x e z2 t2 x1 he hk;rw[ek,hs z t rfl] at e3;cases e3;rw[hk] at n1;simp[Value.isStr] at n1
     |_=>rw[hk] at n2;cases n2
    |some i=>
     obtain⟨jl,hi,_⟩:=Array.findIdx?_eq_some_iff_getElem.mp hf;obtain⟨e,e1,e2,eq,_⟩:=D.ent i xs[i] (vF jl);have ek:e.1=k:=by
      cases hk:xs[i].key with
      |str z2 t2=>
       rw[hk] at hi;have:z2=z:=by simpa[Value.isStr] using hi
       subst this;rw[lU i _ e z2 t2 (vF jl) e1 hk,hs z2 t rfl]
      |_=>rw[hk] at hi;simp[Value.isStr] at hi
     simp only[vF jl];refine ay (wpAny_dictEpoch g1 g2 (ay (eq _ (ay (wpAny_dictEpoch g1 g2 ?_)))));rw[aM (by simp),sd ek]
     exact ay (wpAny_rule (aV (q1 i e e1 ek)))
   next=>exact walk
  next=>exact walk
 .rw[aM j5];have EL:∀z t,u=.str z t->¬(xs.all λe=>isExactStrKey e.key)=true:=by
   intro z t hu hx;refine j5 (pR.mpr λv hv=>?_)
   rcases y04.mp hv with rfl|hv
   .rw[hu];rfl
   .obtain⟨i,_,hi⟩:=pG.mp hv;cases vv:xs[i]? with
    |none=>rw[vv] at hi;cases hi
    |some x=>
     rw[vv] at hi;obtain rfl:x.key=v:=by simpa using hi
     have h:=Array.all_eq_true.mp hx i (Cp.mp vv).1;rw[(Cp.mp vv).2] at h;cases hk:x.key with
     |str _ _=>rfl
     |_=>rw[hk] at h;cases h
  have yG:∀a,u=.ref a->¬(xs.any λe=>e.key == u&&e.hash != k.hash X.w)=true:=by
   intro a hu hx;rw[Array.any_eq_true] at hx;obtain⟨i,hi,hc⟩:=hx;rw[eP,beq_iff_eq,bne_iff_ne] at hc;obtain⟨e,e1,e2,_⟩:=D.ent i xs[i] (vF hi);have:=hh a i _ e hu (vF hi) e1 hc.1;exact hc.2 (by rw[e2.1,this])
  have LH:u=idv u:=rfl;refine(λ(key:?P)=>?main) ?k
  case main=>
   rw(occs:=.pos [1]) [LH];split
   .rename_i z t hz
    rw[aM (EL z t hz)];rw(occs:=.pos [1]) [LH];split
    .rename_i a ha
     rw[aM (yG a ha)];exact key
    .exact key
   .rw(occs:=.pos [1]) [LH];split
    .rename_i a ha
     rw[aM (yG a ha)];exact key
    .exact key
  refine(λ(Ey:?P2)=>?EC) ?k2
  case EC=>
   refine Wf ?_ ?_
   .refine ay (aV ?_);exact Ey
   .refine ay (tell _ ?_);exact Ey
  all_goals (
   show wpAny _ _ (if(false&&_)=true then _ else _) _ _ _
   rw[aM (by rw[Bool.false_and];exact pF)]
   refine ay (wpAny_forIn_list _ (λrest b s'=>s'=s/\∃hit done,b=(none,hit)/\pA xs (k.hash X.w)=done++rest/\((hit=none/\∀(j:Nat) (e:TK×V×V),j∈done->es[j]?=some e->e.1≠k)\/∃(j:Nat) (e:TK×V×V),hit=some j/\j∈done/\es[j]?=some e/\e.1=k)) _ ?_ ?_ _ _
    ⟨rfl,none,[],rfl,rfl,.inl ⟨rfl,λ_ _ m=>by cases m⟩⟩)
   .rintro i rest b s' ⟨rfl,hit,done,rfl,hd,hH⟩;obtain⟨x,x1,x2⟩:=nG.mp (show i∈pA xs (k.hash X.w) by rw[hd];simp)
    obtain⟨e,e1,e2,eq,_⟩:=D.ent i x x1;have hni:i∉done:=λm=>by
     have:=Wg (xs:=xs) (h:=k.hash X.w);rw[hd] at this;exact(jS.mp this).2.2 i m i (by simp) rfl
    simp only[x1];rw[aX (by rw[x2];simp)]
    refine ay (wpAny_dictEpoch g1 g2 (ay (eq _ (ay (wpAny_dictEpoch g1 g2 ?_)))));rw[aM (by simp)]
    by_cases ek:e.1=k
    .rw[sd ek];rcases hH with⟨rfl,vq⟩|⟨j,f,rfl,jd,jf,fk⟩
     .first|rw[aX rfl]|skip
      simp only[Be,sH,j'];first|refine ay (aV ?_)|skip
      refine ay (wpAny_rule ?_);split
      .exact aV (aV (q1 i e e1 ek))
      .exact aV ⟨rfl,some i,done++[i],rfl,by simp[hd],.inr ⟨i,e,rfl,by simp,e1,ek⟩⟩
     .exact b_ (D.uniq i j e f e1 jf ek fk) λz=>hni (by rw[z];exact jd)
    .rw[sL ek];have nx:(hit=none/\∀(j:Nat) (e:TK×V×V),j∈done++[i]->es[j]?=some e->e.1≠k)\/∃(j:Nat) (e:TK×V×V),hit=some j/\j∈done++[i]/\es[j]?=some e/\e.1=k:=by
      rcases hH with⟨h0,vq⟩|⟨j,f,h0,jd,jf,fk⟩
      .refine .inl ⟨h0,λj f m hf=>?_⟩
       rcases dr.mp m with m|m
       .exact vq j f m hf
       .simp at m;subst m;rw[e1] at hf;cases hf;exact ek
      .exact .inr ⟨j,f,h0,by simp[jd],jf,fk⟩
     simp only[sH,j'];refine ay (wpAny_rule ?_);first|rw[aM (by simp)]|skip
     first
      |exact aV ⟨rfl,hit,done++[i],rfl,by simp[hd],nx⟩
      |exact ay (aV (aV ⟨rfl,hit,done++[i],rfl,by simp[hd],nx⟩))
   .rintro b s' ⟨rfl,hit,done,rfl,hd,hH⟩;rcases hH with⟨rfl,vq⟩|⟨j,f,rfl,jd,jf,fk⟩
    .refine aV (q0 λj e he ek=>vq j e ?_ he ek)
     have:=D.pA he ek;rw[hd] at this;simpa using this
    .exact aV (q1 j f jf fk))
end
end
variable{k:TK}{y:V}{o:ak V}{Q:ai->au->Prop}{H':Hp}
noncomputable def j8(es:List (TK×V×V))(k:TK):ak V:=(es.find? λe=>decide (e.1=k)).map (·.2.2)
noncomputable def dh:List (TK×V×V)->TK->V->V->List (TK×V×V)
 |[],k,y,v=>[(k,y,v)]
 |e::es,k,y,v=>if e.1=k then(e.1,e.2.1,v)::es else e::dh es k y v
noncomputable def rY(es:List (TK×V×V))(k:TK)(ep:Nat):Nat:=if(es.any λe=>decide (e.1=k))=true then ep else ep+1
def g8(K:PySem.W.Frag)(H:Hp)(a:ag)(y:V)(r:ak V):Prop:=∃es ep k,H a=some (.dG es ep)/\bo K H (es.map (·.2.1)) (es.map (·.1.d))/\bo K H [y] [k.d]/\k.ok 8=true/\r=j8 es k
def zt(K:PySem.W.Frag)(H:Hp)(a:ag)(y v:V)(H':Hp):Prop:=∃es ep k,H a=some (.dG es ep)/\bo K H (es.map (·.2.1)) (es.map (·.1.d))/\bo K H [y] [k.d]/\k.ok 8=true/\es.length<sizeLine/\H'=upd H a (.dG (dh es k y v) (rY es k ep))
def d7j{j:TK}(e:k.d=j.d)(h:k.ok 8=true):k=j:=by
 have h1:=Kq k j;rw[<-e,J5 8 (BI 8 h)] at h1;exact xI h1.symm
section
variable{X:Cx}{aa:List (ag×Obj)}{Z:St}{H:Hp}
def QG{z:Str}{t:Tok}(r:bo X.K H [y] [k.d])(ru:RelV y (.str z t)):k=.inr z:=by
 cases k with
 |inl i=>simp only[TK.d] at r;cases r with|flat q _=>cases q;obtain⟨t,e⟩:=ru;cases e
 |inr i=>simp only[TK.d] at r;cases r with|flat q _=>cases q;obtain⟨t,e⟩:=ru;cases e;rfl
 |tp l=>simp only[TK.d] at r;cases r with|flat q _=>cases q|tup q _ _=>cases ru
 |aI=>simp only[TK.d] at r;cases r with|flat q _=>cases q;cases ru
def QH{a:ag}(ru:RelV y (.ref a)):y=.ref a:=by
 cases y with
 |ref b=>cases ru;rfl
 |aI=>cases ru
 |bl _=>cases ru
 |ty _=>cases ru
 |_=>obtain⟨t,e⟩:=ru;cases e
section
variable{A:cQ}{E:ai->au->Prop}{s:au}{d:ag}{es:List (TK×V×V)}{k:TK}{y v:V}{u r:ai}
def RN{o:Obj}{xs:Array DictEntry}{ep:Nat}{Q:ak Nat->au->Prop}(I:Inv X aa Z H s)(g1:s.heap.get? d=some o)(g2:o.data=.dict xs ep)(g3:Paired (i_ X.w) es xs.toList)(g4:(es.map (·.1)).Nodup)
  (rk:bo X.K H (es.map (·.2.1)) (es.map (·.1.d))) (ry:bo X.K H [y] [k.d]) (ok:k.ok 8=true) (ru:RelV y u) (hu:A.units+8<cLine)
  (q0:(∀(j:Nat) (e:TK×V×V),es[j]?=some e->e.1≠k)->Q none s) (q1:∀(j:Nat) (e:TK×V×V),es[j]?=some e->e.1=k->Q (some j) s):wpAny (model X.prog X.w) A (dictFind d u (k.hash X.w)) Q E s:=by
 have at':∀(j:Nat) (x:DictEntry) (e:TK×V×V),xs[j]?=some x->es[j]?=some e->i_ X.w e x/\bo X.K H [e.2.1] [e.1.d]:=by
  intro j x e hx he;obtain⟨e',e1,e2⟩:=Gq j g3 (by rw[y0];exact hx)
  rw[he] at e1;cases e1;obtain⟨v,v1,v2⟩:=rk.get (i:=j) (d:=e.1.d) (by rw[gY,he];rfl)
  simp_all
 refine Xz (e3n I g3 g4 rk ry ok ru hu) g1 g2 (λR hR=>O3 8 I ry ok ru hR) (λz t e=>QG ry (by rw[<-e];exact ru)) (λj x e z t hx he hk=>?_) (λa j x e rR hx he hk=>?_) q0 q1
 .obtain⟨g,r'⟩:=at' j x e hx he;exact QG r' (by rw[<-hk];exact g.2.1)
 .obtain⟨g,r'⟩:=at' j x e hx he;have h1:=g.2.1;rw[hk,rR] at h1;rw[rR] at ru;rw[QH h1] at r';rw[QH ru] at ry;exact d7j (G5 I 8 8 r' ry (BI 8 g.2.2.2) (BI 8 ok)) g.2.2.2
def Wi(h:∀(j:Nat) (e:TK×V×V),es[j]?=some e->e.1≠k):j8 es k=none:=by
 unfold j8;rw[FD.mpr λe m z=>?_,Option.map_none]
 obtain⟨j,hj⟩:=Bb.mp m;exact h j e hj (xI z)
def Wj(hn:(es.map (·.1)).Nodup){j:Nat}{e:TK×V×V}(he:es[j]?=some e)(ek:e.1=k):j8 es k=some e.2.2:=by
 induction es generalizing j with
 |nil=>simp at he
 |cons x es ih=>
  rw[bQ,qo] at hn;unfold j8;rw[uT];cases j with
  |zero=>
   simp only[List.getElem?_cons_zero,Option.some.injEq] at he;subst he;rw[sd ek];rfl
  |succ j=>
   simp only[List.getElem?_cons_succ] at he;have ne:¬x.1=k:=λz=>hn.1 (by rw[z,<-ek];exact dZ.mpr ⟨e,uS he,rfl⟩)
   rw[sL ne];exact ih hn.2 he
def JQ{Q:ak ai->au->Prop}(hu:A.units+8<cLine)(I:Inv X aa Z H s)(g:g8 X.K H d y o)(ru:RelV y u)(h:∀w t,iz o w->Q w { s with toks:=t}):
  wpAny (model X.prog X.w) A (dictGet d u) Q E s:=by
 obtain⟨es,ep,k,hd,rk,ry,ok,rfl⟩:=g;obtain⟨_,_,ob,xs,g1,_,g2,g3,g4⟩:=(show bH X.prog X.w H s.heap d (.dG es ep) from I.bB d _ hd);unfold dictGet
 (try with_reducible refine lH ?_);refine ay (PD 8 I ry ok ru hu λt=>ay (RN (I.tok t) g1 g2 g3 g4 rk ry ok ru hu (λq0=>?_) (λj e he ek=>?_)))
 .exact aV (h none t (by rw[Wi q0];exact uU))
 .obtain⟨x,x1,x2⟩:=CY j g3 he;refine ay (wpAny_dictEntries (s:={ s with toks:=t}) g1 g2 (aV ?_));rw[<-y0,x1];exact h (some x.val) t (by rw[Wj g4 he ek];exact x2.2.2.1)
def g8.ty(I:Inv X aa Z H s)(g:g8 X.K H d y o):s.TypeIs (.ref d) "dict"/\(d == sysModules)=false:=by
 obtain⟨es,ep,k,hd,_⟩:=g;obtain⟨_,z,ob,xs,g1,g5,_⟩:=(show bH X.prog X.w H s.heap d (.dG es ep) from I.bB d _ hd);exact⟨⟨ob,g1,g5.1⟩,z⟩
def O4(hu:A.units+9<cLine)(I:Inv X aa Z H s)(g:g8 X.K H d y (some v))(ru:RelV y u)(h:∀w' s',Inv X aa Z H s'->RelV v w'->Q w' s'):wpAny (model X.prog X.w) A (getItem (.ref d) u) Q E s:=by
 have hT:=(g.ty I).1;unfold getItem
 (try with_reducible refine lH ?_);refine ay (wpAny_sequenceKey hT (by decide) (ay (wpAny_callSpecial?_slot (name:=Str.ofString "__getitem__") hT slot_dict_getitem (wpAny_call_entry slot_dict_getitem hT entry_dict_getitem ?_ (args_dict_getitem _ _)))))
 show wpAny _ _ (dictGet d u >>= _) _ _ s;refine ay (JQ (by show A.units+1+8<cLine;lia) I g ru λw t nO=>?_)
 obtain⟨w',rfl,r'⟩:=iz.some_of nO;exact aV ⟨w',rfl,aV (h w' _ (I.tok t) r')⟩
def OC{Q:Bool->au->Prop}(hu:A.units+9<cLine)(I:Inv X aa Z H s)(g:g8 X.K H d y o)(ru:RelV y u)(h:∀s',Inv X aa Z H s'->Q o.isSome s'):wpAny (model X.prog X.w) A (contains (.ref d) u) Q E s:=by
 obtain⟨hT,hd⟩:=g.ty I;unfold contains
 (try with_reducible refine lH ?_);refine ay (wpAny_specialOf hT slot_dict_contains.lookup ?_)
 dsimp only;rw[aM (by rw[beq_builtin_none];exact pF)]
 refine ay (wpAny_callSpecialUnlessNone?_slot (name:=Str.ofString "__contains__") hT slot_dict_contains (wpAny_call_entry slot_dict_contains hT entry_dict_contains ?_ (args_dict_contains _ _)));show wpAny _ _ (dictGet d u >>= _) _ _ s;refine ay (JQ (by show A.units+1+8<cLine;lia) I g ru λw t nO=>?_)
 have e:=nO.rV;cases w with
 |some w=>
  show wpAny _ _ (ret (.bool true)) _ _ _;refine aV ⟨_,rfl,wpAny_truthy_bool ?_⟩;have:=h _ (I.tok t);rw[e] at this;exact this
 |none=>
  show wpAny _ _ (Builtin.Dict.pendingKey? d u >>= _) _ _ _;refine ay (wpAny_pendingKey_other hd (aV ⟨_,rfl,wpAny_truthy_bool ?_⟩));have:=h _ (I.tok t);rw[e] at this;exact this
def Nr(hu:A.units+9<cLine)(I:Inv X aa Z H s)(g:g8 X.K H d y o)(ru:RelV y u)(h:∀s',Inv X aa Z H s'->Q (.bool o.isSome) s'):wpAny (model X.prog X.w) A (compareOp .In u (.ref d)) Q E s:=
 ay (OC hu I g ru λs' I'=>aV (h s' I'))
def d7k(hu:A.units+9<cLine)(I:Inv X aa Z H s)(g:g8 X.K H d y o)(ru:RelV y u)(h:∀s',Inv X aa Z H s'->Q (.bool (!o.isSome)) s'):wpAny (model X.prog X.w) A (compareOp .NotIn u (.ref d)) Q E s:=
 ay (OC hu I g ru λs' I'=>aV (h s' I'))
theorem Gd(k:TK)(y v:V):∀es:List (TK×V×V),(dh es k y v).length<=es.length+1
 |[]=>by simp[dh]
 |e::es=>by
  unfold dh;have:=Gd k y v es;split <;> simp <;> lia
theorem PF:∀{es:List (TK×V×V)},(∀(j:Nat) (e:TK×V×V),es[j]?=some e->e.1≠k)->dh es k y v=es++[(k,y,v)]
 |[],_=>rfl
 |e::es,h=>by
  unfold dh;rw[aM (h 0 e rfl),PF λj x hx=>h (j+1) x (by simpa using hx)]
  rfl
def d7l{w:cC}{xs:List DictEntry}(g3:Paired (i_ w) es xs)(ry:RelV y u)(rv:RelV v r)(ok:k.ok 8=true):Paired (i_ w) (es++[(k,y,v)]) (xs++[⟨k.hash w,u,r⟩]):=by
 induction g3 with
 |nil=>exact .cons ⟨rfl,ry,rv,ok⟩ .nil
 |cons a _ ih=>exact .cons a ih
theorem QI{w:cC}:∀{es:List (TK×V×V)} {xs:List DictEntry} {j:Nat} {e:TK×V×V},Paired (i_ w) es xs->(es.map (·.1)).Nodup->es[j]?=some e->e.1=k->RelV v r->
  Paired (i_ w) (dh es k y v) (xs.modify j λx=>{ x with val:=r})/\(dh es k y v).map (·.1)=es.map (·.1)
 |_,_,_,_,.nil,_,he,_,_=>by simp at he
 |_::es,_::xs,0,e,.cons a t,hn,he,ek,rv=>by
  simp only[List.getElem?_cons_zero,Option.some.injEq] at he;subst he;unfold dh;rw[aX ek];exact⟨.cons ⟨a.1,a.2.1,rv,a.2.2.2⟩ t,rfl⟩
 |x::es,_::xs,j+1,e,.cons a t,hn,he,ek,rv=>by
  simp only[List.getElem?_cons_succ] at he;rw[bQ,qo] at hn;have ne:¬x.1=k:=λz=>hn.1 (by rw[z,<-ek];exact dZ.mpr ⟨e,uS he,rfl⟩)
  unfold dh;rw[aM ne];have ih:=QI t hn.2 he ek rv;exact⟨.cons a ih.1,by rw[bQ,bQ,ih.2]⟩
def JR{Q:Unit->au->Prop}(hu:A.units+8<cLine)(I:Inv X aa Z H s)(g:zt X.K H d y v H')(ru:RelV y u)(rv:RelV v r)(h:∀s',Inv X aa Z H' s'->Q () s'):
  wpAny (model X.prog X.w) A (dictSet d u r) Q E s:=by
 obtain⟨es,ep,k,hd,rk,ry,ok,hl,rfl⟩:=g;obtain⟨_,z,ob,xs,g1,g5,g2,g3,g4⟩:=(show bH X.prog X.w H s.heap d (.dG es ep) from I.bB d _ hd);have hz:xs.size<=sizeLine:=by have:=Paired.length g3;simp at this;lia
 have HY:(dh es k y v).length<=sizeLine:=by have:=Gd k y v es;lia
 unfold dictSet
 (try with_reducible refine lH ?_);refine ay (PD 8 I ry ok ru hu λt=>?_)
 unfold dictSetHashed
 (try with_reducible refine lH ?_);refine ay (RN (I.tok t) g1 g2 g3 g4 rk ry ok ru hu (λq0=>?_) (λj e he ek=>?_))
 .have SU:dh es k y v=es++[(k,y,v)]:=PF q0;have Lf:rY es k ep=ep+1:=aM (by
   rw[NB];rintro⟨e,m,q⟩;obtain⟨j,hj⟩:=Bb.mp m;exact q0 j e hj (xI q))
  rw[Lf] at h;refine ay (wpAny_rule (wpAny_updateDictKeys (hz:=hz) (s:={ s with toks:=t}) g1 g2 (h _ ?_)));refine Km (I.tok t) (by rw[hd];exact uU) (Heap.SameBut.update ..) ⟨_,sG _ g1 (Obj.isFreed_of_dict (Obj.data_mapDictKeys g2 _))⟩ ⟨HY,z,_,_,sG _ g1 (Obj.isFreed_of_dict (Obj.data_mapDictKeys g2 _)),g5.mapDictKeys _,Obj.data_mapDictKeys g2 _,?_,?_⟩
  .rw[SU,Array.toList_push];exact d7l g3 ru rv ok
  .rw[SU,dB,jS];refine⟨g4,by simp,λa m b m' e=>?_⟩
   simp at m';subst m';obtain⟨x,mx,rfl⟩:=dZ.mp m;obtain⟨j,hj⟩:=Bb.mp mx;exact q0 j x hj e
 .have em:=QI (y:=y) g3 g4 he ek rv;have Lf:rY es k ep=ep:=aX (NB.mpr ⟨e,uS he,sd ek⟩);rw[Lf] at h;refine ay (wpAny_rule (ay (wpAny_updateDict (s:={ s with toks:=t}) g1 g2 (wpAny_point (h _ ?_)))));refine Km (I.tok t) (by rw[hd];exact uU) (Heap.SameBut.update ..) ⟨_,sG _ g1 (Obj.isFreed_of_dict (Obj.data_mapDict g2 _))⟩ ⟨HY,z,_,_,sG _ g1 (Obj.isFreed_of_dict (Obj.data_mapDict g2 _)),g5.mapDict _,Obj.data_mapDict g2 _,?_,?_⟩
  all_goals simp_all
def Wk{Q:Unit->au->Prop}(hu:A.units+9<cLine)(I:Inv X aa Z H s)(g:zt X.K H d y v H')(ru:RelV y u)(rv:RelV v r)(h:∀s',Inv X aa Z H' s'->Q () s'):
  wpAny (model X.prog X.w) A (setItem (.ref d) u r) Q E s:=by
 have hT:s.TypeIs (.ref d) "dict":=by
  obtain⟨es,ep,k,hd,rk,ry,ok,_⟩:=g;exact(g8.ty I ⟨es,ep,k,hd,rk,ry,ok,rfl⟩).1
 unfold setItem
 (try with_reducible refine lH ?_);refine ay (wpAny_sequenceKey hT (by decide) (ay (wpAny_callSpecial?_slot (name:=Str.ofString "__setitem__") hT slot_dict_setitem (wpAny_call_entry slot_dict_setitem hT entry_dict_setitem ?_ (args_dict_setitem _ _ _)))))
 show wpAny _ _ (Builtin.Dict.notOrdered "__setitem__" ⟨[.ref d,u,r],[]⟩ >>= _) _ _ s;refine ay (wpAny_notOrdered_dict hT ?_);show wpAny _ _ (dictSet d u r >>= λz=>_) _ _ s
 exact ay (JR (by show A.units+1+8<cLine;lia) I g ru rv λs' I'=>aV ⟨.none,rfl,aV (h s' I')⟩)
def e3o(hu:A.units+9<cLine)(I:Inv X aa Z H s)(g:g8 X.K H d y o)(ru:RelV y u)(h:∀w' s',Inv X aa Z H s'->RelV (o.getD .aI) w'->Q w' s'):
  wpAny (model X.prog X.w) A (call (.builtin "dict.get") [.ref d,u]) Q E s:=by
 obtain⟨hT,hd⟩:=g.ty I;refine wpAny_call_entry PySem.F.slot_dict_get hT PySem.F.entry_dict_get ?_ (PySem.F.args_dict_get_2 _ _);show wpAny _ _ (dictGet d u >>= _) _ _ s;refine ay (JQ (by show A.units+1+8<cLine;lia) I g ru λw t nO=>?_)
 cases o with
 |none=>
  cases w with
  |none=>
   show wpAny _ _ (Builtin.Dict.missed d u >>= _) _ _ _;exact ay (wpAny_missed_other hd (aV ⟨.none,rfl,h .none _ (I.tok t) rfl⟩))
  |some w=>exact nO.elim
 |some v'=>
  cases w with
  |none=>exact nO.elim
  |some w=>exact aV ⟨w,rfl,h w _ (I.tok t) nO⟩
end
end
section
variable{X:Cx}
def uK(K:PySem.W.Frag):R2:=λx y H Q=>∃l b xs zs,x=.ref l/\y=.ref b/\cM K H l xs/\cM K H b zs/\xs.length+zs.length<=sizeLine/\∀p,H p=none->Q (.ref p) (upd H p (.lst (xs++zs)))
def d7m:dF X (binaryOp .Add) (uK X.K):=by
 intro aa s Z H x y v u Q I rx ry h;obtain⟨l,b,xs,zs,rfl,rfl,hH,hB,hz,q⟩:=h;cases rx;cases ry;obtain⟨aF,r,pl,_⟩:=I.list hH;obtain⟨iY,r2,MB,_⟩:=I.list hB;have hl:=r.length;have HY:=r2.length;obtain⟨⟨cls,dd,data,sl⟩,ho,hc,n,hd⟩:=id pl.isList;obtain⟨⟨cls2,dd2,data2,Iq⟩,Th,uf,n2,hd2⟩:=id MB.isList;simp only at hc hd uf hd2;subst hc hd uf hd2;have ea:aF.toArray++iY.toArray=(aF++iY).toArray:=by simp
 refine concat_meets ⟨_,ho,rfl⟩ ⟨_,Th,rfl⟩ noFill_list_add seq_list_add PySem.F.slot_list_add PySem.F.entry_list_add (PySem.F.args_list_add_2 _ _) (list_addW l b aF.toArray iY.toArray n n2 dd dd2 sl Iq (by simp only[dA];lia)) ⟨ho,Th,?_⟩
 rw[ea];exact⟨.ref _,_,I.Mh (t':=s.toks) (r.append r2) (by rw[du];lia),rfl,q _ I.fresh⟩
def XI(K:PySem.W.Frag)(hK:X.K=K:=by rfl):dF X (binaryOp .Add) (uK K):=hK ▸ d7m
end
variable{n:Nat}
instance (z:Str) (n:Int):Decidable (MulOk z n):=by unfold MulOk;infer_instance
abbrev rd(x:D):Rv:=.v (.d x)
section
variable{K:PySem.W.Frag}{k:Kn}{H:Hp}{x:V}{xs:List V}{d e:D}{vs:List V}{ds:List D}
def ah.vx(h:ah K k vs ds)(ok:ds.all (c7 n)=true):ah K ⟨k.F,[],[]⟩ vs ds:=by
 induction h generalizing n with
 |nil=>exact .nil
 |flat e _ ih=>rw[qr,eP] at ok;exact .flat e (ih ok.2)
 |ref _ _ _=>rw[qr,eP] at ok;obtain⟨ok,_⟩:=ok;cases n <;> cases ok
 |lst e _ _ i1 i2=>
  rw[qr,eP] at ok;obtain⟨m,rfl,o⟩:=zF ok.1;exact .lst e (i1 o) (i2 ok.2)
 |tup e _ _ i1 i2=>
  rw[qr,eP] at ok;obtain⟨m,rfl,o⟩:=zG ok.1;exact .tup e (i1 o) (i2 ok.2)
 |aB _ _ _ _ _ _ _ _=>rw[qr,eP] at ok;obtain⟨ok,_⟩:=ok;cases n <;> cases ok
theorem Top.vx{n:Nat}(h:Top K k H x d)(le:aw k.F H)(ok:c7 n d=true):bo K H [x] [d]:=ah.vx (k:=k.all H) (n:=n) (h.rep le) (by rw[qr,ok];rfl)
def Top.TH(r:ah K k vs ds)(le:aw k.F H)(ok:ds.all (c7 n)=true):bo K H vs ds:=ah.vx (k:=k.all H) (n:=n) (r.all le) ok
mutual
theorem uv:∀{v:V} (j:TK),ah K k [v] [j.d]->ah K ⟨k.F,[],[]⟩ [v] [j.d]
 |_,.inl i,h=>by simp only[TK.d] at h ⊢;rw[h.bc rfl];exact .flat rfl .nil
 |_,.inr x,h=>by simp only[TK.d] at h ⊢;rw[h.bc rfl];exact .flat rfl .nil
 |_,.aI,h=>by simp only[TK.d] at h ⊢;rw[h.bc rfl];exact .flat rfl .nil
 |_,.tp l,h=>by
  simp only[TK.d] at h ⊢;obtain⟨a,ws,rfl,q,r⟩:=h.isTup;exact .tup q (uw l r) .nil
theorem uw:∀{vs:List V} (l:List TK),ah K k vs (TK.dl l)->ah K ⟨k.F,[],[]⟩ vs (TK.dl l)
 |_,[],h=>by simp only[TK.dl] at h ⊢;rw[h.fW];exact .nil
 |_,j::l,h=>by
  simp only[TK.dl] at h ⊢;obtain⟨w,us,rfl,h1,h2⟩:=h.cg;exact .cons (uv j h1) (uw l h2)
end
def QJ{es:List (TK×V×V)}{kvs:List (TK×D)}(q:es.map (·.1)=kvs.map (·.1))(r:ah K k (es.map (·.2.1)) (kvs.map (·.1.d)))(le:aw k.F H):bo K H (es.map (·.2.1)) (es.map (·.1.d)):=by
 have e1:kvs.map (·.1.d)=TK.dl (kvs.map (·.1)):=by rw[Hk,fJ];rfl
 have e2:es.map (·.1.d)=TK.dl (es.map (·.1)):=by rw[Hk,fJ];rfl
 rw[e1,<-q] at r;rw[e2];exact uw (k:=k.all H) _ (r.all le)
def QK(h:Paired (Top K k H) xs [d]):∃x,xs=[x]/\Top K k H x d:=by
 cases h with
 |cons r t=>cases t;exact⟨_,rfl,r⟩
def d7n(h:Paired (Top K k H) xs [d,e]):∃x y,xs=[x,y]/\Top K k H x d/\Top K k H y e:=by
 cases h with
 |cons r t=>obtain⟨y,rfl,r'⟩:=QK t;exact⟨_,_,rfl,r,r'⟩
end
noncomputable def o1(f:D->ak Rv):List D->ak Rv
 |[a]=>f a
 |_=>none
noncomputable def o2(f:D->D->ak Rv):List D->ak Rv
 |[a,b]=>f a b
 |_=>none
section
variable{X:Cx}{K:PySem.W.Frag}
def wM{r:List V->Hp->VK->Prop}{f:D->ak Rv}(h:∀k H x a y Q,aw k.F H->Top K k H x a->f a=some y->lM K k H y Q->r [x] H Q):bZ K r (o1 f):=λk H xs ds y Q le t e res=>by
 unfold o1 at e;split at e
 .obtain⟨x,rfl,t1⟩:=QK t;exact h k H x _ y Q le t1 e res
 .cases e
def wN{r:List V->Hp->VK->Prop}{f:D->D->ak Rv}(h:∀k H x z a b y Q,aw k.F H->Top K k H x a->Top K k H z b->f a b=some y->lM K k H y Q->r [x,z] H Q):bZ K r (o2 f):=λk H xs ds y Q le t e res=>by
 unfold o2 at e;split at e
 .obtain⟨x,z,rfl,t1,t2⟩:=d7n t;exact h k H x z _ _ y Q le t1 t2 e res
 .cases e
def yH{r:R2}{f:D->D->ak Rv}(h:∀k H x z a b y Q,aw k.F H->Top K k H x a->Top K k H z b->f a b=some y->lM K k H y Q->r x z H Q):bZ K (nI r) (o2 f):=wN λk H x z a b y Q le t1 t2 e res=>⟨x,z,rfl,h k H x z a b y Q le t1 t2 e res⟩
noncomputable def vZ:D->D->ak Rv
 |.int i,.int j=>some (rd (.int (i+j)))
 |.str x,.str y=>if x.length+y.length<=1000000 then some (rd (.str (x++y))) else none
 |.lst xs,.lst ys=>if xs.length+ys.length<=1000000 then some (.o (.lst (xs++ys))) else none
 |_,_=>none
def yL(K:PySem.W.Frag):R2:=λx y H Q=>qV (λi j=>.int (i+j)) x y H Q\/(∃i j,x=.str i/\y=.str j/\i.length+j.length<=sizeLine/\Q (.str (i++j)) H)\/uK K x y H Q
def d7o(K:PySem.W.Frag)(hK:X.K=K):dF X (binaryOp .Add) (yL K):=AM.or (qj.or (XI K hK))
def e3p:bZ K (nI (yL K)) (o2 vZ):=yH λk H x z a b y Q le t1 t2 e res=>by
 unfold vZ at e;split at e
 .cases e;cases t1.flat rfl;cases t2.flat rfl;exact .inl ⟨_,_,rfl,rfl,res.flat le rfl⟩
 .split at e
  .cases e;cases t1.flat rfl;cases t2.flat rfl;exact .inr (.inl ⟨_,_,rfl,rfl,ml (by assumption),res.flat le rfl⟩)
  .cases e
 .split at e
  .cases e;obtain⟨a1,ws1,rfl,s1,r1⟩:=t1.lst le;obtain⟨a2,Fy,rfl,s2,r2⟩:=t2.lst le;exact .inr (.inr ⟨a1,a2,ws1,Fy,rfl,rfl,s1,s2,ml (by rw[r1.length,r2.length];assumption),λp hp=>res.lst le (r1.append r2) hp⟩)
  .cases e
 .cases e
noncomputable def dX(C:Int->Int->Bool)(f:Int->Int->D):D->D->ak Rv
 |.int i,.int j=>if C i j=true then some (rd (f i j)) else none
 |_,_=>none
def Dv{r:R2}{C:Int->Int->Bool}{f:Int->Int->D}{g:Int->Int->V}(hf:∀i j,xW (f i j)=some (g i j))(hr:∀i j H Q,C i j=true->Q (g i j) H->r (.int i) (.int j) H Q):bZ K (nI r) (o2 (dX C f)):=yH λk H x z a b y Q le t1 t2 e res=>by
 unfold dX at e;split at e
 .split at e
  .cases e;cases t1.flat rfl;cases t2.flat rfl;exact hr _ _ _ _ (by assumption) (res.flat le (hf _ _))
  .cases e
 .cases e
abbrev vz:Int->Int->Bool:=λ_ _=>true
def e3q:bZ K (nI (qV λi j=>.int (i - j))) (o2 (dX vz λi j=>.int (i - j))):=Dv (λ_ _=>rfl) λ_ _ _ _ _ q=>⟨_,_,rfl,rfl,q⟩
def d7p:bZ K (nI (rI y_ λi j=>.int (i / j))) (o2 (dX (λ_ j=>decide (0<j/\j<1073741824)) λi j=>.int (i / j))):=Dv (λ_ _=>rfl) λi j _ _ c q=>⟨_,_,rfl,rfl,show y_ i j from xI (p:=0<j/\j<1073741824) c,q⟩
def e3r:bZ K (nI (rI (λ_ j=>0<j) λi j=>.int (i%j))) (o2 (dX (λ_ j=>decide (0<j)) λi j=>.int (i%j))):=Dv (λ_ _=>rfl) λ_ _ _ _ c q=>⟨_,_,rfl,rfl,xI c,q⟩
def e3s:bZ K (nI (rI ze λi j=>.int (i^j.toNat))) (o2 (dX (λi j=>decide (0<=j/\j<=1000000/\i.natAbs<2^64)) λi j=>.int (i^j.toNat))):=Dv (λ_ _=>rfl) λi j _ _ c q=>⟨_,_,rfl,rfl,show ze i j from xI (p:=0<=j/\j<=1000000/\i.natAbs<2^64) c,q⟩
def KC{f:Int->Int->Bool}:bZ K (nI (qV λi j=>.bl (f i j))) (o2 (dX vz λi j=>.bl (f i j))):=Dv (λ_ _=>rfl) λ_ _ _ _ _ q=>⟨_,_,rfl,rfl,q⟩
noncomputable def wI:D->D->ak Rv
 |.int i,.int j=>if(-(2^64)<i/\i<2^64)\/(-(2^64)<j/\j<2^64) then some (rd (.int (i*j))) else none
 |.str z,.int j=>if MulOk z j then some (rd (.str (Txt.mul z j))) else none
 |_,_=>none
def yP:R2:=λx y H Q=>rI vI (λi j=>.int (i*j)) x y H Q\/∃z n,x=.str z/\y=.int n/\MulOk z n/\Q (.str (Txt.mul z n)) H
def d7q:dF X (binaryOp .Mult) yP:=AO.or Vj
def e3t:bZ K (nI yP) (o2 wI):=yH λk H x z a b y Q le t1 t2 e res=>by
 unfold wI at e;split at e
 .split at e
  .cases e;cases t1.flat rfl;cases t2.flat rfl;exact .inl ⟨_,_,rfl,rfl,by assumption,res.flat le rfl⟩
  .cases e
 .split at e
  .cases e;cases t1.flat rfl;cases t2.flat rfl;exact .inr ⟨_,_,rfl,rfl,by assumption,res.flat le rfl⟩
  .cases e
 .cases e
noncomputable def wK:D->ak Rv
 |.int i=>some (rd (.int (-i)))
 |_=>none
def e3u:bZ K (MG (rU λi=>.int (-i))) (o1 wK):=wM λk H x a y Q le t e res=>by
 unfold wK at e;split at e
 .cases e;cases t.flat rfl;exact⟨_,rfl,_,rfl,res.flat le rfl⟩
 .cases e
end
section
variable{X:Cx}{aa:List (ag×Obj)}{s:au}{Z:St}{H:Hp}
def e3v(I:Inv X aa Z H s){n m:Nat}{A:cQ}{x y:V}{u v:ai}{d e:D}(rd:bo X.K H [x] [d])(re:bo X.K H [y] [e])(od:c7 n d=true)(oe:c7 m e=true)(ru:RelV x u)(rv:RelV y v)(hu:A.units+n<cLine):SeqAt.RcNeAt A s u v (!aR d e):=by
 have cI:A.units<cLine:=by lia
 have s1:=Hj I rd ru od;have s2:=Hj I re rv oe;cases s1 with
 |none=>
  cases s2 with
  |none=>
   simp only[aR];exact SeqAt.RcNeAt.none_none
  |bool a2=>
   simp only[aR];exact SeqAt.RcNeAt.none_bool a2
  |int a2 t2=>
   simp only[aR];exact SeqAt.RcNeAt.none_int a2 t2
  |str a2 t2=>
   simp only[aR];exact SeqAt.RcNeAt.none_str a2 t2
  |list l2 v2 r2=>
   simp only[aR];exact SeqAt.RcNeAt.none_list l2 cI
  |tuple l2 v2 r2=>
   simp only[aR];exact SeqAt.RcNeAt.none_tuple l2 cI
 |bool a1=>
  cases s2 with
  |none=>
   simp only[aR];exact SeqAt.RcNeAt.bool_none a1
  |bool a2=>
   simp only[aR];exact SeqAt.RcNeAt.bool_bool a1 a2
  |int a2 t2=>
   simp only[aR];exact SeqAt.RcNeAt.bool_int a1 a2 t2
  |str a2 t2=>
   simp only[aR];exact SeqAt.RcNeAt.bool_str a1 a2 t2
  |list l2 v2 r2=>
   simp only[aR];exact SeqAt.RcNeAt.bool_list a1 l2 cI
  |tuple l2 v2 r2=>
   simp only[aR];exact SeqAt.RcNeAt.bool_tuple a1 l2 cI
 |int a1 t1=>
  cases s2 with
  |none=>
   simp only[aR];exact SeqAt.RcNeAt.int_none a1 t1
  |bool a2=>
   simp only[aR];exact SeqAt.RcNeAt.int_bool a1 t1 a2
  |int a2 t2=>
   simp only[aR];exact SeqAt.RcNeAt.int_int a1 t1 a2 t2
  |str a2 t2=>
   simp only[aR];exact SeqAt.RcNeAt.int_str a1 t1 a2 t2
  |list l2 v2 r2=>
   simp only[aR];exact SeqAt.RcNeAt.int_list a1 t1 l2 cI
  |tuple l2 v2 r2=>
   simp only[aR];exact SeqAt.RcNeAt.int_tuple a1 t1 l2 cI
 |str a1 t1=>
  cases s2 with
  |none=>
   simp only[aR];exact SeqAt.RcNeAt.str_none a1 t1
  |bool a2=>
   simp only[aR];exact SeqAt.RcNeAt.str_bool a1 t1 a2
  |int a2 t2=>
   simp only[aR];exact SeqAt.RcNeAt.str_int a1 t1 a2 t2
  |str a2 t2=>
   simp only[aR];exact SeqAt.RcNeAt.str_str a1 t1 a2 t2
  |list l2 v2 r2=>
   simp only[aR];exact SeqAt.RcNeAt.str_list a1 t1 l2 cI
  |tuple l2 v2 r2=>
   simp only[aR];exact SeqAt.RcNeAt.str_tuple a1 t1 l2 cI
 |list l1 v1 r1=>
  cases s2 with
  |none=>
   simp only[aR];exact SeqAt.RcNeAt.list_none l1 cI
  |bool a2=>
   simp only[aR];exact SeqAt.RcNeAt.list_bool a2 l1 cI
  |int a2 t2=>
   simp only[aR];exact SeqAt.RcNeAt.list_int a2 t2 l1 cI
  |str a2 t2=>
   simp only[aR];exact SeqAt.RcNeAt.list_str a2 t2 l1 cI
  |list l2 v2 r2=>
   rename_i a aF ws es b iY Fy mE
   obtain⟨n',rfl,uB⟩:=zF od;obtain⟨m',rfl,uC⟩:=zF oe;have la:=v1.length;have lb:=v2.length;have Cb:=r1.length;have Mf:=r2.length;simp only[aR];by_cases hl:es.length=mE.length
   .rw[C4 aF.toArray.size (by simp only[dA];lia) (by simp only[dA];lia)]
    refine SeqAt.RcNeAt.lists (A:=A) l1 l2 (by simp only[dA];lia) cI λj h1 h2=>?_
    obtain⟨x1,q1,q2,q3⟩:=xX r1 v1 h1;obtain⟨y1,p1,p2,p3⟩:=xX r2 v2 h2;exact(Du I n' m' q2 p2 (xQ uB q3) (xQ uC p3) q1 p1 (by show A.units+1+n'<cLine;lia)).1
   .rw[C3 hl];exact SeqAt.RcNeAt.lists_lengths (A:=A) l1 l2 (by simp only[dA,bne_iff_ne,ne_eq];lia) cI
  |tuple l2 v2 r2=>
   simp only[aR];exact SeqAt.RcNeAt.list_tuple l1 l2 cI
 |tuple l1 v1 r1=>
  cases s2 with
  |none=>
   simp only[aR];exact SeqAt.RcNeAt.tuple_none l1 cI
  |bool a2=>
   simp only[aR];exact SeqAt.RcNeAt.tuple_bool a2 l1 cI
  |int a2 t2=>
   simp only[aR];exact SeqAt.RcNeAt.tuple_int a2 t2 l1 cI
  |str a2 t2=>
   simp only[aR];exact SeqAt.RcNeAt.tuple_str a2 t2 l1 cI
  |list l2 v2 r2=>
   simp only[aR];exact SeqAt.RcNeAt.tuple_list l1 l2 cI
  |tuple l2 v2 r2=>
   rename_i a aF ws es b iY Fy mE
   obtain⟨n',rfl,uB⟩:=zG od;obtain⟨m',rfl,uC⟩:=zG oe;have la:=v1.length;have lb:=v2.length;have Cb:=r1.length;have Mf:=r2.length;have z:=SeqAt.RcNeAt.tuples (A:=A) (e:=λj=>aR (es.getD j .aI) (mE.getD j .aI)) l1 l2 cI λj h1 h2=>by
    obtain⟨x1,q1,q2,q3⟩:=xX r1 v1 h1;obtain⟨y1,p1,p2,p3⟩:=xX r2 v2 h2;exact(Du I n' m' q2 p2 (xQ uB q3) (xQ uC p3) q1 p1 (by show A.units+1+n'<cLine;lia)).1
   simp only[aR];by_cases hl:es.length=mE.length
   .rw[C4 aF.toArray.size (by simp only[dA];lia) (by simp only[dA];lia)]
    have e1:iY.toArray.size=aF.toArray.size:=by simp only[dA];lia
    rw[e1,Nat.min_self,eL,Bool.and_true] at z;exact z
   .rw[C3 hl];have e1:(aF.toArray.size == iY.toArray.size)=false:=by rw[nQ];simp only[dA];lia
    rw[e1,Bool.and_false] at z;exact z
end
section
variable{X:Cx}{K:PySem.W.Frag}
def EX(K:PySem.W.Frag):R2:=λx y H Q=>∃d e,bo K H [x] [d]/\bo K H [y] [e]/\c7 40 d=true/\c7 40 e=true/\Q (.bl (!aR d e)) H
def e3w(K:PySem.W.Frag)(hu:X.A.units+40<cLine)(hK:X.K=K:=by rfl):dF X (compareOp .NotEq) (EX K):=by
 subst hK;intro aa s Z H x y v u Q I rx ry h;obtain⟨d,e,r1,r2,o1,o2,q⟩:=h;exact(e3v I r1 r2 o1 o2 rx ry hu) X.prog X.w _ _ ⟨.bl _,H,I,rfl,q⟩
end
end L2
namespace L2
open PySem PySem.Spec PySem.W PySem.Calls PyProof.Rows
variable{P:de}{w:cC}{o:Expr}{to:TE}{apos bN pos:Pos}{elts:List Expr}{x1:Nat}
def iA(es:List (TK×V×V)):Prop:=∀e∈es,∃x,e.1=.inr x/\e.2.1=.str x
def d7r{es:List (TK×V×V)}{xs:List DictEntry}(p:Paired (i_ w) es xs)(h:iA es):∃kvs:List (Str×ai),(∀x∈xs,∃k,(strKind P w).is k x.key=true/\x.hash=(strKind P w).hash k)/\Pairs (strKind P w) xs kvs/\kvs.map (λp=>TK.inr p.1)=es.map (·.1)/\Vals (es.map (·.2.2)) (kvs.map (·.2)):=by
 induction p with
 |nil=>exact⟨[],by simp,.nil,rfl,.nil⟩
 |@cons e x es xs r t ih=>
  obtain⟨kvs,h1,h2,h3,h4⟩:=ih λe m=>h e (qm _ m)
  obtain⟨z,e1,e2⟩:=h e (r9 ..);obtain⟨r1,r2,r3,r4⟩:=r;rw[e2] at r2;obtain⟨t',r2⟩:=r2;have hk:(strKind P w).is z x.key=true:=by rw[r2];show Value.isStrOf z (.str z t')=true;simp[Value.isStrOf]
  refine⟨(z,x.val)::kvs,λy m=>?_,.cons hk rfl h2,by rw[bQ,bQ,h3,e1],.cons r3 h4⟩
  rcases y04.mp m with rfl|m
  .exact⟨z,hk,by rw[r1,e1];rfl⟩
  .exact h1 y m
section
variable{X:Cx}{aa:List (ag×Obj)}{Z:St}{H:Hp}{s:au}{d:ag}{es:List (TK×V×V)}{ep:Nat}
def BJ(I:Inv X aa Z H s)(hd:H d=some (.dG es ep))(ht:iA es):∃kvs,s.heap.DictAt (strKind X.prog X.w) d kvs ep/\Vals (es.map (·.2.2)) (kvs.map (·.2))/\kvs.map (λp=>TK.inr p.1)=es.map (·.1)/\kvs.length<=sizeLine/\(d == sysModules)=false:=by
 obtain⟨hz,lo,ob,xs,g1,g5,g2,g3,g4⟩:=(show bH X.prog X.w H s.heap d (.dG es ep) from I.bB d _ hd);obtain⟨kvs,h1,h2,h3,h4⟩:=d7r (P:=X.prog) g3 ht;refine⟨kvs,⟨ob,xs,g1,g5,g2,λx m=>h1 x (Nu.mpr m),h2,?_⟩,h4,h3,?_,lo⟩
 .rw[<-h3] at g4;rw[show(λp:Str×ai=>TK.inr p.1)=TK.inr∘(·.1) from rfl,<-fJ] at g4
  exact List.Pairwise.of_map _ (λa b ne z=>ne (by rw[z])) g4
 .have:=congrArg List.length h3;rw[bh,bh] at this;lia
def G6(I:Inv X aa Z H s)(hd:H d=some (.dG es ep)):s.TypeIs (.ref d) "dict"/\∀a,Value.ref d=.ref a->∃ob,s.heap.get? a=some ob/\ob.dict=none:=
 RJ (x:=.ref d) I rfl (.inr (.inr (.inl ⟨rfl,.inr (.inr ⟨es,ep,hd⟩)⟩)))
def Vl{ys:List V}{kvs:List (Str×ai)}{a_:Array ai}(rv:Vals ys (kvs.map (·.2)))(h:ItemsOf (λi v=>∃k,kvs[i]?=some (k,v)) a_ kvs.length):Vals ys a_.toList:=by
 have e:a_.toList=kvs.map (·.2):=by
  apply NC;intro i;by_cases hi:i<a_.toList.length
  .have Ec:i<a_.size:=by simpa using hi
   obtain⟨k,hk⟩:=h.2 i a_[i] (vF Ec)
   simp_all
  .rw[Bf (by lia),Bf (by rw[bh];have:=h.1;simp at hi;lia)]
 rw[e];exact rv
def e3x(to:TE):TE:=λZ H Q=>to Z H λx H1=>∃d es ep,x=.ref d/\H1 d=some (.dG es ep)/\iA es/\∀q,H1 q=none->Q (.ref q) (upd H1 q (.lst (es.map (·.2.2))))
def XJ{p:Pos}(Eb:Gl X "list")(LM:X.mg "list"=none)(ho:PE X o to)(hc:X.calm=true)
  (hs:starEach [.Call (.Attribute o "values" apos) [] [] bN] X.env=[(false,eval (.Call (.Attribute o "values" apos) [] [] bN) X.env)]:=by rfl)
  (eH:attributeBase o "values" X.env (eval o X.env)=eval o X.env:=by rfl) (eI:(apos.endLine == bN.line)=true:=by rfl):PE X (.Call (.Name "list" p) [.Call (.Attribute o "values" apos) [] [] bN] [] pos) (e3x to):=by
 intro aa s Z H Q I h;refine Call_ (xV I Eb LM qC (PyProof.Rows.callWith_type1 ?_ hs rfl));rw[hs];show wpAny _ _ (spliced ((false,eval (.Call (.Attribute o "values" apos) [] [] bN) X.env)::[])) _ _ s;refine Calls.spliced_cons (wpAny_Call_method0_late eH eI (bK (ho aa s Z H _ I h) λv s1 hh=>?_))
 obtain⟨x,H1,I1,r1,d,es,ep,rfl,hd,ht,q⟩:=hh;cases r1;obtain⟨t1,t2⟩:=G6 I1 hd;obtain⟨kvs,D1,D2,D3,D4,lo⟩:=BJ I1 hd ht;refine⟨"dict","dict.values",PySem.F.plainAttrs_dict,PySem.F.slot_dict_values,PySem.F.type_dict_values,t1,t2,Calls.callWith_builtin rfl (PySem.evalArgs_none ?_)⟩;refine call_meetsIn PySem.F.slot_dict_values t1 PySem.F.entry_dict_values (PySem.F.args_dict_values_1 _) (meets_dict_values (strKind X.prog X.w) d lo) ⟨⟨kvs,D1.dictOf⟩,?_⟩;refine Calls.spliced_nil ?_;refine kdl_call (kdl_values (knd:=strKind X.prog X.w) (r:=s1.heap.objs.size) (d:=d) (kvs:=kvs) (ep:=ep)) (I1.ok.hd hc) ⟨⟨_,jR _ rfl,rfl,rfl⟩,D1.push _⟩ D4 λh' tk a_ c kp hg hi=>?_
 have sz:(s1.heap.push { cls:=.type "dict_values",data:=.fields #[.ref d]}).objs.size=s1.heap.objs.size+1:=by simp[Heap.push]
 rw[show({ s1 with heap:=s1.heap.push { cls:=.type "dict_values",data:=.fields #[.ref d]}}:au).heap.objs.size=s1.heap.objs.size+1 from sz] at hg ⊢;have rv:=Vl D2 hi;refine⟨.ref (s1.heap.objs.size+1),_,I1.laid (t':=tk) (λb o e=>kp b o (c8 _ e)) (xE _) (show bH X.prog X.w _ h' _ (.lst (es.map (·.2.2))) from⟨?_,a_.toList,c,rv,by simpa using hg⟩),rfl,q _ (I1.bB.fresh (xE _))⟩
 grind [List.length_map]
noncomputable def yC:TK->Bool
 |.inr _=>true
 |_=>false
theorem RO{K:Frag}{F:Kn}:∀{ws:List (TK×V×V)} {ks:List TK},ws.map (·.1)=ks->ah K F (ws.map (·.2.1)) (ks.map (·.d))->ks.all yC=true->iA ws
 |[],_,_,_,_=>λe m=>nomatch m
 |w::ws,[],e,_,_=>by cases e
 |w::ws,k::ks,e,r,a=>by
  rw[bQ,List.cons.injEq] at e;obtain⟨e1,e2⟩:=e;rw[qr,eP] at a;rw[bQ,bQ] at r;intro y m;rcases y04.mp m with rfl|m
  .cases k with
   |inr x=>
    refine⟨x,e1,?_⟩;have:=r.inv.1;obtain⟨y1,y2,y3⟩:=y;dsimp only at this ⊢;cases this with
    |flat z _=>cases z;rfl
   |inl _=>cases a.1
   |tp _=>cases a.1
   |aI=>cases a.1
  .exact RO e2 r.inv.2 a.2 y m
end
def Uh:entryFor table "dict_itemiterator.__iter__"=some Builtin.«dict_keyiterator.__iter__»:=
 entryFor_alias (id':="dict_keyiterator.__iter__") (by kernel_rfl) rfl (by decide +kernel) (by kernel_rfl)
section
variable{prog:de}{w:cC}{A:cQ}{E:ai->au->Prop}{s:au}{it d:ag}{kvs:List (Str×ai)}{ep:Nat}
def N9{i n ep:Nat}{ok ov:ai}{Q:ai->au->Prop}(hit:IsItemIter s.heap it d i n ep ok ov)(h:Q (.ref it) s):wpAny (model prog w) A (pyIter (.ref it)) Q E s:=by
 have hT:s.TypeIs (.ref it) "dict_itemiterator":=⟨_,hit,rfl⟩;refine wpAny_pyIter_slot hT PySem.F.slot_dict_itemiterator_iter (wpAny_call_entry PySem.F.slot_dict_itemiterator_iter hT Uh ?_ (PySem.F.args_dict_itemiterator_iter_1 _));show wpAny _ _ (ret (.ref it)) _ _ s;exact aV ⟨_,rfl,"dict_itemiterator",_,hT,PySem.F.slot_dict_itemiterator_next.lookup,h⟩
def UY(hh:A.handled=none)(it d:ag)(fG:d≠it)(kvs:List (Str×ai))(ep:Nat):
  WalksT prog w A it [it,d] [it] kvs.length (λi vals=>∃k x key,kvs[i]?=some (k,x)/\(PySem.strKind prog w).is k key=true/\vals=#[key,x])
   (λi h=>(∃ok ov,IsItemIter h it d i kvs.length ep ok ov)/\h.DictAt (PySem.strKind prog w) d kvs ep)
   (λi T h=>(∃ok ov,IsItemIterOut h it d (i+1) kvs.length ep ok ov T)/\T≠it/\h.DictAt (PySem.strKind prog w) d kvs ep) where
 sub:=λb hb=>by simp at hb;simp[hb]
 frame:=λi h h' ⟨⟨ok,ov,a⟩,b⟩ k=>⟨⟨ok,ov,k it (by simp) _ a⟩,b.at' λo e=>k d (by simp) o e⟩
 item:=λi s Q E hi ⟨⟨ok,ov,a⟩,b⟩ hQ=>by
  obtain⟨⟨k,x⟩,hx⟩:∃p,kvs[i]?=some p:=⟨kvs[i],by simp[hi]⟩
  have lt:it<s.heap.objs.size:=cO a;refine wpAny_pyNext_items_item a b hx λkey h' hk o1 o2 o3 kp=>?_
  exact hQ s.heap.objs.size #[key,x] h' s.toks ⟨k,x,key,hx,hk,rfl⟩ (bM _) ⟨_,o2,rfl,_,rfl⟩ ⟨⟨_,_,o1⟩,yY lt,b.at' λo e=>kp d o fG e⟩ λb o hb e=>kp b o (λz=>hb (by simp[z])) e
 go:=λelts k pos i T s Q E ⟨⟨ok,ov,a⟩,b,c⟩ hQ=>wpAny_letOwnedTupleGo_items a λh' a' sb=>hQ h' ⟨⟨ok,ov,a'⟩,c.at' λo e=>(sb.2 d fG).trans e⟩ λb o hb e=>(sb.2 b (λz=>hb (by simp[z]))).trans e
 apart:=λi T h ⟨_,b,_⟩=>by simpa using b
 done:=λs Q E ⟨⟨ok,ov,a⟩,b⟩ hQ=>wpAny_pyNext_items_end hh a b (by simp) λh' eb=>hQ h' s.toks λb o hb e=>eb b o (λz=>hb (by simp[z])) e
 self:=λi s Q E ⟨⟨ok,ov,a⟩,_⟩ hQ=>N9 a hQ
end
def Fx(es:List (TK×V×V))(i:Nat)(ws:List V):Prop:=∃e,es[i]?=some e/\ws=[e.2.1,e.2.2]
def Vm{K:Frag}{it d:ag}(fG:d≠it)(es:List (TK×V×V))(ep:Nat):
  Turn P w K (.Tuple elts x1 pos) (Bi (λH=>H d=some (.dG es ep)/\iA es) es.length (Fx es)) [it] it (λi h=>i<=es.length/\∃ok ov,IsItemIter h it d i es.length ep ok ov):=by
 refine OY (FP:=[it]) (wr:=[it]) (by simp) (λb hb=>hb) (λi h st b hb=>?_) (λi h h' st k=>?_) (λX hP hw hK hc aa s Z H I hS=>?_) (λA i s Q E st h=>?_)
 .obtain⟨ok,ov,a⟩:=st;cases lz.mp hb;exact⟨_,a,λv z=>by cases z⟩
 .obtain⟨ok,ov,a⟩:=st;exact⟨ok,ov,k it (by simp) _ a⟩
 .subst hP hw hK;obtain⟨kvs,D1,D2,D3,D4,lo⟩:=BJ I hS.1 hS.2;have l1:kvs.length=es.length:=by have:=congrArg List.length D3;simpa using this
  have W:=UY (prog:=X.prog) (w:=X.w) (A:=X.A) (I.ok.hd hc) it d fG kvs ep;rw[l1] at W;refine⟨_,_,_,_,W,λi st=>⟨st,D1⟩,λi h st=>st.1,λi vals hp=>?_⟩
  obtain⟨k,x,key,k1,k2,rfl⟩:=hp;have hi:i<es.length:=by have:=(eQ.mp k1).1;lia
  have e3:es[i]?=some es[i]:=i8 hi;refine⟨[es[i].2.1,es[i].2.2],⟨_,e3,rfl⟩,.cons ?_ (.cons ?_ .nil),by show 2<=10;decide⟩
  .obtain⟨z,z1,z2⟩:=hS.2 es[i] (FI hi);have k3:(kvs.map (λp=>TK.inr p.1))[i]?=(es.map (·.1))[i]?:=by rw[D3]
   rw[gY,gY,k1,e3] at k3;have k4:TK.inr k=es[i].1:=Option.some.inj k3;rw[z1] at k4;cases k4;rw[z2];exact Value.isStrOf_shape k2
  .obtain⟨u,u1,u2⟩:=D2.get (i:=i) (x:=es[i].2.2) (by rw[gY,e3];rfl)
   rw[gY,k1] at u1;cases u1;exact u2
 .obtain⟨ok,ov,a⟩:=st;exact N9 a h
def RP(to:TE):TI:=λZ H R=>to Z H λx H1=>∃d es ep,x=.ref d/\H1 d=some (.dG es ep)/\iA es/\R (Bi (λH=>H d=some (.dG es ep)/\iA es) es.length (Fx es)) H1
section
variable{X:Cx}{K:Frag}
def XM{fE:Pos}(ho:PE X o to)(eH:attributeBase o "items" X.env (eval o X.env)=eval o X.env:=by rfl)(eI:(apos.endLine == bN.line)=true:=by rfl):
  PI X (.Tuple elts x1 fE) (.Call (.Attribute o "items" apos) [] [] bN) (RP to):=by
 intro aa s Z H R I h;refine wpAny_Call_method0_late eH eI (bK (ho aa s Z H _ I h) λv s1 hh=>?_)
 obtain⟨x,H1,I1,r1,d,es,ep,rfl,hd,ht,q⟩:=hh;cases r1;obtain⟨t1,t2⟩:=G6 I1 hd;obtain⟨kvs,D1,D2,D3,D4,lo⟩:=BJ I1 hd ht;have l1:kvs.length=es.length:=by have:=congrArg List.length D3;simpa using this
 have ld:d<s1.heap.objs.size:=D1.lt_size;refine⟨"dict","dict.items",PySem.F.plainAttrs_dict,PySem.F.slot_dict_items,PySem.F.type_dict_items,t1,t2,Calls.callWith_builtin rfl (PySem.evalArgs_none ?_)⟩;refine call_meetsIn PySem.F.slot_dict_items t1 PySem.F.entry_dict_items (PySem.F.args_dict_items_1 _) (meets_dict_items (PySem.strKind X.prog X.w) d lo) ⟨⟨kvs,D1.dictOf⟩,?_⟩;refine wpAny_pyIter_items (knd:=PySem.strKind X.prog X.w) (v:=s1.heap.objs.size) (d:=d) (kvs:=kvs) (ep:=ep) ⟨_,jR _ rfl,rfl,rfl⟩ (D1.push _) ?_;have sz:(s1.heap.push { cls:=.type "dict_items",data:=.fields #[.ref d]}).objs.size=s1.heap.objs.size+1:=by simp[Heap.push]
 have hg:=jR (s1.heap.push { cls:=.type "dict_items",data:=.fields #[.ref d]}) (o:={ cls:=.type "dict_itemiterator",data:=.fields #[.none,.bool false,.ref d,.int 0 0,.int kvs.length 0,.int ep 0,.none,.none]}) rfl;rw[l1] at hg ⊢;refine⟨(s1.heap.push { cls:=.type "dict_items",data:=.fields #[.ref d]}).objs.size,[(s1.heap.push { cls:=.type "dict_items",data:=.fields #[.ref d]}).objs.size],_,_,H1,rfl,I1.kept (t':=s1.toks) λb o e=>c8 _ (c8 _ e),Vm (it:=(s1.heap.push { cls:=.type "dict_items",data:=.fields #[.ref d]}).objs.size) (d:=d) (by rw[sz];exact gR (A' ld)) es ep,⟨mU _,.none,.none,hg⟩,λb hb=>?_,q⟩
 cases lz.mp hb;have kf:s1.heap.objs.size<=(s1.heap.push { cls:=.type "dict_items",data:=.fields #[.ref d]}).objs.size:=by rw[sz];exact xE _
 exact I1.lR kf (I1.bB.fresh kf)
end
end L2
namespace L2
open PySem PySem.Spec PyProof.Rows
section
variable{X:Cx}{K:PySem.W.Frag}
def ER(K:PySem.W.Frag):R2:=λx y H Q=>∃d e,bo K H [x] [d]/\bo K H [y] [e]/\c7 40 d=true/\c7 40 e=true/\Q (.bl (aR d e)) H
def e3y(K:PySem.W.Frag)(hu:X.A.units+40<cLine)(hK:X.K=K:=by rfl):dF X (compareOp .Eq) (ER K):=by
 subst hK;intro aa s Z H x y v u Q I rx ry h;obtain⟨d,e,r1,r2,o1,o2,q⟩:=h;exact(Du I 40 40 r1 r2 o1 o2 rx ry hu).2 X.prog X.w _ _ ⟨.bl _,H,I,rfl,q⟩
open Classical in
noncomputable def pK (K:PySem.W.Frag) (H:Hp) (dx:D) (u:ai):Bool:=decide (∃x d,RelV x u/\bo K H [x] [d]/\c7 40 d=true/\aR d dx=true)
open Classical in
def RQ{aa:List (ag×Obj)}{s:au}{Z:St}{H:Hp}(I:Inv X aa Z H s){dx d:D}{x:V}{u:ai}(rx:RelV x u)(r:bo X.K H [x] [d])(ok:c7 40 d=true):pK X.K H dx u=aR d dx:=by
 unfold pK;rw[Ba,y9a];constructor
 .rintro⟨x',d',rx',r',fI,e⟩;have:=RelV.inj rx rx';subst this;rw[G5 I 40 40 r r' ok fI];exact e
 .exact λe=>⟨x,d,rx,r,ok,e⟩
def Hm{aa:List (ag×Obj)}{s:au}{Z:St}{H:Hp}(I:Inv X aa Z H s){dx:D}{ws:List V}{aF:List ai}{ds:List D}(t:Vals ws aF)(rp:bo X.K H ws ds)(ok:ds.all (c7 40)=true):aF.any (pK X.K H dx)=ds.any λd=>aR d dx:=by
 induction t generalizing ds with
 |nil=>
  cases ds with
  |nil=>rfl
  |cons _ _=>have:=rp.length;simp at this
 |cons r t ih=>
  cases ds with
  |nil=>have:=rp.length;simp at this
  |cons d ds=>
   rw[qr,eP] at ok;rw[List.any_cons,List.any_cons,RQ I r rp.inv.1 ok.1,ih rp.inv.2 ok.2]
def Ho{aa:List (ag×Obj)}{s:au}{Z:St}{H:Hp}(I:Inv X aa Z H s){dx:D}{y:V}{v:ai}{A:cQ}(rv:RelV y v)(ry:bo X.K H [y] [dx])(oy:c7 40 dx=true)(hu:A.units+40<cLine):
  ∀{ws:List V} {aF:List ai} {ds:List D},Vals ws aF->bo X.K H ws ds->ds.all (c7 40)=true->∀u∈aF,SeqAt.EqAt A s u v (pK X.K H dx u):=by
 intro ws aF ds t
 induction t generalizing ds with
 |nil=>intro _ _ u m;cases m
 |cons r t ih=>
  intro rp ok u' m;cases ds with
  |nil=>have:=rp.length;simp at this
  |cons d ds=>
   rw[qr,eP] at ok;rcases y04.mp m with rfl|m
   .rw[RQ I r rp.inv.1 ok.1];exact(Du I 40 40 rp.inv.1 ry ok.1 oy r rv hu).1
   .exact ih rp.inv.2 ok.2 u' m
noncomputable def A2:D->ak (List D)
 |.lst ds=>some ds
 |.tup ds=>some ds
 |_=>none
def AU(K:PySem.W.Frag)(neg:Bool):R2:=λx y H Q=>
 (∃d e ds,bo K H [x] [d]/\bo K H [y] [e]/\A2 e=some ds/\c7 40 d=true/\ds.all (c7 40)=true/\Q (.bl (if neg then !ds.any λz=>aR z d else ds.any λz=>aR z d)) H)\/
 (∃i j,x=.str i/\y=.str j/\Q (.bl (if neg then !(!(Builtin.Str.occurrences j i 0 j.length 1).isEmpty) else !(Builtin.Str.occurrences j i 0 j.length 1).isEmpty)) H)\/
 ∃a o,y=.ref a/\g8 K H a x o/\Q (.bl (if neg then !o.isSome else o.isSome)) H
def e3z(K:PySem.W.Frag)(hu:X.A.units+41<cLine)(hK:X.K=K:=by rfl):dF X (compareOp .In) (AU K false):=by
 subst hK;intro aa s Z H x y v u Q I rx ry h;rcases h with⟨d,e,ds,r1,r2,es,o1,o2,q⟩|⟨i,j,rfl,rfl,q⟩|⟨a,o,rfl,g,q⟩
 .have rR:X.A.in1.units+40<cLine:=by show X.A.units+1+40<cLine;lia
  cases r2 with
  |flat z _=>cases e <;> first|(cases z;done)|cases es
  |lst sq i _=>
   cases es;cases ry;obtain⟨aF,r,pl,hz⟩:=I.list sq;refine SeqAt.in_listAt (pK X.K H d) pl.isList (λw hw=>Ho I rx r1 o1 rR r i o2 w (by simpa using hw)) ⟨.bl _,H,I,rfl,?_⟩
   rw[show aF.toArray.any (pK X.K H d)=aF.any (pK X.K H d) by simp,Hm I r i o2]
   exact q
  |tup sq i _=>
   cases es;cases ry;obtain⟨aF,r,pl,hz⟩:=I.tuple sq;refine SeqAt.in_tupleAt (pK X.K H d) pl (λw hw=>Ho I rx r1 o1 rR r i o2 w (by simpa using hw)) ⟨.bl _,H,I,rfl,?_⟩
   rw[show aF.toArray.any (pK X.K H d)=aF.any (pK X.K H d) by simp,Hm I r i o2]
   exact q
  |aB _ _ _ _ _=>cases es
  |ref _ _=>cases es
 .exact VS aa s Z H _ _ v u Q I rx ry ⟨i,j,rfl,rfl,q⟩
 .cases ry;exact Nr (by lia) I g rx λs3 I3=>⟨.bl o.isSome,H,I3,rfl,q⟩
def Wl(K:PySem.W.Frag)(hu:X.A.units+41<cLine)(hK:X.K=K:=by rfl):dF X (compareOp .NotIn) (AU K true):=by
 subst hK;intro aa s Z H x y v u Q I rx ry h;rcases h with⟨d,e,ds,r1,r2,es,o1,o2,q⟩|⟨i,j,rfl,rfl,q⟩|⟨a,o,rfl,g,q⟩
 .have rR:X.A.in1.units+40<cLine:=by show X.A.units+1+40<cLine;lia
  cases r2 with
  |flat z _=>cases e <;> first|(cases z;done)|cases es
  |lst sq i _=>
   cases es;cases ry;obtain⟨aF,r,pl,hz⟩:=I.list sq;refine SeqAt.notIn_listAt (pK X.K H d) pl.isList (λw hw=>Ho I rx r1 o1 rR r i o2 w (by simpa using hw)) ⟨.bl _,H,I,rfl,?_⟩
   rw[show aF.toArray.any (pK X.K H d)=aF.any (pK X.K H d) by simp,Hm I r i o2]
   exact q
  |tup sq i _=>
   cases es;cases ry;obtain⟨aF,r,pl,hz⟩:=I.tuple sq;refine SeqAt.notIn_tupleAt (pK X.K H d) pl (λw hw=>Ho I rx r1 o1 rR r i o2 w (by simpa using hw)) ⟨.bl _,H,I,rfl,?_⟩
   rw[show aF.toArray.any (pK X.K H d)=aF.any (pK X.K H d) by simp,Hm I r i o2]
   exact q
  |aB _ _ _ _ _=>cases es
  |ref _ _=>cases es
 .exact UE aa s Z H _ _ v u Q I rx ry ⟨i,j,rfl,rfl,q⟩
 .cases ry;exact d7k (by lia) I g rx λs3 I3=>⟨.bl (!o.isSome),H,I3,rfl,q⟩
def yg(ne:Bool)(a b:D):ak Rv:=if(c7 40 a&&c7 40 b)=true then some (rd (.bl (if ne=true then !aR a b else aR a b))) else none
def e8i:bZ K (nI (ER K)) (o2 (yg false)):=yH λk H x z a b y Q le t1 t2 e res=>by
 unfold yg at e;split at e
 .rename_i h
  obtain⟨h1,h2⟩:=Cq.mp h;cases e;exact⟨_,_,t1.vx le h1,t2.vx le h2,h1,h2,res.flat le rfl⟩
 .cases e
def e8j:bZ K (nI (EX K)) (o2 (yg true)):=yH λk H x z a b y Q le t1 t2 e res=>by
 unfold yg at e;split at e
 .rename_i h
  obtain⟨h1,h2⟩:=Cq.mp h;cases e;exact⟨_,_,t1.vx le h1,t2.vx le h2,h1,h2,res.flat le rfl⟩
 .cases e
mutual
def sD:D->ak TK
 |.int i=>some (.inl i)
 |.str x=>some (.inr x)
 |.aI=>some .aI
 |.tup l=>(pD l).map .tp
 |_=>none
def pD:List D->ak (List TK)
 |[]=>some []
 |d::l=>(sD d).bind λk=>(pD l).map λks=>k::ks
end
def k9:D->ak TK
 |.int i=>some (.inl i)
 |.str x=>some (.inr x)
 |.aI=>some .aI
 |.tup l=>(pD l).bind λks=>if TK.ok 8 (.tp ks)=true then some (.tp ks) else none
 |_=>none
mutual
theorem e8k:∀{d:D} {k:TK},sD d=some k->k.d=d
 |.int i,k,e=>by simp only[sD] at e;cases e;simp[TK.d]
 |.str i,k,e=>by simp only[sD] at e;cases e;simp[TK.d]
 |.tup l,k,e=>by
  simp only[sD] at e;obtain⟨ks,h1,rfl⟩:=dm.mp e;simp only[TK.d];rw[ql h1]
 |.aI,k,e=>by simp only[sD] at e;cases e;simp[TK.d]
 |.ref _,k,e=>by simp[sD] at e
 |.bl _,k,e=>by simp[sD] at e
 |.ty _,k,e=>by simp[sD] at e
 |.lst _,k,e=>by simp[sD] at e
 |.aB _,k,e=>by simp[sD] at e
theorem ql:∀{l:List D} {ks:List TK},pD l=some ks->TK.dl ks=l
 |[],ks,e=>by simp only[pD] at e;cases e;simp[TK.dl]
 |d::l,ks,e=>by
  simp only[pD] at e;obtain⟨k,h1,e⟩:=cB.mp e;obtain⟨yE,h2,rfl⟩:=dm.mp e;simp only[TK.dl];rw[e8k h1,ql h2]
end
def BK{d:D}{k:TK}(e:k9 d=some k):k.d=d/\k.ok 8=true:=by
 cases d with
 |int i=>cases e;exact⟨by simp[TK.d],rfl⟩
 |str i=>cases e;exact⟨by simp[TK.d],rfl⟩
 |aI=>cases e;exact⟨by simp[TK.d],rfl⟩
 |tup l=>
  simp only[k9] at e;obtain⟨ks,h1,e⟩:=cB.mp e;split at e
  .rename_i h
   cases e;exact⟨by simp only[TK.d];rw[ql h1],h⟩
  .cases e
 |_=>cases e
def aT(kvs:List (TK×D))(k:TK):ak D:=(kvs.find? λkv=>decide (kv.1=k)).map (·.2)
theorem Kr{F:Kn}{k:TK}:∀{ws:List (TK×V×V)} {kvs:List (TK×D)},ws.map (·.1)=kvs.map (·.1)->ah K F (ws.map (·.2.2)) (kvs.map (·.2))->(j8 ws k=none/\aT kvs k=none)\/∃v d,j8 ws k=some v/\aT kvs k=some d/\ah K F [v] [d]
 |[],[],_,_=>.inl ⟨rfl,rfl⟩
 |w::ws,p::kvs,h,r=>by
  rw[bQ,bQ] at h;injection h with h1 h2;unfold j8 aT;rw[uT,uT,h1];by_cases e:p.1=k
  .rw[sd e];exact .inr ⟨w.2.2,p.2,rfl,rfl,r.inv.1⟩
  .rw[sL e];exact Kr h2 r.inv.2
 |[],_::_,h,_=>by simp at h
 |_::_,[],h,_=>by simp at h
def xy{k:Kn}{H:Hp}{x y:V}{kvs:List (TK×D)}{d:D}{j:TK}(le:aw k.F H)(t1:Top K k H x (.aB kvs))(t2:Top K k H y d)(hk:k9 d=some j):∃a o,x=.ref a/\g8 K H a y o/\((o=none/\aT kvs j=none)\/∃v e,o=some v/\aT kvs j=some e/\ah K k [v] [e]):=by
 obtain⟨a,es,ep,rfl,h1,h2,h3,h4⟩:=t1.aB le;obtain⟨k1,k2⟩:=BK hk;refine⟨a,j8 es j,rfl,⟨es,ep,j,h1,QJ h2 h3 le,?_,k2,rfl⟩,Kr h2 h4⟩;have:=t2.rep le;rw[<-k1] at this;exact uv (k:=k.all H) j this
def B9(neg:Bool)(a b:D):ak Rv:=match b with
 |.aB kvs=>(k9 a).map λj=>rd (.bl (if neg=true then !(aT kvs j).isSome else(aT kvs j).isSome))
 |.str j=>(match a with
  |.str i=>some (rd (.bl (if neg=true then !(!(Builtin.Str.occurrences j i 0 j.length 1).isEmpty) else !(Builtin.Str.occurrences j i 0 j.length 1).isEmpty)))
  |_=>none)
 |e=>(A2 e).bind λds=>if(c7 40 a&&ds.all (c7 40))=true then some (rd (.bl (if neg=true then !ds.any λz=>aR z a else ds.any λz=>aR z a))) else none
def d7s{k:Kn}{H:Hp}{x:V}{e:D}{ds:List D}(le:aw k.F H)(t:Top K k H x e)(h:A2 e=some ds)(ok:ds.all (c7 40)=true):bo K H [x] [e]:=by
 cases e with
 |lst _=>cases h;obtain⟨p,ws,rfl,q,r⟩:=t.lst le;exact .lst q (Top.TH r le ok) .nil
 |tup _=>cases h;obtain⟨p,ws,rfl,q,r⟩:=t.tup le;exact .tup q (Top.TH r le ok) .nil
 |_=>cases h
def Sz(neg:Bool):bZ K (nI (AU K neg)) (o2 (B9 neg)):=yH λk H x z a b y Q le t1 t2 e res=>by
 unfold B9 at e;split at e
 .obtain⟨j,hj,rfl⟩:=dm.mp e;obtain⟨p,o,rfl,g,h⟩:=xy le t2 t1 hj;refine .inr (.inr ⟨p,o,rfl,g,?_⟩);have z:=res.flat le rfl;rcases h with⟨rfl,h⟩|⟨v,e,rfl,h,_⟩ <;> rw[h] at z <;> exact z
 .split at e
  .cases e;cases t1.flat rfl;cases t2.flat rfl;exact .inr (.inl ⟨_,_,rfl,rfl,res.flat le rfl⟩)
  .cases e
 .obtain⟨ds,h1,e⟩:=cB.mp e;split at e
  .rename_i h
   obtain⟨h2,h3⟩:=Cq.mp h;cases e;exact .inl ⟨_,_,ds,t1.vx le h2,d7s le t2 h1 h3,h1,h2,h3,res.flat le rfl⟩
  .cases e
def AV(neg:Bool):R2:=λx y H Q=>(y=.aI/\Q (.bl (if neg then !decide (x=.aI) else decide (x=.aI))) H)\/∃a b,x=.bl a/\y=.bl b/\Q (.bl (if neg then a != b else a == b)) H
def e4b:dF X (compareOp .Is) (AV false):=AN.or e2t
def d7t:dF X (compareOp .IsNot) (AV true):=wO.or ε
noncomputable def uA:D->Bool
 |.aI=>true
 |_=>false
def B_(neg:Bool)(a b:D):ak Rv:=match b with
 |.aI=>some (rd (.bl (if neg=true then !uA a else uA a)))
 |.bl b=>(match a with
  |.bl a=>some (rd (.bl (if neg=true then a != b else a == b)))
  |_=>none)
 |_=>none
def XN{k:Kn}{H:Hp}{x:V}{d:D}(h:Top K k H x d):decide (x=.aI)=uA d:=by
 rcases h with h|⟨p,c,rfl,rfl,h⟩
 .cases h with
  |flat q _=>cases d <;> cases q <;> rfl
  |_=>rfl
 .cases c <;> rfl
def SA(neg:Bool):bZ K (nI (AV neg)) (o2 (B_ neg)):=yH λk H x z a b y Q le t1 t2 e res=>by
 unfold B_ at e;split at e
 .cases e;cases t2.flat rfl;refine .inl ⟨rfl,?_⟩;rw[XN t1];exact res.flat le rfl
 .split at e
  .cases e;cases t1.flat rfl;cases t2.flat rfl;exact .inr ⟨_,_,rfl,rfl,res.flat le rfl⟩
  .cases e
 .cases e
def ET(K:PySem.W.Frag):R2:=λx y H Q=>AW K x y H Q\/AX K x y H Q\/EU x y H Q\/∃a v,x=.ref a/\g8 K H a y (some v)/\Q v H
def d7u(hu:X.A.units+9<cLine):rD X (λx y H Q=>∃a v,x=.ref a/\g8 X.K H a y (some v)/\Q v H):=by
 intro value slice aa s Z H x y v u Q I rx ry h hs;obtain⟨a,w,rfl,g,q⟩:=h;cases rx;exact tail_any (g.ty I).1 PySem.F.slot_dict_getitem.lookup (O4 hu I g ry λw' s3 I3 nO=>⟨w,H,I3,nO,q⟩) hs
def L7(K:PySem.W.Frag)(hu:X.A.units+41<cLine)(hK:X.K=K):rD X (ET K):=by
 subst hK;exact(Xp X.K rfl).or ((ζ X.K rfl).or (Ay.or (d7u (by lia))))
noncomputable def intD:D->ak Int
 |.int k=>some k
 |_=>none
def G7{i:D}{k:Int}(h:intD i=some k):i=.int k:=by
 cases i with
 |int _=>cases h;rfl
 |_=>cases h
def QL{F:Kn}{ws:List V}{ds:List D}{i:Int}{d:D}(r:ah K F ws ds)(e:dU ds i=some d):∃v,dU ws i=some v/\ah K F [v] [d]:=by
 unfold dU at e ⊢;rw[r.length];cases q:wG ds.length i with
 |none=>rw[q] at e;cases e
 |some j=>
  rw[q] at e;exact r.get e
def Ih(a i:D):ak Rv:=match a with
 |.lst ds=>(intD i).bind λk=>(dU ds k).map rd
 |.tup ds=>(intD i).bind λk=>(dU ds k).map rd
 |.str z=>(intD i).bind λk=>if z.length<=1000000 then(dU z.cps.toList k).map λc=>rd (.str ⟨#[c]⟩) else none
 |.aB kvs=>(k9 i).bind λj=>(aT kvs j).map rd
 |_=>none
def e8l:bZ K (nI (ET K)) (o2 Ih):=yH λk H x z a b y Q le t1 t2 e res=>by
 unfold Ih at e;split at e
 .obtain⟨i,hi,e⟩:=cB.mp e;cases G7 hi;cases t2.flat rfl;obtain⟨d,h1,rfl⟩:=dm.mp e;obtain⟨p,ws,rfl,q,r⟩:=t1.lst le;obtain⟨v,h2,h3⟩:=QL r h1;exact .inl ⟨p,ws,i,v,rfl,rfl,q,h2,res.rep le h3⟩
 .obtain⟨i,hi,e⟩:=cB.mp e;cases G7 hi;cases t2.flat rfl;obtain⟨d,h1,rfl⟩:=dm.mp e;obtain⟨p,ws,rfl,q,r⟩:=t1.tup le;obtain⟨v,h2,h3⟩:=QL r h1;exact .inr (.inl ⟨p,ws,i,v,rfl,rfl,q,h2,res.rep le h3⟩)
 .obtain⟨i,hi,e⟩:=cB.mp e;cases G7 hi;cases t2.flat rfl;cases t1.flat rfl;split at e
  .obtain⟨c,h1,rfl⟩:=dm.mp e;exact .inr (.inr (.inl ⟨_,i,c,rfl,rfl,ml (by assumption),h1,res.flat le rfl⟩))
  .cases e
 .obtain⟨j,hj,e⟩:=cB.mp e;obtain⟨d,h1,rfl⟩:=dm.mp e;obtain⟨p,o,rfl,g,h⟩:=xy le t1 t2 hj;rcases h with⟨_,h⟩|⟨v,e,rfl,h,r⟩
  .rw[h] at h1;cases h1
  .rw[h] at h1;cases h1;exact .inr (.inr (.inr ⟨p,v,rfl,g,res.rep le r⟩))
 .cases e
noncomputable def cutD(ds:List D)(lo hi:ak Int):List D:=(ds.drop (HT.cG ds.length 0 lo)).take (HT.cG ds.length ds.length hi - HT.cG ds.length 0 lo)
def EY(K:PySem.W.Frag):V->ak Int->ak Int->Hp->VK->Prop:=λx lo hi H Q=>EZ x lo hi H Q\/AY K x lo hi H Q\/AZ K x lo hi H Q
def MU(K:PySem.W.Frag)(hK:X.K=K):tu X (EY K):=A3.or ((Xq K hK).or (η K hK))
def MT(a:D)(lo hi:ak Int):ak Rv:=match a with
 |.str z=>if z.length<=1000000 then some (rd (.str (Txt.slice z lo hi))) else none
 |.lst ds=>some (.o (.lst (cutD ds lo hi)))
 |.tup ds=>if HT.cG ds.length 0 lo=0/\HT.cG ds.length ds.length hi=ds.length then none else some (rd (.tup (cutD ds lo hi)))
 |_=>none
def QM{k:Kn}{ws:List V}{ds:List D}{lo hi:ak Int}(r:ah K k ws ds):ah K k (ox ws lo hi) (cutD ds lo hi):=by
 unfold ox cutD;rw[r.length];exact(r.drop _).take _
def e8m{k:Kn}{H:Hp}{x:V}{a:D}{y:Rv}{Q:VK}{lo hi:ak Int}(le:aw k.F H)(t:Top K k H x a)(e:MT a lo hi=some y)(res:lM K k H y Q):EY K x lo hi H Q:=by
 unfold MT at e;split at e
 .split at e
  .cases e;cases t.flat rfl;exact .inl ⟨_,rfl,ml (by assumption),res.flat le rfl⟩
  .cases e
 .cases e;obtain⟨p,ws,rfl,q,r⟩:=t.lst le;exact .inr (.inl ⟨p,ws,rfl,q,λl hl=>res.lst le (QM r) hl⟩)
 .split at e
  .cases e
  .rename_i fG
   cases e;obtain⟨p,ws,rfl,q,r⟩:=t.tup le;exact .inr (.inr ⟨p,ws,rfl,q,by rw[r.length];exact fG,λl hl=>res.tup le (QM r) hl⟩)
 .cases e
abbrev GO:=Gx (ak Int)
abbrev Bm:Rp (ak Int) (ak Int):=λ_ _ b a=>b=a
def BU:GO:=λ_ S=>some (.ok none S)
noncomputable def Rv.int:Rv->ak Int
 |.v (.d (.int i))=>some i
 |_=>none
noncomputable def BV(g:GE):GO:=λU S=>bd (g U S) λr S1=>r.int.map λi=>.ok (some i) S1
def zQ(f:GE)(lo hi:GO):GE:=λU S=>bd (f U S) λr S1=>bd (lo U S1) λl S2=>bd (hi U S2) λu S3=>((wZ S3 (nP r)).bind λd=>MT d l u).map λy=>.ok y S3
def Rv.jo{r:Rv}{i:Int}(h:r.int=some i):r=rd (.int i):=by
 unfold Rv.int at h;split at h
 .cases h;rfl
 .cases h
section
variable{W:XW}{q:Nat}{e:Expr}{lo hi:ak Expr}{f:GE}{fl fh:GO}{pos p2:Pos}
def wa:PO X none (tX Bm K W q BU):=λaa s Z H Q I t=>Δ aa s Z H Q I (DG t λ_ _=>rfl)
def wb(h:PE X e (tE K W q f)):PO X (some e) (tX Bm K W q (BV f)):=λaa s Z H Q I t=>Θ h aa s Z H Q I (by
 obtain⟨k,U,S,res,ok,gk,e,w⟩:=t;refine tX.bd ok gk e w λr S1 x k1 H1 bI g1 r1 e1 w1 _=>?_
 obtain⟨i,e2,rfl⟩:=dm.mp e1;cases Rv.jo e2;exact⟨i,(show ah K k1 [x] [.int i] from r1).bc rfl,w1.now bI rfl⟩)
def XO(he:PE X e (tE K W q f))(hl:PO X lo (tX Bm K W q fl))(hu:PO X hi (tX Bm K W q fh))(hK:X.K=K):PE X (.Subscript e (.Slice lo hi none p2) pos) (tE K W q (zQ f fl fh)):=(Xj (MU K hK) he hl hu).mono λZ H Q t=>by
 obtain⟨k,U,S,res,ok,gk,e,w⟩:=t;refine tX.bd ok gk e w λr S1 x k1 H1 bI g1 r1 e1 w1 _=>?_
 obtain⟨k2,u2,cJ,r2⟩:=sv bI r1;refine tX.bd cJ (g1.up (u2 q)) e1 (w1.up (u2 q)) λl S3 l' k3 H3 j6 g3 r3 e3 w3 u3=>?_
 cases r3;refine tX.bd j6 g3 e3 w3 λu S4 u' k4 H4 rX g4 r4 e4 w4 u4=>?_
 cases r4;obtain⟨y,e5,rfl⟩:=dm.mp e4;obtain⟨d,e6,e7⟩:=cB.mp e5;exact e8m rX.le (Hi rX ((r2.up u3).up u4) e6) e7 (.fin rX w4)
end
end
section
variable{X:Cx}{K:PySem.W.Frag}
def ic:List Int->Int
 |[]=>0
 |x::xs=>xs.foldl (λa b=>if b<a then b else a) x
def Wm(xs:List Int):∀x:Int,(xs.foldl (λa b=>if b<a then b else a) x<=x/\∀y∈xs,xs.foldl (λa b=>if b<a then b else a) x<=y)/\(xs.foldl (λa b=>if b<a then b else a) x=x\/xs.foldl (λa b=>if b<a then b else a) x∈xs):=by
 induction xs with
 |nil=>intro x;exact⟨⟨Bg _,λy m=>by cases m⟩,.inl rfl⟩
 |cons z xs ih=>
  grind
def O5{xs:List Int}(h:xs≠[]):ic xs∈xs/\∀y∈xs,ic xs<=y:=by
 cases xs with
 |nil=>exact b_ rfl h
 |cons x xs=>
  obtain⟨⟨h1,h2⟩,h3⟩:=Wm xs x;refine⟨?_,λy m=>?_⟩
  .rcases h3 with h3|h3
   .show List.foldl _ x xs∈_;rw[h3];exact .head _
   .exact .tail _ h3
  .rcases y04.mp m with rfl|m
   .exact h1
   .exact h2 y m
theorem JD:∀{is:List Int} {aF:List ai},Vals (is.map V.int) aF->∃ps:List (Int×Tok),aF=ps.map (λp=>Value.int p.1 p.2)/\ps.map (·.1)=is
 |[],aF,h=>by
  rw[xG] at h;cases h;exact⟨[],rfl,rfl⟩
 |i::is,aF,h=>by
  rw[bQ] at h;cases h with
  |cons r t=>
   obtain⟨ps,e1,e2⟩:=JD t;obtain⟨tk,rfl⟩:=r;exact⟨(i,tk)::ps,by rw[e1];rfl,by rw[bQ,e2]⟩
def XQ(K:PySem.W.Frag)(hc:X.calm=true:=by rfl)(hK:X.K=K:=by rfl):bS X (.builtin "min") (λxs H Q=>∃(a:ag) (is:List Int),xs=[.ref a]/\cM K H a (is.map V.int)/\is≠[]/\Q (.int (ic is)) H):=by
 subst hK;intro aa s Z H xs us Q I r h;obtain⟨a,is,rfl,hs,fG,q⟩:=h;obtain⟨u,rfl,ru⟩:=vals1 r;cases ru;obtain⟨aF,rv,p,hz⟩:=I.list hs;obtain⟨ps,e1,e2⟩:=JD rv;subst e1;have hl:0<ps.length:=by
  cases ps with
  |nil=>exact b_ e2.symm fG
  |cons _ _=>simp
 have el:(ps.map λp=>Value.int p.1 p.2).toArray=intItems ps.toArray:=by unfold intItems;simp
 have pl:=p.isList;rw[el] at pl;refine min_intList (I.ok.hd hc) pl (by simpa using hl) λv h' tk hv hk=>?_
 obtain⟨b1,b2⟩:=argBest_lt (numAt ps.toArray) (ps.toArray.size - 1);generalize argBest (λi j=>decide (numAt ps.toArray i<numAt ps.toArray j)) (ps.toArray.size - 1)=n at *
 have hn:n<ps.length:=by simp at b1;lia
 have Eg:∀j (hj:j<ps.length),numAt ps.toArray j=(ps[j]).1:=λj hj=>by unfold numAt;simp[hj]
 have LY:v=Value.int (ps[n]).1 (ps[n]).2:=by
  unfold intItems at hv;simp[hn] at hv;exact hv.symm
 have hm:ic is=(ps[n]).1:=by
  obtain⟨m1,m2⟩:=O5 fG;have i1:(ps[n]).1∈is:=by rw[<-e2];exact j_ (f:=(·.1)) (FI hn)
  have c1:=m2 _ i1;rw[<-e2] at m1;obtain⟨pp,LU,LV⟩:=dZ.mp m1;obtain⟨j,hj,ej⟩:=List.mem_iff_getElem.mp LU;have c2:=b2 j (by simp;lia)
  rw[Eg n hn,Eg j hj,ej] at c2;rw[e2] at LV;lia
 rw[LY];exact⟨.int (ic is),H,I.kept (h':=h') (t':=tk) λb o e=>hk b o e,⟨(ps[n]).2,by rw[hm]⟩,q⟩
def k8:List D->ak (List Int)
 |[]=>some []
 |.int i::ds=>(k8 ds).map λis=>i::is
 |_=>none
theorem JS:∀is:List Int,k8 (is.map .int)=some is
 |[]=>rfl
 |i::is=>by rw[bQ];show(k8 (is.map .int)).map _=_;rw[JS is];rfl
theorem O6:∀{ds:List D} {is:List Int},k8 ds=some is->ds=is.map .int
 |[],is,e=>by cases e;rfl
 |d::ds,is,e=>by
  cases d with
  |int i=>
   obtain⟨js,e1,e2⟩:=dm.mp (show(k8 ds).map _=some is from e);rw[<-e2,O6 e1];rfl
  |_=>cases e
theorem Ol{F:Kn}:∀{ws:List V} {is:List Int},ah K F ws (is.map .int)->ws=is.map .int
 |[],[],_=>rfl
 |[],_::_,h=>by have:=h.length;simp at this
 |_::_,[],h=>by have:=h.length;simp at this
 |w::ws,i::is,h=>by
  rw[bQ] at h;have h1:=h.inv.1;have h2:=Ol h.inv.2;rw[h2,bQ];cases h1 with
  |flat e _=>cases e;rfl
end
section
variable{X:Cx}{K:PySem.W.Frag}
end
end L2
namespace L2
open PySem PySem.Spec PySem.W PyProof.Rows
section
variable{X:Cx}{K:PySem.W.Frag}
def Nd(k:String):Bool:=k == "tuple" || k == "list"
def yN(K:Frag):List V->Hp->VK->Prop:=λxs H Q=>∃x k q,xs=[x,.ref q]/\Ds K H x k/\g7 K H q [.ty "tuple",.ty "list"]/\Q (.bl (Nd k)) H
def Wn(K:Frag)(hK:X.K=K:=by rfl):bS X (.builtin "isinstance") (yN K):=by
 subst hK;intro aa s Z H xs us Q I r h;obtain⟨x,k,q,rfl,hk,hq,qq⟩:=h;obtain⟨u,w',rfl,rx,ry⟩:=vals2 r;cases ry;obtain⟨aF,rv,⟨ot,h1,h2,n,h3⟩,_⟩:=I.tuple hq;obtain⟨oc,odd,odt,vy⟩:=ot;dsimp only at h2 h3;subst h2;subst h3;obtain⟨u1,u2,rfl,r1,r2⟩:=vals2 rv;cases r1;cases r2;have fin:∀b,b=Nd k->∀tk,EP X aa Z Q (.bool b) { s with toks:=tk}:=λb e tk=>vY (I.tok _) qq e.symm
 cases x with
 |aI=>
  cases rx;have hk:k="NoneType":=hk;subst hk;exact kia_tup (b:=false) kitx_none I.kj uU h1 (by rfl) (λz=>nomatch z) (fin _ rfl)
 |bl b=>
  cases rx;have hk:k="bool":=hk;subst hk;exact kia_tup (b:=false) kitx_bool I.kj uU h1 (by rfl) (λz=>nomatch z) (fin _ rfl)
 |int i=>
  obtain⟨t,rfl⟩:=rx;have hk:k="int":=hk;subst hk;exact kia_tup (b:=false) kitx_int I.kj uU h1 (by rfl) (λz=>nomatch z) (fin _ rfl)
 |str z=>
  obtain⟨t,rfl⟩:=rx;have hk:k="str":=hk;subst hk;exact kia_tup (b:=false) kitx_str I.kj uU h1 (by rfl) (λz=>nomatch z) (fin _ rfl)
 |ref a=>
  cases rx;rcases hk with⟨hk,ys,hs⟩|⟨hk,ys,hs⟩
  .subst hk;obtain⟨aF,_,⟨o,n,e,hc,_⟩,_⟩:=I.list hs;exact kia_tup (b:=true) kitx_list I.kj ⟨o,e,hc⟩ h1 (by rfl) (λz=>nomatch z) (fin _ rfl)
  .subst hk;obtain⟨aF,_,⟨o,e,hc,_⟩,_⟩:=I.tuple hs;exact kia_tup (b:=true) kitx_tuple I.kj ⟨o,e,hc⟩ h1 (by rfl) (λz=>nomatch z) (fin _ rfl)
 |x6 _=>exact False.elim hk
 |yk _=>exact False.elim hk
 |ty _=>exact False.elim hk
end
end L2
namespace L2
open PySem PySem.Spec PyProof.Rows
variable{A:cQ}{E:ai->au->Prop}{s:au}{ep:Nat}
theorem UZ{Q:Bool->au->Prop}{P:de}{w:cC}{d:ag}(hT:s.TypeIs (.ref d) "dict")(h:Q false s):wpAny (model P w) A (Builtin.List.listLengthHint (.ref d)) Q E s:=by
 unfold Builtin.List.listLengthHint;refine ay (wpAny_specialOf hT F.slot_dict_len.lookup ?_);dsimp only;rw[show splitId "dict.__len__"=some ("dict","__len__") from by decide +kernel]
 dsimp only;refine ay (wpAny_isInstance (b:=true) hT (by rw[isSubtype_type];kernel_rfl) ?_)
 rw[aM (by decide)]
 refine wpAny_ite_true (by decide +kernel) (ay (wpAny_typeOf hT ?_))
 exact aV h
section
variable{P:de}{w:cC}{A:cQ}{E:ai->au->Prop}{s:au}
def Wo{n:Nat}{ob:Obj}{xs:Array DictEntry}(hh:A.handled=none)(J d:ag)(fG:d≠J)(g2:ob.data=.dict xs ep)(hl:xs.size=n):
  Walks P w A J [J,d] [J] n (λi v=>xs[i]?.map (·.key)=some v) (λi h=>h.IsKeyIter J d i n ep/\h.get? d=some ob) where
 sub:=λb hb=>by simp at hb;simp[hb]
 frame:=λ_ _ _ st hk=>⟨st.1.at λo e=>hk J (by simp) o e,hk d (by simp) _ st.2⟩
 item:=λi s Q E hi st hQ=>by
  have lt:i<xs.size:=by lia
  refine OB st.2 g2 hl st.1 lt λh' B' sb=>?_
  exact hQ _ h' s.toks (by rw[vF lt];rfl) ⟨B',(sb.2 d fG).trans st.2⟩ λb o hb e=>sb.extBut b o (λh=>hb (by simp[h])) e
 done:=λs Q E st hQ=>OX hh st.2 g2 hl st.1 (bM _) λh' he'=>hQ h' s.toks λb o hb e=>he' b o (λh=>hb (by simp[h])) e
 self:=λ_ _ _ _ st hQ=>wpAny_pyIter_keyiter st.1 hQ
end
theorem QN:∀{ys:List V} {us:List ai},ys.length=us.length->(∀(j:Nat) (y:V) (u:ai),ys[j]?=some y->us[j]?=some u->RelV y u)->Vals ys us
 |[],[],_,_=>.nil
 |y::ys,u::us,hl,h=>.cons (h 0 y u rfl rfl) (QN (by simpa using hl) λj y' u' e1 e2=>h (j+1) y' u' (by simpa using e1) (by simpa using e2))
 |[],_::_,h,_=>by simp at h
 |_::_,[],h,_=>by simp at h
section
variable{X:Cx}{aa:List (ag×Obj)}{Z:St}{H:Hp}
theorem Ut{d:ag}{es:List (TK×V×V)}{Q:ai->au->Prop}(hh:A.handled=none)(I:Inv X aa Z H s)(hd:H d=some (.dG es ep))
  (hQ:∀s',(∀b u,s.heap.get? b=some u->s'.heap.get? b=some u)->s'={ s with heap:=s'.heap,toks:=s'.toks}->(∃aF c,Vals (es.map (·.2.1)) aF/\s'.heap.get? s.heap.objs.size=some { cls:=.type "list",data:=.seq aF.toArray c})->Q (.ref s.heap.objs.size) s') :
  wpAny (model X.prog X.w) A (call (.type "list") [.ref d]) Q E s:=by
 obtain⟨hz,z,ob,xs,g1,g5,g2,g3,g4⟩:=(show bH X.prog X.w H s.heap d (.dG es ep) from I.bB d _ hd);have hl:xs.size=es.length:=by have:=Paired.length g3;simpa using this.symm
 have ld:d<s.heap.objs.size:=cO g1;refine callType_codes (Q₁:=λobj s₁=>obj=.ref s.heap.objs.size/\s₁={ s with heap:=s.heap.push { cls:=.type "list",data:=.seq #[]}}) F.called_list (F.typeCall_list_1 _) F.entry_list_init (code_list_new _ ⟨rfl,rfl⟩) λobj s₁ q₁=>?_
 obtain⟨rfl,rfl⟩:=q₁;have gS:(s.heap.push { cls:=.type "list",data:=.seq #[]}).get? s.heap.objs.size=some { cls:=.type "list",data:=.seq #[]}:=jR _ rfl;refine⟨⟨_,gS,rfl⟩,F.args_list_init_2 _ _,?_⟩;show wpAny _ _ (do let old <-Builtin.List.listItems (.ref s.heap.objs.size);Builtin.List.listUpdate (.ref s.heap.objs.size) (λ_=>#[]);letGo old.toList.reverse;Builtin.List.listExtendWith (.ref s.heap.objs.size) (.ref d) .none) _ _ _
 refine ay ?_;unfold Builtin.List.listItems;refine ay (wpAny_seqItems gS rfl (aV ?_));show wpAny _ _ (updateSeq s.heap.objs.size (λ_=>#[]) >>= λ_=>letGo (#[]:Array ai).toList.reverse >>= λ_=>Builtin.List.listExtendWith (.ref s.heap.objs.size) (.ref d) .none) _ _ _
 refine ay (wpAny_updateSeq gS rfl ?_);have gT:=sG (Obj.mapSeq (λ_=>(#[]:Array ai))) gS rfl
 refine ay (wpAny_letGo ?_);have nS:∀b u,s.heap.get? b=some u->b≠s.heap.objs.size:=λb u e z=>by rw[z] at e;exact j9 _ (cO e)
 have k1:∀b u,s.heap.get? b=some u->((s.heap.push { cls:=.type "list",data:=.seq #[]}).update s.heap.objs.size (Obj.mapSeq (λ_=>(#[]:Array ai)))).get? b=some u:=
  λb u e=>(qp _ _ (Ne.symm (nS b u e))).trans (c8 _ e)
 have MZ:((s.heap.push { cls:=.type "list",data:=.seq #[]}).update s.heap.objs.size (Obj.mapSeq (λ_=>(#[]:Array ai)))).objs.size=s.heap.objs.size+1:=by simp[Heap.update,Heap.push]
 generalize(s.heap.push { cls:=.type "list",data:=.seq #[]}).update s.heap.objs.size (Obj.mapSeq (λ_=>(#[]:Array ai)))=h1 at *
 have I1:Inv X aa Z H { s with heap:=h1,toks:=s.toks}:=I.kept k1;have hT1:Shared.TypeIs { s with heap:=h1} (.ref d) "dict":=⟨ob,k1 _ _ g1,g5.1⟩;unfold Builtin.List.listExtendWith;refine ay (wpAny_typeOf hT1 ?_);have ne:s.heap.objs.size≠d:=λe=>j9 _ (e ▸ ld)
 have c1:Builtin.List.listSameRef (.ref s.heap.objs.size) (.ref d)=false:=by simp[Builtin.List.listSameRef,ne]
 have c2:(Value.type "dict" == Value.type "list")=false:=by decide
 have c3:(Value.type "dict" == Value.type "tuple")=false:=by decide
 simp only[c1,c2,c3,IG,sH,j'];refine ay (PC I1 hd ?_);have Lv:Shared.TypeIs { s with heap:=h1.push { cls:=.type "dict_keyiterator",data:=.fields #[.ref d,.int 0 0,.int es.length 0,.int ep 0]}} (.ref d) "dict":=⟨ob,c8 _ (k1 _ _ g1),g5.1⟩;refine ay (lH (UZ Lv ?_));refine wpAny_ite_true (by decide +kernel) (ay (wpAny_rule (ay ?_)))
 show wpAny _ _ (updateSeq s.heap.objs.size (·.push .none) >>= λ_=>updateSeq s.heap.objs.size (·.pop)) _ _ _
 have gU:=c8 { cls:=.type "dict_keyiterator",data:=.fields #[.ref d,.int 0 0,.int es.length 0,.int ep 0]} gT;refine ay (wpAny_updateSeq gU rfl ?_);have gV:=sG (Obj.mapSeq (·.push Value.none)) gU rfl
 refine wpAny_updateSeq (hz:=by seq_fits) gV rfl ?_
 have gW:=sG (Obj.mapSeq (·.pop)) gV rfl
 have gJ:(h1.push { cls:=.type "dict_keyiterator",data:=.fields #[.ref d,.int 0 0,.int es.length 0,.int ep 0]}).get? h1.objs.size=some { cls:=.type "dict_keyiterator",data:=.fields #[.ref d,.int 0 0,.int es.length 0,.int ep 0]}:=jR _ rfl;have Mr:∀b o,b≠s.heap.objs.size->(h1.push { cls:=.type "dict_keyiterator",data:=.fields #[.ref d,.int 0 0,.int es.length 0,.int ep 0]}).get? b=some o->
   (((h1.push { cls:=.type "dict_keyiterator",data:=.fields #[.ref d,.int 0 0,.int es.length 0,.int ep 0]}).update s.heap.objs.size (Obj.mapSeq (·.push Value.none))).update s.heap.objs.size (Obj.mapSeq (·.pop))).get? b=some o:=
  λb o hb e=>(qp _ _ (Ne.symm hb)).trans ((qp _ _ (Ne.symm hb)).trans e)
 have hJ:h1.objs.size≠s.heap.objs.size:=by rw[MZ];exact Nat.succ_ne_self _
 have dJ:d≠h1.objs.size:=gR (by rw[MZ];exact A' ld)
 have W:=(Wo (P:=X.prog) (w:=X.w) (A:=A.in1.in1) (n:=es.length) (ep:=ep) hh h1.objs.size d dJ g2 hl).toS;have hSf:s.heap.objs.size∉[h1.objs.size,d]:=λm=>by
  simp at m;rcases m with m|m
  .exact hJ m.symm
  .exact ne m
 refine aV ⟨plainId_quiet F.plain_extend_loop _,codeAny_extend_loopS W hz _ hSf _ es.length 0 _ _ _ rfl (mU _) ⟨⟨_,Mr _ _ hJ gJ,rfl,rfl⟩,Mr _ _ (Ne.symm ne) (c8 _ (k1 _ _ g1))⟩ gW (ItemsOf.nil _) λs' Dg c' hm hS' wj=>?_⟩
 obtain⟨m1,m2,m3,m4,m5⟩:=hm;have wd:s'={ s with heap:=s'.heap,toks:=s'.toks}:=by
  cases s';cases m2;cases m3;cases m4;rfl
 refine⟨rfl,hQ s' (λb u e=>m1 b u (λq=>?_) (Mr b u (nS b u e) (c8 _ (k1 b u e)))) wd ⟨Dg.toList,c',?_,by simpa using hS'⟩⟩
 .rcases y04.mp q with q|q
  .exact nS b u e q
  .rw[lz] at q;have:=cO e;rw[q,MZ] at this;exact b_ this (Nat.not_lt.mpr (xE _))
 .have h2:Dg.size=es.length:=wj.1;refine QN (by simp[h2]) λj y u e1 e2=>?_
  rw[gY] at e1;obtain⟨e,e3,rfl⟩:=dm.mp e1;obtain⟨x,x1,x2⟩:=CY j g3 e3;have h3:=wj.2 j u (by rw[<-y0];exact e2)
  have x1:xs[j]?=some x:=by rw[<-y0];exact x1
  have h3:Option.map (λx=>x.key) xs[j]?=some u:=h3
  rw[x1] at h3;cases h3;exact x2.2.1
def TQ(K:PySem.W.Frag):List V->Hp->VK->Prop:=λxs H Q=>∃d es ep,xs=[.ref d]/\H d=some (.dG es ep)/\∀l,H l=none->Q (.ref l) (upd H l (.lst (es.map (·.2.1))))
def Vn(hc:X.calm=true):bS X (.type "list") (TQ X.K):=by
 intro aa s Z H xs us Q I r h;obtain⟨d,es,ep,rfl,hd,q⟩:=h;obtain⟨u,rfl,ru⟩:=vals1 r;cases ru;refine Ut (I.ok.hd hc) I hd λs' kp wd hh=>?_
 obtain⟨aF,c,rv,g⟩:=hh;have hz:=(show bH X.prog X.w H s.heap d (.dG es ep) from I.bB d _ hd).1;rw[wd];exact⟨.ref s.heap.objs.size,_,I.laid kp (bM _) (show bH X.prog X.w _ s'.heap _ (.lst (es.map (·.2.1))) from⟨by rw[bh];exact hz,aF,c,rv,g⟩),rfl,q _ (I.bB.fresh (bM _))⟩
end
section
variable{X:Cx}{K:PySem.W.Frag}
def qW(r:V->List V->Hp->VK->Prop):List V->Hp->VK->Prop:=λvs H Q=>∃x xs,vs=x::xs/\r x xs H Q
def fA:List D->ak (List Str)
 |[]=>some []
 |.str x::ds=>(fA ds).map λxs=>x::xs
 |_=>none
theorem O7:∀xs:List Str,fA (xs.map .str)=some xs
 |[]=>rfl
 |i::is=>by rw[bQ];show(fA (is.map .str)).map _=_;rw[O7 is];rfl
theorem JT:∀{ds:List D} {xs:List Str},fA ds=some xs->ds=xs.map .str
 |[],xs,e=>by cases e;rfl
 |d::ds,xs,e=>by
  cases d with
  |str i=>
   obtain⟨js,e1,e2⟩:=dm.mp (show(fA ds).map _=some xs from e);rw[<-e2,JT e1];rfl
  |_=>cases e
theorem Jx{F:Kn}:∀{ws:List V} {xs:List Str},ah K F ws (xs.map .str)->ws=xs.map .str
 |[],[],_=>rfl
 |[],_::_,h=>by have:=h.length;simp at this
 |_::_,[],h=>by have:=h.length;simp at this
 |w::ws,i::is,h=>by
  rw[bQ] at h;have h1:=h.inv.1;have h2:=Jx h.inv.2;rw[h2,bQ];cases h1 with
  |flat e _=>cases e;rfl
theorem JE:∀{xs:List Str} {aF:List ai},Vals (xs.map V.str) aF->∃ps:List (Str×Tok),aF=ps.map (λp=>Value.str p.1 p.2)/\ps.map (·.1)=xs
 |[],aF,h=>by
  rw[xG] at h;cases h;exact⟨[],rfl,rfl⟩
 |i::is,aF,h=>by
  rw[bQ] at h;cases h with
  |cons r t=>
   obtain⟨ps,e1,e2⟩:=JE t;obtain⟨tk,rfl⟩:=r;exact⟨(i,tk)::ps,by rw[e1];rfl,by rw[bQ,e2]⟩
end
section
variable{X:Cx}{K:PySem.W.Frag}
def h_:List D->ak (List Bool)
 |[]=>some []
 |.bl b::ds=>(h_ ds).map λbs=>b::bs
 |_=>none
theorem OD:∀{ds:List D} {bs:List Bool},h_ ds=some bs->ds=bs.map .bl
 |[],bs,e=>by cases e;rfl
 |d::ds,bs,e=>by
  cases d with
  |bl i=>
   obtain⟨js,e1,e2⟩:=dm.mp (show(h_ ds).map _=some bs from e);rw[<-e2,OD e1];rfl
  |_=>cases e
theorem OE{F:Kn}:∀{ws:List V} {bs:List Bool},ah K F ws (bs.map .bl)->ws=bs.map .bl
 |[],[],_=>rfl
 |[],_::_,h=>by have:=h.length;simp at this
 |_::_,[],h=>by have:=h.length;simp at this
 |w::ws,i::is,h=>by
  rw[bQ] at h;have h1:=h.inv.1;have h2:=OE h.inv.2;rw[h2,bQ];cases h1 with
  |flat e _=>cases e;rfl
def Wq(K:PySem.W.Frag)(hc:X.calm=true:=by rfl)(hK:X.K=K:=by rfl):bS X (.builtin "all") (λxs H Q=>∃(a:ag) (bs:List Bool),xs=[.ref a]/\cM K H a (bs.map V.bl)/\Q (.bl (bs.all id)) H):=hK ▸ V4 hc
noncomputable def BW(z:Str):ai->Bool
 |.str y _=>y == z
 |_=>false
def RT(K:PySem.W.Frag):V->List V->Hp->VK->Prop:=λx xs H Q=>∃(a:ag) (ys:List Str) (z:Str) (j:Nat),x=.ref a/\xs=[.str z]/\cM K H a (ys.map V.str)/\ys[j]?=some z/\(∀i y,i<j->ys[i]?=some y->y≠z)/\Q (.int (j:Nat)) H
theorem XR(K:PySem.W.Frag)(hK:X.K=K:=by rfl):Bj X "list.index" (RT K):=by
 subst hK;intro aa s Z H x xs v us Q I rx rs h;obtain⟨a,ys,z,j,rfl,rfl,hq,hj,fG,q⟩:=h;cases rx;obtain⟨u,rfl,ru⟩:=vals1 rs;obtain⟨t,rfl⟩:=ru;obtain⟨aF,rv,p,hz⟩:=I.list hq;obtain⟨ps,e1,e2⟩:=JE rv;subst e1;obtain⟨ob,n,eo,vp,hdi,hda⟩:=p;have hlen:ps.length=ys.length:=by rw[<-e2,bh]
 have hjl:j<ys.length:=(eQ.mp hj).1;have hit:∀i (hi:i<ps.length),(ps.map λp=>Value.str p.1 p.2)[i]?=some (Value.str ps[i].1 ps[i].2):=λi hi=>by simp[hi]
 have H_:∀i (hi:i<ps.length),ys[i]?=some ps[i].1:=λi hi=>by rw[<-e2];simp[hi]
 have hsz:(ps.map λp=>Value.str p.1 p.2).toArray.size=ps.length:=by simp
 have LI:ps[j].1=z:=by
  simp_all
 obtain⟨cl,di,da,sl⟩:=ob;cases vp;cases hda;have Ia:ys.length<=16777216:=by rw[bh,sizeLine_eq] at hz;exact hz
 refine call_meets F.slot_list_index ⟨_,eo,rfl⟩ F.entry_list_index (F.args_list_index_2 _ _) (SeqAt.list_indexAt a _ n di sl (.str z t) (BW z) j (by rw[hsz];lia) (by lia) ?_ ?_) ⟨eo,?_,?_⟩
 .simp[BW,LI]
 .intro i hi qQ;rw[hsz] at hi;have:=fG i _ qQ (H_ i hi);simp[BW];exact this
 .intro y hy;simp at hy;obtain⟨b,t',_,rfl⟩:=hy;exact SeqAt.EqAt.str_str b t' z t
 .exact⟨.int (j:Nat),H,I.tok _,⟨_,rfl⟩,q⟩
def findS(ys:List Str)(z:Str):ak Nat:=ys.findIdx? (· == z)
def CQ{ys:List Str}{z:Str}{j:Nat}(e:findS ys z=some j):ys[j]?=some z/\∀i y,i<j->ys[i]?=some y->y≠z:=by
 unfold findS at e;rw[List.findIdx?_eq_some_iff_getElem] at e;obtain⟨h,h1,h2⟩:=e;refine⟨by rw[i8 h];congr 1;exact eq_of_beq h1,λi y hi ey=>?_⟩
 have:=h2 i hi;obtain⟨hl,e3⟩:=eQ.mp ey;rw[e3] at this;intro z';subst z';simp at this
end
section
variable{X:Cx}{K:PySem.W.Frag}
def QO:V->List V->Hp->VK->Prop:=λx xs H Q=>∃(l:ag) (ys:List Str) (z:Str) (j:Nat),x=.ref l/\xs=[.str z]/\H l=some (.lst (ys.map V.str))/\ys[j]?=some z/\(∀i y,i<j->ys[i]?=some y->y≠z)/\Q .aI (upd H l (.lst ((ys.eraseIdx j).map V.str)))
theorem Gs{α β:Type}(f:α->β):∀(xs:List α) (j:Nat),(xs.map f).eraseIdx j=(xs.eraseIdx j).map f
 |[],j=>by simp
 |_::_,0=>rfl
 |x::xs,j+1=>by show f x::(xs.map f).eraseIdx j=f x::(xs.eraseIdx j).map f;rw[Gs f xs j]
theorem N3:∀{ps:List (Str×Tok)},Vals ((ps.map (·.1)).map V.str) (ps.map λp=>Value.str p.1 p.2)
 |[]=>.nil
 |p::ps=>.cons ⟨p.2,rfl⟩ N3
theorem Wr:Bj X "list.remove" QO:=by
 intro aa s Z H x xs v us Q I rx rs h;obtain⟨l,ys,z,j,rfl,rfl,hH,hj,fG,q⟩:=h;cases rx;obtain⟨u,rfl,ru⟩:=vals1 rs;obtain⟨t,rfl⟩:=ru;obtain⟨hz,aF,n,rv,hl,eo⟩:=I.AB hH;obtain⟨ps,e1,e2⟩:=JE rv;subst e1;have hlen:ps.length=ys.length:=by rw[<-e2,bh]
 have hjl:j<ys.length:=(eQ.mp hj).1;have H_:∀i (hi:i<ps.length),ys[i]?=some ps[i].1:=λi hi=>by rw[<-e2];simp[hi]
 have hsz:(ps.map λp=>Value.str p.1 p.2).toArray.size=ps.length:=by simp
 have LI:ps[j].1=z:=by
  have:=H_ j (by lia)
  rw[hj] at this;exact(Option.some.inj this).symm
 refine call_meets F.slot_list_remove ⟨_,eo,rfl⟩ F.entry_list_remove (F.args_list_remove_2 _ _) (MeetsSeq.list_remove l _ n (.str z t) (BW z) ?_ j (by rw[hsz];lia) ?_ ?_ (by rw[hsz,hlen];simpa using hz)) ⟨eo,?_⟩
 .intro y hy;simp at hy;obtain⟨b,t',_,rfl⟩:=hy;show MeetsSeq.EqGives _ _ (b == z);rw[<-SeqAt.str_beq];exact SeqRoads2.EqGives.str b z t' t
 .simp[BW,LI]
 .intro i hi qQ;rw[hsz] at hi;have:=fG i _ qQ (H_ i hi);simp[BW];exact this
 .refine⟨.aI,_,I.AA (its':=(ps.eraseIdx j).map λp=>Value.str p.1 p.2) hH eo ?_ ?_ ?_,rfl,q⟩
  .apply Array.toList_inj.mp;simp[Array.toList_eraseIdxIfInBounds,Gs]
  .rw[<-e2,Gs];exact N3
  .rw[bh];have:=List.length_eraseIdx_le ys j;rw[bh] at hz;lia
end
end L2
namespace L2
open PySem PySem.Spec PySem.W PyProof.Rows
def XS{P:de}{w:cC}{xs:List DictEntry}{kvs:List (Str×ai)}(p:Pairs (strKind P w) xs kvs):∀{es:List (TK×V×V)},(∀x∈xs,∃k,(strKind P w).is k x.key=true/\x.hash=(strKind P w).hash k)->kvs.map (λp=>TK.inr p.1)=es.map (·.1)->Vals (es.map (·.2.2)) (kvs.map (·.2))->iA es->Paired (i_ w) es xs:=by
 induction p with
 |nil=>
  intro es _ e _ _;cases es with
  |nil=>exact .nil
  |cons _ _=>cases e
 |@cons x kv xs kvs h1 h2 _ ih=>
  intro es hk e v t;cases es with
  |nil=>cases e
  |cons a es=>
   rw[bQ,bQ,List.cons.injEq] at e;cases v with
   |cons v1 v2=>
    refine .cons ?_ (ih (λy m=>hk y (.tail _ m)) e.2 v2 λy m=>t y (.tail _ m))
    obtain⟨k,k1,k2⟩:=hk x (.head _);obtain⟨z,t1,t2⟩:=t a (.head _);have i1:Value.isStrOf kv.1 x.key=true:=h1;have i2:Value.isStrOf k x.key=true:=k1;cases hx:x.key with
    |str s tk=>
     rw[hx] at i1 i2;have j1:s=kv.1:=by simpa[Value.isStrOf] using i1
     have j2:s=k:=by simpa[Value.isStrOf] using i2
     have j3:kv.1=z:=by
      have:=e.1.trans t1;cases this;rfl
     refine⟨?_,?_,by rw[h2];exact v1,by rw[t1];rfl⟩
     .rw[k2,t1,<-j2,j1,j3];rfl
     .rw[t2,hx,j1,j3];exact⟨tk,rfl⟩
    |_=>rw[hx] at i1;cases i1
noncomputable def gM(z:Str)(k:TK):Bool:=decide (k≠.inr z)
theorem QP(z:Str):∀{es:List (TK×V×V)} {kvs:List (Str×ai)},kvs.map (λp=>TK.inr p.1)=es.map (·.1)->Vals (es.map (·.2.2)) (kvs.map (·.2))->(without kvs z).map (λp=>TK.inr p.1)=(es.filter λe=>gM z e.1).map (·.1)/\Vals ((es.filter λe=>gM z e.1).map (·.2.2)) ((without kvs z).map (·.2))
 |[],[],_,_=>⟨rfl,.nil⟩
 |[],_::_,e,_=>by cases e
 |_::_,[],e,_=>by cases e
 |a::es,kv::kvs,e,v=>by
  rw[bQ,bQ,List.cons.injEq] at e;cases v with
  |cons v1 v2=>
   obtain⟨i1,i2⟩:=QP z e.2 v2;unfold without at *;by_cases h:kv.1=z
   .have h':gM z a.1=false:=by unfold gM;rw[<-e.1,h];simp
    rw[vC,vC,aM (by simp[h]),aM (by rw[h'];exact pF)]
    exact⟨i1,i2⟩
   .have h':gM z a.1=true:=by unfold gM;rw[<-e.1];simpa using h
    rw[vC,vC,aX (by simpa using h),aX h']
    exact⟨by rw[bQ,bQ,i1,e.1],.cons v1 i2⟩
theorem RU(z:Str){v:V}:∀{es:List (TK×V×V)} {kvs:List (Str×ai)},kvs.map (λp=>TK.inr p.1)=es.map (·.1)->Vals (es.map (·.2.2)) (kvs.map (·.2))->j8 es (.inr z)=some v->∃u,valueAt kvs z=some u/\RelV v u
 |[],[],_,_,h=>by cases h
 |[],_::_,e,_,_=>by cases e
 |_::_,[],e,_,_=>by cases e
 |a::es,kv::kvs,e,vs,h=>by
  rw[bQ,bQ,List.cons.injEq] at e;cases vs with
  |cons v1 v2=>
   unfold j8 at h;unfold valueAt;rw[uT] at h ⊢;by_cases g:kv.1=z
   .have g':a.1=.inr z:=by rw[<-e.1,g]
    rw[sd g'] at h;rw[sd g];cases h;exact⟨_,rfl,v1⟩
   .have g':¬a.1=.inr z:=by rw[<-e.1];intro x;cases x;exact g rfl
    rw[sL g'] at h;rw[sL g];exact RU z e.2 v2 h
def yQ(K:PySem.W.Frag):V->List V->Hp->VK->Prop:=λx vs H Q=>∃d es ep z v,x=.ref d/\vs=[.str z]/\H d=some (.dG es ep)/\iA es/\j8 es (.inr z)=some v/\∀qf,Q v (upd H d (.dG (es.filter λe=>gM z e.1) qf))
def d7v{X:Cx}(K:PySem.W.Frag):Bj X "dict.pop" (yQ K):=by
 intro aa s Z H x xs v us Q I rx rs h;obtain⟨d,es,ep,z,v',rfl,rfl,hd,ht,hv,q⟩:=h;cases rx;obtain⟨u,rfl,ru⟩:=rs.one;obtain⟨tk,rfl⟩:=ru;obtain⟨kvs,D1,D2,D3,D4,lo⟩:=BJ I hd ht;obtain⟨w,hw,nO⟩:=RU z D3 D2 hv;refine call_meetsIn PySem.F.slot_dict_pop (G6 I hd).1 PySem.F.entry_dict_pop (PySem.F.args_dict_pop_2 _ _) (meets_dict_pop_there (strKind X.prog X.w) d (k:=z) (by show Value.isStrOf z (.str z tk)=true;simp[Value.isStrOf]) [] (.inl rfl) (by rfl)) ⟨kvs,w,D1.dictOf,D4,hw,λh' hD hs=>?_⟩
 obtain⟨o,xs,qf,g1,g2,g3,g4,g5,g6⟩:=hD;obtain⟨f1,f2⟩:=QP z D3 D2;obtain⟨hz,_⟩:=(show bH X.prog X.w H s.heap d (.dG es ep) from I.bB d _ hd);refine⟨v',_,Km (ob:=.dG (es.filter λe=>gM z e.1) qf) I (by rw[hd];exact uU) hs ⟨_,g1⟩ ⟨?_,lo,o,xs,g1,g2,g3,XS g5 (λx m=>g4 x (Nu.mp m)) f1 f2 λe m=>ht e (sE.mp m).1,?_⟩,nO,q qf⟩
 .exact i7 (y6 _ _) hz
 .rw[<-f1,show(λp:Str×ai=>TK.inr p.1)=TK.inr∘(·.1) from rfl,<-fJ]
  exact List.Pairwise.map _ (λa b ne z=>ne (by cases z;rfl)) g6
end L2
namespace L2
open PySem PySem.Spec PyProof.Rows
section
variable{X:Cx}{K:PySem.W.Frag}
def yM(K:PySem.W.Frag):V->List V->Hp->VK->Prop:=λx xs H Q=>∃a y o,x=.ref a/\xs=[y]/\g8 K H a y o/\Q (o.getD .aI) H
def d7w(K:PySem.W.Frag)(hu:X.A.units+41<cLine)(hK:X.K=K:=by rfl):Bj X "dict.get" (yM K):=by
 subst hK;intro aa s Z H x xs v us Q I r rs h;obtain⟨a,y,o,rfl,rfl,g,q⟩:=h;obtain⟨u,rfl,ru⟩:=Vals.one rs;cases r;exact e3o (by lia) I g ru λw' s' I' nO=>⟨o.getD .aI,H,I',nO,q⟩
end
end L2
namespace L2
open PySem PySem.Spec PySem.W PyProof.Rows
section
variable{X:Cx}{A:cQ}{E:ai->au->Prop}{aa:List (ag×Obj)}{Z:St}{H:Hp}{s:au}{d:ag}{y v2:V}{u r:ai}
end
section
variable{X:Cx}{K:PySem.W.Frag}
end
end L2
namespace L2
open PySem PySem.Spec PyProof.Rows
def J6{P:de}{w:cC}{H:Hp}(h:bV)(hb:sysModules<h.objs.size):bH P w H (h.push { cls:=.type "dict",data:=.dict #[]}) h.objs.size (.dG [] 0):=
 ⟨mU _,nQ.mpr (Ne.symm (gR hb)),_,#[],jR _ rfl,⟨rfl,rfl,rfl⟩,rfl,.nil,IH⟩
def e4d:TE:=λ_ H Q=>∀p,H p=none->Q (.ref p) (upd H p (.dG [] 0))
end L2
namespace L2
open PySem PySem.Spec PySem.W PyProof.Rows
variable{H:Hp}{ps:List (TK×V×V)}{A:cQ}{l:ag}{ys:List V}{E:ai->au->Prop}{s:au}
def NU:entryFor table "dict.update.loop"=some Builtin.«dict.update.loop»:=entryFor_of_tree (by kernel_rfl)
def FZ:plainId "dict.update.loop"=true:=by decide +kernel
def eO(es:List (TK×V×V))(ps:List (TK×V×V)):List (TK×V×V):=ps.foldl (λes p=>dh es p.1 p.2.1 p.2.2) es
def GD{d:ag}{o:HO}(h:H d=none):aw H (upd H d o):=λb u e=>by
 rw[c_ (λz=>by rw[z,h] at e;cases e)]
 exact e
section
variable{X:Cx}{aa:List (ag×Obj)}{Z:St}{H:Hp}
structure ka (K:PySem.W.Frag) (H:Hp) (ys:List V) (ps:List (TK×V×V)):Prop where
 len:ys.length=ps.length
 item:∀(i:Nat) p,ps[i]?=some p->∃a,ys[i]?=some (.ref a)/\g7 K H a [p.2.1,p.2.2]/\bo K H [p.2.1] [p.1.d]/\p.1.ok 8=true
def Vo(es ps:List (TK×V×V)):(eO es ps).length<=es.length+ps.length:=by
 induction ps generalizing es with
 |nil=>exact bM _
 |cons p ps ih=>
  grind [Gd,eO]
def OF(K:PySem.W.Frag)(h:∀p∈ps,bo K H [p.2.1] [p.1.d]):∀{es:List (TK×V×V)},bo K H (es.map (·.2.1)) (es.map (·.1.d))->bo K H ((eO es ps).map (·.2.1)) ((eO es ps).map (·.1.d)):=by
 induction ps with
 |nil=>exact λr=>r
 |cons p ps ih=>
  intro es r;refine ih (λq m=>h q (.tail _ m)) ?_
  have hp:=h p (.head _);clear ih h
  induction es with
  |nil=>exact hp
  |cons e es ih=>
   obtain⟨r1,r2⟩:=ah.inv r;show bo K H ((if e.1=p.1 then(e.1,e.2.1,p.2.2)::es else e::dh es p.1 p.2.1 p.2.2).map (·.2.1)) ((if e.1=p.1 then(e.1,e.2.1,p.2.2)::es else e::dh es p.1 p.2.1 p.2.2).map (·.1.d))
   split
   .exact .cons r1 r2
   .exact .cons r1 (ih r2)
def Vp{R:Result->au->Prop}{d J:ag}(hd:H d=none)(hl:cM X.K H l ys)(hp:ka X.K H ys ps)(hh:A.handled=none)(hu:A.units+12<cLine)(hn:ps.length<1000)
  (hJ:∀u,jg X aa (upd H d u) J)
  (fin:∀s ep,Inv X aa Z (upd H d (.dG (eO [] ps) ep)) s->R (.ok (.ret .none)) s) :
  ∀(n i:Nat) (ep:Nat) (s:au) (tk:Tok),ps.length - i=n->i<=ps.length->Inv X aa Z (upd H d (.dG (eO [] (ps.take i)) ep)) s->s.heap.IsListIter J l i->codeAny (model X.prog X.w) A (.builtin "dict.update.loop" ⟨[.ref d,.ref J,.int (i:Int) tk,.none],[]⟩) R s:=by
 intro n
 induction n with
 |zero=>
  intro i ep s tk hi hi2 I it;have e:i=ps.length:=by lia
  subst e;refine codeAny_builtin NU ?_;rw[Around.under_plainId FZ _];show wpAny _ A.in1 (pyNext (.ref J) >>= _) _ _ s;have ny:=(GD (o:=.dG (eO [] (ps.take ps.length)) ep) hd).seq hl;obtain⟨aF,rv,p,hz⟩:=I.list ny;obtain⟨f0,f1,f2,f3,f4,f5⟩:=hJ (.dG (eO [] (ps.take ps.length)) ep);have hlen:=rv.length;have Ef:=hp.len;refine ay (wpAny_pyNext_list_end hh it p.isList (by simp;lia) λh' eb=>?_)
  have I1:=I.turned (t':=s.toks) (λb o hb e=>eb b o hb e) f0 f1 f3 f4 f5
  rw[ND] at I1;exact ay (aV (aV (fin _ ep I1)))
 |succ n ih=>
  intro i ep s tk hi hi2 I it;have lt:i<ps.length:=by lia
  obtain⟨a,ya,sq,rk,ok⟩:=hp.item i ps[i] (i8 lt);refine codeAny_builtin NU ?_;rw[Around.under_plainId FZ _];show wpAny _ A.in1 (pyNext (.ref J) >>= _) _ _ s;have sm:=GD (o:=.dG (eO [] (ps.take i)) ep) hd;obtain⟨aF,rv,p,hz⟩:=I.list (sm.seq hl);obtain⟨u,hu1,ru⟩:=rv.get ya;obtain rfl:u=Value.ref a:=ru;obtain⟨f0,f1,f2,f3,f4,f5⟩:=hJ (.dG (eO [] (ps.take i)) ep);refine ay (wpAny_pyNext_list_item it p.isList (x:=.ref a) (by simpa using hu1) λh' B' sb=>?_)
  have I1:Inv X aa Z (upd H d (.dG (eO [] (ps.take i)) ep)) { s with heap:=h'}:=I.turned (t':=s.toks) (λb o hb e=>(sb.2 b hb).trans e) f0 f1 f3 f4 f5
  obtain⟨iY,Ip,tp,_⟩:=I1.tuple (sm.A4 sq);obtain⟨w1,w2,rfl,r1,r2⟩:∃w1 w2,iY=[w1,w2]/\RelV ps[i].2.1 w1/\RelV ps[i].2.2 w2:=by
   cases Ip with
   |cons r1 t=>
    cases t with
    |cons r2 t=>cases t;exact⟨_,_,rfl,r1,r2⟩
  obtain⟨o,ho,hc,n0,wu⟩:∃o,h'.get? a=some o/\o.cls=.type "tuple"/\∃n,o.data=.seq #[w1,w2] n:=by
   obtain⟨o,h1,h2,h3⟩:=tp;exact⟨o,h1,h2,h3⟩
  have hT:({ s with heap:=h'}:au).TypeIs (.ref a) "tuple":=⟨o,ho,hc⟩;refine ay (lH (ay (wpAny_tryCatch ?_)));unfold Builtin.Dict.pairItems;refine ay (wpAny_typeOf hT ?_);rw[aX (by decide)]
  refine ay (m:=seqItems? (.ref a)) (ay (wpAny_load ho ?_));rw[wu];refine aV (aV ?_);show wpAny _ _ (holding [w1,w2] (dictSet d w1 w2)) _ _ _;refine lH ?_;have I2:=I1.pinned (fp:=[J]) (λb hb=>by rw[lz.mp hb];exact hJ _) (λb hb=>by
   rw[lz.mp hb];obtain⟨oj,ej,_,dj⟩:=B';exact⟨oj,ej,λv z=>by rw[dj] at z;cases z⟩)
  have tk1:ps.take (i+1)=ps.take i++[ps[i]]:=(List.take_append_getElem lt).symm;have hpa:dh (eO [] (ps.take i)) ps[i].1 ps[i].2.1 ps[i].2.2=eO [] (ps.take (i+1)):=by rw[tk1];unfold eO;rw[NF];rfl
  have hlen:=Vo [] (ps.take i);rw[yZ,Co] at hlen;refine JR (H':=upd (upd H d (.dG (eO [] (ps.take i)) ep)) d (.dG (eO [] (ps.take (i+1))) (rY (eO [] (ps.take i)) ps[i].1 ep))) (show A.in1.units+8<cLine from ?_) I2 ⟨_,ep,ps[i].1,aJ,?_,(ah.IA rk sm),ok,?_,by rw[hpa]⟩ r1 r2 λs' I3=>?_
  .lia
  .exact ah.IA (H:=H) (OF X.K (λq m=>by
    obtain⟨j,hj⟩:=Bb.mp (List.mem_of_mem_take m);obtain⟨_,_,_,r,_⟩:=hp.item j q hj;exact r) .nil) sm
  .exact fX (by lia:(eO [] (ps.take i)).length<1000000) (by decide)
  .have eu:upd (upd H d (.dG (eO [] (ps.take i)) ep)) d (.dG (eO [] (ps.take (i+1))) (rY (eO [] (ps.take i)) ps[i].1 ep))=upd H d (.dG (eO [] (ps.take (i+1))) (rY (eO [] (ps.take i)) ps[i].1 ep)):=by
    funext b;unfold upd;split <;> rfl
   rw[eu] at I3;obtain⟨oj,ej,cj,dj⟩:=id B';have ej':s'.heap.get? J=some oj:=(I3.pin (J,oj) (pQ _ (pQ _ (CP (by simp) ej)))).1
   refine aV ⟨plainId_quiet FZ _,?_⟩;exact ih (i+1) _ s' _ (by lia) lt I3.eK ⟨oj,ej',cj,dj⟩
theorem Ws{aF:Array ai}{Q:ak ai->au->Prop}(pl:PlainL s.heap l aF)(hA:A.handled=none)
  (h:∀h' tk,(∀b u,s.heap.get? b=some u->h'.get? b=some u)->Q none { s with heap:=h',toks:=tk}):wpAny (model X.prog X.w) A (getAttr? (.ref l) "keys") Q E s:=by
 obtain⟨o,n,hx,hc,hd,wu⟩:=pl;obtain⟨c,aB,dat,sl⟩:=o;simp only at hc wu hd;subst hc wu hd;obtain⟨hp,g,d,tk,os⟩:=s;have hT:∀T5,(⟨hp,g,d,T5,os⟩:au).TypeIs (.ref l) "list":=λ_=>⟨_,hx,rfl⟩
 have f1:=sub_AttributeError;have f3:=F.slot_list_getattribute.lookup;have f4:=F.slot_list_getattribute.bind (.ref l);have f5:=am_list_getattr_none;unfold getAttr? getAttrBy? getAttrBy
 repeat (any_goals (first|assumption|exact hT _|((with_reducible show wpAny _ _ (call (Value.builtin "list.__getattribute__") _ _) _ _ _);refine call_meets F.slot_list_getattribute (hT _) am_entry_list_getattribute (F.args_list_getattribute_2 _ _) (meets_getattribute_miss_list l aF n sl "keys" _ (by rw[typeLookup_type,builtinLookup_eq_fast];kernel_rfl) (by decide) (by size_fits)) ⟨hx,hA,λh' T5 e vt=>?_⟩)|wp_step))
 obtain⟨t',u',he⟩:=vt.there;show wpAny _ _ (getattributeRaised _ _ _ _ _ _ _) _ _ _;unfold getattributeRaised
 repeat (any_goals (first|assumption|wp_step))
 exact h _ _ vt.keeps
theorem Uo{Q:ai->au->Prop}(I:Inv X aa Z H s)(hl:cM X.K H l ys)(hp:ka X.K H ys ps)(hh:A.handled=none)(hu:A.units+20<cLine)(hn:ps.length<1000)
  (q:∀s' ep,Inv X aa Z (upd H s.heap.objs.size (.dG (eO [] ps) ep)) s'->Q (.ref s.heap.objs.size) s'):wpAny (model X.prog X.w) A (call (.type "dict") [.ref l]) Q E s:=by
 refine callType_codes (Q₁:=λobj s₁=>obj=.ref s.heap.objs.size/\s₁={ s with heap:=s.heap.push { cls:=.type "dict",data:=.dict #[]}}) F.kt_called_dict (F.kt_typeCall_dict_1 _) F.entry_dict_init (kt_code_dict_new _ ⟨rfl,rfl⟩) ?_
 rintro obj s₁ ⟨rfl,rfl⟩;have hd:H s.heap.objs.size=none:=I.bB.fresh (bM _);have I1:=I.laid (a:=s.heap.objs.size) (o:=.dG [] 0) (h':=s.heap.push { cls:=.type "dict",data:=.dict #[]}) (t':=s.toks) (λ_ _ q=>c8 _ q) (bM _) (J6 s.heap I.big)
 generalize s.heap.objs.size=d at *;generalize s.heap.push { cls:=.type "dict",data:=.dict #[]}=LU at *;have hT:=(G6 I1 aJ).1;obtain⟨aF,rv,pl,hz⟩:=I1.list ((GD hd).seq hl);have hTl:({ s with heap:=LU,toks:=s.toks}:au).TypeIs (.ref l) "list":=by
  obtain⟨o,n,h1,h2,_⟩:=pl;exact⟨o,h1,h2⟩
 refine⟨hT,F.args_dict_init_2 _ _,?_⟩;unfold Builtin.«dict.__init__»;refine ay ?_;unfold Builtin.Dict.selfAndRest;refine ay (wpAny_notOrdered_dict hT ?_);show wpAny _ _ (pure (d,[Value.ref l])) _ _ _;refine aV ?_;show wpAny _ _ (Builtin.Dict.updateFrom "dict.__init__" d (.ref l) [] .none) _ _ _;unfold Builtin.Dict.updateFrom;refine ay (wpAny_typeOf hTl ?_);rw[aX (by decide)]
 refine ay (Ws (X:=X) pl (show A.in1.in1.handled=none from hh) λh' tk kp=>?_)
 have I2:Inv X aa Z (upd H d (.dG [] 0)) { s with heap:=h',toks:=tk}:=I1.kept (t':=tk) kp;obtain⟨iY,Ip,MB,_⟩:=I2.list ((GD hd).seq hl);show wpAny _ _ (rule _ >>= _) _ _ _;refine ay (wpAny_rule ?_);refine ay (wpAny_pyIter_list MB.isList ?_);have I3:=I2.kept (h':=h'.push { cls:=.type "list_iterator",data:=.fields #[.ref l,.int 0 0]}) (t':=tk) (λ_ _ e=>c8 _ e)
 have Sx:d<h'.objs.size:=by
  obtain⟨_,_,o,xs,g1,_⟩:=(show bH X.prog X.w _ h' d (.dG [] 0) from I2.bB d _ aJ);exact cO g1
 refine aV ⟨plainId_quiet FZ _,?_⟩;refine Vp (A:=A.in1) (J:=h'.objs.size) hd hl hp hh (show A.units+1+12<cLine by lia) hn (λu=>I2.lR (bM _) ?_) (λs' ep I4=>⟨rfl,q s' ep I4⟩) ps.length 0 0 _ _ rfl (mU _) I3 ⟨_,jR _ rfl,rfl,rfl⟩
 rw[c_ (yY Sx)];have:=I2.bB.fresh (bM _)
 rwa[c_ (yY Sx)] at this
def RV(K:PySem.W.Frag):List V->Hp->VK->Prop:=λvs H Q=>∃a ys ps,vs=[.ref a]/\cM K H a ys/\ka K H ys ps/\ps.length<1000/\∀p ep,H p=none->Q (.ref p) (upd H p (.dG (eO [] ps) ep))
def Vq(K:PySem.W.Frag)(hu:X.A.units+41<cLine)(hc:X.calm=true:=by rfl)(hK:X.K=K:=by rfl):bS X (.type "dict") (RV K):=by
 subst hK;intro aa s Z H xs us Q I r h;obtain⟨a,ys,ps,rfl,hl,hp,hn,q⟩:=h;obtain⟨u,rfl,ru⟩:=vals1 r;cases ru;exact Uo I hl hp (I.ok.hd hc) (by lia) hn λs' ep I'=>⟨.ref s.heap.objs.size,_,I',rfl,q _ ep (I.bB.fresh (bM _))⟩
end
def v8:bootBuiltins "dict"=some (.type "dict"):=by decide +kernel
end L2
namespace L2
open PySem PySem.Spec PySem.W PySem.Calls PyProof.Rows
section
variable{prog:de}{w:cC}{A:cQ}{E:ai->au->Prop}{s:au}
def RW{vs:List ai}(h:vs.length<2):(arrOf (SortSt.mk' general' (vs.toArray.zip vs.toArray) #[] 7 none)).map (·.2)=vs.toArray:=by
 grind
def Vr{a:ag}{vs:List ai}{n:Nat}{P:Fin->au->Prop}(ho:s.heap.get? a=some (seqObj "list" vs.toArray n))(h1:vs.length<2)
  (h:P (.done (.ret .none)) { s with heap:=sortedHeap s.heap a vs vs.toArray}):wpAny (model prog w) A (Builtin.«list.sort» ⟨[.ref a],[]⟩) P E s:=by
 rw[list_sort_plain];have ha:a<s.heap.objs.size:=cO ho;have hz:vs.length<=sizeLine:=by rw[sizeLine_eq];lia
 refine ay (listItems_at ho rfl ?_);refine ay (listUpdate_at ho rfl ?_ (by rw[dA];exact hz) (mU _))
 obtain⟨e1,Aq⟩:∃e1,(s.heap.update a (Obj.mapSeq λ_=>#[])).get? a=some (seqObj "list" #[] e1):=⟨_,get?_update_seq ho (λ_=>#[])⟩
 refine ay (seqEpoch_at Aq rfl ?_);refine ay (wpAny_newTuple ?_ (by show vs.length<=_;exact hz))
 refine ay (wpAny_newList ?_ (mU _));refine lH ?_;have Ar:(((s.heap.update a (Obj.mapSeq λ_=>#[])).push (seqObj "tuple" vs.toArray 0)).push (seqObj "list" #[] 0)).get? a=some (seqObj "list" #[] e1):=by
  rw[FE _ _ _ (by rw[size_push',NG];exact gR (A' ha)),FE _ _ _ (by rw[NG];exact gR ha)]
  exact Aq
 show wpAny (model prog w) A _ P E { s with heap:=((s.heap.update a (Obj.mapSeq λ_=>#[])).push (seqObj "tuple" vs.toArray 0)).push (seqObj "list" #[] 0)}
 dsimp only;have h2:vs.toArray.size<2:=by simpa using h1
 rw[aX h2,aX h2];refine ay (aV ?_);rw[StateT.run_pure];refine ay (aV ?_);dsimp only;refine ay (seqEpoch_at Ar rfl ?_);refine ay (listUpdate_at Ar rfl ?_ (mU _) (by rw[RW h1,dA];first|exact hz|exact Nat.le_succ_of_le hz))
 simp only[bne_self_eq_false,sH,j'];rw[RW h1];exact aV h
def XT{vs:List ai}{h0:bV}{Q:ai->au->Prop}(h1:vs.length<2)(h:∀h' c,(∀b o,h0.get? b=some o->h'.get? b=some o)->h'.get? h0.objs.size=some (seqObj "list" vs.toArray c)->Q (.ref h0.objs.size) { s with heap:=h'}):
  wpAny (model prog w) A (call (.builtin "list.sort") [.ref h0.objs.size]) (λ_ s'=>Q (.ref h0.objs.size) s') E { s with heap:=h0.push (seqObj "list" vs.toArray 0)}:=by
 have ho:(h0.push (seqObj "list" vs.toArray 0)).get? h0.objs.size=some (seqObj "list" vs.toArray 0):=jR _ rfl;refine wpAny_call_entry slot_list_sort ⟨_,ho,rfl⟩ entry_list_sort ?_ (args_list_sort _);refine Vr (s:={ s with heap:=h0.push (seqObj "list" vs.toArray 0)}) ho h1 ⟨_,rfl,?_⟩;have lt:h0.objs.size<(h0.push (seqObj "list" vs.toArray 0)).objs.size:=cO ho;obtain⟨e1,Aq⟩:∃e1,((h0.push (seqObj "list" vs.toArray 0)).update h0.objs.size (Obj.mapSeq λ_=>#[])).get? h0.objs.size=some (seqObj "list" #[] e1):=⟨_,get?_update_seq ho (λ_=>#[])⟩
 have Ar:((((h0.push (seqObj "list" vs.toArray 0)).update h0.objs.size (Obj.mapSeq λ_=>#[])).push (seqObj "tuple" vs.toArray 0)).push (seqObj "list" #[] 0)).get? h0.objs.size=some (seqObj "list" #[] e1):=c8 _ (c8 _ Aq)
 have ho7:=get?_update_seq Ar (λ_=>vs.toArray)
 refine h _ _ (λb o e=>?_) ho7
 have nb:b≠h0.objs.size:=gR (cO e);unfold sortedHeap;rw[II _ _ _ _ nb];refine c8 _ (c8 _ ?_);rw[II _ _ _ _ nb];exact c8 _ e
def Wt{P:List ai->Prop}{r:ag}{Q:ai->au->Prop}(h1:∀vs,P vs->vs.length<2)(hc:∀R:List ai->au->Prop,(∀vs (h':bV) (tk:Nat),P vs->(∀b o,s.heap.get? b=some o->h'.get? b=some o)->R vs { s with heap:=h',toks:=tk})->wpAny (model prog w) A.in1 (collect (.ref r)) R E s)
  (h:∀vs (h0:bV) (tk:Nat),P vs->(∀b o,s.heap.get? b=some o->h0.get? b=some o)->∀(h':bV) (c:Nat),(∀b o,h0.get? b=some o->h'.get? b=some o)->h'.get? h0.objs.size=some (seqObj "list" vs.toArray c)->Q (.ref h0.objs.size) { s with heap:=h',toks:=tk}):wpAny (model prog w) A (call (.builtin "sorted") [.ref r]) Q E s:=by
 refine Calls.call_function_entry kind_sorted plain_sorted entry_sorted (args_sorted1 _) ?_;unfold Builtin.«sorted»;refine ay (m:=checkCount "sorted" 1 1 _) (aV ?_);refine ay (hc _ λvs h' tk hP kp=>?_)
 have hl:=h1 vs hP;refine ay (wpAny_newList ?_ (by rw[sizeLine_eq];lia))
 refine ay (lH (wpAny_mono (XT (s:={ s with heap:=h',toks:=tk}) (h0:=h') (vs:=vs) (Q:=λv s'=>Q v s') hl λh2 c Md hg=>h vs h' tk hP kp h2 c Md hg) (λ_ s' x=>?_) λ_ _ e=>e))
 exact aV ⟨_,rfl,x⟩
end
section
variable{X:Cx}{K:Frag}
def rL:bootBuiltins "sorted"=some (.builtin "sorted"):=by decide +kernel
theorem PH:∀{ys:List V} {us:List ai},ys.length=us.length->(∀(j:Nat) (y:V) (u:ai),ys[j]?=some y->us[j]?=some u->RelV y u)->Vals ys us
 |[],[],_,_=>.nil
 |[],_::_,h,_=>by simp at h
 |_::_,[],h,_=>by simp at h
 |y::ys,u::us,h,r=>.cons (r 0 y u rfl rfl) (PH (by simpa using h) λj y' u' e1 e2=>r (j+1) y' u' (by simpa using e1) (by simpa using e2))
def RX(K:Frag):List V->Hp->VK->Prop:=λxs H Q=>∃a ys,xs=[.ref a]/\(cM K H a ys\/∃es ep,H a=some (.dG es ep)/\iA es/\ys=es.map (·.2.1))/\ys.length<2/\∀l,H l=none->Q (.ref l) (upd H l (.lst ys))
def UK(hc:X.calm=true):bS X (.builtin "sorted") (RX X.K):=by
 intro aa s Z H xs us Q I r h;obtain⟨a,ys,rfl,hq,hl,q⟩:=h;obtain⟨u,rfl,ru⟩:=Vals.one r;cases ru;refine Wt (P:=Vals ys) (λvs rv=>by have:=rv.length;lia) ?_ λvs h0 tk rv kp h' c Md hg=>?_
 .intro R hR;rcases hq with hq|⟨es,ep,hd,ht,rfl⟩
  .obtain⟨aF,rv,pl,hz⟩:=I.list hq;refine collect_list pl.isList (hR aF _ s.toks rv λb o e=>?_) (by have:=rv.length;rw[sizeLine_eq];lia)
   have nb:b≠s.heap.objs.size:=gR (cO e);rw[II _ _ _ _ nb];exact c8 _ e
  .obtain⟨kvs,D1,D2,D3,D4,lo⟩:=BJ I hd ht;have l1:kvs.length=es.length:=by have:=congrArg List.length D3;simpa using this
   refine kdu_collect (kdl_dict (knd:=strKind X.prog X.w) (kvs:=kvs) (ep:=ep) lo) (I.ok.hd hc) D1 D4 λh' tk a_ kp hi=>hR _ h' tk ?_ kp
   refine PH (by have:=hi.1;rw[bh,<-l1,<-this];simp) λj y u e1 e2=>?_
   rw[gY] at e1;obtain⟨e,e3,rfl⟩:=dm.mp e1;obtain⟨z,z1,z2⟩:=ht e (uS e3);obtain⟨k,v,k1,k2⟩:=hi.2 j u (by rw[<-y0];exact e2)
   have k3:(kvs.map (λp=>TK.inr p.1))[j]?=(es.map (·.1))[j]?:=by rw[D3]
   rw[gY,gY,k1,e3] at k3;have k4:TK.inr k=e.1:=Option.some.inj k3;rw[z1] at k4;cases k4;rw[z2];exact Value.isStrOf_shape k2
 .have e:=rv.length;have I0:Inv X aa Z H { s with heap:=h0,toks:=tk}:=I.kept kp;have I1:=I0.laid (h':=h') (t':=tk) (o:=.lst ys) Md (bM _) (show bH X.prog X.w _ h' _ (.lst ys) from⟨by rw[sizeLine_eq];lia,vs,c,rv,hg⟩)
  exact⟨.ref h0.objs.size,_,I1,rfl,q _ (I0.bB.fresh (bM _))⟩
end
end L2
namespace L2
open PySem PySem.Spec PySem.W PyProof.Rows
variable{p:Array Nat}{i m k l:Nat}
def pw(lt:Nat->Nat->Bool)(n:Nat){α:Type}:KasT α->(α->Prop)->Prop
 |.ret a,P=>P a
 |.ask i j k,P=>i<n/\j<n/\i≠j/\pw lt n (k (lt i j)) P
section
variable{lt:Nat->Nat->Bool}{n:Nat}
theorem G8{α:Type}{P Q:α->Prop}(h:∀a,P a->Q a):∀{t:KasT α},pw lt n t P->pw lt n t Q
 |.ret a,p=>h a p
 |.ask i j k,p=>⟨p.1,p.2.1,p.2.2.1,G8 h p.2.2.2⟩
theorem BL{α β:Type}{P:α->Prop}{Q:β->Prop}{f:α->KasT β}(h:∀a,P a->pw lt n (f a) Q):∀{t:KasT α},pw lt n t P->pw lt n (t.bind f) Q
 |.ret a,p=>h a p
 |.ask i j k,p=>⟨p.1,p.2.1,p.2.2.1,BL h p.2.2.2⟩
structure Ord (lt:Nat->Nat->Bool) (n:Nat):Prop where
 uR:∀i j,i<n->j<n->i≠j->lt i j=false->lt j i=true
 asy:∀i j,i<n->j<n->lt i j=true->lt j i=false
 tr:∀i j k,i<n->j<n->k<n->lt i j=true->lt j k=true->lt i k=true
structure sf (n:Nat) (p:Array Nat):Prop where
 pm:p.Perm (List.toArray (List.range n))
def sf.size{p:Array Nat}(h:sf n p):p.size=n:=by have:=h.pm.size_eq;simpa using this
def sf.below(h:sf n p)(hi:i<n):p.getD i 0<n:=by
 have hs:=h.size;have e:p.getD i 0=p[i]'(by lia):=by simp[Array.getD,hs,hi]
 rw[e];have:p[i]'(by lia)∈p:=Array.getElem_mem _
 have:=h.pm.mem_iff.mp this
 simp_all
def sf.inj(h:sf n p){j:Nat}(hi:i<n)(hj:j<n)(e:p.getD i 0=p.getD j 0):i=j:=by
 have hs:=h.size;have nd:p.toList.Nodup:=(Array.perm_iff_toList_perm.mp h.pm).nodup_iff.mpr (by simpa using NA)
 have ei:p.getD i 0=p.toList[i]'(by simp;lia):=by simp[Array.getD,hs,hi]
 have ej:p.getD j 0=p.toList[j]'(by simp;lia):=by simp[Array.getD,hs,hj]
 rw[ei,ej] at e;exact(FG nd).mp e
def sg(lt:Nat->Nat->Bool)(p:Array Nat)(k:Nat):Prop:=∀i j,i<j->j<k->lt (p.getD i 0) (p.getD j 0)=true
def Bh(lt:Nat->Nat->Bool)(p:Array Nat)(k:Nat):Prop:=∀i j,i<j->j<k->lt (p.getD j 0) (p.getD i 0)=true
variable(O:Ord lt n){p:Array Nat}(hp:sf n p)
include O hp
theorem XU(h1:1<=m)(hm:m<n)(h:sg lt p m)(e:lt (p.getD (m - 1) 0) (p.getD m 0)=true):sg lt p (m+1):=by
 intro i j qQ hj;by_cases z:j=m
 .subst z;by_cases z2:i=j - 1
  .rw[z2];exact e
  .exact O.tr _ _ _ (hp.below (by lia)) (hp.below (by lia)) (hp.below hm) (h i (j - 1) (by lia) (by lia)) e
 .exact h i j qQ (by lia)
theorem XX(h1:1<=m)(hm:m<n)(h:Bh lt p m)(e:lt (p.getD m 0) (p.getD (m - 1) 0)=true):Bh lt p (m+1):=by
 intro i j qQ hj;by_cases z:j=m
 .subst z;by_cases z2:i=j - 1
  .rw[z2];exact e
  .exact O.tr _ _ _ (hp.below hm) (hp.below (by lia)) (hp.below (by lia)) e (h i (j - 1) (by lia) (by lia))
 .exact h i j qQ (by lia)
theorem KD:∀(f m:Nat),1<=m->m+f<=n->sg lt p m->pw lt n (kas_asc p f m) λr=>m<=r/\r<=m+f/\sg lt p r/\(r<m+f->lt (p.getD r 0) (p.getD (r - 1) 0)=true)
 |0,m,_,_,h=>⟨bM _,bM _,h,λz=>b_ z (j9 _)⟩
 |f+1,m,h1,hm,h=>by
  refine⟨hp.below (by lia),hp.below (by lia),λz=>by have:=hp.inj (by lia) (by lia) z;lia,?_⟩
  cases e:lt (p.getD m 0) (p.getD (m - 1) 0) with
  |true=>exact⟨bM _,by lia,h,λ_=>e⟩
  |false=>
   have:=O.uR _ _ (hp.below (by lia)) (hp.below (by lia)) (λz=>by have:=hp.inj (by lia) (by lia) z;lia) e
   exact G8 (λr hr=>⟨by lia,by lia,hr.2.2.1,λz=>hr.2.2.2 (by lia)⟩) (KD f (m+1) (by lia) (by lia) (XU O hp h1 (by lia) h this))
theorem QQ:∀(f m:Nat),1<=m->m+f<=n->Bh lt p m->pw lt n (kas_desc f p m 0) λr=>r.1=p/\r.2.2=0/\m<=r.2.1/\r.2.1<=m+f/\Bh lt p r.2.1
 |0,m,_,_,h=>⟨rfl,rfl,bM _,bM _,h⟩
 |f+1,m,h1,hm,h=>by
  refine⟨hp.below (by lia),hp.below (by lia),λz=>by have:=hp.inj (by lia) (by lia) z;lia,?_⟩
  cases e:lt (p.getD m 0) (p.getD (m - 1) 0) with
  |true=>exact G8 (λr hr=>⟨hr.1,hr.2.1,by lia,by lia,hr.2.2.2.2⟩) (QQ f (m+1) (by lia) (by lia) (XX O hp h1 (by lia) h e))
  |false=>
   have:=O.uR _ _ (hp.below (by lia)) (hp.below (by lia)) (λz=>by have:=hp.inj (by lia) (by lia) z;lia) e
   refine⟨hp.below (by lia),hp.below (by lia),λz=>by have:=hp.inj (by lia) (by lia) z;lia,?_⟩
   rw[this];exact⟨rfl,rfl,bM _,IE _ _,h⟩
omit O in
theorem RY(hm:m<=n)(i:Nat):(kas_rev p 0 m).getD i 0=if i<m then p.getD (m - 1 - i) 0 else p.getD i 0:=by
 have hs:=hp.size;have:=getElem?_mirror_all (xs:=p) (i:=0) (j:=m) (by lia) i
 have g:∀(q:Array Nat) (j:Nat),q.getD j 0=(q[j]?).getD 0:=λq j=>by
  simp_all
 unfold kas_rev;rw[g,this];simp only[mU,true_and,Nat.zero_add];split
 .rw[g]
 .rw[g]
omit O in
theorem QR(m:Nat):sf n (kas_rev p 0 m):=⟨(mirror_perm _ _ _ _).trans hp.pm⟩
theorem d7x(hm:m<=n)(h:Bh lt p m):sg lt (kas_rev p 0 m) m:=by
 intro i j qQ hj;rw[RY hp hm,RY hp hm,aX (by lia),aX hj]
 exact h _ _ (by lia) (by lia)
theorem J7{k:Nat}(hk:k<n)(hs:sg lt p k):∀(f l r:Nat),l<=r->r<=k->r - l<=f->(∀i,i<l->lt (p.getD i 0) (p.getD k 0)=true)->(∀i,r<=i->i<k->lt (p.getD k 0) (p.getD i 0)=true)->
  pw lt n (kas_place p k f l r) λx=>x<=k/\(∀i,i<x->lt (p.getD i 0) (p.getD k 0)=true)/\∀i,x<=i->i<k->lt (p.getD k 0) (p.getD i 0)=true
 |0,l,r,h1,h2,h3,a,b=>⟨by lia,a,λi hi hk=>b i (by lia) hk⟩
 |f+1,l,r,h1,h2,h3,a,b=>by
  unfold kas_place;split
  .exact⟨by lia,a,λi hi hk=>b i (by lia) hk⟩
  .refine⟨hp.below hk,hp.below (by lia),λz=>by have:=hp.inj hk (by lia) z;lia,?_⟩
   have hm:(l+r) / 2<k:=by lia
   cases e:lt (p.getD k 0) (p.getD ((l+r) / 2) 0) with
   |true=>
    refine J7 hk hs f l _ (by lia) (by lia) (by lia) a λi hi hik=>?_
    by_cases z:i=(l+r) / 2
    .rw[z];exact e
    .exact O.tr _ _ _ (hp.below hk) (hp.below (by lia)) (hp.below (by lia)) e (hs _ _ (by lia) hik)
   |false=>
    have e2:=O.uR _ _ (hp.below hk) (hp.below (by lia)) (λz=>by have:=hp.inj hk (by lia) z;lia) e
    refine J7 hk hs f _ r (by lia) (by lia) (by lia) (λi hi=>?_) b
    by_cases z:i=(l+r) / 2
    .rw[z];exact e2
    .exact O.tr _ _ _ (hp.below (by lia)) (hp.below (by lia)) (hp.below hk) (hs _ _ (by lia) (by lia)) e2
omit O in
theorem RZ(hk:k<n)(hl:l<=k)(i:Nat):(bubble p k (k - l)).getD i 0=if i=l then p.getD k 0 else if l<i/\i<=k then p.getD (i - 1) 0 else p.getD i 0:=by
 have hs:=hp.size;have:=getElem?_bubble (xs:=p) (src:=k) (by lia) (k - l) (by lia) i
 have g:∀(q:Array Nat) (j:Nat),q.getD j 0=(q[j]?).getD 0:=λq j=>by
  simp_all
 rw[g,this,show k - (k - l)=l by lia]
 split
 .rw[g]
 .split
  .rw[g]
  .rw[g]
theorem d7y(hk:k<n)(hl:l<=k)(hs:sg lt p k)(a:∀i,i<l->lt (p.getD i 0) (p.getD k 0)=true)(b:∀i,l<=i->i<k->lt (p.getD k 0) (p.getD i 0)=true):sg lt (bubble p k (k - l)) (k+1):=by
 intro i j qQ hj;rw[RZ hp hk hl,RZ hp hk hl];by_cases j1:j=l
 .rw[aX j1,aM (show ¬i=l by lia),aM (show ¬(l<i/\i<=k) by lia)]
  exact a i (by lia)
 .rw[aM j1];by_cases i1:i=l
  .grind
  .rw[aM i1];by_cases j2:l<j
   .rw[aX (show l<j/\j<=k by lia)]
    by_cases i2:l<i
    .rw[aX (show l<i/\i<=k by lia)];exact hs _ _ (by lia) (by lia)
    .rw[aM (show ¬(l<i/\i<=k) by lia)]
     by_cases z:i=j - 1
     .lia
     .exact hs _ _ (by lia) (by lia)
   .rw[aM (show ¬(l<j/\j<=k) by lia),aM (show ¬(l<i/\i<=k) by lia)]
    exact hs _ _ qQ (by lia)
omit hp in
theorem R0:∀(f:Nat) (p:Array Nat) (k:Nat),sf n p->k+f=n->sg lt p k->pw lt n (kas_bin f p k) λq=>sf n q/\sg lt q n
 |0,p,k,hp,e,h=>by subst e;exact⟨hp,h⟩
 |f+1,p,k,hp,e,h=>by
  refine BL (λl hl=>?_) (J7 O hp (by lia) h k 0 k (mU _) (bM _) (by lia) (λi hi=>by lia) λi hi hk=>by lia)
  exact R0 f _ (k+1) ⟨(bubble_perm _ _ _).trans hp.pm⟩ (by lia) (d7y O hp (by lia) hl.1 h hl.2.1 hl.2.2)
theorem XY(h1:1<=n):pw lt n (kas_count n p) λr=>1<=r.1/\r.1<=n/\sf n r.2/\sg lt r.2 r.1:=by
 refine BL (λm hm=>?_) (KD O hp (n - 1) 1 (bM _) (by lia) λi j qQ hj=>by lia)
 obtain⟨m1,m2,m3,m4⟩:=hm;by_cases e:m=n
 .rw[aX (by simpa using e)]
  exact⟨m1,by show m<=n;lia,hp,m3⟩
 .rw[aM (by simpa using e)]
  by_cases g:m > 1
  .rw[aX g];refine⟨hp.below (by lia),hp.below (by lia),λz=>by have:=hp.inj (by lia) (by lia) z;lia,?_⟩
   rw[m3 0 (m - 1) (by lia) (by lia)]
   exact⟨m1,by show m<=n;lia,hp,m3⟩
  .rw[aM g];have em:m=1:=by lia
   subst em;have d2:Bh lt p 2:=λi j qQ hj=>by
    have:i=0/\j=1:=by lia
    rw[this.1,this.2];exact m4 (by lia)
   refine BL (λr hr=>?_) (QQ O hp (n - (1+1)) (1+1) (by lia) (by lia) d2)
   obtain⟨r1,r2,r3,r4,r5⟩:=hr;rw[aM (by rw[r2];exact j9 0),r1]
   refine BL (λx hx=>?_) (KD O (QR hp r.2.1) (n - r.2.1) r.2.1 (by lia) (by lia) (d7x O hp (by lia) r5))
   exact⟨by show 1<=x;lia,by show x<=n;lia,QR hp _,hx.2.2.1⟩
omit hp in
theorem QS(h1:1<=n):pw lt n (kas_sort n) λq=>sf n q/\sg lt q n:=by
 refine BL (λr hr=>?_) (XY O ⟨Array.Perm.refl _⟩ h1)
 obtain⟨r1,r2,r3,r4⟩:=hr;have e:max r.1 1=r.1:=by lia
 rw[e];split
 .exact R0 O (n - r.1) r.2 r.1 r3 (by lia) r4
 .have:r.1=n:=by lia
  rw[this] at r4;exact⟨r3,r4⟩
end
variable{ks:List (Int×Int)}
def Ck(lt:Nat->Nat->Bool){α:Type}:KasT α->α
 |.ret a=>a
 |.ask i j k=>Ck lt (k (lt i j))
theorem Hq{lt:Nat->Nat->Bool}{n:Nat}{α:Type}{P:α->Prop}:∀{t:KasT α},pw lt n t P->P (Ck lt t)/\pw lt n t λa=>a=Ck lt t
 |.ret _,p=>⟨p,rfl⟩
 |.ask _ _ _,p=>⟨(Hq p.2.2.2).1,p.1,p.2.1,p.2.2.1,(Hq p.2.2.2).2⟩
theorem R1{lt:Nat->Nat->Bool}{n:Nat}{α:Type}{cmp:Nat->Nat->(Bool->au->Prop)->au->Prop}{Q:α->au->Prop}{s:au}(hc:∀i j C,i<n->j<n->i≠j->C (lt i j) s->cmp i j C s):∀{t:KasT α},pw lt n t (λa=>Q a s)->t.kasWp cmp Q s
 |.ret _,p=>p
 |.ask i j k,p=>hc i j _ p.1 p.2.1 p.2.2.1 (R1 hc p.2.2.2)
def Mj(x y:Int×Int):Bool:=decide (x.1<y.1\/(x.1=y.1/\x.2<y.2))
def ltAt(ks:List (Int×Int))(i j:Nat):Bool:=Mj (ks.getD i (0,0)) (ks.getD j (0,0))
def R3(nd:ks.Nodup):Ord (ltAt ks) ks.length:=by
 refine⟨λi j hi hj hn h=>?_,λi j _ _ h=>?_,λi j k _ _ _ h1 h2=>?_⟩
 all_goals grind [List.getElem_inj,ltAt,Mj]
def dc(ks:List (Int×Int)):List Nat:=(Ck (ltAt ks) (kas_sort ks.length)).toList
def eM(h:bV)(vs:List ai)(ks:List (Int×Int)):Prop:=vs.length=ks.length/\∀i,i<ks.length->∃x o a b t t' z m,vs.getD i Value.none=.ref x/\h.get? x=some o/\o.cls=.type "tuple"/\o.data=.seq #[.int a t,.int b t',z] m/\ks.getD i (0,0)=(a,b)
def eM.keep{h h':bV}{vs:List ai}(T:eM h vs ks)(k:∀b o,h.get? b=some o->h'.get? b=some o):eM h' vs ks:=⟨T.1,λi hi=>by
 obtain⟨x,o,a,b,t,t',z,m,h1,h2,r⟩:=T.2 i hi;exact⟨x,o,a,b,t,t',z,m,h1,k _ _ h2,r⟩⟩
section
variable{prog:de}{w:cC}{A:cQ}{E:ai->au->Prop}{s:au}{vs:List ai}{ks:List (Int×Int)}
def d7z(T:eM s.heap vs ks)(nd:ks.Nodup)(i j:Nat)(C:Bool->au->Prop)(hi:i<ks.length)(hj:j<ks.length)(ij:i≠j)(h:C (ltAt ks i j) s):kas_ask prog w A (tuples' true) vs i j C s:=by
 obtain⟨x,o,a,b,t,t',z,m,x1,x2,x3,x4,x5⟩:=T.2 i hi;obtain⟨y,p,c,d,u,u',z',m',y1,y2,y3,y4,y5⟩:=T.2 j hj;have hl:ltAt ks i j=decide (a<c\/(a=c/\b<d)):=by unfold ltAt Mj;rw[x5,y5]
 rw[hl] at h;unfold kas_ask;rw[x1,y1];refine kat_lt x2 x4 y2 y4 ?_;show KatLex prog w A true _ C [(.int a t,.int c u),(.int b t',.int d u'),(z,z')] 0 s;refine kat_cons (wpAny_eqBool_int (kat_go (λe=>?_) λe=>?_))
 .have e:a=c:=by simpa using e
  refine kat_yes (kat_cons (wpAny_eqBool_int (kat_go (λe2=>?_) λe2=>?_)))
  .have e2:b=d:=by simpa using e2
   have e3:ks.getD i (0,0)=ks.getD j (0,0):=by rw[x5,y5,e,e2]
   have f1:ks.getD i (0,0)=ks[i]:=by simp[hi]
   have f2:ks.getD j (0,0)=ks[j]:=by simp[hj]
   rw[f1,f2] at e3;exact b_ ((FG nd).mp e3) ij
  .have e2:b≠d:=by simpa using e2
   refine kat_no (kat_one _ _ (wpAny_lt_int ?_));rw[show decide (a<c\/(a=c/\b<d))=decide (b<d) by simp[e]] at h
   exact h
 .have e:a≠c:=by simpa using e
  refine kat_no (oneLt_int ?_);rw[show decide (a<c\/(a=c/\b<d))=decide (a<c) by simp[e]] at h
  exact h
theorem PK{h:bV}:∀{vs:List ai} {ks:List (Int×Int)},eM h vs ks->∃fs,KatTups h vs fs/\fs.length=vs.length/\∀v∈fs,∃a t,v=Value.int a t
 |[],_,_=>⟨[],.nil,rfl,λv m=>by cases m⟩
 |v::vs,[],T=>by have:=T.1;simp at this
 |v::vs,k::ks,T=>by
  obtain⟨fs,f1,f2,f3⟩:=PK (h:=h) (vs:=vs) (ks:=ks) ⟨by have:=T.1;simpa using this,λi hi=>by
   obtain⟨x,o,a,b,t,t',z,m,r⟩:=T.2 (i+1) (by simpa using hi)
   exact⟨x,o,a,b,t,t',z,m,by simpa using r⟩⟩
  obtain⟨x,o,a,b,t,t',z,m,h1,h2,h3,h4,_⟩:=T.2 0 (by simp)
  have h1:v=.ref x:=by simpa using h1
  subst h1;refine⟨.int a t::fs,.cons h2 h3 h4 (by simp) f1,by simp[f2],λv m=>?_⟩
  rcases y04.mp m with rfl|m
  .exact⟨a,t,rfl⟩
  .exact f3 v m
def UA{a:ag}{n:Nat}{P:PySem.Fin->au->Prop}(ho:s.heap.get? a=some (seqObj "list" vs.toArray n))(T:eM s.heap vs ks)(nd:ks.Nodup)(na:∀i x,i<ks.length->vs.getD i Value.none=.ref x->x≠a)(h2:2<=vs.length)(HJ:vs.length<64)
  (h:P (.done (.ret .none)) { s with heap:=sortedHeap s.heap a vs (List.toArray ((dc ks).map λi=>vs.getD i Value.none))}):wpAny (model prog w) A (Builtin.«list.sort» ⟨[.ref a],[]⟩) P E s:=by
 rw[list_sort_plain];have ha:a<s.heap.objs.size:=cO ho;refine ay (listItems_at ho rfl ?_);refine ay (listUpdate_at ho rfl ?_ (by rw[dA,sizeLine_eq];lia) (mU _))
 obtain⟨e1,Aq⟩:∃e1,(s.heap.update a (Obj.mapSeq λ_=>#[])).get? a=some (seqObj "list" #[] e1):=⟨_,get?_update_seq ho (λ_=>#[])⟩
 refine ay (seqEpoch_at Aq rfl ?_);refine ay (wpAny_newTuple ?_ (by show vs.length<=_;rw[sizeLine_eq];lia))
 refine ay (wpAny_newList ?_ (mU _));refine lH ?_;have Ar:(((s.heap.update a (Obj.mapSeq λ_=>#[])).push (seqObj "tuple" vs.toArray 0)).push (seqObj "list" #[] 0)).get? a=some (seqObj "list" #[] e1):=by
  rw[FE _ _ _ (by rw[size_push',NG];exact gR (A' ha)),FE _ _ _ (by rw[NG];exact gR ha)]
  exact Aq
 have T6:eM (((s.heap.update a (Obj.mapSeq λ_=>#[])).push (seqObj "tuple" vs.toArray 0)).push (seqObj "list" #[] 0)) vs ks:=⟨T.1,λi hi=>by
  obtain⟨x,o,b,c,t,t',z,m,y1,y2,r⟩:=T.2 i hi;refine⟨x,o,b,c,t,t',z,m,y1,c8 _ (c8 _ ?_),r⟩;rw[II _ _ _ _ (na i x hi y1)];exact y2⟩
 show wpAny (model prog w) A _ P E { s with heap:=((s.heap.update a (Obj.mapSeq λ_=>#[])).push (seqObj "tuple" vs.toArray 0)).push (seqObj "list" #[] 0)}
 dsimp only;have Ap:¬vs.toArray.size<2:=by rw[dA];lia
 rw[aM Ap,aM Ap];obtain⟨fs,f1,f2,f3⟩:=PK T6;refine ay (kat_kind (T:=.type "int") f1 (by lia) (λv hv=>?_) (by decide) ?_)
 .obtain⟨b,t,rfl⟩:=f3 v hv;exact λA Q E s' _ q=>wpAny_typeOf (typeIs_int s' b t) q
 .have O:=R3 nd;have pq:=QS O (show 1<=ks.length by have:=T.1;lia)
  obtain⟨⟨q1,q2⟩,q3⟩:=Hq pq;have hlen:=T.1;refine ay (wpAny_mono (kat_run (Q:=λko s'=>s'={ s with heap:=((s.heap.update a (Obj.mapSeq λ_=>#[])).push (seqObj "tuple" vs.toArray 0)).push (seqObj "list" #[] 0)}/\arrOf ko=(Ck (ltAt ks) (kas_sort ks.length)).map (kas_item (vs.toArray.zip vs.toArray))/\failedOf ko=none) rfl h2 HJ (λp' ko s' a1 a2 a3 a4=>⟨a4.2,by rw[<-a4.1];exact a2,a3⟩) (G:=λp s'=>p=Ck (ltAt ks) (kas_sort ks.length)/\s'=_) ?_) ?_ λ_ _ e=>e)
  .rw[hlen];exact R1 (λi j C hi hj ij hC=>d7z T6 nd i j C hi hj ij hC) (G8 (λp hp=>⟨hp,rfl⟩) q3)
  .rintro⟨⟨⟩,ko⟩ s' ⟨rfl,Lz,hf⟩;dsimp only;have LR:=kat_snds rfl Lz;rw[LR];refine ay (seqEpoch_at Ar rfl ?_);refine ay (listUpdate_at Ar rfl ?_ (mU _) (by rw[dA,bh,IC,q1.size,sizeLine_eq];lia))
   rw[hf];simp only[bne_self_eq_false,sH,j'];exact aV h
def Vs{l:ag}{Q:ai->au->Prop}(hl:s.heap.IsList l vs.toArray)(T:eM s.heap vs ks)(nd:ks.Nodup)(h2:2<=vs.length)(HJ:vs.length<64)
  (h:Q (.ref (s.heap.objs.size+1)) { s with heap:=sortedAll s.heap vs (List.toArray ((dc ks).map λi=>vs.getD i Value.none))}):wpAny (model prog w) A (call (.builtin "sorted") [.ref l]) Q E s:=by
 refine Calls.call_function_entry kind_sorted plain_sorted entry_sorted (args_sorted1 _) ?_;unfold Builtin.«sorted»;refine ay (m:=checkCount "sorted" 1 1 _) (aV ?_);refine ay (collect_list hl ?_ (by rw[sizeLine_eq];lia))
 refine ay (wpAny_newList ?_ (by rw[sizeLine_eq];lia))
 have hsz:((s.heap.push (seqObj "list" #[] 0)).update s.heap.objs.size (Obj.mapSeq (·++vs.toArray))).objs.size=s.heap.objs.size+1:=by
  simp_all
 have ip:(((s.heap.push (seqObj "list" #[] 0)).update s.heap.objs.size (Obj.mapSeq (·++vs.toArray))).push (seqObj "list" vs.toArray 0)).get? (s.heap.objs.size+1)=some (seqObj "list" vs.toArray 0):=by
  rw[<-hsz];exact jR _ rfl
 have keep:∀b o,s.heap.get? b=some o->(((s.heap.push (seqObj "list" #[] 0)).update s.heap.objs.size (Obj.mapSeq (·++vs.toArray))).push (seqObj "list" vs.toArray 0)).get? b=some o:=λb o q=>by
  have jl:b<s.heap.objs.size:=cO q;rw[FE _ _ _ (by rw[hsz];exact gR (A' jl)),II _ _ _ _ (gR jl),FE _ _ _ (gR jl)]
  exact q
 show wpAny _ _ _ _ _ { s with heap:=((s.heap.push (seqObj "list" #[] 0)).update s.heap.objs.size (Obj.mapSeq (·++vs.toArray))).push (seqObj "list" vs.toArray 0)}
 rw[hsz];refine ay (lH (wpAny_call_entry slot_list_sort ⟨_,ip,rfl⟩ entry_list_sort (UA ip (T.keep keep) nd (λi x hi e=>?_) h2 HJ ⟨_,rfl,?_⟩) (args_list_sort _)))
 .obtain⟨y,o,_,_,_,_,_,_,y1,y2,_⟩:=T.2 i hi;rw[y1] at e;cases e;exact gR (A' (cO y2))
 .exact aV ⟨_,rfl,h⟩
end
section
variable{X:Cx}{K:PySem.W.Frag}{H:Hp}
def xK(K:PySem.W.Frag)(H:Hp)(ys:List V)(ks:List (Int×Int)):Prop:=ys.length=ks.length/\∀i,i<ks.length->∃p z,ys[i]?=some (.ref p)/\g7 K H p [.int (ks.getD i (0,0)).1,.int (ks.getD i (0,0)).2,z]
def R4(K:PySem.W.Frag):List V->Hp->VK->Prop:=λvs H Q=>∃a ys ks,vs=[.ref a]/\cM K H a ys/\xK K H ys ks/\ks.Nodup/\2<=ks.length/\ks.length<64/\∀l,H l=none->Q (.ref l) (upd H l (.lst ((dc ks).map λi=>ys.getD i .aI)))
theorem O8{ys:List V}{us:List ai}(r:Vals ys us):∀{is:List Nat},(∀i∈is,i<ys.length)->Vals (is.map λi=>ys.getD i .aI) (is.map λi=>us.getD i Value.none)
 |[],_=>.nil
 |i::is,h=>by
  have hi:=h i (.head _);obtain⟨u,e,ru⟩:=r.get (i8 hi);have e1:ys.getD i .aI=ys[i]:=by simp[hi]
  have e2:us.getD i Value.none=u:=by rw[Cr,e];rfl
  refine .cons ?_ (O8 r λj m=>h j (.tail _ m))
  show RelV (ys.getD i .aI) (us.getD i Value.none);rw[e1,e2];exact ru
theorem GF(nd:ks.Nodup)(h:1<=ks.length):(dc ks).Perm (List.range ks.length)/\(dc ks).Pairwise λi j=>ltAt ks i j=true:=by
 obtain⟨⟨q1,q2⟩,_⟩:=Hq (QS (R3 nd) h);refine⟨by unfold dc;have:=Array.perm_iff_toList_perm.mp q1.pm;simpa using this,?_⟩
 rw[List.pairwise_iff_getElem];intro i j hi hj qQ;have hs:=q1.size;have:=q2 i j qQ (by unfold dc at hj;simp at hj;lia)
 unfold dc at hi hj ⊢;simp only[IC] at hi hj;simpa[Array.getD,hi,hj] using this
def Vt(K:PySem.W.Frag)(hK:X.K=K:=by rfl):bS X (.builtin "sorted") (R4 K):=by
 subst hK;intro aa s Z H xs us Q I r h;obtain⟨a,ys,ks,rfl,hl,T,nd,h2,HJ,q⟩:=h;obtain⟨u,rfl,ru⟩:=vals1 r;cases ru;obtain⟨aF,rv,pl,hz⟩:=I.list hl;have hlen:=rv.length;have Ef:=T.1;have T':eM s.heap aF ks:=⟨by lia,λi hi=>by
  obtain⟨p,z,y1,y2⟩:=T.2 i hi;obtain⟨u,e,ru⟩:=rv.get y1;obtain rfl:u=Value.ref p:=ru;obtain⟨it2,Ip,⟨o,g1,g2,n,g3⟩,_⟩:=I.tuple y2;cases Ip with
  |cons r1 t=>
   cases t with
   |cons r2 t=>
    cases t with
    |cons r3 t=>
     cases t;obtain⟨t1,rfl⟩:=r1;obtain⟨t2,rfl⟩:=r2;exact⟨p,o,_,_,t1,t2,_,n,by rw[Cr,e];rfl,g1,g2,g3,rfl⟩⟩
 refine Vs pl.isList T' nd (by lia) (by lia) ?_
 obtain⟨c,hc⟩:=sortedAll_at s.heap aF (List.toArray ((dc ks).map λi=>aF.getD i Value.none))
 obtain⟨s1,_⟩:=GF nd (by lia)
 have hm:∀i∈dc ks,i<ys.length:=λi m=>by have:=s1.mem_iff.mp m;rw[sF] at this;lia
 have I3:=I.laid (h':=sortedAll s.heap aF (List.toArray ((dc ks).map λi=>aF.getD i Value.none))) (t':=s.toks) (o:=.lst ((dc ks).map λi=>ys.getD i .aI)) (λb o g=>sortedAll_old g) (xE _) (show bH X.prog X.w _ _ _ (.lst _) from⟨by rw[bh,s1.length_eq,vG,sizeLine_eq];lia,_,c,O8 rv hm,hc⟩)
 exact⟨.ref (s.heap.objs.size+1),_,I3,rfl,q _ (I.bB.fresh (xE _))⟩
end
end L2
set_option autoImplicit false
namespace L2
open PySem PySem.Spec PySem.W PySem.Calls PyProof.Rows
def gu(kvs:List (TK×D)):Bool:=kvs.all λp=>yC p.1
def wC:D->ak (List D)
 |.aB kvs=>if gu kvs=true then some ((List.range kvs.length).map λi=>.tup (((kvs[i]?).map λp=>[p.1.d,p.2]).getD [])) else none
 |_=>none
section
variable{K:Frag}{W:XW}{q:Nat}{g:GE}{fz:Bool}{Z:St}{H:Hp}{R:It->Hp->Prop}{k:Kn}{es:List (TK×V×V)}{kvs:List (TK×D)}
def K7(h1:es.map (·.1)=kvs.map (·.1))(h2:ah K k (es.map (·.2.1)) (kvs.map (·.1.d)))(h:gu kvs=true):iA es:=RO h1 (by rw[fJ];exact h2) (by rw[FJ];exact h)
def d8b(t:tX (RI K q) K W q (bL fz wC g) Z H R):RP (tE K W q g) Z H R:=by
 rcases Gr t with h|⟨d,ds,n,e,h⟩
 .exact h _
 .cases d with
  |aB kvs=>
   unfold wC at e;dsimp only at e;split at e
   .rename_i ht
    cases e;refine h _ λk1 H1 x le hd j=>?_
    obtain⟨a,es,ep,rfl,q2,q3,q4,q1⟩:=hd;have tx:=K7 q2 q3 ht;refine⟨a,es,ep,rfl,jW.now (x:=.aI) q1 le,tx,j _ ?_⟩;have hl:kvs.length=es.length:=by have:=q4.length;rw[bh,bh] at this;exact this.symm
    rw[hl];refine .EI (λH s c=>⟨q1 H s c,tx⟩) λi us hi hv=>?_
    obtain⟨e,h1,rfl⟩:=hv;have Ec:i<kvs.length:=by lia
    obtain⟨v,h3,h4⟩:=q4.get (i:=i) (d:=kvs[i].2) (by rw[gY,i8 Ec];rfl)
    obtain⟨v',h5,h6⟩:=q3.get (i:=i) (d:=kvs[i].1.d) (by rw[gY,i8 Ec];rfl)
    rw[gY,h1] at h3 h5;cases h3;cases h5;rw[i8 Ec];exact .cons h6 h4
   .cases e
  |_=>cases e
end
end L2
namespace L2
open PySem PySem.Spec PyProof.Rows
section
variable{X:Cx}{K:PySem.W.Frag}{k:Kn}{H:Hp}{x:V}{d:D}
def Top.txt{kvs:List (TK×D)}(t:Top K k H x (.aB kvs))(le:aw k.F H)(h:gu kvs=true):∃p es ep,x=.ref p/\H p=some (.dG es ep)/\iA es/\es.map (·.1)=kvs.map (·.1)/\ah K k (es.map (·.2.1)) (kvs.map (·.1.d))/\ah K k (es.map (·.2.2)) (kvs.map (·.2)):=by
 obtain⟨p,es,ep,rfl,h1,h2,h3,h4⟩:=t.aB le;exact⟨p,es,ep,rfl,h1,K7 h2 h3 h,h2,h3,h4⟩
def EV(K:PySem.W.Frag):List V->Hp->VK->Prop:=λxs H Q=>(∃p ys,xs=[.ref p]/\(cM K H p ys\/g7 K H p ys)/\Q (.int ys.length) H)\/(∃z,xs=[.str z]/\z.length<=sizeLine/\Q (.int z.length) H)\/∃p es ep,xs=[.ref p]/\H p=some (.dG es ep)/\iA es/\Q (.int es.length) H
def Wu(hK:X.K=K):bS X (.builtin "len") (EV K):=(Uy K hK).or (nh.or (by
 intro aa s Z H xs us Q I r h;obtain⟨p,es,ep,rfl,hp,ht,q⟩:=h;obtain⟨u,rfl,ru⟩:=vals1 r;cases ru;obtain⟨kvs,D1,D2,D3,D4,lo⟩:=BJ I hp ht;have l1:kvs.length=es.length:=by have:=congrArg List.length D3;simpa using this
 refine call_len_dict lo D1.dictOf (by rw[sizeLine_eq] at D4;lia) ?_
 rw[l1];exact⟨.int es.length,H,I.tok _,⟨_,rfl⟩,q⟩))
def dH:D->ak Rv
 |.lst ds=>some (rd (.int ds.length))
 |.tup ds=>some (rd (.int ds.length))
 |.str z=>if z.length<=1000000 then some (rd (.int z.length)) else none
 |.aB kvs=>if gu kvs=true then some (rd (.int kvs.length)) else none
 |_=>none
def e4e:bZ K (EV K) (o1 dH):=wM λk H x a y Q le t e res=>by
 unfold dH at e;split at e
 .cases e;obtain⟨p,ws,rfl,q,r⟩:=t.lst le;exact .inl ⟨p,ws,rfl,.inl q,by rw[r.length];exact res.flat le rfl⟩
 .cases e;obtain⟨p,ws,rfl,q,r⟩:=t.tup le;exact .inl ⟨p,ws,rfl,.inr q,by rw[r.length];exact res.flat le rfl⟩
 .split at e
  .cases e;cases t.flat rfl;exact .inr (.inl ⟨_,rfl,ml (by assumption),res.flat le rfl⟩)
  .cases e
 .split at e
  .cases e;obtain⟨p,es,ep,rfl,h1,h2,h3,h4,h5⟩:=t.txt le (by assumption)
   refine .inr (.inr ⟨p,es,ep,rfl,h1,h2,?_⟩);have:=h5.length;rw[bh,bh] at this;rw[this];exact res.flat le rfl
  .cases e
 .cases e
def ux:D->ak String
 |.aI=>some "NoneType"
 |.bl _=>some "bool"
 |.int _=>some "int"
 |.str _=>some "str"
 |.lst _=>some "list"
 |.tup _=>some "tuple"
 |_=>none
def PL{n:String}(le:aw k.F H)(t:Top K k H x d)(e:ux d=some n):Ds K H x n:=by
 cases d with
 |lst _=>cases e;obtain⟨p,ws,rfl,q,r⟩:=t.lst le;exact .inl ⟨rfl,_,q⟩
 |tup _=>cases e;obtain⟨p,ws,rfl,q,r⟩:=t.tup le;exact .inr ⟨rfl,_,q⟩
 |_=>cases e <;> cases t.flat rfl <;> rfl
def ES(K:PySem.W.Frag):List V->Hp->VK->Prop:=λxs H Q=>(∃x k T,xs=[x,.ty T]/\Ds K H x k/\(T="int"\/T="str"\/T="bool"\/T="list"\/T="tuple")/\Q (.bl (rW k T)) H)\/yN K xs H Q
def Wv(hK:X.K=K):bS X (.builtin "isinstance") (ES K):=(V6 K hK).or (Wn K hK)
def Ax:List D->Bool
 |[.ty a,.ty b]=>decide (a="tuple"/\b="list")
 |_=>false
def d8c{ds:List D}(h:Ax ds=true):ds=[.ty "tuple",.ty "list"]:=by
 unfold Ax at h;split at h
 .obtain⟨rfl,rfl⟩:=xI h;rfl
 .cases h
def jq(a t:D):ak Rv:=match t with
 |.ty T=>if T="int"\/T="str"\/T="bool"\/T="list"\/T="tuple" then(ux a).map λk=>rd (.bl (rW k T)) else none
 |.tup ds=>if Ax ds=true then(ux a).map λk=>rd (.bl (Nd k)) else none
 |_=>none
def e4f:bZ K (ES K) (o2 jq):=wN λk H x z a b y Q le t1 t2 e res=>by
 unfold jq at e;split at e
 .split at e
  .obtain⟨n,h,rfl⟩:=dm.mp e;cases t2.flat rfl;exact .inl ⟨x,n,_,rfl,PL le t1 h,by assumption,res.flat le rfl⟩
  .cases e
 .split at e
  .rename_i ht
   cases d8c ht;obtain⟨n,h,rfl⟩:=dm.mp e;obtain⟨p,ws,rfl,q,r⟩:=t2.tup le;obtain⟨w1,us,rfl,r1,r2⟩:=r.cg;obtain⟨w2,us,rfl,r3,r4⟩:=r2.cg;cases r4.fW;cases r1.bc rfl;cases r3.bc rfl;exact .inr ⟨x,n,p,rfl,PL le t1 h,q,res.flat le rfl⟩
  .cases e
 .cases e
def yO(K:PySem.W.Frag):List V->Hp->VK->Prop:=λxs H Q=>(∃p ys,xs=[.ref p]/\(cM K H p ys\/g7 K H p ys)/\∀l,H l=none->Q (.ref l) (upd H l (.lst ys)))\/TQ K xs H Q
def Vu(hc:X.calm=true)(hK:X.K=K):bS X (.type "list") (yO K):=(Uz K hK).or (hK ▸ Vn hc)
noncomputable def k_:D->ak Rv
 |.lst ds=>some (.o (.lst ds))
 |.tup ds=>some (.o (.lst ds))
 |.aB kvs=>some (.o (.lst (kvs.map (·.1.d))))
 |_=>none
def d8d:bZ K (yO K) (o1 k_):=wM λk H x a y Q le t e res=>by
 unfold k_ at e;split at e
 .cases e;obtain⟨p,ws,rfl,q,r⟩:=t.lst le;exact .inl ⟨p,ws,rfl,.inl q,λl hl=>res.lst le r hl⟩
 .cases e;obtain⟨p,ws,rfl,q,r⟩:=t.tup le;exact .inl ⟨p,ws,rfl,.inr q,λl hl=>res.lst le r hl⟩
 .cases e;obtain⟨p,es,ep,rfl,h1,h2,h3,h4⟩:=t.aB le;exact .inr ⟨p,es,ep,rfl,h1,λl hl=>res.lst le h3 hl⟩
 .cases e
def q8:D->ak Rv
 |.aB kvs=>if gu kvs=true then some (.o (.lst (kvs.map (·.2)))) else none
 |_=>none
def d8e:bZ K (λxs H Q=>∃d es ep,xs=[.ref d]/\H d=some (.dG es ep)/\iA es/\∀q,H q=none->Q (.ref q) (upd H q (.lst (es.map (·.2.2))))) (o1 q8):=wM λk H x a y Q le t e res=>by
 unfold q8 at e;split at e
 .split at e
  .cases e;obtain⟨p,es,ep,rfl,h1,h2,h3,h4,h5⟩:=t.txt le (by assumption)
   exact⟨p,es,ep,rfl,h1,h2,λl hl=>res.lst le h5 hl⟩
  .cases e
 .cases e
noncomputable def Hr(q:List Bool->Bool):D->ak Rv
 |.lst ds=>(h_ ds).map λbs=>rd (.bl (q bs))
 |_=>none
def XZ(q:List Bool->Bool):bZ K (λxs H Q=>∃(a:ag) (bs:List Bool),xs=[.ref a]/\cM K H a (bs.map V.bl)/\Q (.bl (q bs)) H) (o1 (Hr q)):=wM λk H x a y Q le t e res=>by
 unfold Hr at e;split at e
 .obtain⟨bs,h,rfl⟩:=dm.mp e;obtain⟨p,ws,rfl,s,r⟩:=t.lst le;rw[OD h] at r;cases OE r;exact⟨p,bs,rfl,s,res.flat le rfl⟩
 .cases e
noncomputable def md(f:List Int->Int):D->ak Rv
 |.lst ds=>(k8 ds).bind λis=>if is=[] then none else some (rd (.int (f is)))
 |_=>none
def QT(f:List Int->Int):bZ K (λxs H Q=>∃(a:ag) (is:List Int),xs=[.ref a]/\cM K H a (is.map V.int)/\is≠[]/\Q (.int (f is)) H) (o1 (md f)):=wM λk H x a y Q le t e res=>by
 unfold md at e;split at e
 .obtain⟨is,h,e⟩:=cB.mp e;split at e
  .cases e
  .cases e;obtain⟨p,ws,rfl,s,r⟩:=t.lst le;rw[O6 h] at r;cases Ol r;exact⟨p,is,rfl,s,by assumption,res.flat le rfl⟩
 .cases e
def jN:List D->ak (List (Int×Int))
 |[]=>some []
 |.tup [.int a,.int b,_]::ds=>(jN ds).map λks=>(a,b)::ks
 |_=>none
theorem PM:∀{ds:List D} {ks:List (Int×Int)} {ws:List V},jN ds=some ks->ah K k ws ds->aw k.F H->xK K H ws ks
 |[],ks,ws,e,r,le=>by cases e;exact⟨by rw[r.length];rfl,λi hi=>nomatch hi⟩
 |d::ds,ks,ws,e,r,le=>by
  obtain⟨w,us,rfl,r1,r2⟩:=r.cg;unfold jN at e;split at e
  .rename_i h;cases h
  .rename_i a b z ds' h
   cases h;obtain⟨yE,e1,rfl⟩:=dm.mp e;obtain⟨l1,l2⟩:=PM e1 r2 le;obtain⟨p,ws,rfl,q,r3⟩:=r1.isTup;obtain⟨w1,us1,rfl,t1,r3⟩:=r3.cg;obtain⟨w2,us2,rfl,t2,r3⟩:=r3.cg;obtain⟨w3,us3,rfl,t3,r3⟩:=r3.cg;cases r3.fW;cases t1.bc rfl;cases t2.bc rfl;refine⟨congrArg (·+1) l1,λi hi=>?_⟩
   cases i with
   |zero=>exact⟨p,w3,rfl,le.A4 q⟩
   |succ i=>exact l2 i (Nat.lt_of_succ_lt_succ hi)
  .cases e
def yS(K:PySem.W.Frag):List V->Hp->VK->Prop:=λvs H Q=>RX K vs H Q\/R4 K vs H Q
def Vv(hc:X.calm=true)(hK:X.K=K):bS X (.builtin "sorted") (yS K):=(hK ▸ UK hc).or (Vt K hK)
def mR(ds:List D)(is:List Nat):List D:=is.map λi=>ds.getD i .aI
def qY:D->ak Rv
 |.lst ds=>if ds.length<2 then some (.o (.lst ds)) else(jN ds).bind λks=>if ks.Nodup/\ks.length<64 then some (.o (.lst (mR ds (dc ks)))) else none
 |.aB kvs=>if(gu kvs&&Nat.blt kvs.length 2)=true then some (.o (.lst (kvs.map (·.1.d)))) else none
 |_=>none
theorem PN{ws:List V}{ds:List D}(r:ah K k ws ds):∀{is:List Nat},(∀i∈is,i<ds.length)->ah K k (is.map λi=>ws.getD i .aI) (mR ds is)
 |[],_=>.nil
 |i::is,h=>by
  have hi:=h i (.head _);obtain⟨v,h1,h2⟩:=r.get (i:=i) (d:=ds[i]) (i8 hi);unfold mR;rw[bQ,bQ,show ws.getD i .aI=v by rw[Cr,h1];rfl,show ds.getD i .aI=ds[i] by rw[Cr,i8 hi];rfl]
  exact .cons h2 (PN r λj m=>h j (.tail _ m))
def d8f:bZ K (yS K) (o1 qY):=wM λk H x a y Q le t e res=>by
 unfold qY at e;split at e
 .obtain⟨p,ws,rfl,s,r⟩:=t.lst le;split at e
  .cases e;exact .inl ⟨p,ws,rfl,.inl s,by rw[r.length];assumption,λl hl=>res.lst le r hl⟩
  .rename_i h2
   obtain⟨ks,h,e⟩:=cB.mp e;split at e
   .rename_i hk
    cases e;have T:=PM h r le;have l1:ks.length=ws.length:=T.1.symm;have l2:=r.length;refine .inr ⟨p,ws,ks,rfl,s,T,hk.1,by lia,hk.2,λl hl=>res.lst le (PN r λi m=>?_) hl⟩
    grind [GF]
   .cases e
 .split at e
  .rename_i hh
   obtain⟨h1,h2⟩:=Cq.mp hh;cases e;obtain⟨p,es,ep,rfl,h3,h4,h5,h6,h7⟩:=t.txt le h1;have:=h6.length;have l2:_<2:=fX (Bd h2) (bM _);exact .inl ⟨p,_,rfl,.inr ⟨es,ep,h3,h4,rfl⟩,by rw[this,bh];exact l2,λl hl=>res.lst le h6 hl⟩
  .cases e
 .cases e
def bU{α:Type}:List (TK×α)->TK->α->List (TK×α)
 |[],k,v=>[(k,v)]
 |(j,w)::r,k,v=>if j=k then(j,v)::r else(j,w)::bU r k v
def ig:List D->ak (List (TK×D))
 |[]=>some []
 |.tup [a,b]::ds=>(k9 a).bind λj=>(ig ds).map λps=>(j,b)::ps
 |_=>none
noncomputable def qF:D->ak Rv
 |.lst ds=>(ig ds).bind λps=>if ps.length<1000 then some (.o (.aB (ps.foldl (λkvs p=>bU kvs p.1 p.2) []))) else none
 |_=>none
theorem Ks{j:TK}{y v:V}{e:D}(ry:ah K k [y] [j.d])(rv:ah K k [v] [e]):∀{ws:List (TK×V×V)} {kvs:List (TK×D)},ws.map (·.1)=kvs.map (·.1)->ah K k (ws.map (·.2.1)) (kvs.map (·.1.d))->ah K k (ws.map (·.2.2)) (kvs.map (·.2))->
  (dh ws j y v).map (·.1)=(bU kvs j e).map (·.1)/\ah K k ((dh ws j y v).map (·.2.1)) ((bU kvs j e).map (·.1.d))/\ah K k ((dh ws j y v).map (·.2.2)) ((bU kvs j e).map (·.2))
 |[],[],_,_,_=>⟨rfl,ry,rv⟩
 |w::ws,p::kvs,h,r1,r2=>by
  obtain⟨h1,h2⟩:=List.cons.inj (show w.1::ws.map (·.1)=p.1::kvs.map (·.1) from h)
  obtain⟨a1,a2⟩:=ah.inv r1;obtain⟨b1,b2⟩:=ah.inv r2;unfold dh bU;by_cases q:p.1=j
  .rw[aX (h1.trans q),aX q];exact⟨congr (congrArg List.cons h1) h2,.cons a1 a2,.cons rv b2⟩
  .rw[aM (λz=>q (h1.symm.trans z)),aM q]
   obtain⟨c1,c2,c3⟩:=Ks ry rv h2 a2 b2;exact⟨congr (congrArg List.cons h1) c1,.cons a1 c2,.cons b1 c3⟩
 |[],_::_,h,_,_=>nomatch h
 |_::_,[],h,_,_=>nomatch h
def tq(K:PySem.W.Frag)(k:Kn)(q:TK×V×V)(p:TK×D):Prop:=q.1=p.1/\ah K k [q.2.1] [q.1.d]/\ah K k [q.2.2] [p.2]
theorem PQ:∀{ds:List D} {ps:List (TK×D)} {ws:List V},ig ds=some ps->ah K k ws ds->aw k.F H->∃qs:List (TK×V×V),ka K H ws qs/\Paired (tq K k) qs ps
 |[],ps,ws,e,r,le=>by cases e;cases r.fW;exact⟨[],⟨rfl,λi p h=>nomatch h⟩,.nil⟩
 |d::ds,ps,ws,e,r,le=>by
  unfold ig at e;split at e
  .rename_i h;cases h
  .rename_i a b ds' h
   cases h;obtain⟨j,q1,e⟩:=cB.mp e;obtain⟨ps',q2,rfl⟩:=dm.mp e;obtain⟨w,us,rfl,r1,r2⟩:=r.cg;obtain⟨p,ws,rfl,sq,ri⟩:=r1.isTup;obtain⟨y,us1,rfl,t1,ri⟩:=ri.cg;obtain⟨v,us2,rfl,t2,ri⟩:=ri.cg;cases ri.fW;obtain⟨qs,h1,h3⟩:=PQ q2 r2 le;have rk:ah K k [y] [j.d]:=by rw[(BK q1).1];exact t1
   refine⟨(j,y,v)::qs,⟨congrArg (·+1) h1.len,λi p h=>?_⟩,.cons ⟨rfl,rk,t2⟩ h3⟩
   cases i with
   |zero=>cases h;exact⟨_,rfl,le.A4 sq,uv (k:=k.all H) j (rk.all le),(BK q1).2⟩
   |succ i=>exact h1.item i p h
  .cases e
def QU{qs:List (TK×V×V)}{ps:List (TK×D)}(p:Paired (tq K k) qs ps):∀{ws:List (TK×V×V)} {kvs:List (TK×D)},ws.map (·.1)=kvs.map (·.1)->ah K k (ws.map (·.2.1)) (kvs.map (·.1.d))->ah K k (ws.map (·.2.2)) (kvs.map (·.2))->
  (eO ws qs).map (·.1)=(ps.foldl (λkvs p=>bU kvs p.1 p.2) kvs).map (·.1)/\ah K k ((eO ws qs).map (·.2.1)) ((ps.foldl (λkvs p=>bU kvs p.1 p.2) kvs).map (·.1.d))/\ah K k ((eO ws qs).map (·.2.2)) ((ps.foldl (λkvs p=>bU kvs p.1 p.2) kvs).map (·.2)):=by
 induction p with
 |nil=>exact λa b c=>⟨a,b,c⟩
 |@cons q p qs ps h _ ih=>
  intro ws kvs a b c;obtain⟨h1,h2,h3⟩:=h;obtain⟨j1,j2,j3⟩:=Ks h2 h3 a b c;rw[h1] at j1 j2 j3;have:=ih (ws:=dh ws p.1 q.2.1 q.2.2) (kvs:=bU kvs p.1 p.2) j1 j2 j3;rw[show eO ws (q::qs)=eO (dh ws p.1 q.2.1 q.2.2) qs by unfold eO;rw[IJ,h1],IJ]
  exact this
def X0:bZ K (RV K) (o1 qF):=wM λk H x a y Q le t e res=>by
 unfold qF at e;split at e
 .obtain⟨ps,q1,e⟩:=cB.mp e;split at e
  .rename_i hn
   cases e;obtain⟨p,ws,rfl,s,r⟩:=t.lst le;obtain⟨qs,g1,g3⟩:=PQ q1 r le;obtain⟨o1,o2,o3⟩:=QU g3 (ws:=[]) (kvs:=[]) rfl .nil .nil;exact⟨p,ws,qs,rfl,s,g1,by rw[Paired.length g3];exact hn,λl ep hl=>res.aB le o1 o2 o3 hl⟩
  .cases e
 .cases e
noncomputable def Ts:D->ak String
 |.str _=>some "str"
 |.lst _=>some "list"
 |.aB _=>some "dict"
 |_=>none
def e4g{T:String}(le:aw k.F H)(t:Top K k H x d)(e:Ts d=some T):Iz K T x H:=by
 cases d with
 |str _=>cases e;cases t.flat rfl;rfl
 |lst _=>cases e;obtain⟨p,ws,rfl,q,r⟩:=t.lst le;exact .inl ⟨rfl,_,q⟩
 |aB _=>cases e;obtain⟨p,es,ep,rfl,h1,h2⟩:=t.aB le;exact .inr (.inr (.inl ⟨rfl,.inr (.inr ⟨es,ep,h1⟩)⟩))
 |_=>cases e
def Hs(T:String)(o:List D->ak Rv)(f:GE)(g:GA):GE:=λU S=>bd (f U S) λr S1=>if(wZ S1 (nP r)).bind Ts=some T then bd (g U S1) λvs S2=>(w6 S2 (nP r::vs)).bind λds=>(o ds).map λy=>.ok y S2 else none
def X1{W:XW}{q:Nat}{T:String}{o:List D->ak Rv}{r:V->List V->Hp->VK->Prop}{f:GE}{g:GA}{Z:St}{H:Hp}{Q:VK}(bB:bZ K (qW r) o)(t:tE K W q (Hs T o f g) Z H Q):M4 K T r (tE K W q f) (gq K W q g) Z H Q:=by
 obtain⟨k,U,S,res,ok,gk,e,w⟩:=t;refine tX.bd ok gk e w λr S1 x k1 H1 bI g1 r1 e1 w1 _=>?_
 obtain⟨k2,u2,cJ,r2⟩:=sv bI r1;split at e1
 .rename_i hT
  obtain⟨d,h1,h2⟩:=cB.mp hT;refine⟨e4g cJ.le (Hi cJ r2 h1) h2,tX.bd cJ (g1.up (u2 q)) e1 (w1.up (u2 q)) λvs S3 xs k3 H3 j6 g3 r3 e3 w3 u3=>?_⟩
  obtain⟨ds,e4,e5⟩:=cB.mp e3;obtain⟨y,e6,rfl⟩:=dm.mp e5;obtain⟨x',xs',z,rr⟩:=bB k3 H3 (x::xs) ds y Q j6.le (Qy j6 (.cons (r2.up u3) r3) e4) e6 (.fin j6 w3);cases z;exact rr
 .cases e1
def jm:D->D->ak Rv
 |.lst ds,.str z=>(fA ds).bind λys=>(findS ys z).map λj=>rd (.int (j:Nat))
 |_,_=>none
def X2:bZ K (qW (RT K)) (o2 jm):=wN λk H x z a b y Q le t1 t2 e res=>by
 unfold jm at e;split at e
 .obtain⟨ys,e1,e2⟩:=cB.mp e;obtain⟨j,e3,rfl⟩:=dm.mp e2;obtain⟨p,ws,rfl,s,r⟩:=t1.lst le;rw[JT e1] at r;cases Jx r;cases t2.flat rfl;obtain⟨s1,s2⟩:=CQ e3;exact⟨_,_,rfl,p,ys,_,j,rfl,rfl,s,s1,s2,res.flat le rfl⟩
 .cases e
noncomputable def qK:D->D->ak Rv
 |.aB kvs,i=>(k9 i).map λj=>rd ((aT kvs j).getD .aI)
 |_,_=>none
def d8g:bZ K (qW (yM K)) (o2 qK):=wN λk H x z a b y Q le t1 t2 e res=>by
 unfold qK at e;split at e
 .obtain⟨j,hj,rfl⟩:=dm.mp e;obtain⟨p,o,rfl,g,h⟩:=xy le t1 t2 hj;refine⟨_,_,rfl,p,_,o,rfl,rfl,g,?_⟩;rcases h with⟨rfl,h⟩|⟨v,e,rfl,h,r⟩
  .rw[h] at res;exact res.flat le rfl
  .rw[h] at res;exact res.rep le r
 .cases e
end
variable{k:Kn}{ws:List V}{ds:List D}{v:V}
noncomputable def Cell.box:Cell->ak Bx
 |.o b=>some b
 |_=>none
def rO(S:aO):Val->ak Bx
 |.c n=>(S.s[n]?).bind Cell.box
 |.d (.ref n)=>(S.r[n]?).bind Cell.box
 |_=>none
noncomputable def setB(S:aO)(b:Bx):Val->aO
 |.c n=>⟨S.s.set n (.o b),S.r⟩
 |.d (.ref n)=>⟨S.s,S.r.set n (.o b)⟩
 |_=>S
noncomputable def Bx.mb(q:Nat):Bx->Bool
 |.lst _=>Nat.ble q 1
 |.aB _=>q == 0
noncomputable def Bx.ty:Bx->String
 |.lst _=>"list"
 |.aB _=>"dict"
section
variable{K:PySem.W.Frag}{k:Kn}{H:Hp}{S:aO}{x:V}{v:Val}{b:Bx}{a:ag}
def R5{c:Cell}(h:c.box=some b):c=.o b:=by
 cases c <;> cases h;rfl
def R6{q:Nat}(h:dC K k H a b)(m:b.mb q=true):∀o,H a=some o->wH q o=false:=by
 intro o e;cases b with
 |lst xs=>
  obtain⟨ws,e1,_⟩:=h;rw[e] at e1;cases e1;have:=Bd m
  match q,this with
  |0,_=>rfl
  |1,_=>rfl
 |aB kvs=>cases(beq_iff_eq.mp m);rfl
def Di(ok:bY K k H S)(r:cT K k x v)(e:rO S v=some b):∃a,x=.ref a/\dC K k H a b/\∀q b' H',l9 H H' a->b.mb q=true->dC K k H' a b'->bY K k H' (setB S b' v)/\Up q k H k H':=by
 cases v with
 |c n=>
  obtain⟨a,rfl,h1⟩:=r;obtain⟨c,h2,h3⟩:=cB.mp e;cases R5 h3;obtain⟨h4,h5⟩:=ok.s.at' n a _ h1 h2;exact⟨a,rfl,h5,λq b' H' o m h=>ok.MR h1 o h4 (R6 h5 m) (c:=.o b') ⟨h4,h⟩⟩
 |d y=>
  cases y with
  |ref n=>
   obtain⟨a,rfl,h1⟩:=ah.isRef r;obtain⟨c,h2,h3⟩:=cB.mp e;cases R5 h3;obtain⟨h4,h5⟩:=ok.r.at' n a _ h1 h2;exact⟨a,rfl,h5,λq b' H' o m h=>ok.E2 h1 o h4 (R6 h5 m) (c:=.o b') ⟨h4,h⟩⟩
  |_=>cases e
def e8n{T:String}(h:dC K k H a b)(e:b.ty=T):Iz K T (.ref a) H:=by
 cases b with
 |lst xs=>obtain⟨ws,h1,_⟩:=h;exact .inl ⟨e.symm,ws,.inl (.inl h1)⟩
 |aB kvs=>obtain⟨es,ep,h1,_⟩:=h;exact .inr (.inr (.inl ⟨e.symm,.inr (.inr ⟨es,ep,h1⟩)⟩))
end
def l7(K:PySem.W.Frag)(r:V->List V->Hp->VK->Prop)(m:Bx->List D->ak (Bx×D)):Prop:=∀k H a b ds b' d xs Q,aw k.F H->dC K k H a b->ah K k xs ds->m b ds=some (b',d)->(∀x o',dC K k (upd H a o') a b'->ah K k [x] [d]->Q x (upd H a o'))->r (.ref a) xs H Q
def gh(q:Nat)(T:String)(m:Bx->List D->ak (Bx×D))(f:GE)(g:GA):GE:=λU S=>bd (f U S) λr S1=>if(rO S1 (nP r)).map Bx.ty=some T then bd (g U S1) λvs S2=>(rN vs S2).bind λp=>(rO p.2 (nP r)).bind λb=>if b.mb q=true then(m b p.1).map λz=>.ok (rd z.2) (setB p.2 z.1 (nP r)) else none else none
section
variable{X:Cx}{K:PySem.W.Frag}{W:XW}{q:Nat}{T:String}{m:Bx->List D->ak (Bx×D)}{r:V->List V->Hp->VK->Prop}{f:GE}{g:GA}{Z:St}{H:Hp}{Q:VK}
def e4h(hm:l7 K r m)(t:tE K W q (gh q T m f g) Z H Q):M4 K T r (tE K W q f) (gq K W q g) Z H Q:=by
 obtain⟨k,U,S,res,ok,gk,e,w⟩:=t;refine tX.bd ok gk e w λr S1 x k1 H1 bI g1 r1 e1 w1 _=>?_
 obtain⟨k2,u2,cJ,r2⟩:=sv bI r1;split at e1
 .rename_i hT
  obtain⟨b0,h1,h2⟩:=dm.mp hT;obtain⟨a0,ea,h3,_⟩:=Di cJ r2 h1;refine⟨ea ▸ e8n h3 h2,tX.bd cJ (g1.up (u2 q)) e1 (w1.up (u2 q)) λvs S3 xs k3 H3 j6 g3 r3 e3 w3 u3=>?_⟩
  obtain⟨⟨ds,S4⟩,e4,e5⟩:=cB.mp e3;obtain⟨k4,u4,rX,r4⟩:=G3 j6 r3 e4;obtain⟨b,e6,e7⟩:=cB.mp e5;obtain⟨a,rfl,h4,h5⟩:=Di rX ((r2.up u3).up (u4 q)) e6;split at e7
  .rename_i hb
   obtain⟨⟨b',d⟩,e8,rfl⟩:=dm.mp e7;refine hm k4 H3 a b ds b' d xs Q rX.le h4 r4 e8 λy o' h6 h7=>?_
   obtain⟨nD,u5⟩:=h5 q b' _ C2 hb h6;exact(w3.up (u4 q)) y k4 _ u5 nD h7
  .cases e7
 .cases e1
noncomputable def vU:Bx->List D->ak (Bx×D)
 |.lst xs,[d]=>if xs.length<1000000 then some (.lst (xs++[d]),.aI) else none
 |_,_=>none
def A1:ah K k [.aI] [.aI]:=.flat rfl .nil
def G9{xs:List V}{d:D}(h:ah K k xs [d]):∃x,xs=[x]/\ah K k [x] [d]:=by
 obtain⟨x,us,rfl,h1,h2⟩:=h.cg;cases h2.fW;exact⟨x,rfl,h1⟩
def Ww:l7 K Qv vU:=by
 intro k H a b ds b' d xs Q le hb r e h;unfold vU at e;split at e
 .split at e
  .rename_i hl
   cases e;obtain⟨ws,h1,h2⟩:=hb;obtain⟨y,rfl,r1⟩:=G9 r;exact⟨a,ws,y,rfl,rfl,h1,fX (by rw[h2.length];exact hl) (by decide),h .aI _ ⟨_,aJ,h2.append r1⟩ A1⟩
  .cases e
 .cases e
noncomputable def Dj:Bx->List D->ak (Bx×D)
 |.lst xs,[.int i,d]=>if 0<=i/\i<2^62/\xs.length<1000000 then some (.lst (xs.take i.toNat++d::xs.drop i.toNat),.aI) else none
 |_,_=>none
def Wx:l7 K Qw Dj:=by
 intro k H a b ds b' d xs Q le hb r e h;unfold Dj at e;split at e
 .split at e
  .rename_i hl
   cases e;obtain⟨ws,h1,h2⟩:=hb;obtain⟨y,us,rfl,r1,r2⟩:=r.cg;obtain⟨z,rfl,r3⟩:=G9 r2;cases r1.bc rfl;refine⟨a,ws,_,z,rfl,rfl,h1,hl.1,hl.2.1,fX (by rw[h2.length];exact hl.2.2) (by decide),h .aI _ ⟨_,aJ,?_⟩ A1⟩
   have:∀(n:Nat) (l:List V),rS l n z=l.take n++z::l.drop n:=λn l=>by unfold rS;rfl
   rw[this];exact(h2.take _).append (.cons r3 (h2.drop _))
  .cases e
 .cases e
noncomputable def G_:Bx->List D->ak (Bx×D)
 |.lst xs,[.str z]=>(fA xs).bind λys=>(findS ys z).map λj=>(.lst (xs.eraseIdx j),.aI)
 |_,_=>none
def Wy(h:ah K k ws ds)(j:Nat):ah K k (ws.eraseIdx j) (ds.eraseIdx j):=by
 rw[List.eraseIdx_eq_take_drop_succ,List.eraseIdx_eq_take_drop_succ];exact(h.take _).append (h.drop _)
def Wz:l7 K QO G_:=by
 intro k H a b ds b' d xs Q le hb r e h;unfold G_ at e;split at e
 .obtain⟨ys,e1,e2⟩:=cB.mp e;obtain⟨j,e3,e4⟩:=dm.mp e2;cases e4;obtain⟨ws,h1,h2⟩:=hb;obtain⟨y,rfl,r1⟩:=G9 r;cases r1.bc rfl;obtain⟨s1,s2⟩:=CQ e3;have h3:=Wy h2 j;rw[JT e1] at h2;cases Jx h2;exact⟨a,ys,_,j,rfl,rfl,h1,s1,s2,h .aI _ ⟨_,aJ,by rw[<-Gs];exact h3⟩ A1⟩
 .cases e
def dy{α:Type}(kvs:List (TK×α))(z:Str):List (TK×α):=kvs.filter λe=>gM z e.1
def jO:Bx->List D->ak (Bx×D)
 |.aB kvs,[.str z]=>if gu kvs=true then(aT kvs (.inr z)).map λd=>(.aB (dy kvs z),d) else none
 |_,_=>none
theorem PR{k:Kn}(z:Str):∀{ws:List (TK×V×V)} {kvs:List (TK×D)},ws.map (·.1)=kvs.map (·.1)->ah K k (ws.map (·.2.1)) (kvs.map (·.1.d))->ah K k (ws.map (·.2.2)) (kvs.map (·.2))->
  (dy ws z).map (·.1)=(dy kvs z).map (·.1)/\ah K k ((dy ws z).map (·.2.1)) ((dy kvs z).map (·.1.d))/\ah K k ((dy ws z).map (·.2.2)) ((dy kvs z).map (·.2))
 |[],[],_,_,_=>⟨rfl,.nil,.nil⟩
 |w::ws,p::kvs,h,r1,r2=>by
  obtain⟨h1,h2⟩:=List.cons.inj (show w.1::ws.map (·.1)=p.1::kvs.map (·.1) from h)
  obtain⟨a1,a2⟩:=ah.inv r1;obtain⟨b1,b2⟩:=ah.inv r2;obtain⟨c1,c2,c3⟩:=PR z h2 a2 b2;unfold dy at *;rw[vC,vC,h1];split
  .exact⟨congr (congrArg List.cons h1) c1,.cons a1 c2,.cons b1 c3⟩
  .exact⟨c1,c2,c3⟩
 |[],_::_,h,_,_=>nomatch h
 |_::_,[],h,_,_=>nomatch h
def d8h:l7 K (yQ K) jO:=by
 intro k H a b ds b' d xs Q le hb r e h;unfold jO at e;split at e
 .split at e
  .rename_i ht
   obtain⟨v0,e1,e2⟩:=dm.mp e;cases e2;obtain⟨es,ep,h1,h2,h3,h4⟩:=hb;obtain⟨y,rfl,r1⟩:=G9 r;cases r1.bc rfl;obtain⟨f1,f2,f3⟩:=PR (K:=K) _ h2 h3 h4;rcases Kr (k:=.inr _) h2 h4 with⟨_,z⟩|⟨v,e,z1,z2,z3⟩
   .rw[z] at e1;cases e1
   .rw[z2] at e1;cases e1;exact⟨a,es,ep,_,v,rfl,rfl,h1,K7 h2 h3 ht,z1,λqf=>h v _ ⟨_,qf,aJ,f1,f2,f3⟩ z3⟩
  .cases e
 .cases e
end
def qX(K:PySem.W.Frag):rE:=λo i v H Q=>yR o i v H Q\/∃a H4,o=.ref a/\zt K H a i v H4/\Q H4
def SD{X:Cx}(hu:X.A.units+41<cLine):vN X (qX X.K):=by
 intro aa s Z H o i v ov iv u Q I ro ri rv h;rcases h with h|⟨a,H4,rfl,g,q⟩
 .exact Xk aa s Z H o i v ov iv u Q I ro ri rv h
 .cases ro;exact Wk (by lia) I g ri rv λs4 I4=>⟨H4,I4,q⟩
def w9(b:Bx)(i v:D):ak Bx:=match b with
 |.lst xs=>(intD i).bind λk=>(wG xs.length k).map λj=>.lst (xs.set j v)
 |.aB kvs=>(k9 i).bind λj=>if kvs.length<1000000 then some (.aB (bU kvs j v)) else none
section
variable{X:Cx}{K:PySem.W.Frag}{W:XW}{q:Nat}{fv fo fi:GE}{o e i:Expr}{pos pos':Pos}{Z:St}{H:Hp}
def d8i{d:D}(h:ah K k ws ds)(r:ah K k [v] [d])(j:Nat):ah K k (ws.set j v) (ds.set j d):=by
 induction ds generalizing ws j with
 |nil=>rw[h.fW];exact .nil
 |cons x ds ih=>
  obtain⟨w,us,rfl,h1,h2⟩:=h.cg;cases j with
  |zero=>exact .cons r h2
  |succ j=>exact .cons h1 (ih h2 j)
def R7{a:ag}{b b':Bx}{di dv:D}{y:V}{Q:Hp->Prop}(le:aw k.F H)(hb:dC K k H a b)(ri:ah K k [y] [di])(rv:ah K k [v] [dv])(e:w9 b di dv=some b')(h:∀o',dC K k (upd H a o') a b'->Q (upd H a o')):qX K (.ref a) y v H Q:=by
 unfold w9 at e;split at e
 .obtain⟨j,h1,e⟩:=cB.mp e;obtain⟨n,h2,rfl⟩:=dm.mp e;cases G7 h1;cases ri.bc rfl;obtain⟨ws,h3,h4⟩:=hb;exact .inl ⟨a,ws,j,n,rfl,rfl,h3,by rw[h4.length];exact h2,h _ ⟨_,aJ,d8i h4 rv n⟩⟩
 .obtain⟨j,h1,e⟩:=cB.mp e;split at e
  .rename_i hl
   cases e;obtain⟨es,ep,h2,h3,h4,h5⟩:=hb;obtain⟨k1,k2⟩:=BK h1;have ry:ah K k [y] [j.d]:=by rw[k1];exact ri
   obtain⟨p1,p2,p3⟩:=Ks ry rv h3 h4 h5;have ny:es.length<sizeLine:=by
    have:=h5.length;rw[bh,bh] at this;rw[this];exact fX hl (by decide)
   exact .inr ⟨a,_,rfl,⟨es,ep,j,h2,QJ h3 h4 le,uv (k:=k.all H) j (ry.all le),k2,ny,rfl⟩,h _ ⟨_,_,aJ,p1,p2,p3⟩⟩
  .cases e
def cx(q:Nat)(fv fo fi:GE):GS:=λU S=>lC U (om fv (om fo (om fi gN)) U S) λvs S1=>match vs with
 |[v,o,i]=>(rN [v,i] S1).bind λp=>(rO p.2 o).bind λb=>if b.mb q=true then(match p.1 with
  |[dv,di]=>(w9 b di dv).map λb'=>.nx U (setB p.2 b' o)
  |_=>none) else none
 |_=>none
def e4j{D:Ends}(t:tS K W q (cx q fv fo fi) D Z H):tE K W q fv Z H λv H1=>tE K W q fo Z H1 λo H2=>tE K W q fi Z H2 λi H3=>qX K o i v H3 λH4=>D.nx Z H4:=by
 have t1:gq K W q (om fv (om fo (om fi gN))) Z H λxs H3=>∃v o i,xs=[v,o,i]/\qX K o i v H3 λH4=>D.nx Z H4:=by
  obtain⟨k,U,S,fr,ok,gk,e,w⟩:=t;refine tS.bd ok gk e w λvs S1 xs k1 H1 bI g1 r1 e1 w1=>?_
  split at e1
  .rename_i v o i
   cases r1 with
   |@cons xv _ _ _ rv t=>
    cases t with
    |@cons xo _ _ _ ro t=>
     cases t with
     |@cons xi _ _ _ ri t=>
      cases t;refine⟨xv,xo,xi,rfl,?_⟩;obtain⟨⟨ds,S2⟩,e2,e3⟩:=cB.mp e1;obtain⟨k2,u2,cJ,r2⟩:=G3 bI (.cons rv (.cons ri .nil)) e2;obtain⟨b,e4,e5⟩:=cB.mp e3;obtain⟨a,rfl,h4,h5⟩:=Di cJ (ro.up (u2 q)) e4;split at e5
      .rename_i hb
       obtain _|⟨dv,_|⟨di,_|⟨_,_⟩⟩⟩:=ds
       .cases e5
       .cases e5
       .obtain⟨b',e6,rfl⟩:=dm.mp e5;obtain⟨s1,s2⟩:=r2.inv;refine R7 cJ.le h4 s2 s1 e6 λo' h6=>?_
        obtain⟨nD,u5⟩:=h5 q b' _ C2 hb h6;exact bX.now (bX.up (bX.up w1 (u2 q)) u5) nD ((g1.up (u2 q)).up u5)
       .cases e5
      .cases e5
  .cases e1
 refine qd (vT t1) λv H1 h=>qd (vT h) λo H2 h=>qd (vT h) λi H3 h=>?_
 obtain⟨v',o',i',e,h⟩:=BS h;cases e;exact h
def e4k(he:PE X e (tE K W q fv))(ho:PE X o (tE K W q fo))(hi:PE X i (tE K W q fi))(hu:X.A.units+41<cLine)(hK:X.K=K)
  (ha:∀v,assign (.Subscript o i pos') X.env v=(do
   let ov <-holding [v] (eval o X.env)
   let iv <-holding [v,ov] (eval i X.env)
   standAt pos'
   holding [v,ov,iv] (setItem ov iv v)
   release [v,ov,iv] []))
  (hs:swapsWithSole [.Subscript o i pos'] e pos.line X.env=pure false) (hw:swappedStores [.Subscript o i pos'] e X.env=pure none)
  (h1:(assignEach [.Subscript o i pos'] X.env).map (·.2)=[assign (.Subscript o i pos') X.env]):PS X (.Assign [.Subscript o i pos'] e pos) (tS K W q (cx q fv fo fi)):=by
 subst hK;exact(e2a he (e1z ho hi (SD hu) ha) hs hw h1).mono λD Z H t=>e4j t
end
end L2
namespace L2
open PySem PySem.Spec PySem.W PyProof.Rows
section
variable{X:Cx}{K:Frag}{W:XW}{q:Nat}{pos:Pos}{aa:List (ag×Obj)}{Z:St}
def uF:PE X (.Dict [] [] pos) e4d:=λaa s Z H Q I h=>
 wpAny_Dict_empty ⟨.ref s.heap.objs.size,_,I.laid (a:=s.heap.objs.size) (o:=.dG [] 0) (t':=s.toks) (λ_ _ q=>c8 _ q) (bM _) (J6 s.heap I.big),rfl,h _ (I.bB.fresh (bM _))⟩
noncomputable def sx:GE:=λ_ S=>some (.ok (.o (.aB [])) S)
def tW:PE X (.Dict [] [] pos) (tE K W q sx):=uF.mono λZ H Q t p hp=>by
 obtain⟨k,U,S,res,ok,gk,e,w⟩:=t;cases e;exact lM.aB (.fin ok w) ok.le rfl .nil .nil hp
def qv(K:Frag)(F:Hp)(e:TK×V×V):Prop:=bo K F [e.2.1] [e.1.d]/\e.1.ok 8=true
def R8(K:Frag)(xl:List (TE×TE)):TE:=λZ H Q=>∀p,H p=none->Hg xl Z (upd H p (.dG [] 0)) λps H2=>(∃e0,H2 p=some (.dG [] e0))/\∃(F:Hp) (qs:List (TK×V×V)),F p=none/\aw F H2/\ps=qs.map (·.2)/\(∀e∈qs,qv K F e)/\qs.length<=15/\∀ep,Q (.ref p) (upd H2 p (.dG (eO [] qs) ep))
def X3{F:Hp}{qs:List (TK×V×V)}(h:∀e∈qs,qv K F e):∀{es:List (TK×V×V)},bo K F (es.map (·.2.1)) (es.map (·.1.d))->bo K F ((eO es qs).map (·.2.1)) ((eO es qs).map (·.1.d)):=λ{es} r=>OF K (λp m=>(h p m).1) r
theorem O9{A:cQ}{E:ai->au->Prop}{F H2:Hp}{p:ag}(hF:F p=none)(le:aw F H2)(hu:A.units+8<cLine){Q:Unit->au->Prop}:∀{qs:List (TK×V×V)} {ws:List (ai×ai)} {es:List (TK×V×V)} {ep:Nat} {s:au},VV (qs.map (·.2)) ws->(∀e∈qs,qv X.K F e)->bo X.K F (es.map (·.2.1)) (es.map (·.1.d))->es.length+qs.length<=1000->Inv X aa Z (upd H2 p (.dG es ep)) s->(∀ep s,Inv X aa Z (upd H2 p (.dG (eO es qs) ep)) s->Q () s)->
  wpAny (model X.prog X.w) A (forIn ws () λ(x:ai×ai) _=>do dictSet p x.1 x.2;pure (ForInStep.yield ())) Q E s
 |[],_,es,ep,s,v,_,_,_,I,h=>by
  rw[xG] at v;cases v;rw[List.forIn_nil];exact aV (h ep s I)
 |e::qs,_,es,ep,s,v,hk,r,hl,I,h=>by
  rw[bQ] at v;cases v with
  |cons rv v=>
   rw[List.forIn_cons];have sm:aw F (upd H2 p (.dG es ep)):=λb o z=>by rw[c_ (λy=>by rw[y,hF] at z;cases z)];exact le b o z
   have LJ:=hk e (.head _);rw[ju] at hl;refine ay (ay (JR (by lia) I ⟨es,ep,e.1,aJ,r.IA sm,LJ.1.IA sm,LJ.2,by rw[sizeLine_eq];lia,rfl⟩ rv.1 rv.2 λs' I'=>aV ?_))
   rw[ZM] at I';have HY:=Gd e.1 e.2.1 e.2.2 es;have e3:(eO es [e]).length=(dh es e.1 e.2.1 e.2.2).length:=rfl;exact O9 (es:=eO es [e]) hF le hu v (λe m=>hk e (.tail _ m)) (X3 (qs:=[e]) (λx m=>by cases lz.mp m;exact LJ) r) (by lia) I' h
def X4{keys:List (ak Expr)}{values:List Expr}{xl:List (TE×TE)}(h:Bk X pos keys values xl)(hu:X.A.units+41<cLine)(j5:keys.all (·.isSome)=true)(hl:keys.length=values.length)(h0:keys≠[])(Al:keys.length<=15):PE X (.Dict keys values pos) (R8 X.K xl):=by
 intro aa s Z H Q I q;have hn:=I.bB.fresh (bM s.heap.objs.size);have I1:=I.laid (a:=s.heap.objs.size) (o:=.dG [] 0) (h':=s.heap.push { cls:=.type "dict",data:=.dict #[]}) (t':=s.toks) (λ_ _ q=>c8 _ q) (bM _) (J6 s.heap I.big)
 have lp:∀(ks:List (ak Expr)) (vs:List Expr),ks.all (·.isSome)=true->ks.length=vs.length->(pairTrees ks vs X.env pos).length=ks.length:=by
  intro ks
  induction ks with
  |nil=>intro vs _ e;cases vs with
   |nil=>rfl
   |cons _ _=>cases e
  |cons k ks ih=>
   intro vs a e;rw[qr,eP] at a;cases k with
   |none=>cases a.1
   |some k=>cases vs with
    |nil=>cases e
    |cons v vs=>exact congrArg (·+1) (ih vs a.2 (Nat.succ.inj e))
 have Mi:=lp keys values j5 hl;rw[arm_eval_Dict,zip_pairTrees keys values X.env pos j5 hl,dictDisplay_pairs _ (λz=>h0 (List.eq_nil_of_length_eq_zero (by rw[<-Mi,z];rfl))) (by rw[Mi];lia)]
 refine ay (wpAny_standAt (ay ?_));unfold subDict;refine ay (wpAny_alloc (ay (lH ?_)));rw[aX (by rw[Mi];exact Al)]
 refine ay (bK (h aa _ Z _ _ I1 (q _ hn)) λws s2 hh=>?_)
 obtain⟨ps,H2,I2,rel,⟨e0,e⟩,F,qs,hF,le,ep,hk,hq,q2⟩:=hh;subst ep;refine lH (ay ?_);have eu:upd H2 s.heap.objs.size (.dG [] e0)=H2:=by
  funext b;by_cases z:b=s.heap.objs.size
  .rw[z,aJ,e]
  .rw[c_ z]
 refine O9 hF le (by show X.A.units+8<cLine;lia) rel hk .nil (by rw[Co];lia) (eu ▸ I2) λep s' I'=>?_
 exact aV (aV (aV ⟨.ref _,_,I',rfl,q2 ep⟩))
noncomputable def KG:List D->ak (List (TK×D))
 |[]=>some []
 |a::b::ds=>(k9 a).bind λj=>(KG ds).map λps=>(j,b)::ps
 |_=>none
def qI(g:GA):GE:=λU S=>bd (g U ⟨S.s++[.o (.aB [])],S.r⟩) λvs S1=>(rN vs S1).bind λz=>if z.2.s.length=S.s.length+1 then(match z.2.s[S.s.length]? with
 |some (.o (.aB []))=>(KG z.1).bind λps=>if ps.length<=15 then some (.ok (.o (.aB (ps.foldl (λkvs p=>bU kvs p.1 p.2) []))) ⟨z.2.s.take S.s.length,z.2.r⟩) else none
 |_=>none) else none
def BM:List (GE×GE)->GA
 |[]=>gN
 |p::r=>om p.1 (om p.2 (BM r))
noncomputable def t8:List (V×V)->List V
 |[]=>[]
 |p::r=>p.1::p.2::t8 r
noncomputable abbrev Iw(K:Frag)(W:XW)(q:Nat)(gs:List (GE×GE)):List (TE×TE):=gs.map λp=>(tE K W q p.1,tE K W q p.2)
def X5{gs:List (GE×GE)}:∀{H:Hp} {Q:List (V×V)->Hp->Prop},gq K W q (BM gs) Z H (λxs H2=>∀ps,t8 ps=xs->Q ps H2)->Hg (Iw K W q gs) Z H Q:=by
 induction gs with
 |nil=>intro H Q t;exact BS t [] rfl
 |cons p gs ih=>intro H Q t;exact qd (vT t) λx H1 t=>qd (vT t) λy H2 t=>ih (qd t λxs H3 h ps e=>h _ (by rw[<-e];rfl))
theorem QV{k:Kn}:∀{ps:List (V×V)} {ds:List D} {es:List (TK×D)},KG ds=some es->ah K k (t8 ps) ds->∃qs:List (TK×V×V),ps=qs.map (·.2)/\(∀e∈qs,qv K k.F e)/\Paired (tq K k) qs es
 |[],ds,es,e,r=>by
  cases ds with
  |nil=>cases e;exact⟨[],rfl,(λ_ m=>nomatch m),.nil⟩
  |cons _ _=>have:=r.length;cases this
 |p::ps,ds,es,e,r=>by
  cases ds with
  |nil=>have:=r.length;cases this
  |cons a ds=>cases ds with
   |nil=>have:=r.length;cases this
   |cons b ds=>
    obtain⟨j,q1,e⟩:=cB.mp e;obtain⟨ps',q2,rfl⟩:=dm.mp e;obtain⟨r1,r⟩:=ah.inv r;obtain⟨r2,r⟩:=ah.inv r;obtain⟨qs,h1,h2,h3⟩:=QV q2 r;have rk:ah K k [p.1] [j.d]:=by rw[(BK q1).1];exact r1
    refine⟨(j,p.1,p.2)::qs,by rw[h1];rfl,λe m=>?_,.cons ⟨rfl,rk,r2⟩ h3⟩
    rcases y04.mp m with rfl|m
    .exact⟨uv (k:=k) j rk,(BK q1).2⟩
    .exact h2 e m
def WA{α:Type}{l:List α}{n:Nat}{p:α}(h:l.length=n+1)(e:l[n]?=some p):l=l.take n++[p]:=by
 conv=>lhs;rw[<-List.take_append_drop n l]
 congr 1
 obtain⟨hn,e⟩:=eQ.mp e;rw[Nz hn,e,ID (by lia)]
def d8j{gs:List (GE×GE)}{H:Hp}{Q:VK}(t:tE K W q (qI (BM gs)) Z H Q):R8 K (Iw K W q gs) Z H Q:=by
 intro p hp;obtain⟨k,U,S,res,ok,gk,e,w⟩:=t;have sm:aw H (upd H p (.dG [] 0)):=tJ hp;obtain⟨fx,nx⟩:=ok.fresh hp;have cJ:bY K k _ S:=ok.new (aw.refl _) (λa _ o z=>sm a o z) (ok.le.trans sm) λ_ _ z=>z
 obtain⟨j6,u3⟩:=cJ.pushS (b:=.aB []) fx nx ⟨[],0,aJ,rfl,.nil,.nil⟩;have u4:Up q k H ⟨k.F,k.A,k.T++[p]⟩ (upd H p (.dG [] 0)):=(Up.of (aw.refl _) sm).trans (u3 q);refine X5 ?_;refine tX.bd (R':=RE K) (Q':=Q) j6 (gk.up u4) e (w.up u4) λvs S1 xs k1 H1 bI g1 r1 e1 w1 u1 ps0 e0=>?_
 subst e0;obtain⟨z,e2,e1⟩:=cB.mp e1;obtain⟨k2,u2,nD,r5⟩:=G3 bI r1 e2;split at e1
 .rename_i hl
  split at e1
  .rename_i hc
   obtain⟨ps,e3,e1⟩:=cB.mp e1;split at e1
   .rename_i Al
    cases e1;have ep:k2.T[S.s.length]?=some p:=Hh (u2 q).t (Hh u1.t (by rw[<-ok.s.ln];exact G1))
    obtain⟨hF,es,e0,hH,hk,_,_⟩:=nD.s.at' _ _ _ ep hc;cases es with
    |cons _ _=>cases hk
    |nil=>
     obtain⟨qs,h1,h2,h3⟩:=QV e3 r5;have hlT:k2.T.length=S.s.length+1:=nD.s.ln.trans hl;have eT:=WA hlT ep;have np:p∉k2.A++k2.T.take S.s.length:=by
      have nd:=nD.nd;rw[eT,<-l0] at nd;exact λm=>(jS.mp nd).2.2 p m p (List.mem_singleton_self _) rfl
     refine⟨⟨e0,hH⟩,k2.F,qs,hF,nD.le,h1,h2,by rw[Paired.length h3];exact Al,λqf=>?_⟩
     obtain⟨o1,o2,o3⟩:=QU h3 (ws:=[]) (kvs:=[]) rfl .nil .nil;have ho:l9 H1 (upd H1 p (.dG (eO [] qs) qf)) p:=C2;have Mq:=nD.take S.s.length;have ok7:bY K ⟨k2.F,k2.A,k2.T.take S.s.length⟩ (upd H1 p (.dG (eO [] qs) qf)) ⟨z.2.s.take S.s.length,z.2.r⟩:=Mq.new (aw.refl _) (λa m o y=>by rw[ho a λy=>np (y ▸ m)];exact y) (λb o y=>by rw[ho b λy'=>by rw[y',hF] at y;cases y];exact nD.le b o y) λ_ _ y=>y
     have uu:=u4.trans (u1.trans (u2 q));refine w (.ref p) ⟨k2.F,k2.A,k2.T.take S.s.length⟩ _ ⟨uu.f,uu.a,Pz uu.t (FH ok.s.ln),λa o y1 y2=>?_⟩ ok7 ⟨p,rfl,hF,np,_,qf,aJ,o1,ah.mono (k:=k2) ⟨aw.refl k2.F,lZ k2.A⟩ o2,ah.mono (k:=k2) ⟨aw.refl k2.F,lZ k2.A⟩ o3⟩
     rw[ho a λy=>by rw[y,hp] at y2;cases y2]
     exact uu.h a o y1 y2
   .cases e1
  .cases e1
 .cases e1
def d8k{keys:List (ak Expr)}{values:List Expr}{gs:List (GE×GE)}(hK:X.K=K)(h:Bk X pos keys values (Iw K W q gs))(hu:X.A.units+41<cLine)(j5:keys.all (·.isSome)=true)(hl:keys.length=values.length)(h0:keys≠[])(Al:keys.length<=15):PE X (.Dict keys values pos) (tE K W q (qI (BM gs))):=(X4 h hu j5 hl h0 Al).mono λZ H Q t=>by
 rw[hK];exact d8j t
end
end L2
namespace L2
open PySem PySem.Spec PyProof.Rows
variable{a_:Str}{Z:St}{H:Hp}{Q:Str->Hp->Prop}
noncomputable def nu:D->ak Rv
 |.str x=>if x.length<=1000000 then some (rd (.str x)) else none
 |.int i=>if i.natAbs.log2<1920 then some (rd (.str (Str.ofString (toString i)))) else none
 |_=>none
def MI:V->Hp->VK->Prop:=λx H Q=>(∃z:Str,x=.str z/\z.length<=sizeLine/\Q (.str z) H)\/∃i:Int,x=.int i/\i.natAbs.log2<1920/\Q (.str (Str.ofString (toString i))) H
abbrev TJ:=Str->St->Hp->(Str->Hp->Prop)->Prop
def yX:TJ:=λa_ _ H Q=>Q a_ H
def R9(te:TE)(tj:TJ):TJ:=λa_ Z H Q=>te Z H λx H1=>∃y,x=.str y/\(a_++y).length<=sizeLine/\tj (a_++y) Z H1 Q
def PJ(X:Cx)(es:List Expr)(tj:TJ):Prop:=∀(a_:Str) (aa:List (ag×Obj)) (s:au) (Z:St) (H:Hp) (Q:Str->Hp->Prop) (R:Str->au->Prop),Inv X aa Z H s->tj a_ Z H Q->a_.length<=sizeLine->
 (∀out s' H',out.length<=sizeLine->Inv X aa Z H' s'->Q out H'->R out s')->Joins (model X.prog X.w) X.A X.xe (evalEach es X.env) a_ R s
abbrev GJ:=Str->Gx Str
noncomputable def kX:GJ:=λa_ _ S=>some (.ok a_ S)
noncomputable def Rv.str:Rv->ak Str
 |.v (.d (.str i))=>some i
 |_=>none
noncomputable def nU(f:GE)(j:GJ):GJ:=λa_ U S=>bd (f U S) λr S1=>r.str.bind λy=>if(a_++y).length<=1000000 then j (a_++y) U S1 else none
noncomputable def zH(j:GJ):GE:=λU S=>bd (j Str.empty U S) λz S1=>some (.ok (rd (.str z)) S1)
abbrev RS:Rp Str Str:=λ_ _ b a=>b=a
section
variable{X:Cx}{K:PySem.W.Frag}{W:XW}{q:Nat}{f:GE}{e v:Expr}{es:List Expr}{j:GJ}{pos:Pos}{te:TE}{tj:TJ}
def Rv.A6{r:Rv}{i:Str}(h:r.str=some i):r=rd (.str i):=by
 unfold Rv.str at h;split at h
 .cases h;rfl
 .cases h
def e4l:bZ K (MG MI) (o1 nu):=wM λk H x a y Q le t e res=>by
 unfold nu at e;split at e
 .split at e
  .cases e;cases t.flat rfl;exact⟨_,rfl,.inl ⟨_,rfl,ml (by assumption),res.flat le rfl⟩⟩
  .cases e
 .split at e
  .cases e;cases t.flat rfl;exact⟨_,rfl,.inr ⟨_,rfl,by assumption,res.flat le rfl⟩⟩
  .cases e
 .cases e
def DL(h:PE X v (tE K W q f)):PE X (.FormattedValue v (-1) none pos) (tE K W q (gO (o1 nu) (br f))):=by
 intro aa s Z H Q I t;refine wpAny_FormattedValue_plain (bK (h aa s Z H _ I (Ld (v5 e4l t))) λu s1 ⟨x,H1,I1,r1,q1⟩=>?_)
 rcases q1 with⟨z,rfl,hz,q⟩|⟨i,rfl,hi,q⟩
 .obtain⟨t',rfl⟩:=r1;exact PyProof.Rows.formatField_str (λt2 tk=>⟨.str z,H1,I1.tok _,⟨_,rfl⟩,q⟩) hz
 .obtain⟨t',rfl⟩:=r1;exact wpAny_formatField_int hi ⟨.str _,H1,I1.tok _,⟨_,rfl⟩,q⟩
def e4m:PJ X [] yX:=λa_ aa s Z H Q R I t hl hR=>Joins_nil (hR _ _ _ hl I t)
def d8l(he:PE X e te)(hj:PJ X es tj):PJ X (e::es) (R9 te tj):=λa_ aa s Z H Q R I t hl hR=>
 Joins_cons (bK (he aa s Z H _ I t) λu s1 ⟨x,H1,I1,r1,y,hy,HX,q1⟩=>by
  subst hy;obtain⟨t,rfl⟩:=r1;exact⟨y,t,rfl,HX,hj (a_++y) aa s1 Z H1 Q R I1 q1 HX hR⟩)
def d8m(t:tX RS K W q (kX a_) Z H Q):yX a_ Z H Q:=DG t λ_ _=>rfl
def X6(hj:∀a_ Z H Q,tX RS K W q (j a_) Z H Q->tj a_ Z H Q)(t:tX RS K W q (nU f j a_) Z H Q):R9 (tE K W q f) tj a_ Z H Q:=by
 obtain⟨k,U,S,res,ok,gk,e,w⟩:=t;refine tX.bd ok gk e w λr S1 x k1 H1 bI g1 r1 e1 w1 _=>?_
 obtain⟨y,e2,e3⟩:=cB.mp e1;cases Rv.A6 e2;split at e3
 .exact⟨y,(show ah K k1 [x] [.str y] from r1).bc rfl,ml (by assumption),hj _ _ _ _ ⟨k1,U,S1,res,bI,g1,e3,w1⟩⟩
 .cases e3
def WB{v1 v2:Expr}{rest:List Expr}(h:PJ X (v1::v2::rest) tj)(hj:∀a_ Z H Q,tX RS K W q (j a_) Z H Q->tj a_ Z H Q):PE X (.JoinedStr (v1::v2::rest) pos) (tE K W q (zH j)):=by
 intro aa s Z H Q I t;refine wpAny_JoinedStr (h Str.empty aa s Z H (λout H'=>Q (.str out) H') _ I (hj _ _ _ _ ?_) (mU _) λout s' H' h1 I' hQ=>⟨h1,.str out,H',I'.tok _,⟨_,rfl⟩,hQ⟩)
 obtain⟨k,U,S,res,ok,gk,e,w⟩:=t;refine tX.bd ok gk e w λz S1 z' k1 H1 bI g1 r1 e1 w1 _=>?_
 cases e1;cases r1;exact w1.now bI (show ah K k1 [_] [_] from .flat rfl .nil)
end
variable{S:aO}{n:Nat}{op:Operator}{h:Int->Int->Int}
def kr(K:PySem.W.Frag)(atr:List (ag×Str)):Prop:=∀p∈atr,pU K p.1/\fM K p.1 p.2
noncomputable def uk(S:aO)(n:Nat):ak (ag×List (Str×D)):=(S.r[n]?).bind λc=>match c with
 |.ins C fs=>some (C,fs)
 |_=>none
def Ha{p:ag×List (Str×D)}(h:uk S n=some p):S.r[n]?=some (.ins p.1 p.2):=by
 obtain⟨c,h1,h2⟩:=cB.mp h;cases c <;> cases h2;exact h1
def bx(atr:List (ag×Str))(g:Str)(f:GE):GE:=λU S=>bd (f U S) λr S1=>r.ref.bind λn=>(uk S1 n).bind λp=>if atr.contains (p.1,g)=true then(p.2.lookup g).map λd=>.ok (rd d) S1 else none
noncomputable def fU(f:Str)(v:D):List (Str×D)->List (Str×D)
 |[]=>[(f,v)]
 |(g,x)::r=>if g=f then(g,v)::r else(g,x)::fU f v r
section
variable{X:Cx}{K:PySem.W.Frag}{W:XW}{q:Nat}{atr:List (ag×Str)}{g:Str}{f fv fo fe fi:GE}{e o value i:Expr}{pos pos' fE:Pos}{Z:St}{H:Hp}
theorem J8{k:Kn}{g:Str}{d:D}:∀{gs:List (Str×V)} {fs:List (Str×D)},gs.map (·.1)=fs.map (·.1)->ah K k (gs.map (·.2)) (fs.map (·.2))->fs.lookup g=some d->∃v,gs.lookup g=some v/\ah K k [v] [d]
 |[],[],_,_,e=>nomatch e
 |(x,v)::gs,(y,c)::fs,h,r,e=>by
  obtain⟨h1,h2⟩:=List.cons.inj (show x::gs.map (·.1)=y::fs.map (·.1) from h)
  obtain⟨a1,a2⟩:=ah.inv r;subst h1;rw[r_] at e ⊢;split at e
  .cases e;exact⟨v,rfl,a1⟩
  .exact J8 h2 a2 e
 |[],_::_,h,_,_=>nomatch h
 |_::_,[],h,_,_=>nomatch h
theorem PU{k:Kn}{g:Str}{v:V}{d:D}(rv:ah K k [v] [d]):∀{gs:List (Str×V)} {fs:List (Str×D)},gs.map (·.1)=fs.map (·.1)->ah K k (gs.map (·.2)) (fs.map (·.2))->(dI g v gs).map (·.1)=(fU g d fs).map (·.1)/\ah K k ((dI g v gs).map (·.2)) ((fU g d fs).map (·.2))
 |[],[],_,_=>⟨rfl,rv⟩
 |(x,w)::gs,(y,c)::fs,h,r=>by
  obtain⟨h1,h2⟩:=List.cons.inj (show x::gs.map (·.1)=y::fs.map (·.1) from h)
  obtain⟨a1,a2⟩:=ah.inv r;subst h1;unfold dI fU;split
  .exact⟨congrArg (List.cons x) h2,.cons rv a2⟩
  .obtain⟨c1,c2⟩:=PU rv h2 a2;exact⟨congrArg (List.cons x) c1,.cons a1 c2⟩
 |[],_::_,h,_=>nomatch h
 |_::_,[],h,_=>nomatch h
def e4n(ha:kr K atr)(he:PE X e (tE K W q f))(hb:attributeBase e g X.env (eval e X.env)=eval e X.env)(hK:X.K=K):PE X (.Attribute e g pos) (tE K W q (bx atr g f)):=by
 subst hK;refine(e2j he hb).mono λZ H Q t=>?_
 obtain⟨k,U,S,res,ok,gk,e,w⟩:=t;refine tX.bd ok gk e w λr S1 x k1 H1 bI g1 r1 e1 w1 _=>?_
 obtain⟨n,e2,e3⟩:=cB.mp e1;cases Rv.nJ e2;obtain⟨p,e4,e5⟩:=cB.mp e3;split at e5
 .rename_i hc
  obtain⟨h1,h2⟩:=ha _ (jv.mp hc);obtain⟨d,e6,rfl⟩:=dm.mp e5;obtain⟨a,dx,gs,rfl,h3,h4,h5,h6,h7⟩:=Dt bI r1 (Ha e4);obtain⟨v,h8,h9⟩:=J8 h6 h7 e6;exact⟨a,_,dx,gs,v,rfl,h5,h1,h2,h8,w1.now bI h9⟩
 .cases e5
def bY.E1{k:Kn}{a C dx:ag}{gs:List (Str×V)}{fs:List (Str×D)}{v:V}{d:D}(ok:bY K k H S)(hA:k.A[n]?=some a)(hF:k.F a=none)(h5:H a=some (.ins C dx gs))(h6:gs.map (·.1)=fs.map (·.1))(h7:ah K k (gs.map (·.2)) (fs.map (·.2)))(rv:ah K k [v] [d])(hq:Nat.ble q 1=true):
  bY K k (upd H a (.ins C dx (dI g v gs))) ⟨S.s,S.r.set n (.ins C (fU g d fs))⟩/\Up q k H k (upd H a (.ins C dx (dI g v gs))):=by
 obtain⟨c1,c2⟩:=PU (g:=g) rv h6 h7;refine ok.E2 hA C2 hF (λo z=>?_) ⟨hF,dx,_,aJ,c1,c2⟩
 rw[h5] at z;cases z;have:=Bd hq
 match q,this with
 |0,_=>rfl
 |1,_=>rfl
def fm(q:Nat)(atr:List (ag×Str))(g:Str)(fv fo:GE):GS:=λU S=>lC U (fv U S) λr1 S1=>lC U (fo U S1) λr2 S2=>(qg S2 (nP r1)).bind λz=>r2.ref.bind λn=>(uk z.2 n).bind λp=>if(atr.contains (p.1,g)&&Nat.ble q 1&&Nat.blt p.2.length 1000)=true then some (.nx U ⟨z.2.s,z.2.r.set n (.ins p.1 (fU g z.1 p.2))⟩) else none
def e4o(ha:kr K atr)(ho:PE X o (tE K W q fo))(hv:PE X value (tE K W q fv))(hs:swapsWith value (some (.Attribute o g pos')) pos.line X.env=pure false)(hK:X.K=K):PS X (.Assign [.Attribute o g pos'] value pos) (tS K W q (fm q atr g fv fo)):=by
 subst hK;refine(e2k ho hv hs).mono λD Z H t=>?_
 obtain⟨k,U,S,fr,ok,gk,e,w⟩:=t;refine tS.bd ok gk e w λr1 S1 y k1 H1 bI g1 q1 e1 w1=>?_
 obtain⟨k2,u2,cJ,q2⟩:=sv bI q1;refine tS.DD cJ (g1.up (u2 q)) e1 (w1.up (u2 q)) λr2 S2 x k3 H3 j6 g3 r3 e2 w3 u3=>?_
 obtain⟨⟨d,S3⟩,e3,e4⟩:=cB.mp e2;obtain⟨k4,u4,rX,r4⟩:=G2 j6 (q2.up u3) e3;obtain⟨n,e5,e6⟩:=cB.mp e4;cases Rv.nJ e5;obtain⟨p,e7,e8⟩:=cB.mp e6;split at e8
 .rename_i hc
  cases e8;simp only[eP] at hc;obtain⟨⟨HR,uf⟩,LC⟩:=hc;obtain⟨h1,h2⟩:=ha _ (jv.mp HR);obtain⟨a,dx,gs,rfl,h3,h4,h5,h6,h7⟩:=Dt rX (ah.mono (u4 q).le r3) (Ha e7);have hl:gs.length<1000:=by
   have:=h7.length;rw[bh,bh] at this;rw[this];exact Bd LC
  obtain⟨nD,u5⟩:=rX.E1 (g:=g) h3 h4 h5 h6 h7 r4 uf;exact⟨a,_,dx,gs,rfl,h5,h1,h2,hl,bX.now (bX.up w3 ((u4 q).trans u5)) nD (g3.up ((u4 q).trans u5))⟩
 .cases e8
def KH(q:Nat)(h:Int->Int->Int)(atr:List (ag×Str))(g:Str)(fo fe:GE):GS:=λU S=>lC U (fo U S) λr S1=>r.ref.bind λn=>(uk S1 n).bind λp=>if atr.contains (p.1,g)=true then(match p.2.lookup g with
 |some (.int a)=>lC U (fe U S1) λr2 S2=>r2.int.bind λb=>(uk S2 n).bind λp2=>if(p2.1 == p.1&&Nat.ble q 1&&Nat.blt p2.2.length 1000)=true then some (.nx U ⟨S2.s,S2.r.set n (.ins p2.1 (fU g (.int (h a b)) p2.2))⟩) else none
 |_=>none) else none
def d8n(Au:zo X op λx y H Q=>∃i j,x=.int i/\y=.int j/\Q (.int (h i j)) H)(ha:kr K atr)(ho:PE X o (tE K W q fo))(hv:PE X value (tE K W q fe))(hK:X.K=K):PS X (.AugAssign (.Attribute o g fE) op value pos) (tS K W q (KH q h atr g fo fe)):=by
 subst hK;refine(VW ho hv Au).mono λD Z H t=>?_
 obtain⟨k,U,S,fr,ok,gk,e,w⟩:=t;refine tS.bd ok gk e w λr S1 x k1 H1 bI g1 r1 e1 w1=>?_
 obtain⟨n,e2,e3⟩:=cB.mp e1;cases Rv.nJ e2;obtain⟨p,e4,e5⟩:=cB.mp e3;split at e5
 case isFalse=>cases e5
 rename_i hc
 obtain⟨h1,h2⟩:=ha _ (jv.mp hc);obtain⟨a,dx,gs,rfl,h3,h4,h5,h6,h7⟩:=Dt bI r1 (Ha e4);split at e5
 case h_2=>cases e5
 rename_i iv hl
 obtain⟨v,h8,h9⟩:=J8 h6 h7 hl;cases h9.bc rfl;refine⟨a,_,dx,gs,_,rfl,h5,h1,h2,h8,tS.DD bI g1 e5 w1 λr2 S2 y k2 H2 cJ g2 q2 e6 w2 u2=>?_⟩
 obtain⟨b,e7,e8⟩:=cB.mp e6;cases Rv.jo e7;cases(show ah X.K k2 [y] [.int b] from q2).bc rfl;obtain⟨p2,e9,Lc⟩:=cB.mp e8;split at Lc
 case isFalse=>cases Lc
 rename_i hc
 cases Lc;simp only[eP,beq_iff_eq] at hc;obtain⟨⟨HR,uf⟩,LC⟩:=hc;obtain⟨a',dx2,jM,z,h3',h4',SW,h6',SX⟩:=Dt cJ (ah.mono u2.le r1) (Ha e9);cases z;have hl:jM.length<1000:=by
  have:=SX.length;rw[bh,bh] at this;rw[this];exact Bd LC
 obtain⟨nD,u5⟩:=cJ.E1 (g:=g) (v:=.int (h iv b)) (d:=.int (h iv b)) h3' h4' SW h6' SX (.flat rfl .nil) uf;exact⟨_,_,rfl,rfl,dx2,jM,HR ▸ SW,hl,HR ▸ bX.now (bX.up w2 u5) nD (g2.up u5)⟩
def KI(q:Nat)(h:Int->Int->Int)(fo fi fe:GE):GS:=λU S=>lC U (fo U S) λr1 S1=>lC U (fi U S1) λr2 S2=>(match nP r2,rO S2 (nP r1) with
 |.d di,some (.aB kvs)=>(k9 di).bind λj=>(match aT kvs j with
  |some (.int a)=>lC U (fe U S2) λr3 S3=>r3.int.bind λb=>(rO S3 (nP r1)).bind λc=>if c.mb q=true then(match c with
   |.aB uy=>if uy.length<1000000 then some (.nx U (setB S3 (.aB (bU uy j (.int (h a b)))) (nP r1))) else none
   |_=>none) else none
  |_=>none)
 |_,_=>none)
def X7(hu:X.A.units+41<cLine):CB X (λo i H Q=>∃a v,o=.ref a/\g8 X.K H a i (some v)/\Q v H):=by
 intro aa s Z H o i ov iv Q I ro ri h;obtain⟨p,v,rfl,g,q⟩:=h;cases ro;exact O4 (by lia) I g ri λw' s3 I3 nO=>⟨v,H,I3,nO,q⟩
def d8o(Au:FQ X op (L5 h))(ho:PE X o (tE K W q fo))(hi:PE X i (tE K W q fi))(hv:PE X value (tE K W q fe))(hu:X.A.units+41<cLine)(hK:X.K=K)
  (ha:∀ov iv new,augStore i ov iv new=(do holding [new,ov,iv] (setItem ov iv new);release [new,ov,iv] [];pure .next)):PS X (.AugAssign (.Subscript o i fE) op value pos) (tS K W q (KI q h fo fi fe)):=by
 subst hK;refine(ZT ho hi (X7 hu) hv Au (SD hu) ha).mono λD Z H t=>?_
 obtain⟨k,U,S,fr,ok,gk,e,w⟩:=t;refine tS.bd ok gk e w λr1 S1 x k1 H1 bI g1 q1 e1 w1=>?_
 obtain⟨k2,u2,cJ,q2⟩:=sv bI q1;refine tS.DD cJ (g1.up (u2 q)) e1 (w1.up (u2 q)) λr2 S2 y k3 H3 j6 g3 r3 e2 w3 u3=>?_
 obtain⟨k4,u4,rX,q4⟩:=sv j6 r3;have q5:=(q2.up u3).up (u4 q);split at e2
 case h_2=>cases e2
 rename_i di kvs hd hg
 rw[hd] at q4;obtain⟨j,e3,e4⟩:=cB.mp e2;obtain⟨a,rfl,hb,_⟩:=Di rX q5 hg;split at e4
 case h_2=>cases e4
 rename_i iv El
 have tp:Top X.K k4 H3 (.ref a) (.aB kvs):=.inr ⟨a,.aB kvs,rfl,rfl,hb⟩;obtain⟨p,o,z,g,hh⟩:=xy rX.le tp (.inl q4) e3;cases z;rcases hh with⟨_,z⟩|⟨v,d,rfl,z,rv⟩
 .rw[El] at z;cases z
 rw[El] at z;cases z;cases rv.bc rfl;refine⟨a,_,rfl,g,tS.DD rX (g3.up (u4 q)) e4 (w3.up (u4 q)) λr5 S5 y5 k5 H5 nD g5 q6 e5 w5 u5=>?_⟩
 obtain⟨b,e6,e7⟩:=cB.mp e5;cases Rv.jo e6;cases(show ah X.K k5 [y5] [.int b] from q6).bc rfl;obtain⟨c,e8,e9⟩:=cB.mp e7;obtain⟨a',z,kf,Nh⟩:=Di nD (q5.up u5) e8;cases z;split at e9
 case isFalse=>cases e9
 rename_i hm
 cases c with
 |lst _=>cases e9
 |aB uy=>
  dsimp only at e9;split at e9
  case isFalse=>cases e9
  rename_i hl
  cases e9;refine⟨_,_,rfl,rfl,R7 (b:=.aB uy) (dv:=.int (h iv b)) (di:=di) (b':=.aB (bU uy j (.int (h iv b)))) nD.le kf ((show cT X.K k4 y (.d di) from q4).up u5) (.flat rfl .nil) ?_ λo' h6=>?_⟩
  .unfold w9;dsimp only;rw[e3,vE,aX hl]
  .obtain⟨Mq,u6⟩:=Nh q _ _ C2 hm h6;exact bX.now (bX.up w5 u6) Mq (g5.up u6)
end
end L2
namespace L2
open PySem PySem.Spec PySem.W PyProof.Rows
variable{k k':Int->Int->Bool}{op:CmpOp}{j:GJ}{T:String}{m:Str}
def cw.le{k k':Nat}{A:PySem.Around}(h:cw k A)(e:k'<=k:=by decide):cw k' A:=h.mono e
def wR{X:Cx}:eR X W0:=λ_ _ _ _ _ _ _ _ _ _ _ z=>z.elim
def Ce:List Str->Bool
 |[]=>true
 |x::l => !l.contains x&&Ce l
theorem Ht:∀{l:List Str},Ce l=true->l.Nodup
 |[],_=>.nil
 |x::l,h=>by
  obtain⟨h1,h2⟩:=Cq.mp h;rw[Bool.not_eq_true',<-Bool.not_eq_true,jv] at h1;exact qo.mpr ⟨h1,Ht h2⟩
section
variable{X:Cx}{K:Frag}{W:XW}{q:Nat}{a b c e o:Expr}{es rest:List Expr}{f g h:GE}{fs:GA}{ft fu:GT}{pos p apos bN:Pos}{x:Str}
def xv(i:Nat)(hN:X.N[i]?=some x)(hv:FV X.env.scope x)(hd:(x == ("__debug__":Str))=false)(rP:(x == ("__classdict__":Str))=false):PE X (.Name x pos) (tE K W q (uc i)):=e2v (RC hN hv hd rP)
def xi{i:Int}{j}:PE X (.Constant (.int i) j pos) (tE K W q (gC (.int i))):=Aa e1q
def xs{i:Str}{j}:PE X (.Constant (.str i) j pos) (tE K W q (gC (.str i))):=Aa e1s
def xb{i:Bool}{j}:PE X (.Constant (.bool i) j pos) (tE K W q (gC (.bl i))):=Aa e7v
def xn{j}:PE X (.Constant .none j pos) (tE K W q (gC .aI)):=Aa e1r
def xty{n:String}(hm:X.mg x=none)(hv:bootBuiltins x=some (.type n))(hg:Gl X x)(hn:x≠"__name__")(hd:(x == ("__debug__":Str))=false):PE X (.Name x pos) (tE K W q (gC (.ty n))):=Aa (e8d hg hm hv hn hd)
def pT(K:Frag)(op:Operator)(o:List D->ak Rv):Prop:=∀X:Cx,X.K=K->∃r,dF X (binaryOp op) r/\bZ K (nI r) o
def Nl:pT K .Add (o2 vZ):=λX h=>⟨_,d7o K h,e3p⟩
def Nq:pT K .Sub (o2 (dX vz λi j=>.int (i - j))):=λX h=>⟨_,e2e,e3q⟩
def Nn:pT K .Mult (o2 wI):=λX h=>⟨_,d7q,e3t⟩
def Fz:pT K .FloorDiv (o2 (dX (λ_ j=>decide (0<j/\j<1073741824)) λi j=>.int (i / j))):=λX h=>⟨_,ZV,d7p⟩
def Nm:pT K .Mod (o2 (dX (λ_ j=>decide (0<j)) λi j=>.int (i%j))):=λX h=>⟨_,e2f,e3r⟩
def Np:pT K .Pow (o2 (dX (λi j=>decide (0<=j/\j<=1000000/\i.natAbs<2^64)) λi j=>.int (i^j.toNat))):=λX h=>⟨_,e2g,e3s⟩
def xo{op:Operator}{o:List D->ak Rv}(c:pT K op o)(ha:PE X a (tE K W q f))(hb:PE X b (tE K W q g))(hK:X.K=K):PE X (.BinOp a op b pos) (tE K W q (gO o (cz f g))):=by
 obtain⟨r,h1,h2⟩:=c X hK;exact e8f h1 h2 ha hb
def Nt(ha:PE X a (tE K W q f)):PE X (.UnaryOp .USub a pos) (tE K W q (gO (o1 wK) (br f))):=e8g e2h e3u ha
def ku(K:Frag)(op:CmpOp)(o:List D->ak Rv):Prop:=∀X:Cx,X.K=K->X.A.units+41<cLine->∃r,dF X (compareOp op) r/\bZ K (nI r) o
def XA:ku K .Eq (o2 (yg false)):=λX h u=>⟨_,e3y K (by lia) h,e8i⟩
def XG:ku K .NotEq (o2 (yg true)):=λX h u=>⟨_,e3w K (by lia) h,e8j⟩
def XF:ku K .Lt (o2 (dX vz λi j=>.bl (decide (i<j)))):=λX h u=>⟨_,yJ,KC⟩
def XE:ku K .LtE (o2 (dX vz λi j=>.bl (decide (i<=j)))):=λX h u=>⟨_,yI,KC⟩
def XB:ku K .Gt (o2 (dX vz λi j=>.bl (decide (j<i)))):=λX h u=>⟨_,e8a,KC⟩
def XC:ku K .In (o2 (B9 false)):=λX h u=>⟨_,e3z K u h,Sz false⟩
def K3:ku K .NotIn (o2 (B9 true)):=λX h u=>⟨_,Wl K u h,Sz true⟩
def XD:ku K .Is (o2 (B_ false)):=λX h u=>⟨_,e4b,SA false⟩
def K2:ku K .IsNot (o2 (B_ true)):=λX h u=>⟨_,d7t,SA true⟩
def xc{o:List D->ak Rv}(c:ku K op o)(ha:PE X a (tE K W q f))(hb:PE X b (tE K W q g))(hu:X.A.units+41<cLine)(hK:X.K=K)(hm:behindInMarks op b=false):PE X (.Compare a [op] [b] pos) (tE K W q (gO o (cz f g))):=by
 obtain⟨r,h1,h2⟩:=c X hK hu;exact e2w h1 h2 ha hb hm
def yc{o:List D->ak Rv}(c:ku K op o)(ha:PE X a (tE K W q f))(hb:PE X b (tE K W q g))(hu:X.A.units+41<cLine)(hK:X.K=K)(hm:behindInMarks op b=false):PT X (.Compare a [op] [b] pos) (tT K W q (gB (gO o (cz f g)))):=by
 obtain⟨r,h1,h2⟩:=c X hK hu;exact SQ (ZX h1 ha hb hm) λ_ _ _ t=>HF (v5 h2 t)
noncomputable def KJ(c c':Int->Int->Bool)(f g h:GE):GE:=λU S=>bd (f U S) λr1 S1=>bd (g U S1) λr2 S2=>r1.int.bind λi=>r2.int.bind λj=>if c i j=true then bd (h U S2) λr3 S3=>r3.int.map λl=>.ok (rd (.bl (c' j l))) S3 else some (.ok (rd (.bl false)) S2)
def X8{Z:St}{H:Hp}{Q:VK}(t:tE K W q (KJ k k' f g h) Z H Q):RG (qV λi j=>.bl (k i j)) (qV λi j=>.bl (k' i j)) (tE K W q f) (tE K W q g) (tE K W q h) Z H Q:=by
 obtain⟨n,U,S,res,ok,gk,e,w⟩:=t;refine tX.bd ok gk e w λr1 S1 x k1 H1 bI g1 q1 e1 w1 _=>tX.bd bI g1 e1 w1 λr2 S2 y k2 H2 cJ g2 q2 e2 w2 _=>?_
 obtain⟨i,h1,e3⟩:=cB.mp e2;obtain⟨j,h2,e4⟩:=cB.mp e3;cases Rv.jo h1;cases Rv.jo h2;cases(show ah K k1 [x] [.int i] from q1).bc rfl;cases(show ah K k2 [y] [.int j] from q2).bc rfl;refine⟨i,j,rfl,rfl,k i j,rfl,?_⟩;split at e4
 .rename_i hk
  rw[hk];refine uq (tX.bd cJ g2 e4 w2 λr3 S3 z k3 H3 j6 g3 q3 e5 w3 _=>?_)
  obtain⟨l,h3,rfl⟩:=dm.mp e5;cases Rv.jo h3;cases(show ah K k3 [z] [.int l] from q3).bc rfl;exact⟨_,_,rfl,rfl,w3.now j6 (show ah K k3 [_] [_] from .flat rfl .nil)⟩
 .rename_i hk
  cases e4;rw[Bool.not_eq_true] at hk;rw[hk];exact uo (w2.now cJ (show ah K k2 [_] [_] from .flat rfl .nil))
def ych{AK:CmpOp}(h1:∀X:Cx,dF X (compareOp op) (qV λi j=>.bl (k i j)))(h2:∀X:Cx,dF X (compareOp AK) (qV λi j=>.bl (k' i j)))(ha:PE X a (tE K W q f))(hb:PE X b (tE K W q g))(hc:PE X c (tE K W q h))(hm:lastMarks [op,AK] [b,c]=false):PT X (.Compare a [op,AK] [b,c] pos) (tT K W q (gB (KJ k k' f g h))):=SQ (Xb (h1 X) (h2 X) ha hb hc hm) λ_ _ _ t=>X8 t
def yt(ha:PE X a (tE K W q f))(hK:X.K=K)(ht:∀whole,isTrue a X.env whole=(do let v <-whole;standAt a.pos;holding [v] (truthy v))):PT X a (tT K W q (cZ f)):=e2x hK ha ht
def ya1(h:PT X a (tT K W q ft)):PW X (.BoolOp .And [a] pos) (tT K W q ft):=ZQ h
def yo1(h:PT X a (tT K W q ft)):PW X (.BoolOp .Or [a] pos) (tT K W q ft):=e1t h
def xix(ha:PE X a (tE K W q f))(hb:PE X b (tE K W q g))(hu:X.A.units+41<cLine)(hK:X.K=K)(hs:Kl b):PE X (.Subscript a b pos) (tE K W q (gO (o2 Ih) (cz f g))):=e8h (L7 K hu hK) e8l ha hb hs
def xsl{lo hi:ak Expr}{p2:Pos}{fl fh}(he:PE X e (tE K W q f))(hl:PO X lo (tX Bm K W q fl))(hu:PO X hi (tX Bm K W q fh))(hK:X.K=K):PE X (.Subscript e (.Slice lo hi none p2) pos) (tE K W q (zQ f fl fh)):=XO he hl hu hK
def zc{g:GE}{h:GA}(ha:PE X e (tE K W q g))(hr:PA X es (gq K W q h))(hs:starEach (e::es) X.env=(false,eval e X.env)::starEach es X.env):PA X (e::es) (gq K W q (om g h)):=θ ha hr hs
def xd{keys:List (ak Expr)}{values:List Expr}{gs:List (GE×GE)}(h:Bk X pos keys values (Iw K W q gs))(hu:X.A.units+41<cLine)(hK:X.K=K)(j5:keys.all (·.isSome)=true)(hl:keys.length=values.length)(h0:keys≠[])(Al:keys.length<=15):PE X (.Dict keys values pos) (tE K W q (qI (BM gs))):=d8k hK h hu j5 hl h0 Al
def FR(X:Cx)(K:Frag)(W:XW)(q:Nat)(es:List Expr)(j:GJ):Prop:=∃tj,PJ X es tj/\∀a_ Z H Q,tX RS K W q (j a_) Z H Q->tj a_ Z H Q
def jn:FR X K W q [] kX:=⟨_,e4m,λ_ _ _ _ t=>d8m t⟩
def jc(he:PE X e (tE K W q f))(hr:FR X K W q es j):FR X K W q (e::es) (nU f j):=by
 obtain⟨tj,h1,h2⟩:=hr;exact⟨_,d8l he h1,λ_ _ _ _ t=>X6 h2 t⟩
def xj{v1 v2:Expr}(h:FR X K W q (v1::v2::rest) j):PE X (.JoinedStr (v1::v2::rest) pos) (tE K W q (zH j)):=by
 obtain⟨tj,h1,h2⟩:=h;exact WB h1 h2
def uX(K:Frag)(v:ai)(o:List D->ak Rv):Prop:=∀X:Cx,X.K=K->X.calm=true->X.A.units+41<cLine->∃r,bS X v r/\bZ K r o
def L_:uX K (.builtin "len") (o1 dH):=λX h c u=>⟨_,Wu h,e4e⟩
def L9:uX K (.builtin "isinstance") (o2 jq):=λX h c u=>⟨_,Wv h,e4f⟩
def L8:uX K (.builtin "all") (o1 (Hr λbs=>bs.all id)):=λX h c u=>⟨_,Wq K c h,XZ _⟩
def Ma:uX K (.builtin "min") (o1 (md ic)):=λX h c u=>⟨_,XQ K c h,QT _⟩
def Ew:uX K (.builtin "sorted") (o1 qY):=λX h c u=>⟨_,Vv c h,d8f⟩
def Eu:uX K (.type "list") (o1 k_):=λX h c u=>⟨_,Vu c h,d8d⟩
def Et:uX K (.type "dict") (o1 qF):=λX h c u=>⟨_,Vq K u c h,X0⟩
def xB{id:String}{o:List D->ak Rv}(k:uX K (.builtin id) o)(hm:X.mg x=none)(hv:bootBuiltins x=some (.builtin id))(ha:PA X (e::es) (gq K W q fs))(hu:X.A.units+41<cLine)(hc:X.calm=true)(hK:X.K=K)(hg:Gl X x)(hn:x≠"__name__")(lT:(x == ("__debug__":Str))=false)
  (he:starEach (e::es) X.env=(false,eval e X.env)::starEach es X.env) (kg:(backTo pos (starEach es X.env)).any (·.1)=false):PE X (.Call (.Name x p) (e::es) [] pos) (tE K W q (gO o fs)):=by
 obtain⟨r,h1,h2⟩:=k X hK hc hu;exact(Xh h1 hg hm hv ha hn lT he kg).mono λ_ _ _ t=>v5 h2 t
def xT{o:List D->ak Rv}(k:uX K (.type T) o)(hm:X.mg x=none)(hv:bootBuiltins x=some (.type T))(ha:PA X (e::es) (gq K W q fs))(hu:X.A.units+41<cLine)(hc:X.calm=true)(hK:X.K=K)(hg:Gl X x)(hn:x≠"__name__")(lT:(x == ("__debug__":Str))=false)
  (he:starEach (e::es) X.env=(false,eval e X.env)::starEach es X.env) (kg:(backTo pos (starEach es X.env)).any (·.1)=false):PE X (.Call (.Name x p) (e::es) [] pos) (tE K W q (gO o fs)):=by
 obtain⟨r,h1,h2⟩:=k X hK hc hu;exact(VY h1 hg hm hv ha hn lT he kg).mono λ_ _ _ t=>v5 h2 t
def Jc(K:Frag)(T:String)(m:Str)(o:List D->ak Rv):Prop:=∀X:Cx,X.K=K->X.A.units+41<cLine->∃id r,PlainAttrs T/\Slot T m id/\typeOf (.builtin id)=pure (.type "method_descriptor")/\Jd X id r/\bZ K (qW r) o
def AF:Jc K "list" "index" (o2 jm):=λX h u=>⟨_,_,PySem.F.plainAttrs_list,PySem.F.slot_list_index,PySem.F.type_list_index,XR K h,X2⟩
def EB:Jc K "dict" "get" (o2 qK):=λX h u=>⟨_,_,PySem.F.plainAttrs_dict,PySem.F.slot_dict_get,PySem.F.type_dict_get,d7w K u h,d8g⟩
def xM{o':List D->ak Rv}(k:Jc K T m o')(ho:PE X o (tE K W q f))(ha:PA X (e::es) (gq K W q fs))(hu:X.A.units+41<cLine)(hK:X.K=K)
  (eH:attributeBase o m X.env (eval o X.env)=eval o X.env)
  (ug:((backTo bN (starEach (e::es) X.env)).all (λx => !x.1)&&(backToKw bN (keywordEach [] X.env)).all (λx=>x.1.isSome) && decide ((e::es).length+([]:List Keyword).length+(if([]:List Keyword).isEmpty then 0 else 1)<30))=true)
  (eI:(apos.endLine == bN.line)=true) (hs:starEach (e::es) X.env=(false,eval e X.env)::starEach es X.env) (k6:(backTo bN (starEach es X.env)).any (·.1)=false):PE X (.Call (.Attribute o m apos) (e::es) [] bN) (tE K W q (Hs T o' f fs)):=by
 subst hK;obtain⟨id,r,h1,h2,h3,h4,h5⟩:=k X rfl hu;exact(Sy h1 h2 h3 h4 ho ha eH ug eI hs k6).mono λ_ _ _ t=>X1 h5 t
def Cz(K:Frag)(T:String)(m:Str)(o:Bx->List D->ak (Bx×D)):Prop:=∀X:Cx,X.K=K->∃id r,PlainAttrs T/\Slot T m id/\typeOf (.builtin id)=pure (.type "method_descriptor")/\Jd X id r/\l7 K r o
def xr:Cz K "list" "append" vU:=λX h=>⟨_,_,PySem.F.plainAttrs_list,PySem.F.slot_list_append,PySem.F.type_list_append,V0,Ww⟩
def xt:Cz K "list" "insert" Dj:=λX h=>⟨_,_,PySem.F.plainAttrs_list,PySem.F.slot_list_insert,PySem.F.type_list_insert,V5,Wx⟩
def xu:Cz K "list" "remove" G_:=λX h=>⟨_,_,PySem.F.plainAttrs_list,PySem.F.slot_list_remove,PySem.F.type_list_remove,Wr,Wz⟩
def Fv:Cz K "dict" "pop" jO:=λX h=>⟨_,_,PySem.F.plainAttrs_dict,PySem.F.slot_dict_pop,PySem.F.type_dict_pop,d7v K,d8h⟩
def xU{o':Bx->List D->ak (Bx×D)}(k:Cz K T m o')(ho:PE X o (tE K W q f))(ha:PA X (e::es) (gq K W q fs))(hK:X.K=K)
  (eH:attributeBase o m X.env (eval o X.env)=eval o X.env)
  (ug:((backTo bN (starEach (e::es) X.env)).all (λx => !x.1)&&(backToKw bN (keywordEach [] X.env)).all (λx=>x.1.isSome) && decide ((e::es).length+([]:List Keyword).length+(if([]:List Keyword).isEmpty then 0 else 1)<30))=true)
  (eI:(apos.endLine == bN.line)=true) (hs:starEach (e::es) X.env=(false,eval e X.env)::starEach es X.env) (k6:(backTo bN (starEach es X.env)).any (·.1)=false):PE X (.Call (.Attribute o m apos) (e::es) [] bN) (tE K W q (gh q T o' f fs)):=by
 subst hK;obtain⟨id,r,h1,h2,h3,h4,h5⟩:=k X rfl;exact(Sy h1 h2 h3 h4 ho ha eH ug eI hs k6).mono λ_ _ _ t=>e4h h5 t
def xf{atr:List (ag×Str)}(ha:kr K atr)(he:PE X e (tE K W q f))(hb:attributeBase e m X.env (eval e X.env)=eval e X.env)(hK:X.K=K):PE X (.Attribute e m pos) (tE K W q (bx atr m f)):=e4n ha he hb hK
end
section
variable{X:Cx}{K:Frag}{W:XW}{q k n:Nat}{e o:Expr}{es:List Expr}{f:GE}{fs:GA}{m:GM}{pos p apos:Pos}{x y:Str}{st:Stmt}{fa C:ag}{fd:bR}{ps:List Str}
def xC(D:aY K X.mg x st fa fd ps)(F:dD X.prog X.w X.K X.mg X.base (nX X.prog X.w) k fa fd ps (uY K q n m))(ha:PA X (e::es) (gq K W q fs))(hr:cw k X.A)(hm:jw m n)(hp:eR X W)(hK:X.K=K)(hg:Gl X x)(lT:(x == ("__debug__":Str))=false)
  (he:starEach (e::es) X.env=(false,eval e X.env)::starEach es X.env) (kg:(backTo pos (starEach es X.env)).any (·.1)=false):PE X (.Call (.Name x p) (e::es) [] pos) (tE K W q (ar m fs)):=by
 subst hK;exact(Z5 F hr hg D.mg D.fn.kp D.bd .nil (qT hp) ha lT he kg).mono λ_ _ _ t=>ν hm t
def xN(M:Mk K C fa)(hx:X.mg x=some (.ref C))(B:Binds K fd ps [])(F:dD X.prog X.w X.K X.mg X.base (nX X.prog X.w) k fa fd ps (uY K q n m))(ha:PA X (e::es) (gq K W q fs))(hr:cw (k+1) X.A)(hm:jw m n)(hp:eR X W)(hK:X.K=K)(hg:Gl X x)(lT:(x == ("__debug__":Str))=false)
  (he:starEach (e::es) X.env=(false,eval e X.env)::starEach es X.env) (kg:(backTo pos (starEach es X.env)).any (·.1)=false):PE X (.Call (.Name x p) (e::es) [] pos) (tE K W q (ua C m fs)):=by
 subst hK;exact(Z_ M F hr hg hx B .nil (qT hp) ha lT he kg).mono λ_ _ _ t=>ξ hm t
end
structure MethAt (K:Frag) (C:ag) (m qual:Str) (st:Stmt) (f:ag) (fd:bR) (ps:List Str):Prop where
 fn:Fun K m qual st f fd
 mt:Meth K C m f
 bd:Binds K fd ps []
section
variable{X:Cx}{K:Frag}{W:XW}{q k n:Nat}{e o:Expr}{es:List Expr}{f:GE}{fs:GA}{m:GM}{pos p apos:Pos}{x y:Str}{st:Stmt}{fa C:ag}{fd:bR}{ps:List Str}{pl:Sem Bool}
def xH(c:pU K C)(D:MethAt K C x y st fa fd ps)(F:dD X.prog X.w X.K X.mg X.base (nX X.prog X.w) k fa fd ps (uY K q n m))(ho:PE X o (tE K W q f))(ha:PA X (e::es) (gq K W q fs))(hr:cw k X.A)(hm:jw m n)(hp:eR X W)(hK:X.K=K)
  (lU:starEach (e::es) X.env=(false,eval e X.env)::starEach es X.env) (kg:(backTo pos (starEach es X.env)).any (·.1)=false)
  (ht:eval (.Call (.Attribute o x apos) (e::es) [] pos) X.env=(do
   let ov <-eval o X.env
   standAt apos.atName
   let (f,first) <-holding [ov] (getMethod ov x pl)
   callWith pos f first (backTo pos (starEach (e::es) X.env)) (backToKw pos (keywordEach [] X.env)))):PE X (.Call (.Attribute o x apos) (e::es) [] pos) (tE K W q (aN C x m f fs)):=by
 subst hK;exact(Z8 ho c D.mt F hr D.bd .nil (qT hp) ha lU kg ht).mono λ_ _ _ t=>QA hm t
def xH0(c:pU K C)(D:MethAt K C x y st fa fd ps)(F:dD X.prog X.w X.K X.mg X.base (nX X.prog X.w) k fa fd ps (uY K q n m))(ho:PE X o (tE K W q f))(hr:cw k X.A)(hm:jw m n)(hp:eR X W)(hK:X.K=K)
  (ht:eval (.Call (.Attribute o x apos) [] [] pos) X.env=(do
   let ov <-eval o X.env
   standAt apos.atName
   let (f,first) <-holding [ov] (getMethod ov x pl)
   callWith pos f first (backTo pos (starEach [] X.env)) (backToKw pos (keywordEach [] X.env)))):PE X (.Call (.Attribute o x apos) [] [] pos) (tE K W q (aN C x m f gN)):=by
 subst hK;refine(Xf ho c D.mt F hr D.bd .nil (qT hp) ht).mono λZ H Q t=>?_
 refine qd (QA hm t) λz H1 h=>?_
 obtain⟨a,dx,fs,h1,h2,h3,h4⟩:=h;exact⟨a,dx,fs,h1,h2,h3,BS h4⟩
end
section
variable{X:Cx}{K:Frag}{W:XW}{q:Nat}{a b c e o l tg:Expr}{es:List Expr}{f g:GE}{fz:Bool}{pos p apos bN:Pos}
def xLV(LM:X.mg "list"=none)(ho:PE X o (tE K W q f))(hc:X.calm=true)(Eb:Gl X "list")(hs:starEach [.Call (.Attribute o "values" apos) [] [] bN] X.env=[(false,eval (.Call (.Attribute o "values" apos) [] [] bN) X.env)])
  (eH:attributeBase o "values" X.env (eval o X.env)=eval o X.env) (eI:(apos.endLine == bN.line)=true):PE X (.Call (.Name "list" p) [.Call (.Attribute o "values" apos) [] [] bN] [] pos) (tE K W q (gO (o1 q8) (br f))):=(XJ Eb LM ho hc hs eH eI).mono λZ H Q t=>Ld (qd (v5 d8e t) λxs H1 h=>by
 obtain⟨d,es,ep,rfl,h⟩:=h;exact⟨_,rfl,d,es,ep,rfl,h⟩)
def pgn(i:Nat){x:Str}(hN:Ce X.N=true)(hi:X.N[i]?=some x)(hx:Loc X.env.scope x)(hf:X.fn x=true\/X.env.scope.names.lookup x=some .local):PG X (.Name x pos) (qJ i):=ZS (Ht hN) hi hx hf
def pgt{es:List Expr}{k:Nat}{t:uZ}{n:Nat}(h:CC X es t)(hn:(assignEach es X.env).length=n)(lU:(assignEach es X.env).findIdx? (·.1)=none)(hc:X.calm=true)(hK:X.K=K):PG X (.Tuple es k pos) (Ak K n t):=hK ▸ e1y hc h hn lU
def vM(X:Cx)(K:Frag)(W:XW)(q:Nat)(tg iter:Expr)(src:ng):Prop:=∃wi,PI X tg iter wi/\∀Z H R,tX (RI K q) K W q src Z H R->wi Z H R
def sA(he:PE X l (tE K W q g))(hK:X.K=K):vM X K W q tg l (bL fz fH g):=⟨_,e3g he,λ_ _ _ t=>by rw[hK];exact e3h t⟩
def MO(hm:X.mg "reversed"=none)(he:PE X l (tE K W q g))(hK:X.K=K)(hg:Gl X "reversed")(hs:starEach [l] X.env=[(false,eval l X.env)]):vM X K W q tg (.Call (.Name "reversed" p) [l] [] pos) (bL fz A0 g):=⟨_,e3b hg hm (GZ he nF (by rw[hs,starEach])) hs,λ_ _ _ t=>by rw[hK];exact d7c t⟩
def sEn{elts:List Expr}{x1:Nat}{fE:Pos}(hm:X.mg "enumerate"=none)(he:PE X l (tE K W q g))(hK:X.K=K)(hg:Gl X "enumerate")(hs:starEach [l] X.env=[(false,eval l X.env)]):vM X K W q (.Tuple elts x1 fE) (.Call (.Name "enumerate" p) [l] [] pos) (bL fz Le g):=⟨_,σ hg hm (GZ he nF (by rw[hs,starEach])) hs,λ_ _ _ t=>by rw[hK];exact e3i t⟩
def sI{elts:List Expr}{x1:Nat}{fE:Pos}(ho:PE X o (tE K W q g))(eH:attributeBase o "items" X.env (eval o X.env)=eval o X.env)(eI:(apos.endLine == bN.line)=true):vM X K W q (.Tuple elts x1 fE) (.Call (.Attribute o "items" apos) [] [] bN) (bL fz wC g):=⟨_,XM ho eH eI,λ_ _ _ t=>d8b t⟩
def sR1{fs:GA}(hm:X.mg "range"=none)(ha:PA X [a] (gq K W q fs))(hg:Gl X "range")(hs:starEach [a] X.env=[(false,eval a X.env)]):vM X K W q tg (.Call (.Name "range" p) [a] [] pos) (j0 nK fs):=⟨_,VQ hg hm ha hs,λ_ _ _ t=>d7d t⟩
def sRT{fs:GA}(hm:X.mg "range"=none)(ha:PA X [a,b,c] (gq K W q fs))(hg:Gl X "range")(hs:starEach [a,b,c] X.env=[(false,eval a X.env),(false,eval b X.env),(false,eval c X.env)])(wz:starEach [b,c] X.env=[(false,eval b X.env),(false,eval c X.env)]):vM X K W q tg (.Call (.Name "range" p) [a,b,c] [] pos) (j0 wW fs):=⟨_,Wd hg hm ha hs wz,λ_ _ _ t=>d7e t⟩
def yn:tm X [] (tT K W0 q (iV true)):=λaa s Z H Q I t=>Ψ aa s Z H Q I (by
 obtain⟨k,U,S,res,ok,gk,e,w⟩:=t;cases e;exact w.now ok rfl)
def y1{ft:GT}(h:PT X c (tT K W0 q ft)):tm X [c] (tT K W0 q ft):=Ω h
end
variable{x g:Str}{atr:List (ag×Str)}{mg:Str->ak ai}{tab:List (Str×ag)}{B0 C:ag}
section
variable{X:Cx}{K:Frag}{W:XW}{q:Nat}{tg iter elt:Expr}{ifs:List Expr}{scope:Scope}{t:TG}{gg:GG}{tt:Nat->GT}{te:Nat->GE}{src:ng}{pos:Pos}{M:List Str}{n:Nat}{cY:List Nat}
def Ry(h:fY scope.names X.env.scope.names X.N M n cY=true)(hk:scope.kind=.function):dQ X scope M n cY:=.of _ _ h rfl rfl hk
def xL(M:List Str)(s:vM X K W q tg iter src)(ht:kz K t gg)(hg:∀C s H fp,PG (fB X scope M C s H fp) tg t)(hT:∀m C s H fp,tm (fB X scope M C s H fp) ifs (tT K W0 m (tt m)))(hE:∀m C s H fp,PE (fB X scope M C s H fp) elt (tE K W0 m (te m)))
  (ok:fY scope.names X.env.scope.names X.N M n cY=true) (hk:scope.kind=.function) (hc:X.calm=true) (hs:∀x,foldedSetIterable iter X.env x=pure x):PE X (.ListComp elt [⟨tg,iter,ifs,0⟩] scope pos) (tE K W q (cv q src gg tt te n cY)):=by
 obtain⟨wi,h1,h2⟩:=s;exact d7g hc (Ry ok hk) h1 h2 ht hg hT hE hs
def wL{mu:Bool}{i:Nat}{px pB:Pos}(M:List Str)(s:vM X K W q tg iter src)(ht:kz K t gg)(hg:∀C s H fp,PG (fB X scope M C s H fp) tg t)(hT:∀m C s H fp,tm (fB X scope M C s H fp) ifs (tT K W0 m (tt m)))(hE:∀m C s H fp,PE (fB X scope M C s H fp) elt (tE K W0 m (te m)))
  (ok:fY scope.names X.env.scope.names X.N M n cY=true) (hN:Ce X.N=true) (hk:scope.kind=.function) (Ao:X.N[i]?=some x) (hx:Loc X.env.scope x) (hc:X.calm=true) (Ek:swapsWith (.ListComp elt [⟨tg,iter,ifs,0⟩] scope pos) (some (.Name x px)) pB.line X.env=pure true) (hs:∀x,foldedSetIterable iter X.env x=pure x) (hf:X.fn x=true\/X.env.scope.names.lookup x=some .local) :
  PS X (.Assign [.Name x px] (.ListComp elt [⟨tg,iter,ifs,0⟩] scope pos) pB) (tS K W q (av i mu (cv q src gg tt te n cY))):=by
 obtain⟨wi,h1,h2⟩:=s;exact d7h hc (Ry ok hk) (Ht hN) Ao hx h1 h2 ht hg hT hE Ek hs hf
end
section
variable{X:Cx}{K:Frag}{W:XW}{q:Nat}{tg iter e o i value:Expr}{body:List Stmt}{t:TG}{gg:GG}{src:ng}{pos pos' fE:Pos}{f fv fo fi fe:GE}{x:Str}
def wF{fb:Nat->GS}(s:vM X K W q tg iter src)(ht:kz K t gg)(hg:PG X tg t)(hb:∀n,ji X body (tS K W n (fb n)))(hp:PassesOwn (model X.prog X.w) X.A X.env X.xe)(hc:X.calm=true)(hs:∀x,foldedSetIterable iter X.env x=pure x):PS X (.For tg iter body [] pos) (tS K W q (bO q src gg fb)):=by
 obtain⟨wi,h1,h2⟩:=s;exact e3j hp hc h1 h2 hg ht hb hs
def wS{mu:Bool}{i:Nat}(he:PE X e (tE K W q f))(hN:Ce X.N=true)(hi:X.N[i]?=some x)(hx:Loc X.env.scope x)(hs:swapsWith e (some (.Name x pos')) pos.line X.env=pure false)(hf:X.fn x=true\/X.env.scope.names.lookup x=some .local):PS X (.Assign [.Name x pos'] e pos) (tS K W q (av i mu f)):=e2z (Ht hN) hi hx he hs hf
def wE(he:PE X e (tE K W q f))(hs:swapsWith e none pos.line X.env=pure false):PS X (.Expr e pos) (tS K W q (cW f)):=ο he hs
def wP(he:PE X e (tE K W q fv))(ho:PE X o (tE K W q fo))(hi:PE X i (tE K W q fi))(hu:X.A.units+41<cLine)(hK:X.K=K)
  (ha:∀v,assign (.Subscript o i pos') X.env v=(do
   let ov <-holding [v] (eval o X.env)
   let iv <-holding [v,ov] (eval i X.env)
   standAt pos'
   holding [v,ov,iv] (setItem ov iv v)
   release [v,ov,iv] []))
  (hs:swapsWithSole [.Subscript o i pos'] e pos.line X.env=pure false) (hw:swappedStores [.Subscript o i pos'] e X.env=pure none)
  (h1:(assignEach [.Subscript o i pos'] X.env).map (·.2)=[assign (.Subscript o i pos') X.env]):PS X (.Assign [.Subscript o i pos'] e pos) (tS K W q (cx q fv fo fi)):=e4k he ho hi hu hK ha hs hw h1
def wA(ha:kr K atr)(ho:PE X o (tE K W q fo))(hv:PE X value (tE K W q fv))(hs:swapsWith value (some (.Attribute o g pos')) pos.line X.env=pure false)(hK:X.K=K):PS X (.Assign [.Attribute o g pos'] value pos) (tS K W q (fm q atr g fv fo)):=e4o ha ho hv hs hK
def wAI(ha:kr K atr)(ho:PE X o (tE K W q fo))(hv:PE X value (tE K W q fe))(hK:X.K=K):PS X (.AugAssign (.Attribute o g fE) .Add value pos) (tS K W q (KH q (λi j=>i+j) atr g fo fe)):=d8n (λaa s Z H x y v u Q I r1 r2 h=>e2l aa s Z H x y v u Q I r1 r2 (by
 obtain⟨i,j,rfl,rfl,h⟩:=h;exact⟨i,j,rfl,rfl,h⟩)) ha ho hv hK
def wAD{op:Operator}{h:Int->Int->Int}(Au:∀X:Cx,FQ X op (L5 h))(ho:PE X o (tE K W q fo))(hi:PE X i (tE K W q fi))(hv:PE X value (tE K W q fe))(hu:X.A.units+41<cLine)(hK:X.K=K)
  (ha:∀ov iv new,augStore i ov iv new=(do holding [new,ov,iv] (setItem ov iv new);release [new,ov,iv] [];pure .next)):PS X (.AugAssign (.Subscript o i fE) op value pos) (tS K W q (KI q h fo fi fe)):=d8o (Au X) ho hi hv hu hK ha
structure ra (K:Frag) (mg:Str->ak ai) (tab:List (Str×ag)) (B0:ag):Prop where
 all:∀p∈tab,mg p.1=some (.ref p.2)/\fK K p.2 (.ref B0::sy) none/\keepIn K (.ref p.2)=true
 G0:fK K B0 sy none
 mg0:mg "CarryError"=some (.ref B0)
def ra.ix(E:ra K mg tab B0){i:Nat}{n:Str}(h:tab[i]?=some (n,C)):mg n=some (.ref C)/\fK K C (.ref B0::sy) none/\keepIn K (.ref C)=true:=E.all (n,C) (uS h)
def wX{p cp:Pos}(j:Nat)(E:ra K X.mg tab B0)(he:PE X e (tE K W q fe))(hp:eR X W)(hj:tab[j]?=some (x,C))(hc:X.calm=true)(hg:Gl X x)(lT:(x == ("__debug__":Str))=false)
  (lU:starEach [e] X.env=(false,eval e X.env)::starEach [] X.env) (hK:X.K=K):PS X (.Raise (some (.Call (.Name x p) [e] [] cp)) none pos) (tS K W q (pI C fe)):=by
 obtain⟨h1,h2,h4⟩:=E.ix hj;exact Xy h2 E.G0 h4 h1 hp he hc hg lT lU hK
noncomputable def wT(tab:List (Str×ag))(C:ag):ak Bool:=if tab.any (λp=>p.2 == C)=true then some true else none
def wY{np hp:Pos}{b0:Stmt}{pC:List Stmt}{g f:GS}(E:ra K X.mg tab B0)(hb:∀(pn:List (ag×Obj)) (E:ai->au->Prop) (W:XW),eR (X.dP pn E) W->ji (X.dP pn E) body (tS K W q f))(hS:∀e,ji (X.dO e) (b0::pC) (tS K W0 q g))
  (hg:Gl X "CarryError") (hK:X.K=K) (lU:X.stack=X.env::X.outer) (hf:X.env.frame=some X.env.locals) :
  PS X (.Try body [.ExceptHandler (some (.Name "CarryError" np)) none (b0::pC) hp] [] [] pos) (tS K W q (ud f [(wT tab,g)])):=by
 refine e3m hb (d7i E.mg0 (λC b h=>?_) hS e3l hg (by decide) hK) lU hf
 unfold wT at h;split at h
 .rename_i hC
  cases h;obtain⟨p,m,e⟩:=NB.mp hC;cases(beq_iff_eq.mp e);refine((E.all p m).2.1.exm E.G0 rfl).trans (congrArg some ?_);simp
 lia
end
def d8p{P:de}{w:cC}{K:Frag}{base:bV}{k:Nat}{f:ag}{fd:bR}{m:GM}(F:dD P w K mg base (nX P w) k f fd [x] (uY K 0 1 m)){n:Nat}(h:∀ns:List Int,ns.length<=n->∃S,m [.d (.lst (ns.map D.int))] ⟨[],[]⟩=some (.ok (.v (.d (.bl true))) S)):
  dD P w K mg base (nX P w) k f fd [x] (λvs H Q _=>∃(a:ag) (ns:List Int),vs=[.ref a]/\cM K H a (ns.map V.int)/\ns.length<=n/\∀H',Q (.bl true) H'):=⟨λvs H Q E h=>by obtain⟨a,ns,rfl,_⟩:=h;rfl,λA outer s H args us vs Q E hr e0 hb r hq=>by
 obtain⟨a,ns,rfl,hs,hl,q⟩:=hq;obtain⟨S,e⟩:=h ns hl;refine F.run A outer s H args us [.ref a] Q E hr e0 hb r ⟨rfl,⟨H,[],[]⟩,[.d (.lst (ns.map D.int))],⟨[],[]⟩,_,⟨aw.refl _,.nil,⟨rfl,λ_ _ _ z=>nomatch z⟩,⟨rfl,λ_ _ _ z=>nomatch z⟩⟩,.cons (show ah K ⟨H,[],[]⟩ [.ref a] [.lst (ns.map D.int)] from .lst hs ?_ .nil) .nil,e,λv k' H' u ok r'=>?_⟩
 .exact Xr ns
 .cases(show ah K k' [v] [.bl true] from r').bc rfl;exact q H'⟩
def Lk{N P:List Str}{sc:Scope}(h1:sc.kind=.function:=by rfl)(h2:sc.isCoroutine=false:=by rfl)(h3:sc.isGenerator=false:=by rfl)(h4:N.Nodup:=by decide +kernel)(h5:N.take P.length=P:=by rfl)(h6:∀x∈P,sc.names.lookup x=some .local \/ sc.names.lookup x=some .cell:=by decide +kernel)(h7:∀y∈sc.names,y.2≠.free:=by decide +kernel):iy N P sc:=⟨h1,h2,h3,h4,h5,h6,h7⟩
def d8q{A:PySem.Around}{k:Nat}(hr:cw k A):A.units+41<PySem.cLine:=Ny (Nat.add_le_add_left (by decide:41<=64) _) hr.units
section
variable{X:Cx}{K:Frag}{W:XW}{q:Nat}{pos:Pos}{x:Str}
def xk{z:Str}(hm:∃t,X.mg x=some (.str z t))(hg:Gl X x)(hd:(x == ("__debug__":Str))=false):PE X (.Name x pos) (tE K W q (gC (.str z))):=Aa (v:=.str z) (by
 intro aa s Z H Q I h;obtain⟨t,hm⟩:=hm;exact BH I hg hm ⟨.str z,H,I,⟨t,rfl⟩,h⟩ hd)
def xki{n:Int}(hm:∃t,X.mg x=some (.int n t))(hg:Gl X x)(hd:(x == ("__debug__":Str))=false):PE X (.Name x pos) (tE K W q (gC (.int n))):=Aa (v:=.int n) (by
 intro aa s Z H Q I h;obtain⟨t,hm⟩:=hm;exact BH I hg hm ⟨.int n,H,I,⟨t,rfl⟩,h⟩ hd)
end
abbrev bw:=o2 vZ
abbrev rK:=o2 (dX vz λi j=>.int (i - j))
abbrev hZ:=o2 wI
abbrev tO:=o2 (dX (λ_ j=>decide (0<j/\j<1073741824)) λi j=>.int (i / j))
abbrev hV:=o2 (dX (λ_ j=>decide (0<j)) λi j=>.int (i%j))
abbrev DB:=o2 (dX (λi j=>decide (0<=j/\j<=1000000/\i.natAbs<2^64)) λi j=>.int (i^j.toNat))
abbrev fy:=o2 (yg false)
abbrev MF:=o2 (yg true)
abbrev iLt:Int->Int->Bool:=λi j=>decide (i<j)
abbrev L4:Int->Int->Bool:=λi j=>decide (i<=j)
abbrev iGt:Int->Int->Bool:=λi j=>decide (j<i)
abbrev En:Int->Int->Int:=λi j=>i+j
abbrev uJ:=o2 (dX vz λi j=>.bl (iLt i j))
abbrev qLe:=o2 (dX vz λi j=>.bl (L4 i j))
abbrev qGt:=o2 (dX vz λi j=>.bl (iGt i j))
abbrev nH:=o2 (B9 false)
abbrev j7:=o2 (B9 true)
abbrev Io:=o2 (B_ false)
abbrev AS:=o2 (B_ true)
abbrev ME:List Bool->Bool:=λbs=>bs.all id
noncomputable def R_(e:DictEntry):Bool:=match e.key with|.str _ _=>true|_=>false
def errC_mk{K:Frag}{C:ag}{bm:List ai}{Ib:ak ai}{nm q:Str}{N:ag}{bs:List ai}{sn:List Str}{sub:List ai}{ab:Bool}{col:ak Bool}{dd:ak ag}{k0 k1 k2 k3 k5:ak ai}{on:ai}{Cf:ak ag}{es:Array DictEntry}{ep:Nat}{Cg:Array (ak ai)}
  (l:K.lookup C=some (excClassObj nm q C N bs bm true sn sub ab col dd k0 k1 k2 k3 k5 "ValueError.__new__")) (d:K.lookup N=some ⟨on,Cf,.dict es ep,Cg⟩) (s:es.toList.all R_=true) (i:nsFind es "__init__"=Ib):fK K C bm Ib:=by
 refine⟨_,_,_,_,_,_,_,_,_,_,_,_,_,_,_,_,_,_,_,l,d,λe he=>?_,i⟩
 have:=pR.1 s e (Nu.2 he);unfold R_ at this;split at this
 .exact⟨_,_,by assumption⟩
 .cases this
instance instGE (n:Nat):OfNat GE n:=⟨uc n⟩
abbrev gI(n:Int):GE:=gC (.int n)
abbrev gX(a b:GE):GE:=gO (o2 Ih) (cz a b)
abbrev bD(o:List D->ak Rv)(a b:GE):GE:=gO o (cz a b)
abbrev dW(a b c:GE):GA:=om a (cz b c)
abbrev lD(a b c d:GE):GA:=om a (dW b c d)
abbrev cL(a:GS):GS:=dR a pj
abbrev jM(a b:GS):GS:=dR a (cL b)
abbrev qM(a b c:GS):GS:=dR a (jM b c)
abbrev vk(a b c d:GS):GS:=dR a (qM b c d)
abbrev qN(a b c d e:GS):GS:=dR a (vk b c d e)
instance instGG (n:Nat):OfNat GG n:=⟨af n⟩
abbrev cP(f:GT)(g:GS):GS:=gj f (cL g) pj
abbrev gQ(o:List D->ak Rv)(a b:GE):GT:=gB (bD o a b)
noncomputable def aS(p n:Nat)(m:Nat->GS)(q:Nat):GM:=runM p n (m q)
end L2
namespace L2
open PySem Lean Meta
variable{s:List Cell}{z:List D}
def tZ(e:Lean.Expr)(i:Nat)(k:Lean.Expr->ak (Lean.Expr×Bool)):SimpM Simp.Step:=do
 let a:=e.getAppArgs
 let r0 <-Simp.simp a[i]!
 let x:=(<-instantiateMVars r0.expr).cleanupAnnotations.headBeta
 let pr <-match r0.proof? with
  |none=>pure none
  |some p=>pure (some (<-mkCongrArg (.lam `z (<-inferType a[i]!) (mkAppN e.getAppFn (a.set! i (.bvar 0))) .default) p))
 match k x with
 |some (y,true)=>return .visit { expr:=y.headBeta,proof?:=pr}
 |some (y,false)=>return .done { expr:=y.headBeta,proof?:=pr}
 |none=>return .done { expr:=mkAppN e.getAppFn (a.set! i x),proof?:=pr}
def isOk(x:Lean.Expr):ak (Lean.Expr×Lean.Expr):=if x.isAppOfArity ``Option.some 2&&x.appArg!.isAppOfArity ``Rs.ok 3 then some (x.appArg!.appFn!.appArg!,x.appArg!.appArg!) else none
def DS(n:Name):Bool:=(n.getRoot == `L2 && !(#[``dU,``findS,``fA,``h_,``k8,``jZ,``jq,``aO.cut,``aT,``aR,``bU,``ig,``jN,``dc,``mR,``gp,``nN,``eC,``ic,``aH,``bC,``cS,``bd,``lC,``ve,``jm,``Cell.kh,``runM].contains n)) || (n.getRoot == `List&&n != ``List.toArray) || n.getRoot == `Option || n.getRoot == `Prod || n.getRoot == `GetElem? || n.getRoot == `OfNat || n.getRoot == `Nat || n.getRoot == `BEq || n == ``ite || n == ``dite || n.getRoot == `Bool || n.getRoot == `Decidable || n == ``and || n == ``or || n == ``not || n.getRoot == `id || n.getRoot == `HAppend || n.getRoot == `Append || n.getRoot == `instHAppendOfAppend
def e4p(e:Lean.Expr):MetaM Lean.Expr:=withCanUnfoldPred (λ_ c=>return DS c.name || c.name.isInternal || (<-isInstance c.name) || (<-isMatcher c.name)) (withDefault (whnf e))
def e4q(e:Lean.Expr):MetaM Bool:=do
 if e.isFVar || e.isLit then return true
 let .const n _:=e.getAppFn|return false
 if n == ``OfNat.ofNat then return true
 if n == ``Nat.succ then return false
 return (<-getEnv).isConstructor n
simproc_decl ev (_):=λe=>do
 let .const n ls:=e.getAppFn|return .continue
 let a:=e.getAppArgs
 if n == ``OfNat.ofNat&&a.size>=3&&(a[2]!.isAppOf ``instGG || a[2]!.isAppOf ``instGE) then return .visit { expr:=mkAppN (mkApp (mkConst (if a[2]!.isAppOf ``instGG then ``af else ``uc)) a[1]!) (a.extract 3 a.size)}
 if n == ``Option.bind&&a.size == 4 then
  return <-tZ e 2 λx=>if x.isAppOfArity ``Option.some 2 then some (mkApp a[3]! x.appArg!,true) else if x.isAppOfArity ``Option.none 1 then some (mkApp (.const ``Option.none (ls.drop 1)) a[1]!,false) else none
 if n == ``Option.map&&a.size == 4 then
  return <-tZ e 3 λx=>if x.isAppOfArity ``Option.some 2 then some (mkApp2 (.const ``Option.some (ls.drop 1)) a[1]! (mkApp a[2]! x.appArg!).headBeta,true) else if x.isAppOfArity ``Option.none 1 then some (mkApp (.const ``Option.none (ls.drop 1)) a[1]!,false) else none
 if(n == ``bd || n == ``ve || n == ``lC)&&a.size == 4 then
  return <-tZ e 2 λx=>match isOk x with
   |some (v,S)=>some (mkApp2 a[3]! v S,true)
   |none=>if n != ``ve&&x.isAppOfArity ``Option.some 2&&x.appArg!.isAppOfArity ``Rs.ex 4 then
     let b:=x.appArg!.getAppArgs
     if n == ``lC then some (mkApp2 (.const ``Option.some [0]) (.const ``Fr []) (mkApp4 (.const ``Fr.ex []) b[1]! b[2]! a[1]! b[3]!),true) else some (mkApp2 (.const ``Option.some [0]) (mkApp (.const ``Rs []) a[1]!) (mkApp4 (.const ``Rs.ex []) a[1]! b[1]! b[2]! b[3]!),true)
    else none
 if n == ``ite then return <-reduceIte e
 if n == ``List.length&&a.size == 2 then
  let some (_,vs):=a[1]!.listLit?|return .continue
  return .done { expr:=mkNatLit vs.length}
 if n == ``runM&&a.size == 5 then
  let some (_,vs):=a[3]!.listLit?|return .continue
  let (some p,some k):=(a[0]!.nat?,a[1]!.nat?)|return .continue
  unless vs.length == p do return .continue
  let V:=mkConst ``Val
  let G <-mkListLit (mkApp (.const ``Option [0]) V) (vs.map (λv=>mkApp2 (.const ``Option.some [0]) V v)++List.replicate (k - p) (mkApp (.const ``Option.none [0]) V))
  let f <-mkAppM ``leave #[<-mkAppM ``List.length #[<-mkAppM ``aO.s #[a[4]!]]]
  return .visit { expr:=<-mkAppM ``Option.bind #[(mkApp2 a[2]! G a[4]!).headBeta,f]}
 if n.getRoot == `Nat || n.getRoot == `OfNat || n.getRoot == `BEq || n.getRoot == `Decidable || n == ``dite then return .continue
 unless DS n || n == ``getElem? || n == ``HAppend.hAppend do return .continue
 if <-isMatcher n then return .continue
 if(<-getEnv).isConstructor n then return .continue
 if n.getRoot == `L2&&(<-isReducible n) then
  let some e' <-withDefault (unfoldDefinition? e)|return .continue
  return .visit { expr:=e'.headBeta}
 let t <-whnfR (<-inferType e)
 if t.isAppOfArity ``Option 1&&n.getRoot == `L2 then
  let some e' <-withDefault (unfoldDefinition? e)|return .continue
  let e' <-whnfCore e'
  if(<-isMatcherApp e') then return .continue
  return .visit { expr:=e'}
 if t.isForall then return .continue
 let e' <-e4p e
 if e' != e&&(<-e4q e') then return .visit { expr:=e'}
 return .continue
def Lh:List Simp.DSimproc:=[Nat.reduceAdd,Nat.reduceSub,Nat.reduceMul,Nat.reduceDiv,Nat.reduceMod,Int.reduceAdd,Int.reduceSub,Int.reduceMul,Int.reduceDiv,Int.reduceMod,Int.reduceNeg,Int.reduceToNat,Int.reduceBEq,Nat.reduceBEq]
def Li:List Simp.Simproc:=[reduceCtorEq,Nat.reduceLT,Nat.reduceLeDiff,Nat.reduceEqDiff,Int.reduceLT,Int.reduceLE,Int.reduceEq]
simproc_decl aP (_):=λe=>do
 for p in Lh do
  match <-p e with
  |.done x=>return .done { expr:=x}
  |.visit x=>return .visit { expr:=x}
  |.continue (some x)=>return .continue (some { expr:=x})
  |_=>pure ()
 for p in Li do
  match <-p e with
  |.continue none=>pure ()
  |r=>return r
 return .continue
section
variable{α:Type}{l L M:List α}{c:α}{j:Nat}{S:aO}{r L':List Cell}
def fZ:S.cut S.s.length=S:=by unfold aO.cut;rw[ND]
def vg:aO.cut ⟨s++L',r⟩ s.length=⟨s,r⟩:=by unfold aO.cut;rw[List.take_left]
def cq:aO.cut ⟨s,r⟩ s.length=⟨s,r⟩:=by unfold aO.cut;rw[ND]
def eS:(l++L)[l.length]?=L[0]?:=by rw[vA (bM _),Nx]
def GK:(l++L)[l.length+j]?=L[j]?:=by rw[vA (IE _ _),Nat.add_sub_cancel_left]
def km:(l++L).set l.length c=l++L.set 0 c:=by rw[List.set_append_right _ _ (bM _),Nx]
def MP:(l++L).set (l.length+j) c=l++L.set j c:=by rw[List.set_append_right _ _ (IE _ _),Nat.add_sub_cancel_left]
def Ez:(l++L).length=l.length+L.length:=du
def zM:(l++L)++M=l++(L++M):=l0 _ _ _
def AE:(l.length<l.length)=False:=eq_false (j9 _)
def lt2:(l.length+j<l.length)=False:=eq_false (by lia)
def eY{a b:Int}:aR (.int a) (.int b)=(a == b):=rfl
def ib{a b:Str}:aR (.str a) (.str b)=(a == b):=rfl
def Ic{z:Str}:jq (.str z) (.ty "str")=some (rd (.bl true)):=rfl
def Ie:jq (.tup z) (.ty "tuple")=some (rd (.bl true)):=rfl
def L6{z:Str}:jq (.str z) (.ty "tuple")=some (rd (.bl false)):=rfl
def is4:jq (.lst z) (.ty "list")=some (rd (.bl true)):=rfl
def Rz{n:Nat}{x:Cell}:aO.cut ⟨s.set n x,r⟩ s.length=⟨s.set n x,r⟩:=by
 unfold aO.cut;dsimp only;rw[vD (by rw[nW];exact bM _)]
def cy{a:α}:dU (a::l) 0=some a:=vS (j:=0) rfl
def cV{a b:α}:dU (a::b::l) 1=some b:=vS (j:=1) rfl
def jj{a b c:α}:dU (a::b::c::l) 2=some c:=vS (j:=2) rfl
def v3{a b c d:α}:dU (a::b::c::d::l) 3=some d:=vS (j:=3) rfl
end
end L2
namespace L2
open PySem
section
variable{α:Type}{gg:GG}{tt:GT}{te:GE}{S:aO}{f:α->D}{U cs:Gm}{a:ak Val}
theorem Hu(h:α->ak D)(G:Gm->Prop):∀(xs:List α) (U:Gm) (a_:List D),G U->a_.length+xs.length<=1000000->(∀x∈xs,∀U,G U->∃U',gg (f x) U=some U'/\G U'/\((h x=none/\tt U' S=some (.ok false S))\/∃r d,h x=some d/\tt U' S=some (.ok true S)/\te U' S=some (.ok r S)/\nP r=.d d))->
  bC gg tt te (xs.map f) U S a_=some (.ok (a_++xs.filterMap h) S)
 |[],U,a_,_,_,_=>by rw[Cs,lY];rfl
 |x::xs,U,a_,g,hl,hx=>by
  obtain⟨U',e1,g',e2⟩:=hx x (.head _) U g;rw[ju] at hl;rw[bQ];unfold bC;rw[e1,vE];rcases e2 with⟨e2,e3⟩|⟨r,d,e2,e3,e4,e5⟩
  .rw[e3,NH e2];exact Hu h G xs U' a_ g' (by lia) λy m=>hx y (.tail _ m)
  .have e6:gD te U' S=some (.ok d S):=by unfold gD bd;rw[e4];show(qg S (nP r)).map _=_;rw[e5];rfl
   rw[e3,NI e2];show ve (gD te U' S) _=_;rw[e6];show(if a_.length<1000000 then _ else _)=_
   rw[aX (by lia),Hu h G xs U' (a_++[d]) g' (by rw[du,vB];lia) λy m=>hx y (.tail _ m),l0]
   rfl
def DV{d:D}:af 0 d (a::cs)=some (some (.d d)::cs):=by
 rfl
def x_(h:α->ak D)(xs:List α)(hl:xs.length<=1000000)(hx:∀x∈xs,(h x=none/\tt (some (.d (f x))::cs) S=some (.ok false S))\/∃r d,h x=some d/\tt (some (.d (f x))::cs) S=some (.ok true S)/\te (some (.d (f x))::cs) S=some (.ok r S)/\nP r=.d d):bC (af 0) tt te (xs.map f) (a::cs) S []=some (.ok (xs.filterMap h) S):=by
 rw[Hu h (λU=>∃a,U=a::cs) xs _ [] ⟨a,rfl⟩ (by rw[Co];lia) λx m U ⟨a,hU⟩=>⟨_,by rw[hU];exact DV,⟨_,rfl⟩,hx x m⟩,y7]
def vf(h:α->D)(xs:List α)(hl:xs.length<=1000000)(hx:∀x∈xs,∃r,te (some (.d (f x))::cs) S=some (.ok r S)/\nP r=.d (h x)):bC (af 0) (iV true) te (xs.map f) (a::cs) S []=some (.ok (xs.map h) S):=by
 rw[x_ (λx=>some (h x)) xs hl λx m=>.inr (let ⟨r,h1,h2⟩:=hx x m;⟨r,_,rfl,rfl,h1,h2⟩),List.filterMap_eq_map']
theorem Sd{body:GS}(I:List α->Gm->aO->Prop):∀(xs dn:List α) (U:Gm) (S:aO),I dn U S->(∀d x r,dn++xs=d++x::r->∀U S,I d U S->∃U1 U' S',gg (f x) U=some U1/\(body U1 S=some (.nx U' S')\/body U1 S=some (.ct U' S'))/\I (d++[x]) U' S')->∃U' S',aH gg body (xs.map f) U S=some (.nx U' S')/\I (dn++xs) U' S'
 |[],dn,U,S,i,_=>⟨U,S,rfl,by rw[lY];exact i⟩
 |x::xs,dn,U,S,i,hx=>by
  obtain⟨U1,U',S',e1,e2,i'⟩:=hx dn x xs rfl U S i;obtain⟨U2,S2,e3,i2⟩:=Sd I xs (dn++[x]) U' S' i' λd y r e=>hx d y r (by rw[<-e,l0];rfl)
  refine⟨U2,S2,?_,by rw[l0] at i2;exact i2⟩
  rw[bQ];unfold aH;rw[e1,vE];rcases e2 with e2|e2
  .rw[e2];exact e3
  .rw[e2];exact e3
def lB{body:GS}(I:List α->Gm->aO->Prop)(xs:List α)(i:I [] U S)(hx:∀d x r,xs=d++x::r->∀U S,I d U S->∃U1 U' S',gg (f x) U=some U1/\(body U1 S=some (.nx U' S')\/body U1 S=some (.ct U' S'))/\I (d++[x]) U' S'):∃U' S',aH gg body (xs.map f) U S=some (.nx U' S')/\I xs U' S':=Sd I xs [] U S i λd x r e=>hx d x r e
theorem QW{β:Type}{body:GS}(st:β->aO->Gm×aO)(I:List α->β->Prop):∀(xs dn:List α) (b:β),I dn b->(∀d x r,dn++xs=d++x::r->∀b,I d b->∃b',I (d++[x]) b'/\∀S,∃U1,gg (f x) (st b S).1=some U1/\(body U1 (st b S).2=some (.nx (st b' S).1 (st b' S).2)\/body U1 (st b S).2=some (.ct (st b' S).1 (st b' S).2)))->
  ∃b',I (dn++xs) b'/\∀S,aH gg body (xs.map f) (st b S).1 (st b S).2=some (.nx (st b' S).1 (st b' S).2)
 |[],dn,b,i,_=>⟨b,by rw[lY];exact i,λS=>rfl⟩
 |x::xs,dn,b,i,hx=>by
  obtain⟨b1,i1,h1⟩:=hx dn x xs rfl b i;obtain⟨b2,i2,h2⟩:=QW st I xs (dn++[x]) b1 i1 λd y r e=>hx d y r (by rw[<-e,l0];rfl)
  refine⟨b2,by rw[l0] at i2;exact i2,λS=>?_⟩
  obtain⟨U1,e1,e2⟩:=h1 S;rw[bQ];unfold aH;rw[e1,vE];rcases e2 with e2|e2
  .rw[e2];exact h2 S
  .rw[e2];exact h2 S
def Se{β:Type}{body:GS}(st:β->aO->Gm×aO)(I:List α->β->Prop)(xs:List α)(b:β)(i:I [] b)(hx:∀d x r,xs=d++x::r->∀b,I d b->∃b',I (d++[x]) b'/\∀S,∃U1,gg (f x) (st b S).1=some U1/\(body U1 (st b S).2=some (.nx (st b' S).1 (st b' S).2)\/body U1 (st b S).2=some (.ct (st b' S).1 (st b' S).2))):
  ∃b',I xs b'/\∀S,aH gg body (xs.map f) (st b S).1 (st b S).2=some (.nx (st b' S).1 (st b' S).2):=QW st I xs [] b i λd x r e=>hx d x r e
def e4r(enc:α->D)(xs:List α):eC (xs.map enc)=((List.range xs.length).zip xs).map λ(p:Nat×α)=>D.tup [.int (p.1:Nat),enc p.2]:=by
 unfold eC;rw[bh];refine NC λi=>?_
 rw[gY,gY];by_cases h:i<xs.length
 .have z:((List.range xs.length).zip xs)[i]?=some (i,xs[i]):=List.getElem?_zip_eq_some.mpr ⟨Bc h,i8 h⟩;rw[Bc h,z];simp[h]
 .rw[Bf (by simp;lia),Bf (by simp;lia)]
  rfl
def e8o{body:GS}(enc:α->D)(I:List α->Gm->aO->Prop)(xs:List α)(i:I [] U S)(hx:∀d x r,xs=d++x::r->∀U S,I d U S->∃U1 U' S',gg (.tup [.int (d.length:Nat),enc x]) U=some U1/\body U1 S=some (.nx U' S')/\I (d++[x]) U' S'):∃U' S',aH gg body (eC (xs.map enc)) U S=some (.nx U' S')/\I xs U' S':=by
 have hs:((List.range xs.length).zip xs).map Prod.snd=xs:=by rw[List.map_snd_zip];simp
 rw[e4r];obtain⟨U',S',e,p⟩:=lB (gg:=gg) (body:=body) (f:=λ(p:Nat×α)=>D.tup [.int (p.1:Nat),enc p.2]) (U:=U) (S:=S) (λpre U S=>I (pre.map Prod.snd) U S) ((List.range xs.length).zip xs) i (by
  intro q x post e U S p;have vt:xs=q.map Prod.snd++x.2::post.map Prod.snd:=by
   simp_all
  have hi:x.1=(q.map Prod.snd).length:=by
   have:((List.range xs.length).zip xs)[q.length]?=some x:=by rw[e,vA (bM _)];simp
   rw[List.getElem?_zip_eq_some] at this;have h1:=this.1;rw[eQ] at h1;obtain⟨hl,h1⟩:=h1;rw[List.getElem_range] at h1;rw[bh];exact h1.symm
  obtain⟨U1,U2,S2,a,b,c⟩:=hx _ _ _ vt U S p;exact⟨U1,U2,S2,by rw[hi];exact a,.inl b,by rw[dB];exact c⟩)
 exact⟨U',S',e,by rw[hs] at p;exact p⟩
theorem QX{body:GS}{rv:Rv}{S':aO}(I:List α->Gm->aO->Prop){x:α}{r:List α}:∀(d dn:List α) (U:Gm) (S:aO),I dn U S->(∀d' y r',dn++d=d'++y::r'->∀U S,I d' U S->∃U1 U' S',gg (f y) U=some U1/\(body U1 S=some (.nx U' S')\/body U1 S=some (.ct U' S'))/\I (d'++[y]) U' S')->(∀U S,I (dn++d) U S->∃U1,gg (f x) U=some U1/\body U1 S=some (.rt rv S'))->aH gg body ((d++x::r).map f) U S=some (.rt rv S')
 |[],dn,U,S,i,_,hs=>by
  obtain⟨U1,e1,e2⟩:=hs U S (by rw[lY];exact i)
  rw[y7,bQ];unfold aH;rw[e1,vE,e2];rfl
 |y::d,dn,U,S,i,hp,hs=>by
  obtain⟨U1,U',S',e1,e2,i'⟩:=hp dn y d rfl U S i;have e3:=QX I (x:=x) (r:=r) d (dn++[y]) U' S' i' (λd' z r' e=>hp d' z r' (by rw[<-e,l0];rfl)) (λU S h=>hs U S (by rw[l0] at h;exact h))
  rw[List.cons_append,bQ];unfold aH;rw[e1,vE];rcases e2 with e2|e2
  .rw[e2];exact e3
  .rw[e2];exact e3
end
end L2
namespace L2
open PySem PySem.Spec PySem.W PyProof.Rows
section
variable{X:Cx}
noncomputable abbrev uM:List Int->Int:=λis=>is.sum
def X9(K:PySem.W.Frag)(hc:X.calm=true:=by rfl)(hK:X.K=K:=by rfl):bS X (.builtin "sum") (λxs H Q=>∃(a:ag) (is:List Int),xs=[.ref a]/\cM K H a (is.map V.int)/\is≠[]/\Q (.int (uM is)) H):=by
 subst hK;intro aa s Z H xs us Q I r h;obtain⟨a,is,rfl,hs,fG,q⟩:=h;obtain⟨u,rfl,ru⟩:=vals1 r;cases ru;obtain⟨aF,rv,p,hz⟩:=I.list hs;obtain⟨ps,e1,e2⟩:=JD rv;subst e1;have el:(ps.map λp=>Value.int p.1 p.2).toArray=intItems ps.toArray:=by unfold intItems;simp
 have pl:=p.isList;rw[el] at pl;refine sum_intListG (I.ok.hd hc) pl λh' tk t' hk=>?_
 have hm:preSum (numAt ps.toArray) ps.toArray.size=uM is:=by
  rw[preSum_eq,<-e2];show(List.take ps.length (ps.map (·.1))).sum=_
  rw[vD (by simp)]
 rw[hm];exact⟨.int (uM is),H,I.kept (h':=h') (t':=tk) λb o e=>hk b o e,⟨t',rfl⟩,q⟩
def Mb{K:Frag}:uX K (.builtin "sum") (o1 (md uM)):=λX h c u=>⟨_,X9 K c h,QT _⟩
end
section
variable{K:Frag}{mg:Str->ak ai}{h:bV}{x y:Str}{st:Stmt}{f C:ag}{fd:bR}{ps:List Str}
abbrev Sg(x y:Str)(st:Stmt)(ps:List Str):Prop:=∀(kV doc pm:ai) (an:ak ag) (gf ct:ai) (us:List ai),us.length=ps.length->bindArgs (PySem.W.fnOf x y (Dh st) (zE st) (sj st) .none kV doc pm an gf ct) ⟨us,[]⟩=pure (ps.zip us)
def dM(X:K.In h)(G:h.Ns mainGlobals mg)(a:nsIn K mainGlobals x=some (some (.ref f)))(F:Fun K x x st f fd)(b:Sg x x st ps):aY K mg x st f fd ps:=⟨F,mg_of X G a,F.binds b⟩
def mM(a:findIn K (.ref C) x=some (some (.ref f)))(n:isFn K (.ref f)=true)(F:Fun K x y st f fd)(b:Sg x y st ps):MethAt K C x y st f fd ps:=⟨F,⟨a,n,F.kp⟩,F.binds b⟩
def kM{v:Tok->ai}{t:Tok}(X:K.In h)(G:h.Ns mainGlobals mg)(a:nsIn K mainGlobals x=some (some (v t))):∃t,mg x=some (v t):=⟨t,mg_of X G a⟩
end
end L2
namespace L2
open PySem Lean Meta
def dvR:List Name:=[``Af,``wc,``DN,``Ag,``wL,``wS,``wE,``wP,``wA,``wAI,``wAD,``wX,``wY,``wF,``tY,``xv,``xi,``xs,``xb,``xn,``xty,``xk,``xki,``xo,``Nt,``xc,``xix,``xsl,``xd,``xj,``jn,``jc,``xB,``xT,``xM,``xU,``xf,``xC,``xN,``xH,``xH0,``xLV,``xL,``Ae,``Ad,``tW,``v_,``DL,``DM,``Ac,``AR,``zc,``Ab,``PW.pt,``DP,``Ai,``Ah,``yc,``ych,``yt,``ya1,``yo1,``yn,``y1,``wb,``wa,``uI,``wV,``pgn,``pgt,``uG,``wU,``xa,``A9,``uQ,``xh,``sA,``MO,``sEn,``sI,``sR1,``sRT,``Nl,``Nq,``Nn,``Fz,``Nm,``Np,``XA,``XG,``XF,``XE,``XB,``XC,``K3,``XD,``K2,``L_,``L9,``L8,``Ma,``Mb,``Ew,``Eu,``Et,``AF,``EB,``xr,``xt,``xu,``Fv,``z5,``zZ,``qC,``tQ,``z6,``rL,``v8,``zY,``PyProof.Rows.Boot.min,``PyProof.Rows.Boot.sum,``yI,``yJ,``Aw,``EO,``uz,``cw.le,``r6,``wQ,``wR,``NJ]
def dvM(tg N cY:Lean.Expr):MetaM Lean.Expr:=do
 let nm (e:Lean.Expr):=e.getArg! 0
 let ts:=if tg.isAppOf ``Expr.Name then[nm tg] else((tg.getArg! 0).listLit?.map (·.2.map nm)).getD []
 let ns:=(((<-whnf N).listLit?).map (·.2)).getD []
 let cs:=((cY.listLit?.map (·.2)).getD []).map λi=>ns.getD ((i.nat?).getD 0) (mkNatLit 0)
 mkListLit (mkConst ``Str) (ts++cs)
def pe{α:Type}(f:α->MetaM Bool):List α->MetaM Bool
 |[]=>return false
 |x::l=>do if <-f x then return true else pe f l
def DO:Nat->MVarId->MetaM Unit
 |0,_=>failure
 |n+1,g0=>do
  let (_,g) <-g0.intros
  g.withContext do
  let t:=(<-instantiateMVars (<-g.getType)).cleanupAnnotations.headBeta
  let run (s:MetaM Syntax):MetaM Bool:=do
   let st <-saveState
   try
    let (gs,_) <-Lean.Elab.runTactic g (<-s)
    unless gs.isEmpty do failure
    return true
   catch _=>st.restore;return false
  let use (fix:Lean.Expr->MetaM Unit) (f:Lean.Expr):MetaM Bool:=do
   let s <-saveState
   try
    let y <-whnfR (<-inferType f)
    unless y.getForallBody.getAppFn.constName? == t.getAppFn.constName? do failure
    let (ms,_,ty) <-forallMetaTelescope y
    unless <-isDefEq ty t do failure
    let each (h:Lean.Expr->MetaM Unit):=pe (λm=>do
     unless <-m.mvarId!.isAssigned do h m
     return false) ms.toList
    discard <| each fix
    discard <| each λm=>do if <-isProp (<-inferType m) then DO n m.mvarId!
    g.assign (mkAppN f ms)
    return true
   catch _=>s.restore;return false
  let xw:=use λ_=>pure ()
  let c:=t.getAppFn.constName?.getD .anonymous
  if c == ``Eq then
   let l:=t.appFn!.appArg!
   if l.isAppOf ``Ce || l.isAppOf ``fY then
    if <-run `(tactic| kernel_rfl) then return
   if <-(try g.refl;pure true catch _=>pure false) then return
  let env <-getEnv
  if c == ``dD then
   if <-pe (pe λ(k,i)=>do
    if k.getPrefix == `Carry&&(<-whnfR i.type).getForallBody.isAppOf ``dD then xw (<-mkConstWithFreshMVarLevels k) else return false) [env.constants.map₂.toList,env.constants.map₁.toList] then return
   failure
  if <-pe (λd=>do
   if d.isImplementationDetail then return false
   if <-xw d.toExpr then return true
   let some s:=d.type.getAppFn.constName?|return false
   unless isStructure env s&&s.getPrefix == `Carry do return false
   pe (λf=>do xw (<-mkProjection d.toExpr f)) (getStructureFields env s).toList) ((<-getLCtx).decls.toList.filterMap id) then return
  if <-pe (λr=>do
   let f <-mkConstWithFreshMVarLevels r
   if r == ``wX then
    pe (λj=>use (λm=>do if(<-inferType m).isConstOf ``Nat then m.mvarId!.assign (mkNatLit j)) f) (List.range 12)
   else if r == ``xL || r == ``wL then
    use (λm=>do
     if(<-instantiateMVars (<-inferType m)).isAppOf ``List then
      let some lc:=t.find? (·.isAppOf ``Expr.ListComp)|failure
      let some gc:=t.find? (·.isAppOf ``cv)|failure
      let some co:=((lc.getArg! 1).listLit?.bind (·.2.head?))|failure
      m.mvarId!.assign (<-dvM (co.getArg! 0) (<-mkAppM ``Cx.N #[t.getArg! 0]) gc.appArg!)) f
   else xw f) dvR then return
  unless <-run `(tactic| first|rfl|exact Or.inl rfl|exact Or.inr rfl|exact Or.inr (Or.inl rfl)|exact Or.inr (Or.inr rfl)|decide|(intro _ _;rfl)|with_unfolding_all rfl) do failure
simproc_decl dv (ji _ _ _):=λe=>do
 let a:=e.getAppArgs
 let b <-withDefault (whnf a[1]!)
 let m <-mkFreshExprMVar (mkApp3 e.getAppFn a[0]! b a[2]!)
 withDefault (DO 200 m.mvarId!)
 return .done { expr:=mkConst ``True,proof?:=<-mkEqTrue (<-mkExpectedTypeHint (<-instantiateMVars m) e)}
end L2
namespace L2
open PySem PySem.Spec PyProof.Rows
abbrev cF{A:Type}(Tx:PySem.W.Frag->(Str->ak ai)->A->Prop)(k:Nat)(f:A->ag)(fd:A->bR)(ps:List Str)(p:Nat)(M:Nat->GM):Prop:=∀{P:de} {w:cC} {K:PySem.W.Frag} {mg:Str->ak ai} {base:bV} {t:A} (T:Tx K mg t) (q:Nat),dD P w K mg base (nX P w) k (f t) (fd t) ps (uY K q p (M q))
def cK{A:Type}{Tx:PySem.W.Frag->(Str->ak ai)->A->Prop}{k p n:Nat}{f:A->ag}{fd:A->bR}{ps:List Str}{x qual:Str}{st:Stmt}{m:Nat->GS}(F:∀{K:PySem.W.Frag} {mg:Str->ak ai} {t:A},Tx K mg t->Fun K x qual st (f t) (fd t))(N:List Str)
  (hb:∀{P:de} {w:cC} {K:PySem.W.Frag} {mg:Str->ak ai} {base:bV} {t:A} (T:Tx K mg t) (q:Nat) (gf:ai) (A:cQ) (outer:List Env) (s:au) (H:Hp) (E:XK),cw k (A.deeper (envOfC qual (sj st) s.heap.objs.size (f t) gf))->(A.deeper (envOfC qual (sj st) s.heap.objs.size (f t) gf)).units+41<cLine->ji (nj (nX P w) P w K mg base N qual (sj st) (f t) gf A outer s H E) (zE st) (tS K (WF E) q (m q)):=by intros;simp only[dv])
  (S:iy N ps (sj st):=by exact Lk) (hp:ps.length=p:=by rfl) (hn:N.length=n:=by rfl):cF Tx (k+1) f fd ps p (aS p n m):=λT q=>e3a (F T) S hp hn λgf A outer s H E hr=>hb T q gf A outer s H E hr (d8q hr)
end L2
namespace Carry
open PySem L2
def SB(f:ag)(H H':Hp):Prop:=∀b o,H b=some o->b≠f->H' b=some o
structure zj where
 ns:List Int
 pl:Int
 Fe:Int
 mode:Int
 num:Int
def DT(sl:ag)(F:zj):HO:=.lst [.ref sl,.int F.pl,.int F.Fe,.int F.mode,.int F.num]
structure FeedAt (H:Hp) (f sl:ag) (F:zj):Prop where
 fo:H f=some (DT sl F)
 so:H sl=some (.lst (F.ns.map V.int))
 pos:0<=F.pl
 len:F.ns.length<=63
def cellOf(F:zj):Int:=if 0<F.ns.length then F.ns.getD (F.pl%F.ns.length).toNat 0+F.pl / F.ns.length*31 else F.pl
structure ao where
 name:Str
 long:Int
 ring:Bool
 outs:List Str
structure aA where
 ae:List ao
 carts:List Str
def yU(xs:List Str):List V:=xs.map V.str
def e4s(H:Hp)(v:V)(b:ao):Prop:=∃p o,v=.ref p/\H p=some (.tup [.str b.name,.int b.long,.bl b.ring,.ref o])/\H o=some (.lst (yU b.outs))
structure HouseAt (H:Hp) (p pb pc:ag) (refs:List V) (h:aA):Prop where
 top:H p=some (.tup [.ref pb,.ref pc])
 bl:H pb=some (.lst refs)
 ct:H pc=some (.lst (yU h.carts))
 each:Paired (e4s H) refs h.ae
def nA(xs:List Str)(k:Nat)(y:Str):List Str:=xs.take k++y::xs.drop k
theorem GL(xs:List Str)(k:Nat)(y:Str):(nA xs k y).length=xs.length+1:=by
 unfold nA;rw[du,ju,yZ,Cn];lia
theorem lq{xs:List Str}{k:Nat}{y z:Str}:z∈nA xs k y↔z=y\/z∈xs:=by
 unfold nA;rw[dr,y04];constructor
 .rintro(h|h|h)
  .exact .inr (List.mem_of_mem_take h)
  .exact .inl h
  .exact .inr (List.mem_of_mem_drop h)
 .rintro(h|h)
  .exact .inr (.inl h)
  .rw[<-List.take_append_drop k xs,dr] at h;rcases h with h|h
   .exact .inl h
   .exact .inr (.inr h)
seal PE PA PT PS ji
noncomputable def top(i:Nat):Stmt:=PySem.Challenge.pw_carry_k69_whole_nothing_stands_for_ever.main.body.getD i (.Pass ⟨0,0,0,0⟩)
abbrev WC:Stmt:=top 15
abbrev UB:Stmt:=top 17
abbrev UC:Stmt:=top 18
abbrev UD:Stmt:=top 19
abbrev U0:Stmt:=top 20
abbrev UL:Stmt:=top 21
abbrev UM:Stmt:=top 22
abbrev UN:Stmt:=top 23
abbrev WD:Stmt:=top 24
abbrev WE:Stmt:=top 25
abbrev e8p:Stmt:=top 27
abbrev X_:Stmt:=top 28
abbrev e8q:Stmt:=top 29
abbrev Ya:Stmt:=top 31
abbrev UO:Stmt:=top 32
abbrev Vw:Stmt:=top 33
abbrev e4t:Stmt:=top 34
abbrev Uq:Stmt:=top 35
abbrev Ui:Stmt:=top 36
abbrev Uu:Stmt:=top 37
abbrev Yb:Stmt:=top 40
abbrev Ur:Stmt:=top 41
abbrev Ym:Stmt:=top 43
abbrev WG:Stmt:=top 44
abbrev Yn:Stmt:=top 45
abbrev WH:Stmt:=top 46
abbrev WI:Stmt:=top 47
abbrev Yo:Stmt:=top 48
abbrev Yp:Stmt:=top 49
abbrev WJ:Stmt:=top 50
abbrev Us:Stmt:=top 51
abbrev UP:Stmt:=top 52
abbrev U3:Stmt:=top 53
abbrev WK:Stmt:=top 54
abbrev Yq:Stmt:=top 55
abbrev Yr:Stmt:=top 56
abbrev U4:Stmt:=top 57
abbrev e8r:Stmt:=top 58
abbrev Ys:Stmt:=kD (top 39) 0
abbrev Vx:Stmt:=kD (top 39) 1
abbrev Vy:Stmt:=kD (top 39) 2
abbrev UQ:Stmt:=kD (top 39) 3
abbrev d8r:Stmt:=kD (top 39) 4
abbrev Yt:Stmt:=kD (top 39) 5
abbrev Yu:Stmt:=kD (top 39) 6
abbrev WL:Stmt:=kD (top 39) 7
abbrev Uj:Stmt:=kD (top 39) 8
abbrev Uv:Stmt:=kD (top 39) 9
abbrev Uk:Stmt:=kD (top 39) 10
abbrev WM:Stmt:=kD (top 39) 11
abbrev Vz:Stmt:=kD (top 39) 12
abbrev U5:Stmt:=kD (top 39) 15
abbrev Yv:Stmt:=kD (top 39) 16
abbrev d8s:Stmt:=kD (top 39) 17
abbrev Yw:Stmt:=kD (top 39) 18
abbrev U6:Stmt:=kD (top 39) 20
abbrev U7:Stmt:=kD (top 39) 21
abbrev UR:Stmt:=kD (top 39) 22
abbrev Yx:Stmt:=kD (top 39) 23
abbrev U8:Stmt:=kD (top 39) 24
abbrev US:Stmt:=kD (top 39) 25
noncomputable abbrev jk:List (Str×ag):=[("NoName",44),("NoSize",56),("NoOut",68),("NoHand",80),("NoMoment",92),("NoFlight",104),("NoBelt",116),("NoRoom",128),("NoBag",140)]
abbrev cHall:ag:=454
noncomputable abbrev atrs:List (ag×Str):=[(cHall,"built"),(cHall,"told_rounds"),(cHall,"now"),(cHall,"book"),(cHall,"halts"),(cHall,"places"),(cHall,"readings"),(cHall,"rounded"),(cHall,"gone"),(cHall,"carted")]
set_option genInjectivity false in
set_option genSizeOfSpec false in
structure aW where
 mI:ag
 mm:bR
 gL:ag
 gG:bR
 gK:ag
 gF:bR
 gH:ag
 gE:bR
 jK:ag
 jD:bR
 iO:ag
 iG:bR
 iN:ag
 iF:bR
 iL:ag
 iD:bR
 mQ:ag
 mD:bR
 mF:ag
 mh:bR
 yi:ag
 yd:bR
 oS:ag
 oz:bR
 yh:ag
 yb:bR
 pd:ag
 oQ:bR
 iM:ag
 iE:bR
 kT:ag
 kO:bR
 t7:ag
 tV:bR
 fj:ag
 eX:bR
 eF:ag
 eB:bR
 fS:ag
 fQ:bR
 oU:ag
 oA:bR
 eZ:ag
 eV:bR
 o6:ag
 oJ:bR
 mK:ag
 mr:bR
 o_:ag
 oP:bR
 mO:ag
 mB:bR
 mP:ag
 mC:bR
 o8:ag
 oM:bR
 o9:ag
 oO:bR
 mL:ag
 my:bR
 e_:ag
 eW:bR
 iS:ag
 iK:bR
 jJ:ag
 jC:bR
 mJ:ag
 mq:bR
 o5:ag
 oI:bR
 o7:ag
 oK:bR
 jI:ag
 jB:bR
 t6:ag
 tU:bR
 kR:ag
 kL:bR
 kQ:ag
 kK:bR
 kP:ag
 kJ:bR
 iP:ag
 iH:bR
 qH:ag
 qE:bR
 oY:ag
 oG:bR
 oZ:ag
 oH:bR
 mH:ag
 mj:bR
 eD:ag
 d_:bR
 fR:ag
 fP:bR
 eE:ag
 eA:bR
 mG:ag
 mi:bR
 kS:ag
 kN:bR
 jH:ag
 jA:bR
 oV:ag
 oB:bR
 qG:ag
 qD:bR
 oW:ag
 oE:bR
 jE:ag
 jx:bR
 jF:ag
 jy:bR
 iQ:ag
 iI:bR
 oX:ag
 oF:bR
 jG:ag
 jz:bR
 iR:ag
 iJ:bR
structure Txt (K:PySem.W.Frag) (mg:Str->ak ai) (t:aW):Prop where
 rj:aY K mg "is_name" WC t.mI t.mm ["thing"]
 lK:aY K mg "right_house" UB t.gL t.gG ["house"]
 lJ:aY K mg "check_carts" UC t.gK t.gF ["carts","taken"]
 lI:aY K mg "check_belts" UD t.gH t.gE ["belts","taken"]
 n_:aY K mg "take_name" U0 t.jK t.jD ["name","taken"]
 m6:aY K mg "check_outs" UL t.iO t.iG ["belts","carts"]
 mZ:aY K mg "check_hand" UM t.iN t.iF ["house"]
 mW:aY K mg "belt_names" UN t.iL t.iD ["belts"]
 rC:aY K mg "reached" WD t.mQ t.mD ["house","belt"]
 rb:aY K mg "belt_of" WE t.mF t.mh ["house","name"]
 Cw:aY K mg "far" e8p t.yi t.yd ["house","place","cart"]
 sM:aY K mg "begins" X_ t.oS t.oz ["house","cart"]
 Cv:aY K mg "arm" e8q t.yh t.yb ["house","belt","cart"]
 s_:aY K mg "wanted" Ya t.pd t.oQ ["hall"]
 mY:aY K mg "busy_belts" UO t.iM t.iE ["hall"]
 pZ:aY K mg "off_belt" Vw t.kT t.kO ["house","belt","cart","busy"]
 zh:aY K mg "turn" e4t t.t7 t.tV ["hall"]
 jV:aY K mg "stand_stopped" Uq t.fj t.eX ["bags","goals","stopped","whys"]
 je:aY K mg "stand_yielding" Ui t.eF t.eB ["bags","goals","whys"]
 ky:aY K mg "stand_behind" Uu t.fS t.fQ ["bags","goals","whys"]
 sN:aY K mg "copied" Yb t.oU t.oA ["house"]
 jT:aY K mg "check_closing" Ur t.eZ t.eV ["closing"]
 sV:aY K mg "_law_cell" Ym t.o6 t.oJ ["_law_script","_law_k"]
 rn:aY K mg "_law_digit" WG t.mK t.mr ["_law_script","_law_k","_law_at","_law_many"]
 sZ:aY K mg "_law_pick" Yn t.o_ t.oP ["_law_script","_law_k","_law_many"]
 rA:aY K mg "_law_other" WH t.mO t.mB ["_law_script","_law_k","_law_many"]
 rB:aY K mg "_law_third" WI t.mP t.mC ["_law_script","_law_k","_law_many"]
 sX:aY K mg "_law_name" Yo t.o8 t.oM ["_law_script","_law_k","_law_n"]
 sY:aY K mg "_law_outs" Yp t.o9 t.oO ["_law_script","_law_k","_law_names","_law_carts"]
 rq:aY K mg "_law_house" WJ t.mL t.my ["_law_script"]
 jU:aY K mg "_law_flight_name" Us t.e_ t.eW ["_law_script","_law_n"]
 m_:aY K mg "_law_bag_name" UP t.iS t.iK ["_law_script","_law_n"]
 n9:aY K mg "_law_closing" U3 t.jJ t.jC ["_law_script","_law_k"]
 rm:aY K mg "_law_deeds" WK t.mJ t.mq ["_law_script","_law_k","_law_house_here"]
 sU:aY K mg "_law_call" Yq t.o5 t.oI ["_law_hall","_law_deed"]
 sW:aY K mg "_law_done" Yr t.o7 t.oK ["_law_hall","_law_deed"]
 n8:aY K mg "_law_all_out" U4 t.jI t.jB ["_law_hall","_law_house_here"]
 s9:aY K mg "law" e8r t.t6 t.tU ["_law_script"]
 sP:Fun K "__init__" "Hall.__init__" Ys t.kR t.kL
 B_h_init:Binds K t.kL ["self","house","rounds"] []
 pX:MethAt K cHall "flight" "Hall.flight" Vx t.kQ t.kK ["self","name","cart","closing"]
 pW:MethAt K cHall "change" "Hall.change" Vy t.kP t.kJ ["self","name","closing"]
 m7:MethAt K cHall "call_off" "Hall.call_off" UQ t.iP t.iH ["self","name"]
 vK:MethAt K cHall "put" "Hall.put" d8r t.qH t.qE ["self","bag","flight","belt"]
 sS:MethAt K cHall "read" "Hall.read" Yt t.oY t.oG ["self","bag","flight"]
 sT:MethAt K cHall "stop" "Hall.stop" Yu t.oZ t.oH ["self","belt"]
 rh:MethAt K cHall "start" "Hall.start" WL t.mH t.mj ["self","belt"]
 ja:MethAt K cHall "check_flight" "Hall.check_flight" Uj t.eD t.d_ ["self","name"]
 kx:MethAt K cHall "check_belt" "Hall.check_belt" Uv t.fR t.fP ["self","name"]
 jb:MethAt K cHall "check_inside" "Hall.check_inside" Uk t.eE t.eA ["self","bag"]
 rf:MethAt K cHall "house" "Hall.house" WM t.mG t.mi ["self"]
 pY:MethAt K cHall "rounds" "Hall.rounds" Vz t.kS t.kN ["self"]
 n6:MethAt K cHall "stopped" "Hall.stopped" U5 t.jH t.jA ["self"]
 sO:MethAt K cHall "bags" "Hall.bags" Yv t.oV t.oB ["self"]
 vJ:MethAt K cHall "out" "Hall.out" d8s t.qG t.qD ["self"]
 sQ:MethAt K cHall "late" "Hall.late" Yw t.oW t.oE ["self"]
 nZ:MethAt K cHall "cart_of" "Hall.cart_of" U6 t.jE t.jx ["self","bag"]
 n4:MethAt K cHall "catches" "Hall.catches" U7 t.jF t.jy ["self","bag"]
 m8:MethAt K cHall "in_order" "Hall.in_order" UR t.iQ t.iI ["self"]
 sR:MethAt K cHall "move" "Hall.move" Yx t.oX t.oF ["self","moves"]
 n5:MethAt K cHall "move_on" "Hall.move_on" U8 t.jG t.jz ["self","bag","goal"]
 m9:MethAt K cHall "move_out" "Hall.move_out" US t.iR t.iJ ["self","bag","cart"]
 C_Hall:pU K cHall
 Mk_Hall:Mk K cHall t.kR
 mg_Hall:mg "Hall"=some (.ref cHall)
 atr:kr K atrs
 er:ra K mg jk 31
 b_len:mg "len"=none
 b_isinstance:mg "isinstance"=none
 b_int:mg "int"=none
 b_bool:mg "bool"=none
 b_str:mg "str"=none
 b_list:mg "list"=none
 b_tuple:mg "tuple"=none
 b_range:mg "range"=none
 b_enumerate:mg "enumerate"=none
 b_reversed:mg "reversed"=none
 b_all:mg "all"=none
 b_sorted:mg "sorted"=none
 b_dict:mg "dict"=none
 b_min:mg "min"=none
 b_sum:mg "sum"=none
 c_LETTERS:∃t,mg "LETTERS"=some (.str "abcdefghijklmnopqrstuvwxyz" t)
 c_MOST_LETTERS:∃t,mg "MOST_LETTERS"=some (.int 8 t)
def Ge(n1:Nat):GE:=(bD nH 0 (gC (.str "abcdefghijklmnopqrstuvwxyz")))
def CZ(q:Nat):GS:=(qM (cP (fq (cZ (gO (o2 jq) (cz 0 (gC (.ty "str")))))) (aG (gC (.bl false)))) (cP (fq (gB (KJ L4 L4 (gI 1) (gO (o1 dH) (br 0)) (gC (.int 8))))) (aG (gC (.bl false)))) (aG (gO (o1 (Hr ME)) (br (cv q (bL false fH 0) 0 (λ_=>iV true) Ge 1 [])))))
def qb:=aS 1 1 CZ
theorem e1c:cF Txt 1 aW.mI aW.mm ["thing"] 1 qb:=cK (λT=>T.rj.fn) ["thing"]
def NY(n1:Nat):GE:=(gX 0 (gI 0))
def N_(q:Nat):GS:=(cL (aG (cv q (bL false fH 0) 0 (λ_=>iV true) NY 1 [])))
def u7:=aS 1 1 N_
theorem d1m:cF Txt 1 aW.iL aW.iD ["belts"] 1 u7:=cK (λT=>T.mW.fn) ["belts"]
def Bu(n1:Nat):GS:=(cL (cP (gQ fy (gX 2 (gI 0)) 1) (aG (aZ true (lD (gX 2 (gI 0)) (gX 2 (gI 1)) (gX 2 (gI 2)) (gO (o1 k_) (br (gX 2 (gI 3)))))))))
def O_(q:Nat):GS:=(jM (bO q (bL true fH (gX 0 (gI 0))) 2 Bu) (aG (gC .aI)))
def zA:=aS 2 3 O_
theorem e1d:cF Txt 1 aW.mF aW.mh ["house","name"] 2 zA:=cK (λT=>T.rb.fn) ["house","name","belt"]
def JF(n2:Nat):GT:=(gQ nH 0 1)
def JG(n2:Nat):GE:=(gX 1 0)
def Bz(n1:Nat):GS:=(jM (av 7 false (cv n1 (bL false fH 6) 0 JF JG 1 [2])) (cP (cZ 7) (cx n1 (bD bw 4 (gO (o1 (md ic)) (br 7))) 2 3)))
def PV(q:Nat):GS:=(qM (av 2 true (qI (BM [(1,(gI 0))]))) (bO q (bL true A0 (gX 0 (gI 0))) (bF [3,4,5,6]) Bz) (aG 2))
def C5:=aS 2 8 PV
theorem e4u:cF Txt 1 aW.oS aW.oz ["house","cart"] 2 C5:=cK (λT=>T.sM.fn) ["house","cart","known","name","long","ring","outs","behind"]
def Bo(n1:Nat):GS:=(jM (av 8 false (gX 1 4)) (gj (gQ nH (gX 6 (gI 0)) 2) (cL (cx n1 (aZ true (cz (gC (.str "stopped")) (gX 6 (gI 0)))) 3 4)) (cL (cP (dz (cZ (gO (o2 jq) (cz 8 (gC (.ty "tuple"))))) (gQ nH (gX 8 (gI 0)) 2)) (cx n1 (aZ true (cz (gC (.str "stopped")) (gX 8 (gI 0)))) 3 4)))))
def NV(q:Nat):GS:=(cL (bO q (bL true fH 0) (bF [4,5,6,7]) Bo))
def F0:=aS 4 9 NV
theorem c2l:cF Txt 1 aW.fj aW.eX ["bags","goals","stopped","whys"] 4 F0:=cK (λT=>T.jV.fn) ["bags","goals","stopped","whys","bag","flight","place","gone","goal"]
def Jg(n1:Nat):GT:=(dz (gQ j7 (gX 0 (gI 0)) 1) (cZ (gO (o2 jq) (cz (gX 2 (gX 0 (gI 0))) (gC (.ty "tuple"))))))
def Jh(n1:Nat):GE:=0
def CF(n1:Nat):GS:=(jM (av 9 false (gX 1 5)) (cP (kZ (gQ j7 9 4) (gQ fy (gX 7 (gI 0)) (gX 9 (gI 0)))) (cx n1 5 4 9)))
def CG(n1:Nat):GS:=(jM (av 10 false (gX 4 (gX 1 5))) (cP (gQ MF 10 5) (cx n1 (aZ true (cz (gC (.str "yields")) 10)) 2 5)))
def NR(q:Nat):GS:=(vk (av 3 false (cv q (bL false fH 0) 0 Jg Jh 1 [2,1])) (av 4 true sx) (bO q (bL true fH 3) (bF [5,6,7,8]) CF) (bO q (bL true fH 3) (bF [5,6,7,8]) CG))
def FX:=aS 3 11 NR
theorem c1v:cF Txt 1 aW.eF aW.eB ["bags","goals","whys"] 3 FX:=cK (λT=>T.je.fn) ["bags","goals","whys","asking","chosen","bag","flight","place","gone","goal","other"]
def CH(n1:Nat):GS:=(cL (cx n1 4 3 6))
def zu(n1:Nat):GS:=(jM (av 9 false (Hs "dict" (o2 qK) 3 (br (gX 1 4)))) (gj (dz (gQ j7 4 2) (gQ nH 9 2)) (jM (cx n1 (aZ true (cz (gC (.str "behind")) 9)) 2 4) (av 8 false (gC (.bl true)))) pj))
def FY(q:Nat):GS:=(jM (av 8 false (gC (.bl false))) (bO q (bL true fH 1) 4 zu))
def NZ(q:Nat):GS:=(vk (av 3 true sx) (bO q (bL true fH 0) (bF [4,5,6,7]) CH) (av 8 false (gC (.bl true))) (cS (cZ 8) (FY q) 1000))
def F3:=aS 3 10 NZ
theorem c6h:cF Txt 1 aW.fS aW.fQ ["bags","goals","whys"] 3 F3:=cK (λT=>T.ky.fn) ["bags","goals","whys","holder","bag","flight","place","gone","grown","other"]
def NW(q:Nat):GS:=(cL (cP (gQ uJ 0 (gI 0)) (pI 92 (gC (.str "a flight closes at a moment from 0 on")))))
def CI:=aS 1 1 NW
theorem c2m:cF Txt 1 aW.eZ aW.eV ["closing"] 1 CI:=cK (λT=>T.jT.fn) ["closing"]
def J9(q:Nat):GS:=(jM (cP (gQ uJ 1 (gO (o1 dH) (br 0))) (aG (gX 0 1))) (aG (gI 0)))
def qz:=aS 2 2 J9
theorem e4v:cF Txt 1 aW.o6 aW.oJ ["_law_script","_law_k"] 2 qz:=cK (λT=>T.sV.fn) ["_law_script","_law_k"]
def OG(q:Nat):GS:=(cL (aG (bx atrs "told_rounds" 0)))
def CS:=aS 1 1 OG
theorem d8t:cF Txt 1 aW.kS aW.kN ["self"] 1 CS:=cK (λT=>T.pY.fn) ["self"]
def QY(q:Nat):GS:=(cL (aG (gO (o1 k_) (br (bx atrs "gone" 0)))))
def vV:=aS 1 1 QY
theorem e7t:cF Txt 1 aW.qG aW.qD ["self"] 1 vV:=cK (λT=>T.vJ.fn) ["self"]
def Oa(q:Nat):GS:=(qN (cW (gh q "dict" jO (bx atrs "places" 0) (br 1))) (cW (gh q "dict" jO (bx atrs "readings" 0) (br 1))) (cW (gh q "dict" jO (bx atrs "rounded" 0) (br 1))) (cx q 2 (bx atrs "carted" 0) 1) (cW (gh q "list" vU (bx atrs "gone" 0) (br (aZ true (dW 1 2 (bx atrs "now" 0)))))))
def CL:=aS 3 3 Oa
theorem d1n:cF Txt 1 aW.iR aW.iJ ["self","bag","cart"] 3 CL:=cK (λT=>T.m9.fn) ["self","bag","cart"]
def Om(q:Nat):GS:=(jM (cP (kZ (fq (cZ (ar (qb q) (br 0)))) (gQ nH 0 1)) (pI 44 (gC (.str "a belt or a cart has no name, or one that is taken")))) (cx q (gC (.bl true)) 1 0))
def Bv:=aS 2 2 Om
theorem d4n:cF Txt 2 aW.jK aW.jD ["name","taken"] 2 Bv:=cK (λT=>T.n_.fn) ["name","taken"]
def CJ(n2:Nat):GS:=(jM (cP (gQ j7 7 6) (pI 68 (zH (nU (gC (.str "belt ")) (nU (gO (o1 nu) (br 4)) (nU (gC (.str " has an out that is no cart, no belt behind it, or there twice")) kX)))))) (cW (gh n2 "list" G_ 6 (br 7))))
def F4(n1:Nat):GS:=(qN (av 4 false (gX 3 (gI 0))) (av 5 false (B3 (cZ (gO (o2 jq) (cz (gX 3 (gI 3)) (gC (.ty "list"))))) (gX 3 (gI 3)) (aZ false gN))) (av 6 true (bD bw (ar (u7 n1) (br (zQ 0 (BV (bD bw 2 (gI 1))) BU))) 1)) (bO n1 (bL true fH 5) 7 CJ) (cP (fq (cZ 5)) (pI 68 (zH (nU (gC (.str "belt ")) (nU (gO (o1 nu) (br 4)) (nU (gC (.str " has no outs")) kX)))))))
def Ob(q:Nat):GS:=(cL (bO q (bL true Le 0) (bF [2,3]) F4))
def F9:=aS 2 8 Ob
theorem d1o:cF Txt 2 aW.iO aW.iG ["belts","carts"] 2 F9:=cK (λT=>T.m6.fn) ["belts","carts","k","belt","name","outs","left","out"]
def CM(n2:Nat):GS:=(cL (cx n2 (gC (.bl true)) 2 7))
def Bw(n1:Nat):GS:=(cL (cP (kZ (gQ fy 3 1) (gQ nH 3 2)) (bO n1 (bL true fH 6) 7 CM)))
def Jy(n1:Nat):GT:=(gQ nH 0 1)
def Jz(n1:Nat):GE:=0
def Pa(q:Nat):GS:=(qM (av 2 true sx) (bO q (bL true fH (gX 0 (gI 0))) (bF [3,4,5,6]) Bw) (aG (cv q (bL false fH (bD bw (ar (u7 q) (br (gX 0 (gI 0)))) (gX 0 (gI 1)))) 0 Jy Jz 1 [2])))
def Gu:=aS 2 8 Pa
theorem e1e:cF Txt 2 aW.mQ aW.mD ["house","belt"] 2 Gu:=cK (λT=>T.rC.fn) ["house","belt","found","name","long","ring","outs","out"]
def SE(q:Nat):GS:=(qM (av 3 false (ar (C5 q) (cz 0 2))) (cP (gQ j7 (gX 1 (gI 0)) 3) (aG (gC .aI))) (aG (bD rK (gX 3 (gX 1 (gI 0))) (gX 1 (gI 1)))))
def HA:=aS 3 4 SE
theorem e9g:cF Txt 2 aW.yi aW.yd ["house","place","cart"] 3 HA:=cK (λT=>T.Cw.fn) ["house","place","cart","known"]
def Dk(n1:Nat):GS:=(cL (cP (dz (gQ nH 5 3) (kZ (gQ Io 4 (gC .aI)) (gQ uJ (gX 3 5) (gX 3 4)))) (av 4 false 5)))
def SF(q:Nat):GS:=(vk (av 3 false (ar (C5 q) (cz 0 2))) (av 4 false (gC .aI)) (bO q (bL true fH (gX (ar (zA q) (cz 0 1)) (gI 3))) 5 Dk) (aG 4))
def HC:=aS 3 6 SF
theorem e9h:cF Txt 2 aW.yh aW.yb ["house","belt","cart"] 3 HC:=cK (λT=>T.Cv.fn) ["house","belt","cart","known","best","out"]
def JH(n1:Nat):GE:=(ar (zA n1) (cz 1 0))
def PX(q:Nat):GS:=(jM (av 1 false (cv q (bL false fH (ar (u7 q) (br (gX 0 (gI 0))))) 0 (λ_=>iV true) JH 1 [0])) (aG (aZ true (cz 1 (gO (o1 k_) (br (gX 0 (gI 1))))))))
def C6:=aS 1 2 PX
theorem e4y:cF Txt 2 aW.oU aW.oA ["house"] 1 C6:=cK (λT=>T.sN.fn) ["house","belts"]
def JU(q:Nat):GS:=(vk (av 4 false (ar (qz q) (cz 0 1))) (cP (gQ fy (bD hV (ar (qz q) (cz 0 (gI 0))) (gI 2)) (gI 1)) (aG (bD hV (bD hV (bD tO 4 (gX (aZ false (om (gI 2) (lD (gI 128) (gI 8192) (gI 524288) (gI 33554432)))) 2)) (gI 64)) 3))) (av 5 false (bD hV (bD hZ (bD bw (bD bw (bD bw (bD hV 4 (gI 1000003)) (bD hZ 1 1)) (bD hZ (gI 1009) 2)) (gI 7)) (gI 48271)) (gI 999983))) (aG (bD hV (bD hV (bD hZ (bD bw (bD bw 5 (bD hZ (gI 5) 1)) 2) (bD bw (gI 69621) (bD hZ (gI 2) 2))) (gI 1000033)) 3)))
def il:=aS 4 6 JU
theorem e1f:cF Txt 2 aW.mK aW.mr ["_law_script","_law_k","_law_at","_law_many"] 4 il:=cK (λT=>T.rn.fn) ["_law_script","_law_k","_law_at","_law_many","_law_cell_here","_law_mixed"]
def OH(q:Nat):GS:=(vk (cP (kZ (fq (cZ (ar (qb q) (br 1)))) (gQ nH 1 (bx atrs "book" 0))) (pI 44 (gC (.str "a flight has no name, or one that another flight has")))) (cP (gQ j7 2 (zQ (gX (bx atrs "built" 0) (gI 1)) (BV (gI 1)) BU)) (pI 68 (gC (.str "a flight's cart is none of the house, or the hand")))) (cW (ar (CI q) (br 3))) (cx q (aZ true (dW 1 2 3)) (bx atrs "book" 0) 1))
def Gn:=aS 4 4 OH
theorem d8u:cF Txt 2 aW.kQ aW.kK ["self","name","cart","closing"] 4 Gn:=cK (λT=>T.pX.fn) ["self","name","cart","closing"]
def NS(q:Nat):GS:=(cL (cP (kZ (fq (cZ (ar (qb q) (br 1)))) (gQ j7 1 (bx atrs "book" 0))) (pI 104 (gC (.str "no flight is called so")))))
def zv:=aS 2 2 NS
theorem c1w:cF Txt 2 aW.eD aW.d_ ["self","name"] 2 zv:=cK (λT=>T.ja.fn) ["self","name"]
def N0(q:Nat):GS:=(cL (cP (gQ j7 1 (ar (u7 q) (br (gX (bx atrs "built" 0) (gI 0))))) (pI 116 (gC (.str "no belt is called so")))))
def Br:=aS 2 2 N0
theorem c6j:cF Txt 2 aW.fR aW.fP ["self","name"] 2 Br:=cK (λT=>T.kx.fn) ["self","name"]
def Jj(q:Nat):GS:=(cL (cP (kZ (fq (cZ (ar (qb q) (br 1)))) (gQ j7 1 (bx atrs "places" 0))) (pI 140 (gC (.str "no bag in the house is called so")))))
def zw:=aS 2 2 Jj
theorem c1x:cF Txt 2 aW.eE aW.eA ["self","bag"] 2 zw:=cK (λT=>T.jb.fn) ["self","bag"]
def Jq(n1:Nat):GT:=(gQ nH 0 (bx atrs "halts" 1))
def Jr(n1:Nat):GE:=0
def Oo(q:Nat):GS:=(cL (aG (cv q (bL false fH (ar (u7 q) (br (gX (bx atrs "built" 0) (gI 0))))) 0 Jq Jr 1 [0])))
def CN:=aS 1 1 Oo
theorem d4o:cF Txt 2 aW.jH aW.jA ["self"] 1 CN:=cK (λT=>T.n6.fn) ["self"]
def Jl(n1:Nat):GE:=(aZ true (dW (Hs "list" (o2 jm) 2 (br (gX 1 (gI 0)))) (gX 1 (gI 1)) 0))
def Jm(n1:Nat):GE:=(gX 0 (gI 2))
def Ju(q:Nat):GS:=(qM (av 1 false (ar (u7 q) (br (gX (bx atrs "built" 0) (gI 0))))) (av 2 false (cv q (bL false wC (bx atrs "places" 0)) (bF [0,1]) (λ_=>iV true) Jl 2 [1])) (aG (cv q (bL false fH (gO (o1 qY) (br 2))) 0 (λ_=>iV true) Jm 1 [])))
def Bs:=aS 1 3 Ju
theorem d1r:cF Txt 2 aW.iQ aW.iI ["self"] 1 Bs:=cK (λT=>T.m8.fn) ["self","ranks","spots"]
def JA(q:Nat):GS:=(vk (av 3 false (gX (bx atrs "places" 0) 1)) (av 4 false (ar (zA q) (cz (bx atrs "built" 0) (gX 3 (gI 0))))) (cP (dz (cZ (gX 4 (gI 2))) (dz (gQ fy 3 (aZ true (cz (gX 4 (gI 0)) (bD rK (gX 4 (gI 1)) (gI 1))))) (gQ fy 2 (aZ true (cz (gX 4 (gI 0)) (gI 0)))))) (KI q En (bx atrs "rounded" 0) 1 (gI 1))) (cx q 2 (bx atrs "places" 0) 1))
def xO:=aS 3 5 JA
theorem d4p:cF Txt 2 aW.jG aW.jz ["self","bag","goal"] 3 xO:=cK (λT=>T.n5.fn) ["self","bag","goal","was","belt"]
def F1(n1:Nat):GS:=(cL (cW (ar (Bv n1) (cz 2 1))))
def N4(q:Nat):GS:=(jM (bO q (bL true fH 0) 2 F1) (cP (fq (cZ 0)) (pI 80 (gC (.str "a house has a cart at least, the hand")))))
def F5:=aS 2 3 N4
theorem c8s:cF Txt 3 aW.gK aW.gF ["carts","taken"] 2 F5:=cK (λT=>T.lJ.fn) ["carts","taken","cart"]
def F2(n1:Nat):GS:=(qM (cW (ar (Bv n1) (cz 2 1))) (av 6 false (B3 (cZ 4) (gI 2) (gI 1))) (cP (gQ uJ 3 6) (pI 56 (zH (nU (gC (.str "belt ")) (nU (gO (o1 nu) (br 2)) (nU (gC (.str " has fewer than ")) (nU (gO (o1 nu) (br 6)) (nU (gC (.str " cells")) kX)))))))))
def N5(q:Nat):GS:=(cL (bO q (bL true fH 0) (bF [2,3,4,5]) F2))
def F6:=aS 2 7 N5
theorem c8t:cF Txt 3 aW.gH aW.gE ["belts","taken"] 2 F6:=cK (λT=>T.lI.fn) ["belts","taken","name","long","ring","outs","least"]
def Jn(n1:Nat):GS:=(cL (cP (gQ j7 1 (ar (Gu n1) (cz 0 2))) (pI 80 (zH (nU (gC (.str "the hand can not be come to from belt ")) (nU (gO (o1 nu) (br 2)) kX))))))
def Oc(q:Nat):GS:=(jM (av 1 false (gX (gX 0 (gI 1)) (gI 0))) (bO q (bL true fH (ar (u7 q) (br (gX 0 (gI 0))))) 2 Jn))
def F_:=aS 1 3 Oc
theorem d1s:cF Txt 3 aW.iN aW.iF ["house"] 1 F_:=cK (λT=>T.mZ.fn) ["house","hand","name"]
def CT(q:Nat):GS:=(vk (av 4 false (ar (HC q) (dW 0 (gX 1 (gI 0)) 2))) (cP (gQ nH 4 (gX 0 (gI 1))) (aG 4)) (cP (dz (cZ (gX 1 (gI 2))) (gQ nH 4 3)) (aG (aZ true (cz (gX 1 (gI 0)) (gI 0))))) (aG (aZ true (cz 4 (gI 0)))))
def si:=aS 4 5 CT
theorem d8v:cF Txt 3 aW.kT aW.kO ["house","belt","cart","busy"] 4 si:=cK (λT=>T.pZ.fn) ["house","belt","cart","busy","out"]
def PY(q:Nat):GS:=(cL (aG (ar (il q) (lD 0 1 (gI 0) 2))))
def lO:=aS 3 3 PY
theorem e4z:cF Txt 3 aW.o_ aW.oP ["_law_script","_law_k","_law_many"] 3 lO:=cK (λT=>T.sZ.fn) ["_law_script","_law_k","_law_many"]
def Pb(q:Nat):GS:=(cL (aG (ar (il q) (lD 0 1 (gI 1) 2))))
def kc:=aS 3 3 Pb
theorem e1g:cF Txt 3 aW.mO aW.mB ["_law_script","_law_k","_law_many"] 3 kc:=cK (λT=>T.rA.fn) ["_law_script","_law_k","_law_many"]
def Pc(q:Nat):GS:=(cL (aG (ar (il q) (lD 0 1 (gI 2) 2))))
def og:=aS 3 3 Pc
theorem e1h:cF Txt 3 aW.mP aW.mC ["_law_script","_law_k","_law_many"] 3 og:=cK (λT=>T.rB.fn) ["_law_script","_law_k","_law_many"]
def OI(q:Nat):GS:=(qM (cW (aN cHall "check_flight" (zv q) 0 (br 1))) (cW (ar (CI q) (br 2))) (cx q (aZ true (dW 1 (gX (gX (bx atrs "book" 0) 1) (gI 1)) 2)) (bx atrs "book" 0) 1))
def Gp:=aS 3 3 OI
theorem d8w:cF Txt 3 aW.kP aW.kJ ["self","name","closing"] 3 Gp:=cK (λT=>T.pW.fn) ["self","name","closing"]
def CK(n1:Nat):GS:=(cL (cP (gQ fy (gX (bx atrs "readings" 0) 2) 1) (cx n1 (gC .aI) (bx atrs "readings" 0) 2)))
def Od(q:Nat):GS:=(qM (cW (aN cHall "check_flight" (zv q) 0 (br 1))) (cW (gh q "dict" jO (bx atrs "book" 0) (br 1))) (bO q (bL true fH (gO (o1 k_) (br (bx atrs "readings" 0)))) 2 CK))
def Ga:=aS 2 3 Od
theorem d1t:cF Txt 3 aW.iP aW.iH ["self","name"] 2 Ga:=cK (λT=>T.m7.fn) ["self","name","bag"]
def tL(q:Nat):GS:=(dR (cP (kZ (fq (cZ (ar (qb q) (br 1)))) (kZ (gQ nH 1 (bx atrs "places" 0)) (gQ nH 1 (bx atrs "carted" 0)))) (pI 44 (gC (.str "a bag has no name, or one that a bag of this hall has or had")))) (dR (cP (gQ AS 2 (gC .aI)) (cW (aN cHall "check_flight" (zv q) 0 (br 2)))) (dR (cW (aN cHall "check_belt" (Br q) 0 (br 3))) (qN (av 4 false (aZ true (cz 3 (gI 0)))) (cP (gQ nH 4 (gO (o1 q8) (br (bx atrs "places" 0)))) (pI 128 (zH (nU (gC (.str "cell 0 of belt ")) (nU (gO (o1 nu) (br 3)) (nU (gC (.str " has a bag")) kX)))))) (cx q 4 (bx atrs "places" 0) 1) (cx q 2 (bx atrs "readings" 0) 1) (cx q (gI 0) (bx atrs "rounded" 0) 1)))))
def rJ:=aS 4 5 tL
theorem e7u:cF Txt 3 aW.qH aW.qE ["self","bag","flight","belt"] 4 rJ:=cK (λT=>T.vK.fn) ["self","bag","flight","belt","place"]
def PZ(q:Nat):GS:=(qM (cW (aN cHall "check_inside" (zw q) 0 (br 1))) (cW (aN cHall "check_flight" (zv q) 0 (br 2))) (cx q 2 (bx atrs "readings" 0) 1))
def GN:=aS 3 3 PZ
theorem e5a:cF Txt 3 aW.oY aW.oG ["self","bag","flight"] 3 GN:=cK (λT=>T.sS.fn) ["self","bag","flight"]
def J_(q:Nat):GS:=(jM (cW (aN cHall "check_belt" (Br q) 0 (br 1))) (cx q (gC (.bl true)) (bx atrs "halts" 0) 1))
def C7:=aS 2 2 J_
theorem e5b:cF Txt 3 aW.oZ aW.oH ["self","belt"] 2 C7:=cK (λT=>T.sT.fn) ["self","belt"]
def JV(q:Nat):GS:=(jM (cW (aN cHall "check_belt" (Br q) 0 (br 1))) (cP (gQ nH 1 (bx atrs "halts" 0)) (cW (gh q "dict" jO (bx atrs "halts" 0) (br 1)))))
def zB:=aS 2 2 JV
theorem e1i:cF Txt 3 aW.mH aW.mj ["self","belt"] 2 zB:=cK (λT=>T.rh.fn) ["self","belt"]
def Pd(q:Nat):GS:=(cL (aG (ar (C6 q) (br (bx atrs "built" 0)))))
def Gv:=aS 1 1 Pd
theorem e1j:cF Txt 3 aW.mG aW.mi ["self"] 1 Gv:=cK (λT=>T.rf.fn) ["self"]
def JI(n1:Nat):GE:=(aZ true (lD 0 (gX (bx atrs "readings" 1) 0) (gX (bx atrs "places" 1) 0) (gX (bx atrs "rounded" 1) 0)))
def P1(q:Nat):GS:=(cL (aG (cv q (bL false fH (aN cHall "in_order" (Bs q) 0 gN)) 0 (λ_=>iV true) JI 1 [0])))
def qc:=aS 1 1 P1
theorem e5c:cF Txt 3 aW.oV aW.oB ["self"] 1 qc:=cK (λT=>T.sO.fn) ["self"]
def Oq(q:Nat):GS:=(vk (cP (gQ Io (gX (bx atrs "readings" 0) 1) (gC .aI)) (aG (gC (.bl false)))) (av 2 false (gX (bx atrs "book" 0) (gX (bx atrs "readings" 0) 1))) (av 3 false (ar (HA q) (dW (bx atrs "built" 0) (gX (bx atrs "places" 0) 1) (gX 2 (gI 1))))) (aG (t_ (bD AS 3 (gC .aI)) (bD qLe (bD bw (bx atrs "now" 0) 3) (gX 2 (gI 2))))))
def CO:=aS 2 4 Oq
theorem d4q:cF Txt 3 aW.jF aW.jy ["self","bag"] 2 CO:=cK (λT=>T.n4.fn) ["self","bag","flight","needed"]
def zz(n1:Nat):GS:=(cL (gj (cZ (gO (o2 jq) (cz 3 (gC (.ty "tuple"))))) (cL (cW (aN cHall "move_on" (xO n1) 0 (cz 2 3)))) (cL (cW (aN cHall "move_out" (CL n1) 0 (cz 2 3))))))
def P4(q:Nat):GS:=(jM (KH q En atrs "now" 0 (gI 1)) (bO q (bL true fH 1) (bF [2,3]) zz))
def GP:=aS 2 4 P4
theorem e5d:cF Txt 3 aW.oX aW.oF ["self","moves"] 2 GP:=cK (λT=>T.sR.fn) ["self","moves","bag","goal"]
def N6(q:Nat):GS:=(dR (av 1 false (gX 0 (gI 0))) (dR (av 2 false (gX 0 (gI 1))) (dR (av 3 true sx) (qN (cW (ar (F5 q) (cz 2 3))) (cW (ar (F6 q) (cz 1 3))) (cW (ar (F9 q) (cz 1 2))) (cW (ar (F_ q) (br 0))) (aG (gC (.bl true)))))))
def F7:=aS 1 4 N6
theorem c8u:cF Txt 4 aW.gL aW.gG ["house"] 1 F7:=cK (λT=>T.lK.fn) ["house","belts","carts","taken"]
def Jo(n1:Nat):GT:=(gQ fy (gX (gX 0 (gI 2)) (gI 1)) (gI 0))
def Jp(n1:Nat):GE:=(gX (gX 0 (gI 2)) (gI 0))
def Oe(q:Nat):GS:=(cL (aG (bD bw (aN cHall "stopped" (CN q) 0 gN) (cv q (bL false fH (aN cHall "bags" (qc q) 0 gN)) 0 Jo Jp 1 []))))
def Gb:=aS 1 1 Oe
theorem d1u:cF Txt 4 aW.iM aW.iE ["hall"] 1 Gb:=cK (λT=>T.mY.fn) ["hall"]
def J'(q:Nat):GS:=(dR (av 3 false (gC (.str "abcdefghijklmnopqrstuvwxyz"))) (dR (av 4 false (ar (lO q) (dW 0 1 (gI 26)))) (qN (cP (gQ fy (ar (kc q) (dW 0 1 (gI 3))) (gI 0)) (aG (bD hZ (gX 3 (bD hV (bD bw 4 (bD tO 2 (gI 8))) (gI 26))) (bD bw (gI 1) (bD hV 2 (gI 8)))))) (av 5 false (bD bw (gI 1) (ar (og q) (dW 0 1 (gI 8))))) (av 6 false (ar (kc q) (dW 0 1 5))) (av 7 false (gX 3 (ar (il q) (lD 0 1 (gI 3) (gI 26))))) (aG (bD bw (bD bw (bD hZ 7 6) (gX 3 (bD hV (bD bw (bD hZ (gI 7) 2) 4) (gI 26)))) (bD hZ 7 (bD rK (bD rK 5 (gI 1)) 6)))))))
def sk:=aS 3 8 J'
theorem e5e:cF Txt 4 aW.o8 aW.oM ["_law_script","_law_k","_law_n"] 3 sk:=cK (λT=>T.sX.fn) ["_law_script","_law_k","_law_n","_law_letters","_law_base","_law_many","_law_spot","_law_rest"]
def vO(n1:Nat):GS:=(jM (av 9 false (gX 5 (ar (il n1) (lD 0 (bD bw (gI 6) 1) (bD bw (gI 1) 8) (gO (o1 dH) (br 5)))))) (cP (gQ j7 9 6) (cW (gh n1 "list" Dj 6 (cz (bD hV (bD hV (bD tO 7 (gX (aZ false (dW (gI 1) (gI 4) (gI 16))) 8)) (gI 4)) (bD bw (gO (o1 dH) (br 6)) (gI 1))) 9)))))
def JJ(n1:Nat):GT:=(gQ nH 0 1)
def JK(n1:Nat):GE:=0
def GQ(q:Nat):GS:=(dR (av 4 false (zQ 2 (BV (bD bw 1 (gI 1))) BU)) (dR (av 5 false (bD bw 4 3)) (qN (av 6 true (aZ false gN)) (av 7 false (ar (og q) (dW 0 (bD bw (gI 1) 1) (gI 64)))) (bO q (j0 nK (br (bD bw (gI 1) (ar (lO q) (dW 0 (bD bw (gI 6) 1) (gI 3)))))) 8 vO) (cP (dz (gQ j7 (gX 3 (gI 0)) 6) (gQ fy (gO (o1 dH) (br (cv q (bL false fH 6) 0 JJ JK 1 [4]))) (gI 0))) (cW (gh q "list" Dj 6 (cz (ar (il q) (lD 0 (bD bw (gI 1) 1) (gI 3) (bD bw (gO (o1 dH) (br 6)) (gI 1)))) (gX 3 (gI 0)))))) (aG 6))))
def rH:=aS 4 10 GQ
theorem e5f:cF Txt 4 aW.o9 aW.oO ["_law_script","_law_k","_law_names","_law_carts"] 4 rH:=cK (λT=>T.sY.fn) ["_law_script","_law_k","_law_names","_law_carts","_law_later","_law_some","_law_outs_here","_law_spots","_law_j","_law_out"]
def Gf(q:Nat):GS:=(vk (av 2 false (ar (lO q) (dW 0 (bD bw 1 (gI 1)) (gI 10)))) (cP (gQ fy 2 (gI 0)) (aG (bD rK (gO (o1 wK) (br (gI 1))) (bD hV (ar (qz q) (cz 0 1)) (bD DB (gI 10) (gI 8)))))) (cP (gQ fy 2 (gI 1)) (aG (bD hV (ar (qz q) (cz 0 1)) (bD DB (gI 10) (gI 9))))) (aG (ar (il q) (lD 0 (bD bw 1 (gI 1)) (gI 3) (gI 30)))))
def xP:=aS 2 3 Gf
theorem d4r:cF Txt 4 aW.jJ aW.jC ["_law_script","_law_k"] 2 xP:=cK (λT=>T.n9.fn) ["_law_script","_law_k","_law_kind"]
def vR(q:Nat):GS:=(cL (gj (gQ fy (gX 1 (gI 0)) (gC (.str "flight"))) (cL (cW (aN cHall "flight" (Gn q) 0 (dW (gX 1 (gI 1)) (gX 1 (gI 2)) (gX 1 (gI 3)))))) (cL (gj (gQ fy (gX 1 (gI 0)) (gC (.str "change"))) (cL (cW (aN cHall "change" (Gp q) 0 (cz (gX 1 (gI 1)) (gX 1 (gI 2)))))) (cL (gj (gQ fy (gX 1 (gI 0)) (gC (.str "off"))) (cL (cW (aN cHall "call_off" (Ga q) 0 (br (gX 1 (gI 1)))))) (cL (gj (gQ fy (gX 1 (gI 0)) (gC (.str "put"))) (cL (cP (gQ uJ (gO (o1 dH) (br (aN cHall "bags" (qc q) 0 gN))) (gI 8)) (cW (aN cHall "put" (rJ q) 0 (dW (gX 1 (gI 1)) (gX 1 (gI 2)) (gX 1 (gI 3))))))) (cL (gj (gQ fy (gX 1 (gI 0)) (gC (.str "read"))) (cL (cW (aN cHall "read" (GN q) 0 (cz (gX 1 (gI 1)) (gX 1 (gI 2)))))) (cL (gj (gQ fy (gX 1 (gI 0)) (gC (.str "stop"))) (cL (cW (aN cHall "stop" (C7 q) 0 (br (gX 1 (gI 1)))))) (cL (cP (gQ fy (gX 1 (gI 0)) (gC (.str "start"))) (cW (aN cHall "start" (zB q) 0 (br (gX 1 (gI 1)))))))))))))))))))
def tK:=aS 2 2 vR
theorem e5g:cF Txt 4 aW.o5 aW.oI ["_law_hall","_law_deed"] 2 tK:=cK (λT=>T.sU.fn) ["_law_hall","_law_deed"]
def VA(n1:Nat):GT:=(dz (gQ AS (gX (bx atrs "readings" 1) 0) (gC .aI)) (fq (cZ (aN cHall "catches" (CO n1) 1 (br 0)))))
def VB(n1:Nat):GE:=0
def P5(q:Nat):GS:=(cL (aG (cv q (bL false fH (aN cHall "in_order" (Bs q) 0 gN)) 0 VA VB 1 [0])))
def C8:=aS 1 1 P5
theorem e5h:cF Txt 4 aW.oW aW.oE ["self"] 1 C8:=cK (λT=>T.sQ.fn) ["self"]
def Ot(q:Nat):GS:=(qM (cW (aN cHall "check_inside" (zw q) 0 (br 1))) (cP (cZ (aN cHall "catches" (CO q) 0 (br 1))) (aG (gX (gX (bx atrs "book" 0) (gX (bx atrs "readings" 0) 1)) (gI 1)))) (aG (gX (gX (bx atrs "built" 0) (gI 1)) (gI 0))))
def Gg:=aS 2 2 Ot
theorem d4s:cF Txt 4 aW.jE aW.jx ["self","bag"] 2 Gg:=cK (λT=>T.nZ.fn) ["self","bag"]
def vP(n1:Nat):GS:=(qM (av 8 false (ar (zA n1) (cz 1 (gX 6 (gI 0))))) (gj (gQ uJ (bD bw (gX 6 (gI 1)) (gI 1)) (gX 8 (gI 1))) (cL (av 9 false (aZ true (cz (gX 6 (gI 0)) (bD bw (gX 6 (gI 1)) (gI 1)))))) (cL (gj (dz (cZ (gX 8 (gI 2))) (dz (gQ Io 5 (gC .aI)) (gQ uJ 7 (aN cHall "rounds" (CS n1) 0 gN)))) (cL (av 9 false (aZ true (cz (gX 6 (gI 0)) (gI 0))))) (cL (av 9 false (ar (si n1) (lD 1 8 (aN cHall "cart_of" (Gg n1) 0 (br 4)) 2))))))) (cW (gh n1 "list" vU 3 (br (aZ true (cz 4 9))))))
def P6(q:Nat):GS:=(qN (av 1 false (aN cHall "house" (Gv q) 0 gN)) (av 2 false (ar (Gb q) (br 0))) (av 3 true (aZ false gN)) (bO q (bL true fH (aN cHall "bags" (qc q) 0 gN)) (bF [4,5,6,7]) vP) (aG 3))
def GR:=aS 1 10 P6
theorem e5i:cF Txt 5 aW.pd aW.oQ ["hall"] 1 GR:=cK (λT=>T.s_.fn) ["hall","house","busy","told","bag","flight","place","gone","belt","goal"]
def Gh(n1:Nat):GE:=(ar (sk n1) (dW 1 (gI 11) 0))
def Gi(n1:Nat):GE:=(ar (sk n1) (dW 1 (gI 11) (bD bw (gI 10) 0)))
def qx(n1:Nat):GS:=(qN (av 5 false (bD fy (ar (lO n1) (dW 0 (bD bw (gI 1) 4) (gI 3))) (gI 0))) (av 6 false (bD bw (gI 1) (ar (kc n1) (dW 0 (bD bw (gI 1) 4) (gI 5))))) (cP (dz (gQ fy 4 (gI 0)) (dz (gQ uJ (gO (o1 dH) (br 1)) (gI 3)) (gQ fy (ar (og n1) (dW 0 (gI 0) (gI 3))) (gI 1)))) (av 6 false (bD bw (gI 10) (ar (il n1) (lD 0 (gI 0) (gI 3) (gI 14)))))) (cP (cZ 5) (av 6 false (bD bw 6 (gI 1)))) (cW (gh n1 "list" vU 3 (br (aZ true (lD (gX 1 4) 6 5 (ar (rH n1) (lD 0 4 1 2))))))))
def Pe(q:Nat):GS:=(qN (av 1 false (cv q (j0 nK (br (bD bw (gI 1) (ar (lO q) (dW 0 (gI 0) (gI 5)))))) 0 (λ_=>iV true) Gh 1 [0])) (av 2 false (cv q (j0 nK (br (bD bw (gI 1) (ar (kc q) (dW 0 (gI 0) (gI 4)))))) 0 (λ_=>iV true) Gi 1 [0])) (av 3 true (aZ false gN)) (bO q (j0 nK (br (gO (o1 dH) (br 1)))) 4 qx) (aG (aZ true (cz 3 2))))
def BB:=aS 1 7 Pe
theorem e1k:cF Txt 5 aW.mL aW.my ["_law_script"] 1 BB:=cK (λT=>T.rq.fn) ["_law_script","_law_names","_law_carts","_law_belts","_law_k","_law_ring","_law_long"]
def Jk(q:Nat):GS:=(jM (cP (gQ fy 1 (gI 6)) (aG (gC (.str "A")))) (aG (ar (sk q) (dW 0 (gX (aZ false (dW (gI 11) (gI 12) (gI 13))) (ar (il q) (lD 0 (gI 12) (gI 4) (gI 3)))) 1))))
def Bp:=aS 2 2 Jk
theorem c2n:cF Txt 5 aW.e_ aW.eW ["_law_script","_law_n"] 2 Bp:=cK (λT=>T.jU.fn) ["_law_script","_law_n"]
def Jv(q:Nat):GS:=(jM (cP (gQ fy 1 (gI 12)) (aG (gC (.str "b1")))) (aG (ar (sk q) (dW 0 (gX (aZ false (dW (gI 11) (gI 12) (gI 13))) (ar (il q) (lD 0 (gI 13) (gI 4) (gI 3)))) 1))))
def Bt:=aS 2 2 Jv
theorem d1v:cF Txt 5 aW.iS aW.iK ["_law_script","_law_n"] 2 Bt:=cK (λT=>T.m_.fn) ["_law_script","_law_n"]
def Ka(q:Nat):GS:=(qM (av 2 false (gC (.bl true))) (ud (cL (cW (ar (tK q) (cz 0 1)))) [(wT jk,(cL (av 2 false (gC (.bl false)))))]) (aG 2))
def C9:=aS 2 3 Ka
theorem e5j:cF Txt 5 aW.o7 aW.oK ["_law_hall","_law_deed"] 2 C9:=cK (λT=>T.sW.fn) ["_law_hall","_law_deed","_law_done_here"]
def P7(q:Nat):GS:=(dR (cW (ar (F7 q) (br 1))) (dR (fm q atrs "built" (ar (C6 q) (br 1)) 0) (dR (fm q atrs "told_rounds" 2 0) (dR (fm q atrs "now" (gI 0) 0) (dR (fm q atrs "book" (jL sx) 0) (dR (fm q atrs "halts" (jL sx) 0) (qN (fm q atrs "places" (jL sx) 0) (fm q atrs "readings" (jL sx) 0) (fm q atrs "rounded" (jL sx) 0) (fm q atrs "gone" (jL (aZ false gN)) 0) (fm q atrs "carted" (jL sx) 0))))))))
def C_:=aS 3 3 P7
theorem e5k:cF Txt 5 aW.kR aW.kL ["self","house","rounds"] 3 C_:=cK (λT=>T.sP) ["self","house","rounds"]
def Dc(n1:Nat):GS:=(cL (gj (gQ nH 6 3) (cL (cW (gh n1 "list" vU 4 (br (aZ true (lD 6 8 8 (gX 3 6))))))) (jM (cW (gh n1 "list" vU 4 (br (aZ true (lD 6 8 (gX 2 6) (gC .aI)))))) (cW (gh n1 "list" vU 5 (br (aZ true (cz 6 (gX 2 6)))))))))
def Sh(q:Nat):GS:=(dR (av 1 false (aN cHall "bags" (qc q) 0 gN)) (dR (av 2 false (gO (o1 qF) (br (ar (GR q) (br 0))))) (dR (av 3 true sx) (dR (cW (ar (F0 q) (lD 1 2 (aN cHall "stopped" (CN q) 0 gN) 3))) (dR (cW (ar (FX q) (dW 1 2 3))) (dR (cW (ar (F3 q) (dW 1 2 3))) (qN (av 4 true (aZ false gN)) (av 5 true (aZ false gN)) (bO q (bL true fH 1) (bF [6,7,8,9]) Dc) (cW (aN cHall "move" (GP q) 0 (br 5))) (aG 4))))))))
def xY:=aS 1 10 Sh
theorem e8s:cF Txt 6 aW.t7 aW.tV ["hall"] 1 xY:=cK (λT=>T.zh.fn) ["hall","bags","goals","whys","log","moves","bag","flight","place","gone"]
def Gj(n1:Nat):GE:=(gX 0 (gI 0))
def tI(q:Nat):GS:=(dR (cP (gQ uJ 3 (gI 3)) (aG (aZ false (br 10)))) (dR (cP (gQ fy 3 (gI 3)) (aG (aZ false (br (aZ true (dW (gC (.str "change")) 5 (ar (xP q) (cz 0 1)))))))) (dR (cP (gQ fy 3 (gI 4)) (aG (aZ false (br (aZ true (cz (gC (.str "off")) 5)))))) (qN (cP (gQ fy 3 (gI 5)) (aG (aZ false (cz (aZ true (cz (gC (.str "off")) 5)) 10)))) (gj (gQ uJ 3 (gI 11)) (jM (cP (gQ fy (ar (kc q) (dW 0 (bD bw 1 (gI 1)) (gI 3))) (gI 0)) (aG (aZ false (br (aZ true (lD (gC (.str "put")) 6 (gC .aI) 8)))))) (aG (aZ false (br (aZ true (lD (gC (.str "put")) 6 5 8)))))) pj) (cP (gQ fy 3 (gI 11)) (aG (aZ false (br (aZ true (dW (gC (.str "read")) 6 5)))))) (cP (gQ uJ 3 (gI 14)) (aG (aZ false (br (aZ true (cz (gX (aZ false (cz (gC (.str "stop")) (gC (.str "start")))) (bD rK 3 (gI 12))) 8)))))) (aG (aZ false (br (aZ true (cz (gC (.str "turn")) (bD bw (gI 1) (ar (og q) (dW 0 (bD bw 1 (gI 1)) (B3 (gQ qGt (gX (gX (gX 2 (gI 0)) (gI 0)) (gI 1)) (gI 9)) (gI 12) (gI 4))))))))))))))
def JW(rest:GS)(q:Nat):GS:=(dR (av 3 false (ar (lO q) (dW 0 1 (gI 20)))) (dR (av 4 false (ar (og q) (dW 0 1 (gI 10)))) (dR (av 5 false (ar (Bp q) (cz 0 (B3 (gQ fy 4 (gI 9)) (gI 6) (bD hV 4 (gI 3)))))) (dR (av 6 false (ar (Bt q) (cz 0 (ar (kc q) (dW 0 1 (gI 13)))))) (dR (av 7 false (cv q (bL false fH (gX 2 (gI 0))) 0 (λ_=>iV true) Gj 1 [])) (dR (av 8 false (gX (bD bw (bD bw 7 7) (zQ (gX 2 (gI 1)) BU (BV (gI 1)))) (ar (og q) (dW 0 (bD bw 1 (gI 1)) (bD bw (bD hZ (gI 2) (gO (o1 dH) (br 7))) (gI 1)))))) (dR (av 9 false (bD bw (gX 2 (gI 1)) (zQ 7 BU (BV (gI 1))))) (dR (av 10 false (aZ true (lD (gC (.str "flight")) 5 (gX 9 (ar (kc q) (dW 0 (bD bw 1 (gI 1)) (gO (o1 dH) (br 9))))) (ar (xP q) (cz 0 1))))) rest))))))))
def rG(q:Nat):GS:=(JW (tI q) q)
def BC:=aS 3 11 rG
theorem e1l:cF Txt 6 aW.mJ aW.mq ["_law_script","_law_k","_law_house_here"] 3 BC:=cK (λT=>T.rm.fn) ["_law_script","_law_k","_law_house_here","_law_kind","_law_mark","_law_flight","_law_bag","_law_belts","_law_belt","_law_carts","_law_told"]
def F8(n1:Nat):GE:=(gX 0 (gI 1))
def Js(n2:Nat):GT:=(dz (gQ Io (gX 0 (gI 3)) (gC .aI)) (gQ MF (gX 0 (gI 2)) (gX 0 (gI 1))))
def Jt(n2:Nat):GE:=0
def zx(n1:Nat):GS:=(qN (av 6 false (aN cHall "bags" (qc n1) 0 gN)) (cP (gQ fy (gO (o1 dH) (br 6)) (gI 0)) (aG (gC (.bl true)))) (av 7 false (ar (xY n1) (br 0))) (cP (gQ fy (gO (o1 dH) (br (cv n1 (bL false fH 7) 0 Js Jt 1 []))) (gI 0)) (aG (gC (.bl false)))) (cP (gQ fy (aN cHall "bags" (qc n1) 0 gN) 6) (aG (gC (.bl false)))))
def Ou(q:Nat):GS:=(qN (av 2 false (gO (o1 dH) (br (aN cHall "bags" (qc q) 0 gN)))) (av 3 false (gO (o1 (md uM)) (br (cv q (bL false fH (gX 1 (gI 0))) 0 (λ_=>iV true) F8 1 [])))) (av 4 false (bD hZ (bD hZ 2 (gO (o1 dH) (br (gX 1 (gI 0))))) (bD bw (bD hZ (bD bw (aN cHall "rounds" (CS q) 0 gN) (gI 2)) 3) 2))) (bO q (j0 nK (br (bD bw 4 (gI 1)))) 5 zx) (aG (gC (.bl false))))
def By:=aS 2 8 Ou
theorem d4u:cF Txt 7 aW.jI aW.jB ["_law_hall","_law_house_here"] 2 By:=cK (λT=>T.n8.fn) ["_law_hall","_law_house_here","_law_many","_law_cells","_law_most","_law_k","_law_rows","_law_log"]
def Dl(n3:Nat):GS:=(cL (cW (ar (xY n3) (br 2))))
def BN(n2:Nat):GS:=(cL (gj (gQ fy (gX 4 (gI 0)) (gC (.str "turn"))) (cL (bO n2 (j0 nK (br (gX 4 (gI 1)))) 5 Dl)) (cL (cW (ar (C9 n2) (cz 2 4))))))
def BO(n1:Nat):GS:=(cL (bO n1 (bL true fH (ar (BC n1) (dW 0 3 1))) 4 BN))
def BP(n1:Nat):GS:=(cL (cW (aN cHall "start" (zB n1) 2 (br (gX 6 (gI 0))))))
def SG(q:Nat):GS:=(qM (av 7 false (bD bw (gO (o1 dH) (br (aN cHall "bags" (qc q) 2 gN))) (gO (o1 dH) (br (aN cHall "out" (vV q) 2 gN))))) (cP (kZ (fq (cZ (ar (By q) (cz 2 1)))) (gQ MF (gO (o1 dH) (br (aN cHall "out" (vV q) 2 gN))) 7)) (aG (gC (.bl false)))) (aG (t_ (bD fy (ar (xY q) (br 2)) (aZ false gN)) (t_ (bD fy (aN cHall "bags" (qc q) 2 gN) (aZ false gN)) (t_ (bD fy (aN cHall "late" (C8 q) 2 gN) (aZ false gN)) (bD fy (gO (o1 dH) (br (aN cHall "out" (vV q) 2 gN))) 7))))))
def K8(rest:GS)(q:Nat):GS:=(dR (av 1 false (ar (BB q) (br 0))) (dR (av 2 false (ua cHall (C_ q) (cz 1 (ar (lO q) (dW 0 (gI 14) (gI 3)))))) (dR (bO q (j0 wW (dW (gI 15) (bD bw (gI 23) (bD hZ (gI 2) (ar (kc q) (dW 0 (gI 14) (gI 20))))) (gI 2))) 3 BO) (dR (bO q (bL true fH (gX 1 (gI 0))) 6 BP) rest))))
def HD(q:Nat):GS:=(K8 (SG q) q)
def DH:=aS 1 8 HD
theorem e5m:cF Txt 8 aW.t6 aW.tU ["_law_script"] 1 DH:=cK (λT=>T.s9.fn) ["_law_script","_law_house_here","_law_hall","_law_k","_law_deed","_law_count","_law_belt","_law_many"]
variable{i n:Nat}
abbrev Pr(M:Nat->GM)(vs:List Val)(r:Rv):Prop:=∀q S,M q vs S=some (.ok r S)
noncomputable abbrev ba(ns:List Int):D:=.lst (ns.map D.int)
theorem qq0{α:Type _}{a:α}{l:List α}:(a::l)[0]?=some a:=rfl
theorem qq1{α:Type _}{a:α}{l:List α}:(a::l)[i+1]?=l[i]?:=rfl
theorem qq2{α:Type _}{a:α}{l:List α}:(a::l).length=l.length+1:=rfl
theorem qq3{α:Type _}:([]:List α).length=0:=rfl
theorem qq4{α:Type _}{x a:α}{l:List α}:(x::l).set 0 a=a::l:=rfl
theorem qq5{α:Type _}{x a:α}{l:List α}:(x::l).set (n+1) a=x::l.set n a:=rfl
theorem qq6{α β:Type _}{f:α->β}{a:α}{l:List α}:(a::l).map f=f a::l.map f:=rfl
theorem qq7{α β:Type _}{f:α->β}:([]:List α).map f=[]:=rfl
theorem qq8{α:Type _}{a:α}:List.replicate 0 a=[]:=rfl
theorem qq9{α:Type _}{a:α}:List.replicate (n+1) a=a::List.replicate n a:=rfl
theorem qqa{α:Type _}{a:α}{l:List α}:(a::l).take (i+1)=a::l.take i:=rfl
theorem qqb{α:Type _}{a:α}{l r:List α}:(a::l)++r=a::(l++r):=rfl
theorem qqc{α:Type _}(l:List α):[]++l=l:=rfl
theorem qqd{α:Type _}{l:List α}:l.take 0=[]:=rfl
theorem aK:(false=true)=False:=sH
theorem qqf(n:Nat):0+n=n:=Nat.zero_add n
theorem WN(ns:List Int)(k v:Int)(h1:(k<(ns.length:Int))=True)(h2:dU (ns.map D.int) k=some (.int v)):Pr qz [.d (ba ns),.d (.int k)] (rd (.int v)):=by
 intro q S;unfold qz J9;simp only[↓ev,bh,h1,decide_true,h2,fZ]
theorem WO(ns:List Int)(k:Int)(h1:(k<(ns.length:Int))=False):Pr qz [.d (ba ns),.d (.int k)] (rd (.int 0)):=by
 intro q S;unfold qz J9;simp only[↓ev,bh,h1,decide_false,aK,fZ]
theorem KL(ns:List Int)(k:Nat):∃v,Pr qz [.d (ba ns),.d (.int k)] (rd (.int v)):=by
 by_cases h:k<ns.length
 .exact⟨_,WN ns k _ (bJ (by lia)) (vS (by rw[gY,i8 h];rfl))⟩
 .exact⟨_,WO ns k (eq_false (by lia))⟩
noncomputable abbrev TN:List D:=[.int 2,.int 128,.int 8192,.int 524288,.int 33554432]
theorem K_(ns:List Int)(k a bW c0 c d:Int)(h0:Pr qz [.d (ba ns),.d (.int 0)] (rd (.int c0)))(hk:Pr qz [.d (ba ns),.d (.int k)] (rd (.int c)))(e:(c0%2 == 1)=true)
  (ha:dU TN a=some (.int d)) (d0:(0<d)=True) (d1:(d<1073741824)=True) (m0:(0<bW)=True):Pr il [.d (ba ns),.d (.int k),.d (.int a),.d (.int bW)] (rd (.int (c / d%64%bW))):=by
 intro q S;unfold il JU;simp only[↓ev,hk,aP,h0,decide_true,aK,eY,e,ha,d0,d1,and_self,m0,fZ]
theorem K'(ns:List Int)(k a bW c0 c:Int)(h0:Pr qz [.d (ba ns),.d (.int 0)] (rd (.int c0)))(hk:Pr qz [.d (ba ns),.d (.int k)] (rd (.int c)))(e:(c0%2 == 1)=false)
  (k0:0<=k) (k1:k<1000) (a0:0<=a) (a1:a<1000) (m0:(0<bW)=True):∃v,Pr il [.d (ba ns),.d (.int k),.d (.int a),.d (.int bW)] (rd (.int (v%bW))):=by
 have mk:((-(2^64)<k/\k<2^64 \/ -(2^64)<k/\k<2^64)=True):=bJ (.inl ⟨by lia,by lia⟩)
 have m1:∀x:Int,(((-(2^64):Int)<1009/\(1009:Int)<2^64 \/ -(2^64)<x/\x<2^64)=True):=λx=>bJ (.inl ⟨by decide,by decide⟩)
 have m2:∀x:Int,((-(2^64)<x/\x<2^64\/(-(2^64):Int)<48271/\(48271:Int)<2^64)=True):=λx=>bJ (.inr ⟨by decide,by decide⟩)
 have m3:∀x:Int,(((-(2^64):Int)<5/\(5:Int)<2^64 \/ -(2^64)<x/\x<2^64)=True):=λx=>bJ (.inl ⟨by decide,by decide⟩)
 have m4:∀x:Int,(((-(2^64):Int)<2/\(2:Int)<2^64 \/ -(2^64)<x/\x<2^64)=True):=λx=>bJ (.inl ⟨by decide,by decide⟩)
 have m5:∀x:Int,((-(2^64)<x/\x<2^64\/(-(2^64):Int)<69621+2*a/\69621+2*a<2^64)=True):=λx=>bJ (.inr ⟨by lia,by lia⟩)
 refine⟨((c%1000003+k*k+1009*a+7)*48271%999983+5*k+a)*(69621+2*a)%1000033,?_⟩;intro q S;unfold il JU;simp only[↓ev,hk,aP,h0,decide_true,aK,eY,e,mk,m1,m2,m3,m4,m5,m0,fZ]
def bf(ns:List Int)(k a:Nat)(bW:Int):Int:=match il 0 [.d (ba ns),.d (.int k),.d (.int a),.d (.int bW)] ⟨[],[]⟩ with
 |some (.ok (.v (.d (.int v))) _)=>v
 |_=>0
theorem e8t:∀a:Nat,a<5->∃d:Int,dU TN (a:Int)=some (.int d)/\0<d/\d<1073741824
 |0,_=>⟨2,rfl,by decide,by decide⟩
 |1,_=>⟨128,rfl,by decide,by decide⟩
 |2,_=>⟨8192,rfl,by decide,by decide⟩
 |3,_=>⟨524288,rfl,by decide,by decide⟩
 |4,_=>⟨33554432,rfl,by decide,by decide⟩
 |n+5,h=>b_ h (by lia)
theorem g9(ns:List Int)(k a:Nat)(bW:Int)(hk:k<1000)(ha:a<5)(m0:0<bW):Pr il [.d (ba ns),.d (.int k),.d (.int a),.d (.int bW)] (rd (.int (bf ns k a bW)))/\0<=bf ns k a bW/\bf ns k a bW<bW:=by
 obtain⟨c0,h0⟩:=KL ns 0;obtain⟨c,h1⟩:=KL ns k;obtain⟨v,e⟩:∃v,Pr il [.d (ba ns),.d (.int k),.d (.int a),.d (.int bW)] (rd (.int (v%bW))):=by
  cases e:(c0%2 == 1) with
  |true=>
   obtain⟨d,d1,d2,d3⟩:=e8t a ha;exact⟨_,K_ ns k a bW c0 c d h0 h1 e d1 (bJ d2) (bJ d3) (bJ m0)⟩
  |false=>exact K' ns k a bW c0 c h0 h1 e (by lia) (by lia) (by lia) (by lia) (bJ m0)
 have z:bf ns k a bW=v%bW:=by unfold bf;rw[e]
 rw[z];exact⟨e,Int.emod_nonneg _ (by lia),Int.emod_lt_of_pos _ m0⟩
theorem zS(ns:List Int)(k:Nat)(bW:Int)(hk:k<1000)(m0:0<bW):Pr lO [.d (ba ns),.d (.int k),.d (.int bW)] (rd (.int (bf ns k 0 bW))):=by
 have h:=(g9 ns k 0 bW hk (by decide) m0).1
 have h:Pr il [.d (ba ns),.d (.int k),.d (.int 0),.d (.int bW)] _:=h;intro q S;unfold lO PY;simp only[↓ev,h,fZ]
theorem xS(ns:List Int)(k:Nat)(bW:Int)(hk:k<1000)(m0:0<bW):Pr kc [.d (ba ns),.d (.int k),.d (.int bW)] (rd (.int (bf ns k 1 bW))):=by
 have h:=(g9 ns k 1 bW hk (by decide) m0).1
 have h:Pr il [.d (ba ns),.d (.int k),.d (.int 1),.d (.int bW)] _:=h;intro q S;unfold kc Pb;simp only[↓ev,h,fZ]
theorem zI(ns:List Int)(k:Nat)(bW:Int)(hk:k<1000)(m0:0<bW):Pr og [.d (ba ns),.d (.int k),.d (.int bW)] (rd (.int (bf ns k 2 bW))):=by
 have h:=(g9 ns k 2 bW hk (by decide) m0).1
 have h:Pr il [.d (ba ns),.d (.int k),.d (.int 2),.d (.int bW)] _:=h;intro q S;unfold og Pc;simp only[↓ev,h,fZ]
variable{i:Nat}
abbrev GI:Str:="abcdefghijklmnopqrstuvwxyz"
abbrev iq:List Nat:=GI.cps.toList
theorem Az:iq.length=26:=by decide +kernel
theorem QZ:(GI.length<=1000000)=True:=bJ (by decide +kernel)
theorem e5n:iq.Nodup:=by decide +kernel
theorem zN(k:Int)(h0:0<=k)(h1:k<26):dU iq k=some (iq.getD k.toNat 0):=Xo 0 h0 (by rw[Az];exact h1)
theorem EE:∀i:Nat,i<26->∀n:Nat,n<9->MulOk ⟨#[iq.getD i 0]⟩ (n:Int):=by decide +kernel
theorem EF:∀i:Nat,i<26->∀n:Nat,n<9->Txt.mul ⟨#[iq.getD i 0]⟩ (n:Int)=⟨(List.replicate n (iq.getD i 0)).toArray⟩:=by decide +kernel
theorem AH(i:Nat)(hi:i<26)(n:Nat)(hn:n<9):MulOk ⟨#[iq.getD i 0]⟩ (n:Int)/\Txt.mul ⟨#[iq.getD i 0]⟩ (n:Int)=⟨(List.replicate n (iq.getD i 0)).toArray⟩:=⟨EE i hi n hn,EF i hi n hn⟩
theorem Q0(a b:List Nat):(⟨a.toArray⟩:Str)++(⟨b.toArray⟩:Str)=⟨(a++b).toArray⟩:=by
 show(⟨a.toArray++b.toArray⟩:Str)=_
 simp_all
theorem EG(ns:List Int)(q n b m:Int)(c:Nat)(z:Str)(hp:Pr lO [.d (ba ns),.d (.int q),.d (.int 26)] (rd (.int b)))(ho:Pr kc [.d (ba ns),.d (.int q),.d (.int 3)] (rd (.int 0)))
  (vn:dU iq ((b+n / 8)%26)=some c) (em:1+n%8=m) (hm:MulOk ⟨#[c]⟩ m=True) (hz:Txt.mul ⟨#[c]⟩ m=z):Pr sk [.d (ba ns),.d (.int q),.d (.int n)] (rd (.str z)):=by
 intro q' S;unfold sk J';simp only[↓ev,aP,hp,ho,aK,eY,eL,and_self,decide_true,QZ,vn,em,hm,hz,fZ]
theorem EH(ns:List Int)(q n b v t sp r:Int)(cr cc:Nat)(z1 z2 z3 z4:Str)(hp:Pr lO [.d (ba ns),.d (.int q),.d (.int 26)] (rd (.int b)))(ho:Pr kc [.d (ba ns),.d (.int q),.d (.int 3)] (rd (.int v)))(hv:(v == 0)=false)
  (ht:Pr og [.d (ba ns),.d (.int q),.d (.int 8)] (rd (.int t))) (hs:Pr kc [.d (ba ns),.d (.int q),.d (.int (1+t))] (rd (.int sp))) (hr:Pr il [.d (ba ns),.d (.int q),.d (.int 3),.d (.int 26)] (rd (.int r)))
  (Lz:dU iq r=some cr) (hac:dU iq ((7*n+b)%26)=some cc) (h7:((-(2^64):Int)<7/\(7:Int)<2^64 \/ -(2^64)<n/\n<2^64)=True) (m1:MulOk ⟨#[cr]⟩ sp=True) (e1:Txt.mul ⟨#[cr]⟩ sp=z1) (m2:MulOk ⟨#[cr]⟩ (1+t - 1 - sp)=True) (e2:Txt.mul ⟨#[cr]⟩ (1+t - 1 - sp)=z2)
  (l1:(z1.length+(⟨#[cc]⟩:Str).length<=1000000)=True) (e3:z1++(⟨#[cc]⟩:Str)=z3) (l2:(z3.length+z2.length<=1000000)=True) (e4:z3++z2=z4):Pr sk [.d (ba ns),.d (.int q),.d (.int n)] (rd (.str z4)):=by
 intro q' S;unfold sk J';simp only[↓ev,aP,hp,ho,aK,eY,hv,ht,hs,hr,QZ,Lz,m1,e1,h7,decide_true,hac,l1,e3,m2,e2,l2,e4,fZ]
def vw(ns:List Int)(q n:Nat):List Nat:=if bf ns q 1 3=0 then List.replicate (1+n%8) (iq.getD (((bf ns q 0 26).toNat+n / 8)%26) 0)
 else List.replicate (bf ns q 1 (1+bf ns q 2 8)).toNat (iq.getD (bf ns q 3 26).toNat 0)++iq.getD ((7*n+(bf ns q 0 26).toNat)%26) 0::List.replicate ((bf ns q 2 8).toNat - (bf ns q 1 (1+bf ns q 2 8)).toNat) (iq.getD (bf ns q 3 26).toNat 0)
def jP(ns:List Int)(q n:Nat):Str:=⟨(vw ns q n).toArray⟩
theorem vW(l:List Nat):(⟨l.toArray⟩:Str).length=l.length:=by show l.toArray.size=_;simp
theorem Hv(ns:List Int)(q:Nat)(hq:q<1000)(n:Nat)(hn:n<20):Pr sk [.d (ba ns),.d (.int q),.d (.int n)] (rd (.str (jP ns q n))):=by
 obtain⟨p1,p2,p3⟩:=g9 ns q 0 26 hq (by decide) (by decide)
 obtain⟨o1,o2,o3⟩:=g9 ns q 1 3 hq (by decide) (by decide)
 obtain⟨t1,t2,t3⟩:=g9 ns q 2 8 hq (by decide) (by decide)
 obtain⟨r1,r2,r3⟩:=g9 ns q 3 26 hq (by decide) (by decide)
 obtain⟨s1,s2,s3⟩:=g9 ns q 1 (1+bf ns q 2 8) hq (by decide) (by lia)
 have hp:=zS ns q 26 hq (by decide)
 have ho:=xS ns q 3 hq (by decide)
 have ht:=zI ns q 8 hq (by decide)
 have hs:=xS ns q (1+bf ns q 2 8) hq (by lia)
 unfold jP vw;split
 .rename_i h
  rw[h] at ho;have ei:(((bf ns q 0 26).toNat+n / 8)%26:Nat)=((bf ns q 0 26+(n:Int) / 8)%26).toNat:=by lia
  rw[ei];obtain⟨q1,q2⟩:=AH ((bf ns q 0 26+(n:Int) / 8)%26).toNat (by lia) (1+n%8) (by lia)
  exact EG ns q n _ ((1+n%8:Nat):Int) _ _ hp ho (zN _ (by lia) (by lia)) (by lia) (bJ q1) q2
 .rename_i h
  have ei:((7*n+(bf ns q 0 26).toNat)%26:Nat)=((7*(n:Int)+bf ns q 0 26)%26).toNat:=by lia
  rw[ei];obtain⟨q1,q2⟩:=AH (bf ns q 3 26).toNat (by lia) (bf ns q 1 (1+bf ns q 2 8)).toNat (by lia)
  obtain⟨q3,q4⟩:=AH (bf ns q 3 26).toNat (by lia) ((bf ns q 2 8).toNat - (bf ns q 1 (1+bf ns q 2 8)).toNat) (by lia)
  rw[show(((bf ns q 1 (1+bf ns q 2 8)).toNat:Nat):Int)=bf ns q 1 (1+bf ns q 2 8) by lia] at q1 q2
  rw[show(((bf ns q 2 8).toNat - (bf ns q 1 (1+bf ns q 2 8)).toNat:Nat):Int)=1+bf ns q 2 8 - 1 - bf ns q 1 (1+bf ns q 2 8) by lia] at q3 q4
  refine EH ns q n _ _ _ _ _ _ _ _ _ (⟨(List.replicate (bf ns q 1 (1+bf ns q 2 8)).toNat (iq.getD (bf ns q 3 26).toNat 0)++[iq.getD ((7*(n:Int)+bf ns q 0 26)%26).toNat 0]).toArray⟩:Str) _ hp ho (by simpa using h) ht hs r1 (zN _ r2 r3) (zN _ (by lia) (by lia)) (bJ (.inl ⟨by decide,by decide⟩)) (bJ q1) q2 (bJ q3) q4 (bJ ?_) ?_ (bJ ?_) ?_
  .rw[vW,q_];show _+1<=_;lia
  .exact Q0 _ [_]
  .rw[vW,vW,du,q_,q_];simp only[qq2,qq3];lia
  .rw[Q0,l0];rfl
theorem GU{l:List Nat}(h:i<l.length):l.getD i 0∈l:=by
 simp_all
theorem P8(ns:List Int)(q:Nat)(hq:q<1000)(n:Nat):∀c∈vw ns q n,c∈iq:=by
 obtain⟨r1,r2,r3⟩:=g9 ns q 3 26 hq (by decide) (by decide)
 intro c hc;unfold vw at hc;split at hc
 .rw[List.eq_of_mem_replicate hc];exact GU (by rw[Az];lia)
 .rw[dr,y04] at hc;rcases hc with hc|hc|hc
  .rw[List.eq_of_mem_replicate hc];exact GU (by rw[Az];lia)
  .rw[hc];exact GU (by rw[Az];lia)
  .rw[List.eq_of_mem_replicate hc];exact GU (by rw[Az];lia)
theorem BX(ns:List Int)(q:Nat)(hq:q<1000)(n:Nat):1<=(vw ns q n).length/\(vw ns q n).length<=8:=by
 obtain⟨t1,t2,t3⟩:=g9 ns q 2 8 hq (by decide) (by decide)
 obtain⟨s1,s2,s3⟩:=g9 ns q 1 (1+bf ns q 2 8) hq (by decide) (by lia)
 unfold vw;split
 .rw[q_];lia
 .rw[du,ju,q_,q_];lia
theorem P9{j:Nat}(hi:i<26)(hj:j<26)(e:iq.getD i 0=iq.getD j 0):i=j:=by
 have h1:i<iq.length:=by rw[Az];exact hi
 have h2:j<iq.length:=by rw[Az];exact hj
 rw[Cr,i8 h1,Cr,i8 h2] at e;exact(FG e5n).mp e
theorem Si(ns:List Int)(q:Nat)(hq:q<1000)(n m:Nat)(hn:n<20)(hm:m<20)(e:jP ns q n=jP ns q m):n=m:=by
 obtain⟨p1,p2,p3⟩:=g9 ns q 0 26 hq (by decide) (by decide)
 have e:vw ns q n=vw ns q m:=by
  have:=congrArg Str.cps e;simpa[jP] using this
 unfold vw at e;split at e
 .have l:=congrArg List.length e;rw[q_,q_] at l;have z:iq.getD (((bf ns q 0 26).toNat+n / 8)%26) 0=iq.getD (((bf ns q 0 26).toNat+m / 8)%26) 0:=by
   have h1:∀(k:Nat) (x:Nat),(List.replicate (1+k) x).head?=some x:=λk x=>by rw[Nat.add_comm];rfl
   have h:=congrArg List.head? e;rw[h1,h1] at h;exact Option.some.inj h
  have:=P9 (by lia) (by lia) z
  lia
 .have e:=List.append_cancel_left e;rw[List.cons.injEq] at e;have:=P9 (by lia) (by lia) e.1
  lia
theorem d8y:∀c∈iq,(Builtin.Str.occurrences GI ⟨#[c]⟩ 0 GI.length 1).isEmpty=false:=by decide +kernel
theorem e5o(c:Nat)(h:c∈iq):(Builtin.Str.occurrences (Str.ofString "abcdefghijklmnopqrstuvwxyz") (jZ c) 0 (Str.ofString "abcdefghijklmnopqrstuvwxyz").length 1).isEmpty=false:=d8y c h
theorem P':∀n:Nat,(List.replicate n true).all id=true
 |0=>rfl
 |n+1=>by rw[List.replicate_succ,qr,P' n];rfl
theorem JX:∀bs:List Bool,h_ (bs.map D.bl)=some bs
 |[]=>rfl
 |b::bs=>by rw[bQ];unfold h_;rw[JX bs];rfl
theorem Pf(l:List Nat)(h1:1<=l.length)(h2:l.length<=8)(hc:∀c∈l,c∈iq):Pr qb [.d (.str ⟨l.toArray⟩)] (rd (.bl true)):=by
 have e:∀q S,bC (af 0) (iV true) (Ge q) (l.map λc=>.str (jZ c)) [none] S []=some (.ok ((List.replicate l.length true).map D.bl) S):=λq S=>by
  rw[vf (λ_=>D.bl true) l (by lia) λc m=>⟨rd (.bl true),by
   have h:=e5o c (hc c m);unfold Ge;simp only[↓ev,aK,h,mV],rfl⟩,List.map_replicate,List.map_const']
 have c1:(1<=((⟨l.toArray⟩:Str).length:Int))=True:=bJ (by rw[vW];lia)
 have c2:(((⟨l.toArray⟩:Str).length:Int)<=8)=True:=bJ (by rw[vW];lia)
 have c3:((⟨l.toArray⟩:Str).length<=1000000)=True:=bJ (by rw[vW];lia)
 intro q S;unfold qb CZ;simp only[↓ev,Ic,aK,c3,c1,decide_true,c2,e,JX,P',fZ]
abbrev P0(M:Nat->GM)(vs:List Val)(r:Rv):Prop:=∀S,M 0 vs S=some (.ok r S)
noncomputable abbrev dS(xs:List Str):List D:=xs.map D.str
theorem ke(x:Str):∀xs:List Str,((dS xs).any λz=>aR z (.str x))=xs.contains x
 |[]=>rfl
 |y::r=>by
  rw[dS,bQ,List.any_cons,<-dS,ke x r,List.contains_cons,ib]
  congr 1
  exact BEq.comm
theorem kE(n:Nat)(xs:List Str):(dS xs).all (c7 n)=true:=by
 rw[pR];intro d hd;obtain⟨y,_,rfl⟩:=dZ.mp hd;cases n <;> rfl
theorem Q1(xs:List Str)(i:Nat)(y:Str):(dS xs).take i++.str y::(dS xs).drop i=dS (nA xs i y):=by
 unfold nA;simp only[dS,dB,qq6,NK,IK]
noncomputable abbrev bT(S:aO)(xs:List D):aO:=⟨S.s++[.o (.lst xs)],S.r⟩
section
variable{S:aO}{ns:List Int}{k j sp d ll:Int}{s2 s3 s4:ak Val}{yT:List D}{outs:List Str}{y:Str}{a9:ak Val}
theorem e8u(hl:(yT.length:Int)=ll)(hd:Pr il [.d (ba ns),.d (.int (6+k)),.d (.int (1+j)),.d (.int ll)] (rd (.int d)))(ha:dU yT d=some (.str y))(hc:outs.contains y=true):
  vO 0 [some (.d (ba ns)),some (.d (.int k)),s2,s3,s4,some (.d (.lst yT)),some (.c S.s.length),some (.d (.int sp)),some (.d (.int j)),a9] (bT S (dS outs))=some (.nx [some (.d (ba ns)),some (.d (.int k)),s2,s3,s4,some (.d (.lst yT)),some (.c S.s.length),some (.d (.int sp)),some (.d (.int j)),some (.d (.str y))] (bT S (dS outs))):=by
 unfold vO;simp only[↓ev,hl,hd,ha,aP,eS,kE,ke,hc,lG,aK]
abbrev W3:List D:=[.int 1,.int 4,.int 16]
theorem e5p{w ol p:Int}{o2:List Str}(hl:(yT.length:Int)=ll)(hd:Pr il [.d (ba ns),.d (.int (6+k)),.d (.int (1+j)),.d (.int ll)] (rd (.int d)))(ha:dU yT d=some (.str y))(hc:outs.contains y=false)
  (hw:dU W3 j=some (.int w)) (w0:(0<w)=True) (w1:(w<1073741824)=True) (el:((dS outs).length:Int)=ol) (o0:(0<ol+1)=True) (hp:sp / w%4%(ol+1)=p) (p0:(0<=p)=True) (p1:(p<2^62)=True) (p2:((dS outs).length<1000000)=True) (h2:(dS outs).take p.toNat++.str y::(dS outs).drop p.toNat=dS o2) :
  vO 0 [some (.d (ba ns)),some (.d (.int k)),s2,s3,s4,some (.d (.lst yT)),some (.c S.s.length),some (.d (.int sp)),some (.d (.int j)),a9] (bT S (dS outs))=some (.nx [some (.d (ba ns)),some (.d (.int k)),s2,s3,s4,some (.d (.lst yT)),some (.c S.s.length),some (.d (.int sp)),some (.d (.int j)),some (.d (.str y))] (bT S (dS o2))):=by
 unfold vO;simp only[↓ev,hl,hd,ha,aP,eS,kE,ke,hc,mV,aK,hw,w0,w1,and_self,decide_true,el,o0,hp,p0,p1,p2,h2,km]
end
theorem Qa(ds:List D)(n:Nat):cutD ds (some (n:Int)) none=ds.drop n:=by
 unfold cutD;have e:HT.cG ds.length 0 (some (n:Int))=min n ds.length:=by
  unfold HT.cG;simp;lia
 have e2:HT.cG ds.length ds.length none=ds.length:=rfl;rw[e,e2];by_cases h:n<=ds.length
 .rw[Nat.min_eq_left h];exact vD (by rw[Cn];exact bM _)
 .rw[Nat.min_eq_right (by lia),List.drop_eq_nil_of_le (bM _),List.drop_eq_nil_of_le (by lia),List.take_nil]
theorem WQ(xs:List Str)(k:Nat)(y:Str):(nA xs k y).Perm (y::xs):=by
 unfold nA;refine(List.perm_middle (l₁:=xs.take k) (l₂:=xs.drop k)).trans ?_;rw[List.take_append_drop]
theorem Q2{xs:List Str}{k:Nat}{y:Str}(h:xs.Nodup)(hy:y∉xs):(nA xs k y).Nodup:=(WQ xs k y).nodup_iff.mpr (qo.mpr ⟨hy,h⟩)
structure p_ (later carts:List Str) (hd:Str) (outs:List Str):Prop where
 nd:outs.Nodup
 sub:∀o∈outs,o∈later++carts
 ne:outs≠[]
 hand:hd∈outs\/∃o∈outs,o∈later
 len:outs.length<=4
theorem Hb{xs:List Str}{k:Int}(h0:0<=k)(h1:k<xs.length):dU (dS xs) k=some (.str (xs.getD k.toNat "")):=by
 have B7:k.toNat<xs.length:=by lia
 have e:(dS xs)[k.toNat]?=some (.str (xs.getD k.toNat "")):=by simp[B7]
 have z:=vS e
 rwa[show((k.toNat:Nat):Int)=k by lia] at z
theorem WR{xs:List Str}{i:Nat}(h:i<xs.length):xs.getD i ""∈xs:=by
 simp_all
theorem e8v:∀j:Nat,j<3->∃d:Int,dU W3 (j:Int)=some (.int d)/\0<d/\d<1073741824
 |0,_=>⟨1,rfl,by decide,by decide⟩
 |1,_=>⟨4,rfl,by decide,by decide⟩
 |2,_=>⟨16,rfl,by decide,by decide⟩
 |n+3,h=>b_ h (by lia)
abbrev pk(S:aO)(ns:List Int)(k sp:Int)(s2:ak Val)(carts later:List Str)(a8 a9:ak Val):Gm:=[some (.d (ba ns)),some (.d (.int k)),s2,some (.d (.lst (dS carts))),some (.d (.lst (dS later))),some (.d (.lst (dS (later++carts)))),some (.c S.s.length),some (.d (.int sp)),a8,a9]
theorem d8z(ns:List Int)(k j:Nat)(sp:Int)(s2:ak Val)(carts later outs:List Str)(a9:ak Val)(hk:k<5)(hj:j<3)(sl:0<(later++carts).length)(Iq:(later++carts).length<=100)(nd:outs.Nodup)(sb:∀o∈outs,o∈later++carts)(ol:outs.length<=j):
  ∃o2 y,o2.Nodup/\(∀o∈o2,o∈later++carts)/\o2.length<=j+1/\o2≠[]/\∀S,vO 0 (pk S ns k sp s2 carts later (some (.d (.int j))) a9) (bT S (dS outs))=some (.nx (pk S ns k sp s2 carts later (some (.d (.int j))) (some (.d (.str y)))) (bT S (dS o2))):=by
 obtain⟨d1,d2,d3⟩:=g9 ns (6+k) (1+j) ((later++carts).length:Int) (by lia) (by lia) (by lia)
 rw[show((6+k:Nat):Int)=6+(k:Int) by lia,show((1+j:Nat):Int)=1+(j:Int) by lia] at d1
 have ha:=Hb (xs:=later++carts) d2 d3;have hm:(later++carts).getD (bf ns (6+k) (1+j) ((later++carts).length:Int)).toNat ""∈later++carts:=WR (by lia)
 generalize(later++carts).getD (bf ns (6+k) (1+j) ((later++carts).length:Int)).toNat ""=y at ha hm;have hl:((dS (later++carts)).length:Int)=((later++carts).length:Int):=by rw[bh]
 cases hc:outs.contains y with
 |true=>
  refine⟨outs,y,nd,sb,by lia,λz=>?_,λS=>e8u hl d1 ha hc⟩
  rw[z] at hc;cases hc
 |false=>
  obtain⟨w,w1,w2,w3⟩:=e8v j hj;have o0:(0:Int)<(outs.length:Int)+1:=by lia
  have el:((dS outs).length:Int)=(outs.length:Int):=by rw[bh]
  have p0:0<=sp / w%4%((outs.length:Int)+1):=Int.emod_nonneg _ (by lia)
  have p1:sp / w%4%((outs.length:Int)+1)<(outs.length:Int)+1:=Int.emod_lt_of_pos _ o0;have hy:y∉outs:=by simpa using hc
  refine⟨_,y,Q2 (k:=(sp / w%4%((outs.length:Int)+1)).toNat) nd hy,λo ho=>?_,by rw[GL];lia,λz=>?_,λS=>e5p hl d1 ha hc w1 (bJ w2) (bJ w3) el (bJ o0) rfl (bJ p0) (bJ (by lia)) (bJ (by rw[bh];lia)) (Q1 _ _ _)⟩
  .rcases lq.mp ho with z|z
   .rw[z];exact hm
   .exact sb o z
  .have:=GL outs (sp / w%4%((outs.length:Int)+1)).toNat y;rw[z] at this;simp at this
theorem OJ(q:Nat)(S:aO)(outs later:List Str)(h:outs.length<=1000):bC (af 0) (JJ q) (JK q) (dS outs) [none,some (.d (.lst (dS later)))] S []=some (.ok (dS (outs.filter λo=>later.contains o)) S):=by
 rw[dS,x_ (λo=>if later.contains o=true then some (.str o) else none) outs (by lia) λo m=>by
  unfold JJ JK;cases hc:later.contains o with
  |true=>exact .inr ⟨rd (.str o),.str o,rfl,by simp only[↓ev,kE,aK,ke,hc],by simp only[↓ev],rfl⟩
  |false=>exact .inl ⟨rfl,by simp only[↓ev,kE,aK,ke,hc]⟩]
 congr 2
 induction outs with
 |nil=>rfl
 |cons o r ih=>
  grind
section
variable{S:aO}{ns:List Int}{k sp r:Int}{later carts o1 outs:List Str}{names:List D}{hand:Str}{a8 a9:ak Val}
structure vL (S:aO) (ns:List Int) (k sp r:Int) (later carts o1:List Str) (names:List D) (hand:Str) (a8 a9:ak Val):Prop where
 c1:cutD names (some (k+1)) none=dS later
 c2:((dS later).length+(dS carts).length<=1000000)=True
 ht:Pr og [.d (ba ns),.d (.int (1+k)),.d (.int 64)] (rd (.int sp))
 hp:Pr lO [.d (ba ns),.d (.int (6+k)),.d (.int 3)] (rd (.int r))
 hi:Nat.ble (1+r).natAbs 1000000000000=true
 ap:dS later++dS carts=dS (later++carts)
 hl:aH (af 8) (vO 0) (gp 0 (1+r).toNat) (pk S ns k sp (some (.d (.lst names))) carts later none none) (bT S [])=some (.nx (pk S ns k sp (some (.d (.lst names))) carts later a8 a9) (bT S (dS o1)))
 vn:dU (dS carts) 0=some (.str hand)
theorem d9a(h:vL S ns k sp r later carts o1 names hand a8 a9)(hc:o1.contains hand=true):rH 0 [.d (ba ns),.d (.int k),.d (.lst names),.d (.lst (dS carts))] S=some (.ok (.o (.lst (dS o1))) S):=by
 obtain⟨c1,c2,ht,hp,hi,ap,hl,vn⟩:=h;unfold rH GQ;simp only[↓ev,c1,aP,c2,ap,aK,ht,hp,hi,i9,hl,pk,bT,vn,eS,kE,ke,hc,lG,AE,vg]
theorem d9b(h:vL S ns k sp r later carts o1 names hand a8 a9)(hc:o1.contains hand=false)(hlen:o1.length<=1000){n:Int}(hn:((dS (o1.filter λo=>later.contains o)).length:Int)=n)(hz:(n == 0)=false):rH 0 [.d (ba ns),.d (.int k),.d (.lst names),.d (.lst (dS carts))] S=some (.ok (.o (.lst (dS o1))) S):=by
 obtain⟨c1,c2,ht,hp,hi,ap,hl,vn⟩:=h;have e:=λq S=>OJ q S o1 later hlen
 unfold rH GQ;simp only[↓ev,c1,aP,c2,ap,aK,ht,hp,hi,i9,hl,pk,bT,vn,eS,kE,ke,hc,mV,e,hn,eY,hz,AE,vg]
theorem Yy(h:vL S ns k sp r later carts o1 names hand a8 a9)(hc:o1.contains hand=false)(hlen:o1.length<=1000)(hn:((dS (o1.filter λo=>later.contains o)).length:Int)=0){d ol:Int}(el:((dS o1).length:Int)=ol)(hd:Pr il [.d (ba ns),.d (.int (1+k)),.d (.int 3),.d (.int (ol+1))] (rd (.int d)))
  (p0:(0<=d)=True) (p1:(d<2^62)=True) (p2:((dS o1).length<1000000)=True) (h2:(dS o1).take d.toNat++.str hand::(dS o1).drop d.toNat=dS outs):rH 0 [.d (ba ns),.d (.int k),.d (.lst names),.d (.lst (dS carts))] S=some (.ok (.o (.lst (dS outs))) S):=by
 obtain⟨c1,c2,ht,hp,hi,ap,hl,vn⟩:=h;have e:=λq S=>OJ q S o1 later hlen
 unfold rH GQ;simp only[↓ev,c1,aP,c2,ap,aK,ht,hp,hi,i9,hl,pk,bT,vn,eS,kE,ke,hc,mV,e,hn,eY,eL,el,hd,p0,p1,p2,and_self,h2,km,AE,vg]
end
theorem Kb{n i:Nat}{d r:List Nat}(e:List.range n=d++i::r):d.length=i/\i<n:=by
 have h2:d.length<n:=by have:=congrArg List.length e;simp at this;lia
 have h1:=congrArg (λl=>l[d.length]?) e
 simp only[vA (bM _),Nx,qq0] at h1;rw[Bc h2] at h1;have:=Option.some.inj h1;exact⟨this,this ▸ h2⟩
theorem rZ(n:Nat):gp 0 n=(List.range n).map λ(i:Nat)=>D.int (i:Int):=by
 unfold gp;simp only[Int.zero_add]
theorem e5q(ns:List Int)(k:Nat)(names carts:List Str)(hand:Str)(hk:k<5)(hl:names.length<=5)(hh:carts.head?=some hand)(hc:carts.length<=4):
  ∃outs,p_ (names.drop (k+1)) carts hand outs/\∀S,rH 0 [.d (ba ns),.d (.int k),.d (.lst (dS names)),.d (.lst (dS carts))] S=some (.ok (.o (.lst (dS outs))) S):=by
 have hc0:0<carts.length:=by cases carts with|nil=>cases hh|cons a b=>simp
 obtain⟨r1,r2,r3⟩:=g9 ns (6+k) 0 3 (by lia) (by decide) (by decide)
 have hp:=zS ns (6+k) 3 (by lia) (by decide)
 have ht:=zI ns (1+k) 64 (by lia) (by decide)
 rw[show((6+k:Nat):Int)=6+(k:Int) by lia] at hp
 rw[show((1+k:Nat):Int)=1+(k:Int) by lia] at ht
 have sl:0<(names.drop (k+1)++carts).length:=by rw[du];lia
 have Iq:(names.drop (k+1)++carts).length<=100:=by rw[du,Cn];lia
 obtain⟨⟨o1,a8,a9⟩,⟨nd,sb,ol,one⟩,e1⟩:=Se (gg:=af 8) (body:=vO 0) (f:=λ(i:Nat)=>D.int (i:Int)) (λ(b:List Str×ak Val×ak Val) S=>(pk S ns k (bf ns (1+k) 2 64) (some (.d (.lst (dS names)))) carts (names.drop (k+1)) b.2.1 b.2.2,bT S (dS b.1)))
  (λpre b=>b.1.Nodup/\(∀o∈b.1,o∈names.drop (k+1)++carts)/\b.1.length<=pre.length/\(pre≠[]->b.1≠[])) (List.range (1+bf ns (6+k) 0 3).toNat) ([],none,none)
  ⟨IH,λo m=>(by cases m),bM _,λz=>b_ rfl z⟩ (by
   rintro d i r eq ⟨outs,a8,a9⟩ ⟨nd,sb,ol,_⟩;obtain⟨hq,hi⟩:=Kb eq;obtain⟨o2,y,n2,s2,l2,ne2,e2⟩:=d8z ns k i (bf ns (1+k) 2 64) (some (.d (.lst (dS names)))) carts (names.drop (k+1)) outs a9 hk (by lia) sl Iq nd sb (i7 ol (FH hq))
   exact⟨(o2,some (.d (.int i)),some (.d (.str y))),⟨n2,s2,by rw[du,vB,hq];exact l2,λ_=>ne2⟩,λS=>⟨_,rfl,.inl (e2 S)⟩⟩)
 dsimp only at nd sb ol one e1;rw[vG] at ol;have one:o1≠[]:=one (by intro z;have:=congrArg List.length z;simp at this;lia)
 have e1:=λS=>(congrArg (λl=>aH (af 8) (vO 0) l _ _) (rZ _)).trans (e1 S)
 have vn:dU (dS carts) 0=some (.str hand):=by
  cases carts with
  |nil=>cases hh
  |cons a b=>cases hh;exact vS (xs:=D.str hand::b.map D.str) (j:=0) rfl
 have hm:hand∈names.drop (k+1)++carts:=pQ _ (List.mem_of_mem_head? hh);have H:∀S,vL S ns k (bf ns (1+k) 2 64) (bf ns (6+k) 0 3) (names.drop (k+1)) carts o1 (dS names) hand a8 a9:=λS=>⟨by rw[show(k:Int)+1=((k+1:Nat):Int) by lia,Qa,dS,dS,IK],bJ (by rw[bh,bh,Cn];lia),ht,hp,NL (by lia),dB.symm,e1 S,vn⟩
 cases D8:o1.contains hand with
 |true=>exact⟨o1,⟨nd,sb,one,.inl (by simpa using D8),by lia⟩,λS=>d9a (H S) D8⟩
 |false=>
  by_cases hf:(o1.filter λo=>(names.drop (k+1)).contains o).length=0
  .obtain⟨d1,d2,d3⟩:=g9 ns (1+k) 3 ((o1.length:Int)+1) (by lia) (by decide) (by lia)
   rw[show((1+k:Nat):Int)=1+(k:Int) by lia] at d1
   have hy:hand∉o1:=by simpa using D8
   refine⟨_,⟨Q2 (k:=(bf ns (1+k) 3 ((o1.length:Int)+1)).toNat) nd hy,λo ho=>?_,λz=>?_,.inl (lq.mpr (.inl rfl)),by rw[GL];lia⟩,λS=>Yy (H S) D8 (by lia) (by rw[bh,hf];rfl) (by rw[bh]) d1 (bJ d2) (bJ (by lia)) (bJ (by rw[bh];lia)) (Q1 _ _ _)⟩
   .rcases lq.mp ho with z|z
    .rw[z];exact hm
    .exact sb o z
   .have:=GL o1 (bf ns (1+k) 3 ((o1.length:Int)+1)).toNat hand;rw[z] at this;simp at this
  .refine⟨o1,⟨nd,sb,one,.inr ?_,by lia⟩,λS=>d9b (H S) D8 (by lia) rfl (by rw[bh];simp only[nQ];lia)⟩
   simp_all
def aq(b:ao):D:=.tup [.str b.name,.int b.long,.bl b.ring,.lst (dS b.outs)]
def aE(h:aA):D:=.tup [.lst (h.ae.map aq),.lst (dS h.carts)]
abbrev gm(S:aO)(ns:List Int)(names carts:List Str)(k:Int)(a5 a6:ak Val):Gm:=[some (.d (ba ns)),some (.d (.lst (dS names))),some (.d (.lst (dS carts))),some (.c S.s.length),some (.d (.int k)),a5,a6]
section
variable{S:aO}{ns:List Int}{ki pv ov nl tv dv:Int}{names carts outs:List Str}{nm:Str}{bl:List D}{rg:Bool}{a5 a6:ak Val}
theorem hB0(hp:Pr lO [.d (ba ns),.d (.int (1+ki)),.d (.int 3)] (rd (.int pv)))(hr:(pv == 0)=rg)(ho:Pr kc [.d (ba ns),.d (.int (1+ki)),.d (.int 5)] (rd (.int ov)))(ha:dU (dS names) ki=some (.str nm))(hx:∀S,rH 0 [.d (ba ns),.d (.int ki),.d (.lst (dS names)),.d (.lst (dS carts))] S=some (.ok (.o (.lst (dS outs))) S))(hb:(bl.length<1000000)=True)(e1:(ki == 0)=false):qx 0 (gm S ns names carts ki a5 a6) (bT S bl)=some (.nx (gm S ns names carts ki (some (.d (.bl rg))) (some (.d (.int (if rg=true then(1+ov)+1 else(1+ov)))))) (bT S (bl++[.tup [.str nm,.int (if rg=true then(1+ov)+1 else(1+ov)),.bl rg,.lst (dS outs)]]))):=by
 unfold qx gm bT;cases rg with
 |true=>simp only[↓ev,hp,aK,eY,hr,aP,ho,e1,eS,ha,hx,hb,km]
 |false=>simp only[↓ev,hp,aK,eY,hr,aP,ho,e1,eS,ha,hx,hb,km]
theorem hB1(hp:Pr lO [.d (ba ns),.d (.int (1+ki)),.d (.int 3)] (rd (.int pv)))(hr:(pv == 0)=rg)(ho:Pr kc [.d (ba ns),.d (.int (1+ki)),.d (.int 5)] (rd (.int ov)))(ha:dU (dS names) ki=some (.str nm))(hx:∀S,rH 0 [.d (ba ns),.d (.int ki),.d (.lst (dS names)),.d (.lst (dS carts))] S=some (.ok (.o (.lst (dS outs))) S))(hb:(bl.length<1000000)=True)(e1:(ki == 0)=true)(el:((dS names).length:Int)=nl)(e2:(nl<3)=False):qx 0 (gm S ns names carts ki a5 a6) (bT S bl)=some (.nx (gm S ns names carts ki (some (.d (.bl rg))) (some (.d (.int (if rg=true then(1+ov)+1 else(1+ov)))))) (bT S (bl++[.tup [.str nm,.int (if rg=true then(1+ov)+1 else(1+ov)),.bl rg,.lst (dS outs)]]))):=by
 unfold qx gm bT;cases rg with
 |true=>simp only[↓ev,hp,aK,eY,hr,aP,ho,e1,el,e2,decide_false,eS,ha,hx,hb,km]
 |false=>simp only[↓ev,hp,aK,eY,hr,aP,ho,e1,el,e2,decide_false,eS,ha,hx,hb,km]
theorem hB2(hp:Pr lO [.d (ba ns),.d (.int (1+ki)),.d (.int 3)] (rd (.int pv)))(hr:(pv == 0)=rg)(ho:Pr kc [.d (ba ns),.d (.int (1+ki)),.d (.int 5)] (rd (.int ov)))(ha:dU (dS names) ki=some (.str nm))(hx:∀S,rH 0 [.d (ba ns),.d (.int ki),.d (.lst (dS names)),.d (.lst (dS carts))] S=some (.ok (.o (.lst (dS outs))) S))(hb:(bl.length<1000000)=True)(e1:(ki == 0)=true)(el:((dS names).length:Int)=nl)(e2:(nl<3)=True)(ht:Pr og [.d (ba ns),.d (.int 0),.d (.int 3)] (rd (.int tv)))(e3:(tv == 1)=false):qx 0 (gm S ns names carts ki a5 a6) (bT S bl)=some (.nx (gm S ns names carts ki (some (.d (.bl rg))) (some (.d (.int (if rg=true then(1+ov)+1 else(1+ov)))))) (bT S (bl++[.tup [.str nm,.int (if rg=true then(1+ov)+1 else(1+ov)),.bl rg,.lst (dS outs)]]))):=by
 unfold qx gm bT;cases rg with
 |true=>simp only[↓ev,hp,aK,eY,hr,aP,ho,e1,el,e2,decide_true,ht,e3,eS,ha,hx,hb,km]
 |false=>simp only[↓ev,hp,aK,eY,hr,aP,ho,e1,el,e2,decide_true,ht,e3,eS,ha,hx,hb,km]
theorem hB3(hp:Pr lO [.d (ba ns),.d (.int (1+ki)),.d (.int 3)] (rd (.int pv)))(hr:(pv == 0)=rg)(ho:Pr kc [.d (ba ns),.d (.int (1+ki)),.d (.int 5)] (rd (.int ov)))(ha:dU (dS names) ki=some (.str nm))(hx:∀S,rH 0 [.d (ba ns),.d (.int ki),.d (.lst (dS names)),.d (.lst (dS carts))] S=some (.ok (.o (.lst (dS outs))) S))(hb:(bl.length<1000000)=True)(e1:(ki == 0)=true)(el:((dS names).length:Int)=nl)(e2:(nl<3)=True)(ht:Pr og [.d (ba ns),.d (.int 0),.d (.int 3)] (rd (.int tv)))(e3:(tv == 1)=true)(hd:Pr il [.d (ba ns),.d (.int 0),.d (.int 3),.d (.int 14)] (rd (.int dv))):qx 0 (gm S ns names carts ki a5 a6) (bT S bl)=some (.nx (gm S ns names carts ki (some (.d (.bl rg))) (some (.d (.int (if rg=true then(10+dv)+1 else(10+dv)))))) (bT S (bl++[.tup [.str nm,.int (if rg=true then(10+dv)+1 else(10+dv)),.bl rg,.lst (dS outs)]]))):=by
 unfold qx gm bT;cases rg with
 |true=>simp only[↓ev,hp,aK,eY,hr,aP,ho,e1,el,e2,decide_true,ht,e3,hd,eS,ha,hx,hb,km]
 |false=>simp only[↓ev,hp,aK,eY,hr,aP,ho,e1,el,e2,decide_true,ht,e3,hd,eS,ha,hx,hb,km]
end
theorem d9c(ns:List Int)(k:Nat)(names carts:List Str)(hand:Str)(bs:List ao)(a5 a6:ak Val)(hk:k<names.length)(hl:names.length<=5)(hh:carts.head?=some hand)(hc:carts.length<=4)(hb:bs.length<=100):
  ∃b:ao,b.name=names.getD k ""/\(1<=b.long/\b.long<=26/\(b.long<=6\/k=0/\names.length<3))/\(b.ring=true->2<=b.long)/\p_ (names.drop (k+1)) carts hand b.outs/\∃jY vX,∀S,qx 0 (gm S ns names carts k a5 a6) (bT S (bs.map aq))=some (.nx (gm S ns names carts k jY vX) (bT S ((bs++[b]).map aq))):=by
 have hp:=zS ns (1+k) 3 (by lia) (by decide)
 have ho:=xS ns (1+k) 5 (by lia) (by decide)
 obtain⟨o1,o2,o3⟩:=g9 ns (1+k) 1 5 (by lia) (by decide) (by decide)
 rw[show((1+k:Nat):Int)=1+(k:Int) by lia] at hp ho
 obtain⟨outs,ok,eo⟩:=e5q ns k names carts hand (by lia) hl hh hc
 have ha:=Hb (xs:=names) (k:=(k:Int)) (by lia) (by lia)
 rw[Int.toNat_natCast] at ha;have ht:Pr og [.d (ba ns),.d (.int 0),.d (.int 3)] _:=zI ns 0 3 (by decide) (by decide)
 obtain⟨d1,d2,d3⟩:=g9 ns 0 3 14 (by decide) (by decide) (by decide)
 have d1:Pr il [.d (ba ns),.d (.int 0),.d (.int 3),.d (.int 14)] _:=d1;have el:((dS names).length:Int)=(names.length:Int):=by rw[bh]
 have yp:((bs.map aq).length<1000000)=True:=bJ (by rw[bh];lia)
 obtain⟨l',l1,e⟩:∃l':Int,(1<=l'/\l'<=25/\(l'<=5\/k=0/\names.length<3))/\∀S,qx 0 (gm S ns names carts k a5 a6) (bT S (bs.map aq))=some (.nx (gm S ns names carts k (some (.d (.bl (bf ns (1+k) 0 3 == 0)))) (some (.d (.int (if(bf ns (1+k) 0 3 == 0)=true then l'+1 else l'))))) (bT S (bs.map aq++[.tup [.str (names.getD k ""),.int (if(bf ns (1+k) 0 3 == 0)=true then l'+1 else l'),.bl (bf ns (1+k) 0 3 == 0),.lst (dS outs)]]))):=by
  cases e1:((k:Int) == 0) with
  |false=>exact⟨_,by lia,λS=>hB0 hp rfl ho ha eo yp e1⟩
  |true=>
   by_cases e2:(names.length:Int)<3
   .cases e3:(bf ns 0 2 3 == 1) with
    |false=>exact⟨_,by lia,λS=>hB2 hp rfl ho ha eo yp e1 el (bJ e2) ht e3⟩
    |true=>exact⟨_,by have:=beq_iff_eq.mp e1;lia,λS=>hB3 hp rfl ho ha eo yp e1 el (bJ e2) ht e3 d1⟩
   .exact⟨_,by lia,λS=>hB1 hp rfl ho ha eo yp e1 el (eq_false e2)⟩
 refine⟨ao.mk (names.getD k "") (if(bf ns (1+k) 0 3 == 0)=true then l'+1 else l') (bf ns (1+k) 0 3 == 0) outs,rfl,?_,λhr=>?_,ok,_,_,λS=>by rw[dB];exact e S⟩
 .show 1<=(if(bf ns (1+k) 0 3 == 0)=true then l'+1 else l')/\(if(bf ns (1+k) 0 3 == 0)=true then l'+1 else l')<=26/\((if(bf ns (1+k) 0 3 == 0)=true then l'+1 else l')<=6\/k=0/\names.length<3)
  split <;> lia
 .have hr:(bf ns (1+k) 0 3 == 0)=true:=hr;show 2<=if(bf ns (1+k) 0 3 == 0)=true then l'+1 else l'
  rw[aX hr];lia
theorem VC(q:Nat)(S:aO)(ns:List Int)(n:Nat)(hn:n<=14):bC (af 0) (iV true) (Gh q) (gp 0 n) [none,some (.d (ba ns))] S []=some (.ok (dS ((List.range n).map (jP ns 11))) S):=by
 rw[rZ,vf (λk=>D.str (jP ns 11 k)) (List.range n) (by rw[vG];lia) λi m=>⟨rd (.str (jP ns 11 i)),by
  have h:Pr sk [.d (ba ns),.d (.int 11),.d (.int i)] _:=Hv ns 11 (by decide) i (by have:=sF.mp m;lia)
  unfold Gh;generalize(i:Int)=ii at *;simp only[↓ev,h],rfl⟩,dS,fJ]
 rfl
theorem VD(q:Nat)(S:aO)(ns:List Int)(n:Nat)(hn:n<=4):bC (af 0) (iV true) (Gi q) (gp 0 n) [none,some (.d (ba ns))] S []=some (.ok (dS ((List.range n).map λi=>jP ns 11 (10+i))) S):=by
 rw[rZ,vf (λk=>D.str (jP ns 11 (10+k))) (List.range n) (by rw[vG];lia) λi m=>⟨rd (.str (jP ns 11 (10+i))),by
  have h:Pr sk [.d (ba ns),.d (.int 11),.d (.int ((10+i:Nat):Int))] _:=Hv ns 11 (by decide) (10+i) (by have:=sF.mp m;lia)
  rw[show((10+i:Nat):Int)=10+(i:Int) by lia] at h
  unfold Gi;generalize(i:Int)=ii at *;simp only[↓ev,h],rfl⟩,dS,fJ]
 rfl
theorem Q3:∀{bs:List ao},(∀b∈bs,b.outs.length<=4)->(bs.map λx=>x.outs.length).sum<=4*bs.length
 |[],_=>bM _
 |b::bs,h=>by
  rw[bQ,sJ,ju];have:=Q3 λb m=>h b (qm _ m)
  have:=h b (r9 ..);lia
theorem Qb(ns:List Int)(l:List Nat)(nd:l.Nodup)(hl:∀i∈l,i<14):(l.map (jP ns 11)).Nodup:=by
 rw[List.Nodup,IL];exact nd.imp_of_mem λha hb ne z=>ne (Si ns 11 (by decide) _ _ (by have:=hl _ ha;lia) (by have:=hl _ hb;lia) z)
theorem WS(S:aO)(ns:List Int)(n c:Int)(names carts:List Str)(a4 a5 a6:ak Val)(bs:List D)(hp:Pr lO [.d (ba ns),.d (.int 0),.d (.int 5)] (rd (.int n)))(ho:Pr kc [.d (ba ns),.d (.int 0),.d (.int 4)] (rd (.int c)))
  (i1:Nat.ble (1+n).natAbs 1000000000000=true) (i2:Nat.ble (1+c).natAbs 1000000000000=true) (nl:Int) (el:((dS names).length:Int)=nl) (i3:Nat.ble nl.natAbs 1000000000000=true)
  (e1:∀q S,bC (af 0) (iV true) (Gh q) (gp 0 (1+n).toNat) [none,some (.d (ba ns))] S []=some (.ok (dS names) S)) (e2:∀q S,bC (af 0) (iV true) (Gi q) (gp 0 (1+c).toNat) [none,some (.d (ba ns))] S []=some (.ok (dS carts) S))
  (e3:aH (af 4) (qx 0) (gp 0 nl.toNat) [some (.d (ba ns)),some (.d (.lst (dS names))),some (.d (.lst (dS carts))),some (.c S.s.length),none,none,none] (bT S [])=some (.nx [some (.d (ba ns)),some (.d (.lst (dS names))),some (.d (.lst (dS carts))),some (.c S.s.length),a4,a5,a6] (bT S bs))) :
  BB 0 [.d (ba ns)] S=some (.ok (rd (.tup [.lst bs,.lst (dS carts)])) S):=by
 unfold BB Pe;simp only[↓ev,hp,i1,i9,e1,aP,ho,i2,e2,aK,el,i3,e3,bT,eS,km,vg]
variable{ks:List Str}
noncomputable def findB(bs:List ao)(n:Str):ak ao:=bs.find? λb=>b.name == n
structure tD (h:aA):Prop where
 bl:h.ae.length<=100
 ct:h.carts.length<=100
 ou:(h.ae.map λx=>x.outs.length).sum<=900
def l6(carts:List Str):List ao->Prop
 |[]=>True
 |b::bs=>(∀o∈b.outs,o∈bs.map ao.name\/o∈carts)/\b.name∉bs.map ao.name/\b.name∉carts/\l6 carts bs
theorem xR{carts:List Str}:∀{bs:List ao},l6 carts bs->∀x∈bs,∀y∈bs,x.name=y.name->x=y
 |z::bs,f,x,hx,y,hy,e=>by
  rcases y04.mp hx with vv|vv
  .rcases y04.mp hy with Av|Av
   .rw[vv,Av]
   .exact b_ (j_ (f:=ao.name) Av) (by rw[<-e,vv];exact f.2.1)
  .rcases y04.mp hy with Av|Av
   .exact b_ (j_ (f:=ao.name) vv) (by rw[e,Av];exact f.2.1)
   .exact xR f.2.2.2 x vv y Av e
theorem Gw{carts:List Str}:∀{bs:List ao},l6 carts bs->∀c∈carts,c∉bs.map ao.name
 |[],_,c,_,h=>by cases h
 |b::bs,f,c,hc,h=>by
  rcases y04.mp h with z|z
  .exact f.2.2.1 (by rw[<-z];exact hc)
  .exact Gw f.2.2.2 c hc z
theorem CU{carts:List Str}:∀{xs ys:List ao},l6 carts (xs++ys)->l6 carts ys
 |[],_,f=>f
 |_::xs,ys,f=>CU (xs:=xs) f.2.2.2
abbrev rT(x:Str):Prop:=Pr qb [.d (.str x)] (rd (.bl true))
structure ax (h:aA):Prop where
 fwd:l6 h.carts h.ae
 sm:tD h
 nm:∀b∈h.ae,rT b.name
 cm:∀c∈h.carts,rT c
 lg:∀b∈h.ae,1<=b.long/\(b.ring=true->2<=b.long)
 hd:∀b∈h.ae,h.carts.getD 0 ""∈b.outs\/∃o∈b.outs,o∈h.ae.map ao.name
 cn:h.carts.Nodup
 c0:0<h.carts.length
 nd:∀b∈h.ae,b.outs.Nodup
theorem zJ(bs:List ao)(h:bs.length<=1000000):Pr u7 [.d (.lst (bs.map aq))] (.o (.lst (dS (bs.map ao.name)))):=by
 have e:∀q S,bC (af 0) (iV true) (NY q) (bs.map aq) [none] S []=some (.ok (dS (bs.map ao.name)) S):=λq S=>by
  rw[vf (λb=>D.str (ao.name b)) bs h λb m=>⟨rd (.str b.name),by
   rfl,rfl⟩,dS,fJ]
  rfl
 intro q S;unfold u7 N_;simp only[↓ev,e,fZ]
def nV(ks:List Str):List (TK×D):=ks.map λk=>(TK.inr k,.bl true)
noncomputable def g_(ks:List Str)(k:Str):List Str:=if ks.contains k then ks else ks++[k]
theorem xZ(x:Str):∀ks:List Str,(aT (nV ks) (.inr x)).isSome=ks.contains x
 |[]=>rfl
 |k::ks=>by
  have ih:=xZ x ks;unfold aT nV at *;rw[bQ,uT,List.contains_cons];by_cases e:k=x
  .rw[sd (by rw[e]),e,eL]
   rfl
  .rw[sL (λz=>e (TK.inr.inj z)),show(x == k)=false by rw[nQ];exact λz=>e z.symm]
   rw[Bool.false_or];exact ih
theorem Hw(k:Str):∀ks:List Str,bU (nV ks) (.inr k) (.bl true)=nV (g_ ks k)
 |[]=>rfl
 |j::ks=>by
  have ih:=Hw k ks;show(if(TK.inr j)=TK.inr k then(TK.inr j,D.bl true)::nV ks else(TK.inr j,D.bl true)::bU (nV ks) (.inr k) (.bl true))=_
  unfold g_ at *;rw[List.contains_cons];by_cases e:j=k
  .rw[aX (by rw[e]),e,eL,NM,aX rfl];rfl
  .rw[aM (λz=>e (TK.inr.inj z)),ih,show(k == j)=false by rw[nQ];exact λz=>e z.symm,Bool.false_or]
   cases ks.contains k with
   |true=>rw[aX rfl,aX rfl];rfl
   |false=>rw[aM pF,aM pF];rfl
theorem KN(ks:List Str):(nV ks).length=ks.length:=by unfold nV;rw[bh]
theorem Qc(ks:List Str)(k:Str):(g_ ks k).length<=ks.length+1:=by
 unfold g_;split
 .lia
 .rw[du,vB];exact bM _
theorem Yz{k n:Str}:n∈g_ ks k↔n=k\/n∈ks:=by
 unfold g_;split
 .rename_i h
  rw[jv] at h;constructor
  .exact .inr
  .rintro(rfl|h')
   .exact h
   .exact h'
 .rw[dr,lz];exact Or.comm
theorem e5r{x:Str}{S:aO}{n:Nat}(hs:S.s[n]?=some (.o (.aB (nV ks))))(hn:rT x)(hx:ks.contains x=false)(hl:(ks.length<1000000)=True):Bv 0 [.d (.str x),.c n] S=some (.ok (rd .aI) ⟨S.s.set n (.o (.aB (nV (g_ ks x)))),S.r⟩):=by
 unfold Bv Om;simp only[↓ev,hn,aK,hs,xZ,hx,KN,hl,Hw,Rz]
variable{S:aO}{n:Nat}{ks carts:List Str}
noncomputable abbrev tk(S:aO)(n:Nat)(ks:List Str):aO:=⟨S.s.set n (.o (.aB (nV ks))),S.r⟩
theorem take1{x:Str}(hn:n<S.s.length)(hx:rT x)(h:x∉ks)(hl:ks.length<1000):Bv 0 [.d (.str x),.c n] (tk S n ks)=some (.ok (rd .aI) (tk S n (ks++[x]))):=by
 have hc:ks.contains x=false:=by simpa using h
 rw[e5r (S:=tk S n ks) (n:=n) (xA hn) hx hc (bJ (by lia))]
 grind [g_,List.set_set]
theorem VE{d0 a:ak Val}(hn:n<S.s.length)(nm:∀c∈carts,rT c)(nd:(ks++carts).Nodup)(hl:ks.length+carts.length<1000):
  ∃a',aH (af 2) (F1 0) (dS carts) [d0,some (.c n),a] (tk S n ks)=some (.nx [d0,some (.c n),a'] (tk S n (ks++carts))):=by
 obtain⟨U',S',e,a',rfl,rfl⟩:=lB (gg:=af 2) (body:=F1 0) (f:=D.str) (U:=[d0,some (.c n),a]) (S:=tk S n ks) (λpre U S'=>∃a',U=[d0,some (.c n),a']/\S'=tk S n (ks++pre)) carts ⟨a,rfl,by rw[lY]⟩ (by
  rintro d x r eq U S' ⟨a',rfl,rfl⟩;have h1:x∉ks++d:=by
   rw[eq,<-l0] at nd;exact λm=>(jS.mp nd).2.2 x m x (r9 ..) rfl
  have h2:=congrArg List.length eq;rw[du,ju] at h2;have h:=take1 hn (nm x (by rw[eq];simp)) h1 (by rw[du];lia)
  refine⟨[d0,some (.c n),some (.d (.str x))],[d0,some (.c n),some (.d (.str x))],_,rfl,.inl ?_,_,rfl,rfl⟩;rw[<-l0];unfold F1;simp only[↓ev,h,zM])
 exact⟨a',e⟩
theorem d9d(hn:n<S.s.length)(nm:∀c∈carts,rT c)(nd:(ks++carts).Nodup)(hl:ks.length+carts.length<1000)(h0:carts≠[]):F5 0 [.d (.lst (dS carts)),.c n] (tk S n ks)=some (.ok (rd .aI) (tk S n (ks++carts))):=by
 obtain⟨a',e⟩:=VE (d0:=some (.d (.lst (dS carts)))) (a:=none) hn nm nd hl;have z:(dS carts).isEmpty=false:=by cases carts with|nil=>exact b_ rfl h0|cons _ _=>rfl
 have lc:∀yE,(tk S n yE).cut (tk S n ks).s.length=tk S n yE:=λyE=>by unfold aO.cut;simp only[nW];rw[vD (by rw[nW];exact bM _)]
 unfold F5 N4;simp only[↓ev,i9,e,z,mV,aK,lc]
variable{S:aO}{n:Nat}{ks:List Str}
theorem e5s{c:Cell}{yE:List Str}:(tk S n yE).cut (S.s.set n c).length=tk S n yE:=by
 unfold aO.cut;simp only[nW];rw[vD (by rw[nW];exact bM _)]
theorem VF{bs:List ao}{d0 a2 a3 a4 a5 a6:ak Val}(hn:n<S.s.length)(nm:∀b∈bs,rT b.name)(lg:∀b∈bs,1<=b.long/\(b.ring=true->2<=b.long))(nd:(ks++bs.map ao.name).Nodup)(hl:ks.length+bs.length<1000):
  ∃b2 b3 b4 b5 b6,aH (bF [(af 2),(af 3),(af 4),(af 5)]) (F2 0) (bs.map aq) [d0,some (.c n),a2,a3,a4,a5,a6] (tk S n ks)=some (.nx [d0,some (.c n),b2,b3,b4,b5,b6] (tk S n (ks++bs.map ao.name))):=by
 obtain⟨U',S',e,b2,b3,b4,b5,b6,rfl,rfl⟩:=lB (gg:=bF [(af 2),(af 3),(af 4),(af 5)]) (body:=F2 0) (f:=aq) (U:=[d0,some (.c n),a2,a3,a4,a5,a6]) (S:=tk S n ks) (λpre U S'=>∃b2 b3 b4 b5 b6,U=[d0,some (.c n),b2,b3,b4,b5,b6]/\S'=tk S n (ks++pre.map ao.name)) bs ⟨a2,a3,a4,a5,a6,rfl,by rw[xG,lY]⟩ (by
  rintro d x r eq U S' ⟨b2,b3,b4,b5,b6,rfl,rfl⟩;have h1:x.name∉ks++d.map ao.name:=by
   rw[eq,dB,bQ,<-l0] at nd;exact λm=>(jS.mp nd).2.2 _ m _ (r9 ..) rfl
  have h2:=congrArg List.length eq;rw[du,ju] at h2;have mx:x∈bs:=by rw[eq];simp
  have h:=take1 hn (nm x mx) h1 (by rw[du,bh];lia)
  obtain⟨l1,l2⟩:=lg x mx;have e1:∀b,bF [(af 2),(af 3),(af 4),(af 5)] (aq x) [d0,some (.c n),b2,b3,b4,b5,b]=some [d0,some (.c n),some (.d (.str x.name)),some (.d (.int x.long)),some (.d (.bl x.ring)),some (.d (.lst (dS x.outs))),b]:=λ_=>rfl
  refine⟨_,[d0,some (.c n),some (.d (.str x.name)),some (.d (.int x.long)),some (.d (.bl x.ring)),some (.d (.lst (dS x.outs))),some (.d (.int (if x.ring=true then 2 else 1)))],_,e1 _,.inl ?_,_,_,_,_,_,rfl,rfl⟩
  rw[dB,bQ,xG,<-l0];unfold F2;cases hr:x.ring with
  |true=>
   have z:(x.long<2)=False:=eq_false (by have:=l2 hr;lia)
   simp only[↓ev,h,zM,aP,z,decide_false,aK]
  |false=>
   have z:(x.long<1)=False:=eq_false (by lia)
   simp only[↓ev,h,zM,aK,aP,z,decide_false])
 exact⟨b2,b3,b4,b5,b6,e⟩
theorem d9e{bs:List ao}(hn:n<S.s.length)(nm:∀b∈bs,rT b.name)(lg:∀b∈bs,1<=b.long/\(b.ring=true->2<=b.long))(nd:(ks++bs.map ao.name).Nodup)(hl:ks.length+bs.length<1000):F6 0 [.d (.lst (bs.map aq)),.c n] (tk S n ks)=some (.ok (rd .aI) (tk S n (ks++bs.map ao.name))):=by
 obtain⟨b2,b3,b4,b5,b6,e⟩:=VF (d0:=some (.d (.lst (bs.map aq)))) (a2:=none) (a3:=none) (a4:=none) (a5:=none) (a6:=none) hn nm lg nd hl;unfold F6 N5;simp only[↓ev,i9,e,e5s]
variable{ks:List Str}
noncomputable abbrev ie(S:aO)(ks:List Str):aO:=⟨S.s++[.o (.aB (nV ks))],S.r⟩
def bP(b:Str)(ks:List Str)(x:ao):List Str:=if(x.name == b || ks.contains x.name)=true then x.outs.foldl g_ ks else ks
theorem Qd(outs:List Str):∀ks:List Str,(outs.foldl g_ ks).length<=ks.length+outs.length:=by
 induction outs with
 |nil=>intro ks;exact bM _
 |cons o outs ih=>
  grind [Qc]
section
variable{S:aO}{g0 g1 g3 g4 g5 g6 a:ak Val}
theorem MD{o:Str}(hl:(ks.length<1000000)=True):CM 0 [g0,g1,some (.c S.s.length),g3,g4,g5,g6,some (.d (.str o))] (ie S ks)=some (.nx [g0,g1,some (.c S.s.length),g3,g4,g5,g6,some (.d (.str o))] (ie S (g_ ks o))):=by
 unfold CM;simp only[↓ev,eS,KN,hl,Hw,km]
theorem YA(outs ks:List Str)(h:ks.length+outs.length<1000000):∃a',aH (af 7) (CM 0) (dS outs) [g0,g1,some (.c S.s.length),g3,g4,g5,g6,a] (ie S ks)=some (.nx [g0,g1,some (.c S.s.length),g3,g4,g5,g6,a'] (ie S (outs.foldl g_ ks))):=by
 obtain⟨U',S',e,a',rfl,rfl⟩:=lB (gg:=af 7) (body:=CM 0) (f:=D.str) (U:=[g0,g1,some (.c S.s.length),g3,g4,g5,g6,a]) (S:=ie S ks) (λpre U S'=>∃a',U=[g0,g1,some (.c S.s.length),g3,g4,g5,g6,a']/\S'=ie S (pre.foldl g_ ks)) outs ⟨a,rfl,rfl⟩ (by
  rintro d x r eq U S' ⟨a',rfl,rfl⟩;have h2:=congrArg List.length eq;rw[du,ju] at h2;have:=Qd d ks;refine⟨_,_,_,rfl,.inl (MD (bJ (by lia))),_,rfl,by rw[NF];rfl⟩)
 exact⟨a',e⟩
theorem VG(b:Str)(bs:List ao)(ks:List Str)(a3 a4 a5 a6 a7:ak Val)(h:ks.length+(bs.map λx=>x.outs.length).sum<1000000):∃b3 b4 b5 b6 b7,aH (bF [(af 3),(af 4),(af 5),(af 6)]) (Bw 0) (bs.map aq) [g0,some (.d (.str b)),some (.c S.s.length),a3,a4,a5,a6,a7] (ie S ks)=some (.nx [g0,some (.d (.str b)),some (.c S.s.length),b3,b4,b5,b6,b7] (ie S (bs.foldl (bP b) ks))):=by
 obtain⟨U',S',e,b3,b4,b5,b6,b7,rfl,rfl,_⟩:=lB (gg:=bF [(af 3),(af 4),(af 5),(af 6)]) (body:=Bw 0) (f:=aq) (U:=[g0,some (.d (.str b)),some (.c S.s.length),a3,a4,a5,a6,a7]) (S:=ie S ks) (λpre U S'=>∃b3 b4 b5 b6 b7,U=[g0,some (.d (.str b)),some (.c S.s.length),b3,b4,b5,b6,b7]/\S'=ie S (pre.foldl (bP b) ks)/\(pre.foldl (bP b) ks).length<=ks.length+(pre.map λx=>x.outs.length).sum) bs ⟨a3,a4,a5,a6,a7,rfl,rfl,IE _ _⟩ (by
  rintro d x r eq U S' ⟨b3,b4,b5,b6,b7,rfl,rfl,hl⟩;rw[eq,dB,bQ,List.sum_append,sJ] at h;have hf:=Qd x.outs (d.foldl (bP b) ks);have e1:bF [(af 3),(af 4),(af 5),(af 6)] (aq x) [g0,some (.d (.str b)),some (.c S.s.length),b3,b4,b5,b6,b7]=some [g0,some (.d (.str b)),some (.c S.s.length),some (.d (.str x.name)),some (.d (.int x.long)),some (.d (.bl x.ring)),some (.d (.lst (dS x.outs))),b7]:=rfl;rw[NF,dB,List.sum_append];show ∃U1 U' S',_/\_/\∃b3 b4 b5 b6 b7,U'=_/\S'=ie S (bP b (d.foldl (bP b) ks) x)/\(bP b (d.foldl (bP b) ks) x).length<=_+(_+(x.outs.length+0));obtain⟨a',e2⟩:=YA (S:=S) (g0:=g0) (g1:=some (.d (.str b))) (g3:=some (.d (.str x.name))) (g4:=some (.d (.int x.long))) (g5:=some (.d (.bl x.ring))) (g6:=some (.d (.lst (dS x.outs)))) (a:=b7) x.outs (d.foldl (bP b) ks) (by lia)
  generalize d.foldl (bP b) ks=ks1 at *;unfold bP;cases c1:x.name == b with
  |true=>
   refine⟨_,_,_,e1,.inl (by unfold Bw;simp only[↓ev,aK,ib,c1,i9,e2] <;> rfl),_,_,_,_,_,rfl,?_,?_⟩
   .rw[NM,aX rfl]
   .rw[NM,aX rfl];lia
  |false=>
   cases c2:ks1.contains x.name with
   |true=>
    refine⟨_,_,_,e1,.inl (by unfold Bw;simp only[↓ev,aK,ib,c1,eS,xZ,c2,i9,e2] <;> rfl),_,_,_,_,_,rfl,?_,?_⟩
    .rw[IP,aX rfl]
    .rw[IP,aX rfl];lia
   |false=>
    refine⟨_,_,_,e1,.inl (by unfold Bw;simp only[↓ev,aK,ib,c1,eS,xZ,c2] <;> rfl),_,_,_,_,_,rfl,?_,?_⟩
    .rw[IG,aM pF]
    .rw[IG,aM pF];lia)
 exact⟨b3,b4,b5,b6,b7,e⟩
theorem UT(q:Nat)(xs:List Str)(h:xs.length<=1000000):bC (af 0) (Jy q) (Jz q) (dS xs) [none,some (.c S.s.length)] (ie S ks) []=some (.ok (dS (xs.filter λo=>ks.contains o)) (ie S ks)):=by
 rw[dS,x_ (λo=>if ks.contains o=true then some (.str o) else none) xs (by lia) λo m=>by
  unfold Jy Jz;cases hc:ks.contains o with
  |true=>exact .inr ⟨rd (.str o),.str o,rfl,by simp only[↓ev,eS,aK,xZ,hc],by simp only[↓ev],rfl⟩
  |false=>exact .inl ⟨rfl,by simp only[↓ev,eS,aK,xZ,hc]⟩]
 congr 2
 induction xs with
 |nil=>rfl
 |cons o r ih=>
  grind
theorem WT{h:aA}(sm:tD h)(b:Str):P0 Gu [.d (aE h),.d (.str b)] (.o (.lst (dS ((h.ae.map ao.name++h.carts).filter λx=>(h.ae.foldl (bP b) []).contains x)))):=by
 intro S;have h1:=sm.bl;have h2:=sm.ct;have h3:=sm.ou;obtain⟨b3,b4,b5,b6,b7,e⟩:=VG (S:=S) (g0:=some (.d (aE h))) b h.ae [] none none none none none (by rw[Co];lia)
 have hn:=zJ h.ae (by lia)
 have hc:=λq=>UT (S:=S) (ks:=h.ae.foldl (bP b) []) q (h.ae.map ao.name++h.carts) (by rw[du,bh];lia)
 have ap:dS (h.ae.map ao.name)++dS h.carts=dS (h.ae.map ao.name++h.carts):=dB.symm;have le:((dS (h.ae.map ao.name)).length+(dS h.carts).length<=1000000)=True:=bJ (by rw[bh,bh,bh];lia)
 have hD:aE h=.tup [.lst (h.ae.map aq),.lst (dS h.carts)]:=rfl;rw[show ie S []=⟨S.s++[.o (.aB [])],S.r⟩ from rfl] at e;rw[hD] at e ⊢;unfold Gu Pa;simp only[↓ev,aP,cy,i9,e,ie,hn,cV,le,ap,hc,vg]
end
variable{outs:List Str}{b n:Str}{h:aA}
def Sj(bs:List ao)(b:Str):List Str:=bs.foldl (bP b) []
inductive RR (bs:List ao) (outs:List Str):Str->Prop
 |base {n:Str}:n∈outs->RR bs outs n
 |step {m n:Str} {b:ao}:RR bs outs m->b∈bs->b.name=m->n∈b.outs->RR bs outs n
theorem i4:∀{ks:List Str} {n:Str},n∈outs.foldl g_ ks↔n∈outs\/n∈ks:=by
 induction outs with
 |nil=>intro ks n;simp
 |cons o outs ih=>
  intro ks n;rw[IJ,ih,Yz,y04];constructor
  .rintro(h|h|h)
   .exact .inl (.inr h)
   .exact .inl (.inl h)
   .exact .inr h
  .rintro((h|h)|h)
   .exact .inr (.inl h)
   .exact .inl h
   .exact .inr (.inr h)
theorem WU{ks:List Str}{x:ao}(h:n∈ks):n∈bP b ks x:=by
 unfold bP;split
 .exact i4.mpr (.inr h)
 .exact h
theorem WV{bs:List ao}:∀{ks:List Str} {n:Str},n∈ks->n∈bs.foldl (bP b) ks:=by
 induction bs with
 |nil=>intro ks n h;exact h
 |cons x bs ih=>intro ks n h;exact ih (WU h)
theorem Pg{carts:List Str}{b:Str}:∀{bs:List ao} {ks:List Str} {n:Str},l6 carts bs->n∈bs.foldl (bP b) ks->n∈ks\/n∈bs.tail.map ao.name\/n∈carts
 |[],ks,n,_,h=>.inl h
 |x::bs,ks,n,f,h=>by
  rcases Pg f.2.2.2 h with z|z|z
  .unfold bP at z;split at z
   .rcases i4.mp z with z|z
    .rcases f.1 n z with z|z
     .exact .inr (.inl z)
     .exact .inr (.inr z)
    .exact .inl z
   .exact .inl z
  .refine .inr (.inl ?_);cases bs with
   |nil=>exact z
   |cons y bs=>exact qm _ z
  .exact .inr (.inr z)
theorem Jw{carts:List Str}{b:Str}:∀{bs:List ao} {ks:List Str},l6 carts bs->∀x∈bs,(x.name=b\/x.name∈bs.foldl (bP b) ks)->∀o∈x.outs,o∈bs.foldl (bP b) ks
 |y::bs,ks,f,x,hx,hn,o,ho=>by
  rcases y04.mp hx with rfl|hx
  .have h1:(x.name == b || ks.contains x.name)=true:=by
    rcases hn with hn|hn
    .rw[hn,eL,NM]
    .rcases Pg (b:=b) f hn with z|z|z
     .rw[jv.mpr z,IP]
     .exact b_ z f.2.1
     .exact b_ z f.2.2.1
   show o∈bs.foldl (bP b) (bP b ks x);refine WV ?_;unfold bP;rw[aX h1];exact i4.mpr (.inl ho)
  .exact Jw (ks:=bP b ks y) f.2.2.2 x hx hn o ho
theorem Qe{DF:List ao}{b:ao}(hb:b∈DF)(hu:∀x∈DF,x.name=b.name->x=b):∀{bs:List ao} {ks:List Str},(∀x∈bs,x∈DF)->(∀n∈ks,RR DF b.outs n)->∀n∈bs.foldl (bP b.name) ks,RR DF b.outs n
 |[],ks,_,h,n,hn=>h n hn
 |x::bs,ks,hs,h,n,hn=>Qe hb hu (λy hy=>hs y (qm _ hy)) (λm hm=>by
   unfold bP at hm;split at hm
   .rename_i hc
    rcases i4.mp hm with z|z
    .rw[Nw,beq_iff_eq,jv] at hc;rcases hc with hc|hc
     .rw[hu x (hs x r9) hc] at z;exact .base z
     .exact .step (h _ hc) (hs x r9) rfl z
    .exact h m z
   .exact h m hm) n hn
theorem WW(f:l6 h.carts h.ae){b:ao}(hb:b∈h.ae)(n:Str):n∈Sj h.ae b.name↔RR h.ae b.outs n:=by
 unfold Sj;constructor
 .exact Qe hb (λx hx e=>xR f x hx b hb e) (λ_ m=>m) (λ_ m=>by cases m) n
 .intro r
  induction r with
  |base m=>exact Jw f b hb (.inl rfl) _ m
  |step r hx hn hm ih=>exact Jw f _ hx (.inr (by rw[hn];exact ih)) _ hm
theorem YL{bs:List ao}{w:ao}(hw:w∈bs)(r:RR bs outs w.name)(r2:RR bs w.outs n):RR bs outs n:=by
 induction r2 with
 |base m=>exact .step r hw rfl m
 |step _ hb hn hm ih=>exact .step ih hb hn hm
theorem Kt{h:aA}(g:ax h):∀{bs pre:List ao},h.ae=pre++bs->∀b∈bs,RR h.ae b.outs (h.carts.getD 0 "")
 |x::bs,pre,eq,b,hb=>by
  have vi:h.ae=(pre++[x])++bs:=by rw[eq];simp
  rcases y04.mp hb with rfl|hb
  .have HP:b∈h.ae:=by rw[eq];simp
   have fx:l6 h.carts (b::bs):=CU (by rw[<-eq];exact g.fwd)
   rcases g.hd b HP with z|⟨o,z1,z2⟩
   .exact .base z
   .rcases fx.1 o z1 with y|y
    .obtain⟨w,hw,ew⟩:=dZ.mp y;exact YL (w:=w) (by rw[vi];simp[hw]) (by rw[ew];exact .base z1) (Kt g vi w hw)
    .exact b_ z2 (Gw g.fwd o y)
  .exact Kt g vi b hb
theorem Dm(g:ax h):h.carts.getD 0 ""∈h.carts/\dU (dS h.carts) 0=some (.str (h.carts.getD 0 "")):=by
 have:=g.c0;cases HS:h.carts with
 |nil=>rw[HS] at this;simp at this
 |cons c cs=>exact⟨by simp,vS (j:=0) rfl⟩
theorem e5t(g:ax h):P0 F_ [.d (aE h)] (rd .aI):=by
 intro S;have bl:=g.sm.bl;obtain⟨hc,i0⟩:=Dm g;have e1:=zJ h.ae (by lia)
 obtain⟨U',S',e,a,rfl,rfl⟩:=lB (gg:=af 2) (body:=Jn 0) (f:=D.str) (U:=[some (.d (aE h)),some (.d (.str (h.carts.getD 0 ""))),none]) (S:=S) (λ_ U S'=>∃a,U=[some (.d (aE h)),some (.d (.str (h.carts.getD 0 ""))),a]/\S'=S) (h.ae.map ao.name) ⟨_,rfl,rfl⟩ (by
  rintro d x r eq U S' ⟨a,rfl,rfl⟩;obtain⟨b,hb,rfl⟩:∃b∈h.ae,b.name=x:=dZ.mp (by rw[eq];simp)
  have e1:=WT g.sm b.name;have hm:((h.ae.map ao.name++h.carts).filter λx=>(h.ae.foldl (bP b.name) []).contains x).contains (h.carts.getD 0 "")=true:=by
   rw[jv,sE];exact⟨pQ _ hc,jv.mpr ((WW g.fwd hb _).mpr (Kt g (pre:=[]) rfl b hb))⟩
  refine⟨[some (.d (aE h)),some (.d (.str (h.carts.getD 0 ""))),some (.d (.str b.name))],_,_,rfl,.inl ?_,some (.d (.str b.name)),rfl,rfl⟩;unfold Jn;generalize((h.ae.map ao.name++h.carts).filter λx=>(h.ae.foldl (bP b.name) []).contains x)=l at *
  generalize h.carts.getD 0 ""=hand at *;simp only[↓ev,e1,kE,ke,hm,lG,aK])
 have hD:aE h=.tup [.lst (h.ae.map aq),.lst (dS h.carts)]:=rfl;generalize h.carts.getD 0 ""=hand at *;rw[hD] at e ⊢;unfold F_ Oc;simp only[↓ev,cV,i0,aP,cy,e1,i9,e,fZ]
theorem Of{x z:Str}:∀{ys:List Str} {j:Nat},ys[j]?=some z->x∈ys->x≠z->x∈ys.eraseIdx j
 |y::ys,0,e,hx,fG=>by
  simp_all
 |y::ys,j+1,e,hx,fG=>by
  rw[List.getElem?_cons_succ] at e;show x∈y::ys.eraseIdx j;rcases y04.mp hx with rfl|hx
  .exact .head _
  .exact .tail _ (Of e hx fG)
 |[],_,_,hx,_=>by cases hx
theorem Gy{z:Str}{ys:List Str}(h:z∈ys):∃j,findS ys z=some j:=by
 cases q:findS ys z with
 |some j=>exact⟨j,rfl⟩
 |none=>
  unfold findS at q;rw[List.findIdx?_eq_none_iff] at q;have:=q z h;simp at this
theorem YM(L:List Str)(j:Nat):(dS L).eraseIdx j=dS (L.eraseIdx j):=by
 grind [List.eraseIdx_eq_take_drop_succ,List.map_take,List.map_drop]
section
variable{S:aO}{s0 s1 s2 s3 s4 s5 a7:ak Val}
theorem MJ{L:List Str}{x:Str}{j:Nat}(hc:L.contains x=true)(hj:findS L x=some j):CJ 0 [s0,s1,s2,s3,s4,s5,some (.c S.s.length),some (.d (.str x))] (bT S (dS L))=some (.nx [s0,s1,s2,s3,s4,s5,some (.c S.s.length),some (.d (.str x))] (bT S (dS (L.eraseIdx j)))):=by
 have h:=O7 L;unfold CJ;simp only[↓ev,bT,eS,kE,ke,hc,lG,aK,h,hj,YM,km]
theorem d9f(outs L:List Str)(nd:outs.Nodup)(hs:∀o∈outs,o∈L):∃L' b7,aH (af 7) (CJ 0) (dS outs) [s0,s1,s2,s3,s4,s5,some (.c S.s.length),a7] (bT S (dS L))=some (.nx [s0,s1,s2,s3,s4,s5,some (.c S.s.length),b7] (bT S (dS L'))):=by
 obtain⟨U',S',e,L',b7,rfl,rfl,_⟩:=lB (gg:=af 7) (body:=CJ 0) (f:=D.str) (U:=[s0,s1,s2,s3,s4,s5,some (.c S.s.length),a7]) (S:=bT S (dS L)) (λpre U S'=>∃L' b7,U=[s0,s1,s2,s3,s4,s5,some (.c S.s.length),b7]/\S'=bT S (dS L')/\∀o∈outs,o∉pre->o∈L') outs ⟨L,a7,rfl,rfl,λo ho _=>hs o ho⟩ (by
  rintro q x post eq U S' ⟨L',b7,rfl,rfl,hL⟩;have hxq:x∉q:=λz=>by
   rw[eq] at nd;exact(jS.mp nd).2.2 x z x (.head _) rfl
  have hx:x∈L':=hL x (by rw[eq];simp) hxq
  obtain⟨j,hj⟩:=Gy hx;refine⟨_,_,_,rfl,.inl (MJ (jv.mpr hx) hj),L'.eraseIdx j,some (.d (.str x)),rfl,rfl,λo ho hq=>?_⟩
  simp only[dr,lz,not_or] at hq;exact Of (CQ hj).1 (hL o ho hq.1) hq.2)
 exact⟨L',b7,e⟩
end
theorem YN(q:List ao)(x:ao)(post:List ao)(i:Int)(hi:i=(q.length:Nat)):cutD ((q++x::post).map aq) (some (i+1)) none=post.map aq:=by
 unfold cutD;have e4:HT.cG ((q++x::post).map aq).length 0 (some (i+1))=q.length+1:=by
  grind [HT.cG]
 have e5:HT.cG ((q++x::post).map aq).length ((q++x::post).map aq).length none=((q++x::post).map aq).length:=rfl;have e6:((q++x::post).map aq).drop (q.length+1)=post.map aq:=by
  rw[<-IK,show q++x::post=(q++[x])++post by simp,List.drop_left' (by simp)]
 grind
section
variable{S:aO}{h:aA}
theorem YO{d0:List D}{cs:List Str}{i:Int}{x:ao}{post:List ao}{a4 a5 a6 a7:ak Val}(hs:cutD d0 (some (i+1)) none=post.map aq)(hp:post.length<=1000)(hc:cs.length<=1000)(nd:x.outs.Nodup)(sb:∀o∈x.outs,o∈post.map ao.name++cs)(ne:x.outs≠[]):
  ∃L' b7,F4 0 [some (.d (.lst d0)),some (.d (.lst (dS cs))),some (.d (.int i)),some (.d (aq x)),a4,a5,a6,a7] S=some (.nx [some (.d (.lst d0)),some (.d (.lst (dS cs))),some (.d (.int i)),some (.d (aq x)),some (.d (.str x.name)),some (.d (.lst (dS x.outs))),some (.c S.s.length),b7] (bT S (dS L'))):=by
 obtain⟨L',b7,e⟩:=d9f (S:=S) (s0:=some (.d (.lst d0))) (s1:=some (.d (.lst (dS cs)))) (s2:=some (.d (.int i))) (s3:=some (.d (aq x))) (s4:=some (.d (.str x.name))) (s5:=some (.d (.lst (dS x.outs)))) (a7:=a7) x.outs (post.map ao.name++cs) nd sb;have e1:=zJ post (by lia)
 have ap:dS (post.map ao.name)++dS cs=dS (post.map ao.name++cs):=dB.symm;have le:((dS (post.map ao.name)).length+(dS cs).length<=1000000)=True:=bJ (by rw[bh,bh,bh];lia)
 have z:(dS x.outs).isEmpty=false:=by cases hz:x.outs with|nil=>exact b_ hz ne|cons _ _=>rfl
 have hD:aq x=.tup [.str x.name,.int x.long,.bl x.ring,.lst (dS x.outs)]:=rfl;refine⟨L',b7,?_⟩;rw[hD] at e ⊢;unfold F4;simp only[↓ev,cy,aP,v3,is4,hs,e1,le,ap,i9,e,z,mV,aK]
theorem WX(g:ax h)(ho:∀b∈h.ae,b.outs≠[]):P0 F9 [.d (.lst (h.ae.map aq)),.d (.lst (dS h.carts))] (rd .aI):=by
 intro S;have bl:=g.sm.bl;have ct:=g.sm.ct;have fw:=g.fwd;obtain⟨U',S',e,a2,a3,a4,a5,a6,a7,L,rfl,rfl⟩:=e8o (gg:=bF [(af 2),(af 3)]) (body:=F4 0) (U:=[some (.d (.lst (h.ae.map aq))),some (.d (.lst (dS h.carts))),none,none,none,none,none,none]) (S:=S) aq (λpre U S'=>∃a2 a3 a4 a5 a6 a7 L,U=[some (.d (.lst (h.ae.map aq))),some (.d (.lst (dS h.carts))),a2,a3,a4,a5,a6,a7]/\S'=⟨S.s++L,S.r⟩) h.ae ⟨_,_,_,_,_,_,[],rfl,by rw[lY]⟩ (by
  rintro q x post eq U S' ⟨a2,a3,a4,a5,a6,a7,L,rfl,rfl⟩;have hb:x∈h.ae:=by rw[eq];simp
  have hl:=congrArg List.length eq;rw[du,ju] at hl;have fx:l6 h.carts (x::post):=CU (by rw[<-eq];exact fw)
  have hs:=YN q x post (q.length:Nat) rfl;rw[<-eq] at hs;obtain⟨L',b7,e⟩:=YO (S:=⟨S.s++L,S.r⟩) (a4:=a4) (a5:=a5) (a6:=a6) (a7:=a7) (cs:=h.carts) hs (by lia) (by lia) (g.nd x hb) (λo m=>by
   rcases fx.1 o m with z|z
   .exact FF _ z
   .exact pQ _ z) (ho x hb)
  exact⟨_,_,_,rfl,e,_,_,_,_,_,_,L++[.o (.lst (dS L'))],rfl,by unfold bT;rw[l0]⟩)
 unfold F9 Ob;simp only[↓ev,i9,e,vg]
theorem OK(g:ax h):(h.carts++h.ae.map ao.name).Nodup:=by
 refine jS.mpr ⟨g.cn,?_,λa ha b hb e=>Gw g.fwd a ha (e ▸ hb)⟩
 have:∀{bs:List ao},l6 h.carts bs->(bs.map ao.name).Nodup:=by
  intro bs
  induction bs with
  |nil=>intro _;exact .nil
  |cons b bs ih=>intro f;exact qo.mpr ⟨f.2.1,ih f.2.2.2⟩
 exact this g.fwd
theorem d9g(g:ax h):P0 F7 [.d (aE h)] (rd (.bl true)):=by
 intro S;have ho:∀b∈h.ae,b.outs≠[]:=λb hb z=>by
  rcases g.hd b hb with y|⟨o,y,_⟩
  all_goals simp_all
 have bl:=g.sm.bl;have ct:=g.sm.ct;have nd:=OK g;have c0:h.carts≠[]:=λz=>by have:=g.c0;rw[z] at this;cases this
 have ln:∀c,S.s.length<(S.s++[c]:List Cell).length:=λc=>by rw[du];exact xD _
 have e1:=d9d (S:=⟨S.s++[.o (.aB [])],S.r⟩) (n:=S.s.length) (ks:=[]) (carts:=h.carts) (ln _) g.cm (by rw[y7];exact g.cn) (by rw[Co];lia) c0
 have e2:=d9e (S:=⟨S.s++[.o (.aB [])],S.r⟩) (n:=S.s.length) (ks:=h.carts) (bs:=h.ae) (ln _) g.nm g.lg nd (by lia)
 have se:∀c:Cell,(S.s++[Cell.o (.aB [])]).set S.s.length c=S.s++[c]:=λc=>km
 simp only[tk,se,qqc] at e1 e2;have k0:nV []=[]:=rfl;rw[k0] at e1;have e3:=WX g ho;have e4:=e5t g;have hD:aE h=.tup [.lst (h.ae.map aq),.lst (dS h.carts)]:=rfl;rw[hD] at e4 ⊢;unfold F7 N6;simp only[↓ev,cy,aP,cV,e1,e2,e3,e4,vg]
end
theorem Ph(names carts:List Str)(nd:names.Nodup)(dj:∀x∈names,x∉carts):∀(bs:List ao) (j:Nat),j+bs.length=names.length->(∀i b,bs[i]?=some b->b.name=names.getD (j+i) ""/\∀o∈b.outs,o∈names.drop (j+i+1)++carts)->l6 carts bs/\bs.map ao.name=names.drop j
 |[],j,hl,_=>⟨uU,by rw[List.drop_eq_nil_of_le (by simp at hl;lia)];rfl⟩
 |b::bs,j,hl,h=>by
  rw[ju] at hl;obtain⟨f,e⟩:=Ph names carts nd dj bs (j+1) (by lia) λi b hb=>by
   have:=h (i+1) b (by simpa using hb)
   rw[show j+(i+1)=j+1+i by lia] at this
   exact this
  obtain⟨h1,h2⟩:=h 0 b rfl;rw[Nat.add_zero] at h1 h2;have hj:j<names.length:=by lia
  have ed:names.drop j=names[j]::names.drop (j+1):=Nz hj;have en:b.name=names[j]:=by rw[h1,Cr,i8 hj];rfl
  have Tw:(names.drop j).Nodup:=nd.sublist (List.drop_sublist _ _);rw[ed] at Tw;refine⟨⟨λo ho=>?_,?_,?_,f⟩,by rw[bQ,e,en,ed]⟩
  .rcases dr.mp (h2 o ho) with z|z
   .exact .inl (by rw[e];exact z)
   .exact .inr z
  .rw[e,en];exact(qo.mp Tw).1
  .rw[en];exact dj _ (FI hj)
noncomputable def cN(bs:List ao):Int:=(bs.map ao.long).sum
theorem Fg:∀{bs:List ao},(∀b∈bs,b.long<=6)->cN bs<=6*bs.length
 |[],_=>by unfold cN;simp
 |b::bs,h=>by
  have h1:=h b (.head _);have h2:=Fg (bs:=bs) λx m=>h x (.tail _ m)
  unfold cN at *;rw[bQ,sJ,ju];lia
theorem Ff{bs:List ao}(hl:bs.length<=5)(h:∀(i:Nat) (b:ao),bs[i]?=some b->b.long<=26/\(b.long<=6\/i=0/\bs.length<3)):cN bs<=39:=by
 by_cases z:bs.length<3
 .clear hl
  match bs,z,h with
  |[],_,_=>unfold cN;simp
  |[a],_,h=>
   have:=h 0 a rfl;unfold cN;simp;lia
  |[a,b],_,h=>
   have:=h 0 a rfl;have:=h 1 b rfl;unfold cN;simp;lia
 .have:=Fg (bs:=bs) λb m=>by
   obtain⟨i,hi⟩:=Bb.mp m;have:=h i b hi;lia
  lia
theorem d9h(ns:List Int):∃h:aA,ax h/\cN h.ae<=39/\0<h.ae.length/\h.ae.length<=5/\h.carts.length<=4/\P0 BB [.d (ba ns)] (rd (aE h)):=by
 obtain⟨p1,p2,p3⟩:=g9 ns 0 0 5 (by decide) (by decide) (by decide)
 obtain⟨q1,q2,q3⟩:=g9 ns 0 1 4 (by decide) (by decide) (by decide)
 have hp:=zS ns 0 5 (by decide) (by decide)
 have ho:=xS ns 0 4 (by decide) (by decide)
 have e1:=λq S=>VC q S ns (1+bf ns 0 0 5).toNat (by lia)
 have e2:=λq S=>VD q S ns (1+bf ns 0 1 4).toNat (by lia)
 have nl:((List.range (1+bf ns 0 0 5).toNat).map (jP ns 11)).length=(1+bf ns 0 0 5).toNat:=by simp
 have cl:((List.range (1+bf ns 0 1 4).toNat).map λi=>jP ns 11 (10+i)).length=(1+bf ns 0 1 4).toNat:=by simp
 have nnd:((List.range (1+bf ns 0 0 5).toNat).map (jP ns 11)).Nodup:=Qb ns _ NA λi m=>by have:=sF.mp m;lia
 have XH:((List.range (1+bf ns 0 1 4).toNat).map λi=>jP ns 11 (10+i)).Nodup:=by
  rw[show(λi=>jP ns 11 (10+i))=jP ns 11∘(10+·) from rfl,<-fJ]
  refine Qb ns _ ?_ λi m=>?_
  .rw[List.Nodup,IL];exact NA.imp λne z=>ne (by lia)
  .obtain⟨j,hj,rfl⟩:=dZ.mp m;have:=sF.mp hj;lia
 have dj:∀x∈(List.range (1+bf ns 0 0 5).toNat).map (jP ns 11),x∉(List.range (1+bf ns 0 1 4).toNat).map λi=>jP ns 11 (10+i):=λx hx hc=>by
  obtain⟨i,hi,rfl⟩:=dZ.mp hx;obtain⟨j,hj,e⟩:=dZ.mp hc;have h1:=sF.mp hi;have h2:=sF.mp hj;have:=Si ns 11 (by decide) _ _ (by lia) (by lia) e
  lia
 have nmN:∀x∈(List.range (1+bf ns 0 0 5).toNat).map (jP ns 11),rT x:=λx hx=>by
  obtain⟨i,hi,rfl⟩:=dZ.mp hx;exact Pf _ (BX ns 11 (by decide) i).1 (BX ns 11 (by decide) i).2 (P8 ns 11 (by decide) i)
 have nmC:∀x∈(List.range (1+bf ns 0 1 4).toNat).map (λi=>jP ns 11 (10+i)),rT x:=λx hx=>by
  obtain⟨i,hi,rfl⟩:=dZ.mp hx;exact Pf _ (BX ns 11 (by decide) (10+i)).1 (BX ns 11 (by decide) (10+i)).2 (P8 ns 11 (by decide) (10+i))
 generalize(List.range (1+bf ns 0 0 5).toNat).map (jP ns 11)=names at *;generalize((List.range (1+bf ns 0 1 4).toNat).map λi=>jP ns 11 (10+i))=carts at *
 obtain⟨hand,hh⟩:∃x,carts.head?=some x:=by
  cases carts with
  |nil=>simp at cl;lia
  |cons a b=>exact⟨a,rfl⟩
 obtain⟨⟨bs,a4,a5,a6⟩,⟨bl,bp⟩,e3⟩:=Se (gg:=af 4) (body:=qx 0) (f:=λ(i:Nat)=>D.int (i:Int)) (λ(b:List ao×ak Val×ak Val×ak Val) S=>([some (.d (ba ns)),some (.d (.lst (dS names))),some (.d (.lst (dS carts))),some (.c S.s.length),b.2.1,b.2.2.1,b.2.2.2],bT S (b.1.map aq)))
  (λpre b=>b.1.length=pre.length/\(∀i x,b.1[i]?=some x->x.name=names.getD i ""/\(1<=x.long/\x.long<=26/\(x.long<=6\/i=0/\names.length<3))/\(x.ring=true->2<=x.long)/\p_ (names.drop (i+1)) carts hand x.outs)) (List.range (names.length:Int).toNat) ([],none,none,none) ⟨rfl,λi b e=>(by simp at e)⟩ (by
   rintro q i post eq ⟨bs,a4,a5,a6⟩ ⟨bl,bp⟩;obtain⟨hq,hi⟩:=Kb eq;dsimp only at bl bp;have hi:i<names.length:=by lia
   obtain⟨b,b1,b2,b3,b4,jY,vX,e⟩:=d9c ns i names carts hand bs a5 a6 hi (by lia) hh (by lia) (by lia)
   refine⟨(bs++[b],some (.d (.int i)),jY,vX),⟨by show(bs++[b]).length=_;rw[du,du,bl];rfl,λj b' kf=>?_⟩,λS=>⟨_,rfl,.inl (e S)⟩⟩
   have kf:(bs++[b])[j]?=some b':=kf;by_cases hj:j<bs.length
   .rw[xF hj] at kf;exact bp j b' kf
   .rw[vA (by lia)] at kf
    have:j - bs.length=0:=by
     have:=(eQ.mp kf).1;simp at this;lia
    rw[this] at kf;cases kf;have ej:j=i:=by lia
    rw[ej];exact⟨b1,b2,b3,b4⟩)
 dsimp only at bl bp e3;rw[vG] at bl;have e3:=λS=>(congrArg (λl=>aH (af 4) (qx 0) l _ _) (rZ _)).trans (e3 S)
 obtain⟨fw,en⟩:=Ph names carts nnd dj bs 0 (by lia) λi b hb=>by
  rw[Nat.zero_add];exact⟨(bp i b hb).1,(bp i b hb).2.2.2.sub⟩
 rw[List.drop_zero] at en;have gi:∀b∈bs,∃i,bs[i]?=some b:=λb hb=>Bb.mp hb
 have hg:carts.getD 0 ""=hand:=by
  cases carts with
  |nil=>cases hh
  |cons a b=>cases hh;rfl
 refine⟨⟨bs,carts⟩,⟨fw,⟨by show bs.length<=100;lia,by show carts.length<=100;lia,?_⟩,λb hb=>?_,nmC,λb hb=>?_,λb hb=>?_,XH,by show 0<carts.length;lia,λb hb=>?_⟩,Ff (bs:=bs) (by lia) λi b hi=>(by have:=bp i b hi;lia),by show 0<bs.length;lia,by show bs.length<=5;lia,by show carts.length<=4;lia,λS=>WS S ns _ _ names carts a4 a5 a6 _ hp ho (NL (by lia)) (NL (by lia)) (names.length:Int) (by rw[bh]) (NL (by lia)) e1 e2 (e3 S)⟩
 .have:=Q3 (bs:=bs) λb hb=>by
   obtain⟨i,hi⟩:=gi b hb;exact(bp i b hi).2.2.2.len
  lia
 .exact nmN _ (by rw[<-en];exact j_ hb)
 .obtain⟨i,hi⟩:=gi b hb;exact⟨(bp i b hi).2.1.1,(bp i b hi).2.2.1⟩
 .obtain⟨i,hi⟩:=gi b hb;show carts.getD 0 ""∈b.outs\/∃o∈b.outs,o∈bs.map ao.name;rw[hg,en];rcases(bp i b hi).2.2.2.hand with z|⟨o,z1,z2⟩
  .exact .inl z
  .exact .inr ⟨o,z1,List.mem_of_mem_drop z2⟩
 .obtain⟨i,hi⟩:=gi b hb;exact(bp i b hi).2.2.2.nd
section
variable{h:aA}
theorem e8w{q:Nat}{S:aO}{n:Str}{b:ao}{d0:ak Val}(hb:(b.name == n)=false):Bu q [d0,some (.d (.str n)),some (.d (aq b))] S=some (.nx [d0,some (.d (.str n)),some (.d (aq b))] S):=by
 unfold Bu aq;simp only[↓ev,cy,aK,ib,hb]
theorem e5u{q:Nat}{S:aO}{n:Str}{b:ao}{d0:ak Val}(hb:(b.name == n)=true):Bu q [d0,some (.d (.str n)),some (.d (aq b))] S=some (.rt (rd (aq b)) S):=by
 unfold Bu aq;simp only[↓ev,cy,aK,ib,hb,cV,jj,v3,aP]
theorem BF(g:ax h){b:ao}(hb:b∈h.ae):Pr zA [.d (aE h),.d (.str b.name)] (rd (aq b)):=by
 intro q S;obtain⟨d,r,eq⟩:=List.append_of_mem hb;have e:aH (af 2) (Bu q) (h.ae.map aq) [some (.d (aE h)),some (.d (.str b.name)),none] S=some (.rt (rd (aq b)) S):=by
  rw[eq];refine QX (f:=aq) (λ_ U S'=>∃a,U=[some (.d (aE h)),some (.d (.str b.name)),a]/\S'=S) d [] _ _ ⟨_,rfl,rfl⟩ ?_ ?_
  .rintro d' y r' e' U S' ⟨a,rfl,rfl⟩;refine⟨_,_,_,rfl,.inl (e8w ?_),_,rfl,rfl⟩;rw[nQ];intro z;have hy:y∈d:=by rw[y7] at e';rw[e'];simp
   have e2:=xR g.fwd y (by rw[eq];simp[hy]) b hb z
   have nd:=(jS.mp (OK g)).2.1;rw[eq,dB,bQ] at nd;exact(jS.mp nd).2.2 _ (j_ hy) _ (.head _) z
  .rintro U S' ⟨a,rfl,rfl⟩;exact⟨_,rfl,e5u (eL _)⟩
 have hD:aE h=.tup [.lst (h.ae.map aq),.lst (dS h.carts)]:=rfl;rw[hD] at e ⊢;unfold zA O_;simp only[↓ev,cy,Nat.max_zero,e,fZ]
theorem Qf(g:ax h):Pr C6 [.d (aE h)] (rd (aE h)):=by
 intro q S;have bl:=g.sm.bl;have hn:=zJ h.ae (by lia)
 have e:∀q S,bC (af 0) (iV true) (JH q) (dS (h.ae.map ao.name)) [none,some (.d (aE h))] S []=some (.ok (h.ae.map aq) S):=λq S=>by
  rw[dS,fJ,vf aq h.ae (by lia) λb m=>⟨rd (aq b),by
   have hb:=BF g m;unfold JH;simp only[↓ev,Function.comp,hb],rfl⟩]
 have hD:aE h=.tup [.lst (h.ae.map aq),.lst (dS h.carts)]:=rfl;rw[hD] at e ⊢;unfold C6 PX;simp only[↓ev,cy,hn,e,aP,cV,fZ]
end
theorem nR:atrs.contains (cHall,("built":Str))=true:=by decide +kernel
theorem N1:atrs.contains (cHall,("told_rounds":Str))=true:=by decide +kernel
theorem Hx:atrs.contains (cHall,("now":Str))=true:=by decide +kernel
theorem sr:atrs.contains (cHall,("book":Str))=true:=by decide +kernel
theorem BG:atrs.contains (cHall,("halts":Str))=true:=by decide +kernel
theorem kB:atrs.contains (cHall,("places":Str))=true:=by decide +kernel
theorem qy:atrs.contains (cHall,("readings":Str))=true:=by decide +kernel
theorem BA:atrs.contains (cHall,("rounded":Str))=true:=by decide +kernel
theorem Ku:atrs.contains (cHall,("gone":Str))=true:=by decide +kernel
theorem u9:atrs.contains (cHall,("carted":Str))=true:=by decide +kernel
section
variable{d0 d1 d2 d3 d4 d5 d6 d7 d8 d9 v:D}
theorem Ms:fU "told_rounds" v [(("built":Str),d0)]=[(("built":Str),d0),(("told_rounds":Str),v)]:=by kernel_rfl
theorem Mt:fU "now" v [(("built":Str),d0),(("told_rounds":Str),d1)]=[(("built":Str),d0),(("told_rounds":Str),d1),(("now":Str),v)]:=by kernel_rfl
theorem Mu:fU "book" v [(("built":Str),d0),(("told_rounds":Str),d1),(("now":Str),d2)]=[(("built":Str),d0),(("told_rounds":Str),d1),(("now":Str),d2),(("book":Str),v)]:=by kernel_rfl
theorem Mv:fU "halts" v [(("built":Str),d0),(("told_rounds":Str),d1),(("now":Str),d2),(("book":Str),d3)]=[(("built":Str),d0),(("told_rounds":Str),d1),(("now":Str),d2),(("book":Str),d3),(("halts":Str),v)]:=by kernel_rfl
theorem Mw:fU "places" v [(("built":Str),d0),(("told_rounds":Str),d1),(("now":Str),d2),(("book":Str),d3),(("halts":Str),d4)]=[(("built":Str),d0),(("told_rounds":Str),d1),(("now":Str),d2),(("book":Str),d3),(("halts":Str),d4),(("places":Str),v)]:=by kernel_rfl
theorem Mx:fU "readings" v [(("built":Str),d0),(("told_rounds":Str),d1),(("now":Str),d2),(("book":Str),d3),(("halts":Str),d4),(("places":Str),d5)]=[(("built":Str),d0),(("told_rounds":Str),d1),(("now":Str),d2),(("book":Str),d3),(("halts":Str),d4),(("places":Str),d5),(("readings":Str),v)]:=by kernel_rfl
theorem My:fU "rounded" v [(("built":Str),d0),(("told_rounds":Str),d1),(("now":Str),d2),(("book":Str),d3),(("halts":Str),d4),(("places":Str),d5),(("readings":Str),d6)]=[(("built":Str),d0),(("told_rounds":Str),d1),(("now":Str),d2),(("book":Str),d3),(("halts":Str),d4),(("places":Str),d5),(("readings":Str),d6),(("rounded":Str),v)]:=by kernel_rfl
theorem Mz:fU "gone" v [(("built":Str),d0),(("told_rounds":Str),d1),(("now":Str),d2),(("book":Str),d3),(("halts":Str),d4),(("places":Str),d5),(("readings":Str),d6),(("rounded":Str),d7)]=[(("built":Str),d0),(("told_rounds":Str),d1),(("now":Str),d2),(("book":Str),d3),(("halts":Str),d4),(("places":Str),d5),(("readings":Str),d6),(("rounded":Str),d7),(("gone":Str),v)]:=by kernel_rfl
theorem MA:fU "carted" v [(("built":Str),d0),(("told_rounds":Str),d1),(("now":Str),d2),(("book":Str),d3),(("halts":Str),d4),(("places":Str),d5),(("readings":Str),d6),(("rounded":Str),d7),(("gone":Str),d8)]=[(("built":Str),d0),(("told_rounds":Str),d1),(("now":Str),d2),(("book":Str),d3),(("halts":Str),d4),(("places":Str),d5),(("readings":Str),d6),(("rounded":Str),d7),(("gone":Str),d8),(("carted":Str),v)]:=by kernel_rfl
end
def hF(hd:D)(r now:Int)(n:Nat):List (Str×D):=[("built",hd),("told_rounds",.int r),("now",.int now),("book",.ref (n+1)),("halts",.ref (n+2)),("places",.ref (n+3)),("readings",.ref (n+4)),("rounded",.ref (n+5)),("gone",.ref (n+6)),("carted",.ref (n+7))]
section
variable{S:aO}{h:aA}{r:Int}
theorem e5v(g:ax h):C_ 0 [.d (.ref S.r.length),.d (aE h),.d (.int r)] ⟨S.s,S.r++[.ins cHall []]⟩=some (.ok (rd .aI) ⟨S.s,S.r++[.ins cHall (hF (aE h) r 0 S.r.length),.o (.aB []),.o (.aB []),.o (.aB []),.o (.aB []),.o (.aB []),.o (.lst []),.o (.aB [])]⟩):=by
 have e1:=d9g g;have e2:=Qf g;generalize aE h=hd at *;unfold C_ P7 hF;simp only[↓ev,e1,e2,eS,nR,km,N1,Ms,Hx,Mt,Ez,zM,sr,Mu,BG,Mv,kB,Mw,qy,Mx,BA,My,aP,aK,Ku,Mz,u9,MA,fZ]
end
theorem Q4(a b:Str):decide ((TK.inr a:TK)=TK.inr b)=(a == b):=by
 lia
theorem Gz{α:Type}(e:TK×α)(es:List (TK×α))(k:TK)(v:α):bU (e::es) k v=if e.1=k then(e.1,v)::es else e::bU es k v:=rfl
section
variable{α:Type}{k:α->Str}{v:α->D}{xs:List α}{b:Str}{y:D}
def td(k:α->Str)(v:α->D)(xs:List α):List (TK×D):=xs.map λx=>(.inr (k x),v x)
theorem oo:(td k v xs).length=xs.length:=bh ..
theorem Dw(b:Str):∀xs:List α,aT (td k v xs) (.inr b)=(xs.find? λx=>k x == b).map v
 |[]=>rfl
 |x::xs=>by
  have ih:=Dw b xs;unfold aT td at *;rw[bQ,uT,uT];dsimp only;rw[Q4];cases(k x == b) with
  |true=>rfl
  |false=>exact ih
theorem lP{x:α}(nd:(xs.map k).Nodup)(hx:x∈xs):aT (td k v xs) (.inr (k x))=some (v x):=by
 rw[Dw];have:xs.find? (λz=>k z == k x)=some x:=by
  induction xs with
  |nil=>cases hx
  |cons z zs ih=>
   rw[bQ,qo] at nd;rw[uT];rcases y04.mp hx with e|m
   .rw[<-e,eL]
   .rw[show(k z == k x)=false by rw[nQ];exact λe=>nd.1 (by rw[e];exact j_ m)]
    exact ih nd.2 m
 simp_all
theorem e5w(b:Str)(xs:List α):(b∉xs.map k/\aT (td k v xs) (.inr b)=none)\/∃x∈xs,k x=b/\aT (td k v xs) (.inr b)=some (v x):=by
 rw[Dw];cases e:xs.find? (λx=>k x == b) with
 |none=>
  refine .inl ⟨λm=>?_,rfl⟩
  obtain⟨x,hx,ex⟩:=dZ.mp m;have:=FD.mp e x hx;rw[ex,eL] at this;exact this rfl
 |some x=>exact .inr ⟨x,IQ e,by have:=NN e;exact beq_iff_eq.mp this,rfl⟩
theorem Dx(h:b∉xs.map k):bU (td k v xs) (.inr b) y=td k v xs++[(.inr b,y)]:=by
 induction xs with
 |nil=>rfl
 |cons x xs ih=>
  rw[bQ,y04,not_or] at h;unfold td at *;rw[bQ,Gz,aM (λe=>h.1 (TK.inr.inj e).symm),ih h.2]
  rfl
theorem Dy(nd:(xs.map k).Nodup)(h:b∈xs.map k):bU (td k v xs) (.inr b) y=td k (λx=>if k x=b then y else v x) xs:=by
 induction xs with
 |nil=>cases h
 |cons x xs ih=>
  rw[bQ,qo] at nd;unfold td at *;rw[bQ,bQ,Gz];dsimp only;by_cases e:k x=b
  .rw[aX (by rw[e]),aX e]
   congr 1
   refine pH λz m=>?_
   rw[aM λe2=>nd.1 (by rw[e,<-e2];exact j_ m)]
  .rw[aM (λe2=>e (TK.inr.inj e2)),aM e,ih nd.2]
   rcases y04.mp h with z|z
   .exact b_ z.symm e
   .exact z
theorem Dp:dy (td k v xs) b=td k v (xs.filter λx=>decide (k x≠b)):=by
 unfold dy td;rw[List.filter_map]
 congr 1
 refine List.filter_congr λx _=>?_
 unfold gM;dsimp only[Function.comp];exact decide_eq_decide.mpr (not_congr ⟨λz=>TK.inr.inj z,λz=>congrArg TK.inr z⟩)
theorem Q5:(td k v xs).map (·.1.d)=dS (xs.map k):=by
 unfold td dS;rw[fJ,fJ];refine pH λx _=>?_
 simp[TK.d]
theorem zT:gu (td k v xs)=true:=by
 unfold td gu;rw[FJ];exact pR.mpr λx _=>rfl
end
section
variable{hd:D}{r nw v:Int}{n:Nat}
theorem oh:List.lookup ("built":Str) (hF hd r nw n)=some (hd):=by kernel_rfl
theorem Uw:List.lookup ("told_rounds":Str) (hF hd r nw n)=some (.int r):=by kernel_rfl
theorem KO:List.lookup ("now":Str) (hF hd r nw n)=some (.int nw):=by kernel_rfl
theorem tM:List.lookup ("book":Str) (hF hd r nw n)=some (.ref (n+1)):=by kernel_rfl
theorem Dd:List.lookup ("halts":Str) (hF hd r nw n)=some (.ref (n+2)):=by kernel_rfl
theorem lA:List.lookup ("places":Str) (hF hd r nw n)=some (.ref (n+3)):=by kernel_rfl
theorem rF:List.lookup ("readings":Str) (hF hd r nw n)=some (.ref (n+4)):=by kernel_rfl
theorem CV:List.lookup ("rounded":Str) (hF hd r nw n)=some (.ref (n+5)):=by kernel_rfl
theorem Q6:List.lookup ("gone":Str) (hF hd r nw n)=some (.ref (n+6)):=by kernel_rfl
theorem vQ:List.lookup ("carted":Str) (hF hd r nw n)=some (.ref (n+7)):=by kernel_rfl
theorem e5x:fU "now" (.int v) (hF hd r nw n)=hF hd r v n:=by kernel_rfl
end
variable{hd:D}
section
variable{hd:D}{r nw:Int}{n:Nat}
theorem Pj:Cell.kh cHall ("flight":Str) (.ins cHall (hF hd r nw n))=true:=by kernel_rfl
theorem Pk:Cell.kh cHall ("change":Str) (.ins cHall (hF hd r nw n))=true:=by kernel_rfl
theorem Ov:Cell.kh cHall ("call_off":Str) (.ins cHall (hF hd r nw n))=true:=by kernel_rfl
theorem Q7:Cell.kh cHall ("read":Str) (.ins cHall (hF hd r nw n))=true:=by kernel_rfl
theorem Q8:Cell.kh cHall ("stop":Str) (.ins cHall (hF hd r nw n))=true:=by kernel_rfl
theorem Kc:Cell.kh cHall ("start":Str) (.ins cHall (hF hd r nw n))=true:=by kernel_rfl
theorem Sk:Cell.kh cHall ("put":Str) (.ins cHall (hF hd r nw n))=true:=by kernel_rfl
theorem tF:Cell.kh cHall ("check_flight":Str) (.ins cHall (hF hd r nw n))=true:=by kernel_rfl
theorem tG:Cell.kh cHall ("check_belt":Str) (.ins cHall (hF hd r nw n))=true:=by kernel_rfl
theorem Bq:Cell.kh cHall ("check_inside":Str) (.ins cHall (hF hd r nw n))=true:=by kernel_rfl
theorem YQ:Cell.kh cHall ("house":Str) (.ins cHall (hF hd r nw n))=true:=by kernel_rfl
theorem JY:Cell.kh cHall ("rounds":Str) (.ins cHall (hF hd r nw n))=true:=by kernel_rfl
theorem OL:Cell.kh cHall ("stopped":Str) (.ins cHall (hF hd r nw n))=true:=by kernel_rfl
theorem u_:Cell.kh cHall ("bags":Str) (.ins cHall (hF hd r nw n))=true:=by kernel_rfl
theorem e5y:Cell.kh cHall ("out":Str) (.ins cHall (hF hd r nw n))=true:=by kernel_rfl
theorem d9i:Cell.kh cHall ("late":Str) (.ins cHall (hF hd r nw n))=true:=by kernel_rfl
theorem JL:Cell.kh cHall ("cart_of":Str) (.ins cHall (hF hd r nw n))=true:=by kernel_rfl
theorem JM:Cell.kh cHall ("catches":Str) (.ins cHall (hF hd r nw n))=true:=by kernel_rfl
theorem Ow:Cell.kh cHall ("in_order":Str) (.ins cHall (hF hd r nw n))=true:=by kernel_rfl
theorem d9j:Cell.kh cHall ("move":Str) (.ins cHall (hF hd r nw n))=true:=by kernel_rfl
theorem VH:Cell.kh cHall ("move_on":Str) (.ins cHall (hF hd r nw n))=true:=by kernel_rfl
theorem U9:Cell.kh cHall ("move_out":Str) (.ins cHall (hF hd r nw n))=true:=by kernel_rfl
end
structure Row where
 bag:Str
 b:Str
 i:Int
 fl:ak Str
 gn:Int
instance:Inhabited Row:=⟨"","",0,none,0⟩
structure Hl where
 now:Int
 book:List (Str×Str×Int)
 halts:List Str
 rows:List Row
 gone:List (Str×Str×Int)
def aL:ak Str->D
 |none=>.aI
 |some x=>.str x
abbrev pl(b:Str)(i:Int):D:=.tup [.str b,.int i]
def t3(p:Str×Str×Int):D:=.tup [.str p.1,.str p.2.1,.int p.2.2]
def mf(l:List (Str×Str×Int)):List (TK×D):=td (·.1) t3 l
def gP(l:List Row):List (TK×D):=td Row.bag (λr=>pl r.b r.i) l
def ik(l:List Row):List (TK×D):=td Row.bag (λr=>aL r.fl) l
def lF(l:List Row):List (TK×D):=td Row.bag (λr=>.int r.gn) l
def z_(l:List (Str×Str×Int)):List (TK×D):=td (·.1) (λp=>.str p.2.1) l
def vj(l:List (Str×Str×Int)):List D:=l.map t3
abbrev hR(hd:D)(r:Int)(x:Hl):List Cell:=[.ins cHall (hF hd r x.now 0),.o (.aB (mf x.book)),.o (.aB (nV x.halts)),.o (.aB (gP x.rows)),.o (.aB (ik x.rows)),.o (.aB (lF x.rows)),.o (.lst (vj x.gone)),.o (.aB (z_ x.gone))]
noncomputable abbrev hS(hd:D)(r:Int)(x:Hl)(s:List Cell):aO:=⟨s,hR hd r x⟩
section
variable{s:List Cell}{h:aA}{r:Int}{x:Hl}{q:Nat}{b:Str}
theorem YR(g:ax h):Gv q [.d (.ref 0)] (hS (aE h) r x s)=some (.ok (rd (aE h)) (hS (aE h) r x s)):=by
 have e2:=Qf g;unfold Gv Pd;generalize aE h=hd at *;simp only[↓ev,hR,nR,oh,e2,cq]
theorem JZ:CS q [.d (.ref 0)] (hS hd r x s)=some (.ok (rd (.int r)) (hS hd r x s)):=by
 unfold CS OG;simp only[↓ev,hR,N1,Uw,cq]
theorem KP:vV q [.d (.ref 0)] (hS hd r x s)=some (.ok (.o (.lst (vj x.gone))) (hS hd r x s)):=by
 unfold vV QY;simp only[↓ev,hR,Ku,Q6,aP,cq]
theorem BD(g:ax h){v:Bool}(hb:(h.ae.map ao.name).contains b=v):Br q [.d (.ref 0),.d (.str b)] (hS (aE h) r x s)=some (if v=true then .ok (rd .aI) (hS (aE h) r x s) else .ex 116 none (hS (aE h) r x s)):=by
 have bl:=g.sm.bl;have hn:=zJ h.ae (by lia)
 unfold Br N0 aE;cases v with
 |true=>simp only[↓ev,hR,nR,oh,cy,hn,kE,ke,hb,lG,aK,cq]
 |false=>simp only[↓ev,hR,nR,oh,cy,hn,kE,ke,hb,mV,cq,aK]
theorem BY{α:Type}{k:α->Str}{v:α->D}{xs:List α}{b:Str}:(aT (td k v xs) (.inr b)).isSome=(xs.map k).contains b:=by
 rcases e5w (k:=k) (v:=v) b xs with⟨h,e⟩|⟨x,m,ek,e⟩
 .rw[e,show(xs.map k).contains b=false by rw[y8];exact λz=>h (jv.mp z)];rfl
 .rw[e,show(xs.map k).contains b=true from jv.mpr (by rw[<-ek];exact j_ m)];rfl
theorem YS(q:Nat)(ns:List Str)(hl:ns.length<=1000):bC (af 0) (Jq q) (Jr q) (dS ns) [none,some (.d (.ref 0))] (hS hd r x s) []=some (.ok (dS (ns.filter λn=>x.halts.contains n)) (hS hd r x s)):=by
 rw[dS,x_ (λo=>if x.halts.contains o=true then some (.str o) else none) ns (by lia) λo m=>by
  have v:=xZ o x.halts;unfold Jq Jr;cases hc:x.halts.contains o with
  |true=>
   rw[hc] at v;exact .inr ⟨rd (.str o),.str o,rfl,by simp only[↓ev,hR,BG,Dd,aP,aK,v],by simp only[↓ev],rfl⟩
  |false=>
   rw[hc] at v;exact .inl ⟨rfl,by simp only[↓ev,hR,BG,Dd,aP,aK,v]⟩]
 congr 2
 induction ns with
 |nil=>rfl
 |cons o ns ih=>
  have ih:=ih (by rw[ju] at hl;lia)
  cases hc:x.halts.contains o with
  |true=>rw[NI (b:=D.str o) (by rw[hc];rfl),ih,List.filter_cons_of_pos hc];rfl
  |false=>rw[NH (by rw[hc];rfl),ih,List.filter_cons_of_neg (by rw[hc];exact pF)]
noncomputable def bu(h:aA)(x:Hl):List Str:=(h.ae.map ao.name).filter λn=>x.halts.contains n
theorem Pl(g:ax h):CN q [.d (.ref 0)] (hS (aE h) r x s)=some (.ok (.o (.lst (dS (bu h x)))) (hS (aE h) r x s)):=by
 have bl:=g.sm.bl;have hn:=zJ h.ae (by lia)
 have e:=λq=>YS (s:=s) (r:=r) (x:=x) (hd:=aE h) q (h.ae.map ao.name) (by rw[bh];lia)
 unfold CN Oo bu aE at *;simp only[↓ev,hR,nR,oh,cy,hn,e,cq]
end
variable{h:aA}{b:Str}{S:aO}
noncomputable def rk(h:aA)(b:Str):Int:=((findS (h.ae.map ao.name) b).getD 0:Nat)
theorem Qg:∀xs:List Str,fA (dS xs)=some xs
 |[]=>rfl
 |x::xs=>by
  have ih:=Qg xs;show(fA (D.str x::dS xs))=_;unfold fA;rw[ih];rfl
theorem e5z(hb:b∈h.ae.map ao.name):jm (.lst (dS (h.ae.map ao.name))) (.str b)=some (rd (.int (rk h b))):=by
 obtain⟨j,hj⟩:=Gy hb;show(fA (dS _)).bind _=_;unfold rk;rw[Qg,vE,hj];rfl
theorem e6a{c:Str}(hb:b∈h.ae.map ao.name)(hc:c∈h.ae.map ao.name)(e:rk h b=rk h c):b=c:=by
 obtain⟨j,hj⟩:=Gy hb;obtain⟨k,hk⟩:=Gy hc;unfold rk at e;rw[hj,hk] at e;have e:((j:Nat):Int)=(k:Nat):=e;have e:j=k:=by lia
 have h1:=(CQ hj).1;have h2:=(CQ hk).1;rw[e,h2] at h1;exact(Option.some.inj h1).symm
def oa(h:aA)(r:Row):Prop:=∃bt∈h.ae,bt.name=r.b/\0<=r.i/\r.i<bt.long/\0<=r.gn
theorem oa.nm{r:Row}(o:oa h r):r.b∈h.ae.map ao.name:=by
 obtain⟨bt,hb,e,_⟩:=o;rw[<-e];exact j_ hb
def pM(h:aA)(r:Row):D:=.tup [.int (rk h r.b),.int r.i,.str r.bag]
def nB(h:aA)(r:Row):Int×Int:=(rk h r.b,r.i)
def ord(h:aA)(rows:List Row):List Row:=if rows.length<2 then rows else(dc (rows.map (nB h))).map λj=>rows.getD j default
theorem Qh(h:aA):∀rows:List Row,jN (rows.map (pM h))=some (rows.map (nB h))
 |[]=>rfl
 |r::rows=>by
  have ih:=Qh h rows;show jN (D.tup [.int (rk h r.b),.int r.i,.str r.bag]::rows.map (pM h))=_;unfold jN;rw[ih];rfl
theorem Qi{rows:List Row}(nd:(rows.map (nB h)).Nodup):(ord h rows).Perm rows:=by
 unfold ord;split
 .rfl
 .rename_i hl
  obtain⟨p,_⟩:=GF nd (by rw[bh];lia)
  rw[bh] at p;refine(p.map _).trans ?_;have:(List.range rows.length).map (λj=>rows.getD j default)=rows:=by
   refine NC λi=>?_
   rw[gY];by_cases hi:i<rows.length
   .rw[Bc hi,i8 hi];simp[hi]
   .rw[Bf (by simp;lia),Bf (by lia)]
    rfl
  rw[this]
theorem e6b(rows:List Row):(List.range (gP rows).length).map (λi=>D.tup ((((gP rows)[i]?).map λp=>[p.1.d,p.2]).getD []))=rows.map λr=>.tup [.str r.bag,pl r.b r.i]:=by
 unfold gP;refine NC λi=>?_
 rw[oo,gY,gY];by_cases hi:i<rows.length
 .rw[Bc hi,i8 hi];unfold td;rw[FC,FC,gY,i8 hi];simp[TK.d]
 .rw[Bf (by simp;lia),Bf (by lia)]
  rfl
section
variable{s:List Cell}{h:aA}{r:Int}{x:Hl}{q:Nat}
theorem d9k(q:Nat)(rows:List Row)(hl:rows.length<=1000)(ho:∀w∈rows,oa h w):bC (bF [(af 0),(af 1)]) (iV true) (Jl q) (rows.map λw=>.tup [.str w.bag,pl w.b w.i]) [none,none,some (.d (.lst (dS (h.ae.map ao.name))))] S []=some (.ok (rows.map (pM h)) S):=by
 rw[Hu (λw=>some (pM h w)) (λU=>∃a b,U=[a,b,some (.d (.lst (dS (h.ae.map ao.name))))]) rows _ [] ⟨_,_,rfl⟩ (by rw[Co];lia) λw m U ⟨a,b,hU⟩=>⟨[some (.d (.str w.bag)),some (.d (pl w.b w.i)),some (.d (.lst (dS (h.ae.map ao.name))))],by rw[hU];rfl,⟨_,_,rfl⟩,.inr ⟨rd (pM h w),pM h w,rfl,rfl,by
   have hi:=e5z (ho w m).nm;unfold Jl pM;simp only[↓ev,cy,hi,cV,aP],rfl⟩⟩,List.filterMap_eq_map',y7]
theorem d9l(q:Nat)(l:List Row)(hl:l.length<=1000):bC (af 0) (iV true) (Jm q) (l.map (pM h)) [none] S []=some (.ok (dS (l.map Row.bag)) S):=by
 rw[vf (λw=>.str w.bag) l (by lia) λw m=>⟨rd (.str w.bag),by unfold Jm pM;simp only[↓ev,jj],rfl⟩]
 unfold dS;rw[fJ];rfl
theorem Q9(g:ax h)(nd:(x.rows.map (nB h)).Nodup)(hl:x.rows.length<64)(ho:∀w∈x.rows,oa h w):Bs q [.d (.ref 0)] (hS (aE h) r x s)=some (.ok (.o (.lst (dS ((ord h x.rows).map Row.bag)))) (hS (aE h) r x s)):=by
 have bl:=g.sm.bl;have hn:=zJ h.ae (by lia)
 have e1:=λq=>d9k (S:=hS (aE h) r x s) q x.rows (by lia) ho
 have e2:=e6b x.rows;have pl:=(Qi nd).length_eq;have e3:=λq=>d9l (h:=h) (S:=hS (aE h) r x s) q (ord h x.rows) (by lia)
 have e0:gu (gP x.rows)=true:=zT;by_cases lt:x.rows.length<2
 .have h1:((x.rows.map (pM h)).length<2)=True:=bJ (by rw[bh];exact lt)
  have h2:ord h x.rows=x.rows:=aX lt;rw[h2] at e3 ⊢;unfold Bs Ju aE at *;generalize(x.rows.map (pM h))=l1 at *;simp only[↓ev,hR,nR,oh,cy,hn,aP,kB,lA,e0,e2,e1,h1,e3,cq]
 .have h1:((x.rows.map (pM h)).length<2)=False:=eq_false (by rw[bh];exact lt)
  have h2:=Qh h x.rows;have h3:((x.rows.map (nB h)).Nodup/\(x.rows.map (nB h)).length<64)=True:=bJ ⟨nd,by rw[bh];exact hl⟩
  have h4:mR (x.rows.map (pM h)) (dc (x.rows.map (nB h)))=(ord h x.rows).map (pM h):=by
   unfold ord mR;rw[aM lt,fJ];refine pH λj m=>?_
   have p:=(GF nd (by rw[bh];lia)).1
   have hj:j<x.rows.length:=by
    have:=sF.mp (p.mem_iff.mp m)
    rwa[bh] at this
   simp[hj]
  unfold Bs Ju aE at *;generalize(x.rows.map (pM h))=l1 at *;generalize((ord h x.rows).map (pM h))=l2 at *;generalize(x.rows.map (nB h))=ks at *;simp only[↓ev,hR,nR,oh,cy,hn,aP,kB,lA,e0,e2,e1,h1,h2,h3,h4,e3,cq]
end
variable{hd:D}
structure Ok (h:aA) (n:Nat) (x:Hl):Prop where
 rw:∀w∈x.rows,oa h w/\rT w.bag/\∀f,w.fl=some f->f∈x.book.map (·.1)
 nd:(x.rows.map Row.bag++x.gone.map (·.1)).Nodup
 un:(x.rows.map λw=>(w.b,w.i)).Nodup
 bk:∀p∈x.book,p.2.1∈h.carts
 bn:(x.book.map (·.1)).Nodup
 rl:x.rows.length<=8
 sz:x.book.length+x.halts.length+x.rows.length+x.gone.length<=n
noncomputable def aU(w:Row):D:=.tup [.str w.bag,aL w.fl,pl w.b w.i,.int w.gn]
section
variable{s:List Cell}{h:aA}{r:Int}{x:Hl}{q n:Nat}{w:Row}
theorem Ok.nb(o:Ok h n x):(x.rows.map Row.bag).Nodup:=(jS.mp o.nd).1
theorem Ok.nk(o:Ok h n x):(x.rows.map (nB h)).Nodup:=by
 have e:=o.un;rw[List.Nodup,IL] at e ⊢;refine e.imp_of_mem λ{a b} ma mb ne z=>ne ?_
 have h1:=congrArg Prod.fst z;have h2:=congrArg Prod.snd z;rw[show a.b=b.b from e6a (o.rw a ma).1.nm (o.rw b mb).1.nm h1,show a.i=b.i from h2]
theorem Ok.perm(o:Ok h n x):(ord h x.rows).Perm x.rows:=Qi o.nk
theorem Ok.mem(o:Ok h n x):w∈ord h x.rows↔w∈x.rows:=o.perm.mem_iff
theorem WY(q:Nat)(nb:(x.rows.map Row.bag).Nodup)(l:List Row)(hl:l.length<=1000)(hm:∀w∈l,w∈x.rows):bC (af 0) (iV true) (JI q) (dS (l.map Row.bag)) [none,some (.d (.ref 0))] (hS hd r x s) []=some (.ok (l.map aU) (hS hd r x s)):=by
 rw[show dS (l.map Row.bag)=l.map λw=>.str w.bag by unfold dS;rw[fJ];rfl,vf aU l (by lia) λw m=>⟨rd (aU w),by
  have h1:aT (gP x.rows) (.inr w.bag)=_:=lP nb (hm w m);have h2:aT (ik x.rows) (.inr w.bag)=_:=lP nb (hm w m);have h3:aT (lF x.rows) (.inr w.bag)=_:=lP nb (hm w m);unfold JI aU;generalize aL w.fl=ff at *;simp only[↓ev,hR,qy,rF,aP,h2,kB,lA,h1,BA,CV,h3],rfl⟩]
theorem vb(g:ax h)(o:Ok h n x):qc q [.d (.ref 0)] (hS (aE h) r x s)=some (.ok (.o (.lst ((ord h x.rows).map aU))) (hS (aE h) r x s)):=by
 have rl:=o.rl;have e1:=λq=>Q9 (s:=s) (r:=r) (q:=q) g o.nk (by lia) λw m=>(o.rw w m).1
 have e2:=λq=>WY (s:=s) (r:=r) (hd:=aE h) q o.nb (ord h x.rows) (by rw[o.perm.length_eq];lia) λw m=>o.mem.mp m
 generalize aE h=hd at *;unfold qc P1;simp only[↓ev,hR,cU,Ow,e1,e2,cq]
theorem d9m(q:Nat)(hn:rT w.bag)(hw:w∈x.rows)(nb:(x.rows.map Row.bag).Nodup):zw q [.d (.ref 0),.d (.str w.bag)] (hS hd r x s)=some (.ok (rd .aI) (hS hd r x s)):=by
 have h1:aT (gP x.rows) (.inr w.bag)=_:=lP nb hw;unfold zw Jj;simp only[↓ev,hn,aK,hR,kB,lA,aP,h1,lG,cq]
end
noncomputable def pL(kn:List (Str×Int)):List (TK×D):=kn.map λp=>(.inr p.1,.int p.2)
noncomputable def atS(kn:List (Str×Int))(n:Str):ak Int:=(kn.find? λp=>p.1 == n).map (·.2)
theorem Q_(x:Str):atS [] x=none:=rfl
theorem zD(k:Str)(v:Int)(kn:List (Str×Int))(x:Str):atS ((k,v)::kn) x=if k=x then some v else atS kn x:=by
 unfold atS;rw[uT];by_cases e:k=x
 .rw[aX e,show(k == x)=true by rw[e,eL]];rfl
 .rw[aM e,show(k == x)=false by rw[nQ];exact e]
theorem GV(k:Str)(v:Int)(x:Str):∀kn:List (Str×Int),atS (kn++[(k,v)]) x=(atS kn x).or (if k=x then some v else none)
 |[]=>by rw[y7,zD,Q_,Option.none_or]
 |(k',v')::kn=>by
  rw[List.cons_append,zD,zD,GV k v x kn];split
  .rfl
  .rfl
theorem Dq(x:Str):∀kn:List (Str×Int),aT (pL kn) (.inr x)=(atS kn x).map .int
 |[]=>rfl
 |(k,v)::kn=>by
  have ih:=Dq x kn;rw[zD];unfold aT pL at *;rw[bQ,uT];dsimp only;rw[Q4];by_cases e:k=x
  .rw[aX e,show(k == x)=true by rw[e,eL]];rfl
  .rw[aM e,show(k == x)=false by rw[nQ];exact e];exact ih
theorem pg0{a:TK}{y:D}:bU [] a y=[(a,y)]:=rfl
theorem Ra:∀(kn:List (Str×Int)) (k:Str) (v:Int),atS kn k=none->bU (pL kn) (.inr k) (.int v)=pL (kn++[(k,v)])
 |[],_,_,_=>rfl
 |(k',v')::kn,k,v,h=>by
  rw[zD] at h;have e:¬k'=k:=λz=>by rw[aX z] at h;cases h
  rw[aM e] at h;show bU ((TK.inr k',D.int v')::pL kn) (.inr k) (.int v)=(TK.inr k',D.int v')::pL (kn++[(k,v)]);rw[<-Ra kn k v h,Gz,aM (λz=>e (TK.inr.inj z))]
def dw(kn:List (Str×Int))(outs:List Str):List Int:=outs.filterMap (atS kn)
def bq(aQ:Str):List ao->List (Str×Int)
 |[]=>[(aQ,0)]
 |b::bs=>if dw (bq aQ bs) b.outs=[] then bq aQ bs else bq aQ bs++[(b.name,b.long+ic (dw (bq aQ bs) b.outs))]
theorem Qj(aQ:Str):∀bs:List ao,(bq aQ bs).length<=bs.length+1
 |[]=>bM _
 |b::bs=>by
  have:=Qj aQ bs;unfold bq;split
  .rw[ju];lia
  .rw[du,vB,ju];lia
theorem Kd{aQ:Str}:∀{bs:List ao} {n:Str},n≠aQ->n∉bs.map ao.name->atS (bq aQ bs) n=none
 |[],n,h1,_=>by
  show atS [(aQ,0)] n=none;rw[zD,aM (λz=>h1 z.symm),Q_]
 |b::bs,n,h1,h2=>by
  rw[bQ] at h2;have h3:n≠b.name:=λz=>h2 (by rw[z];exact .head _)
  have ih:=Kd (aQ:=aQ) (bs:=bs) h1 λz=>h2 (.tail _ z)
  unfold bq;split
  .exact ih
  .rw[GV,ih,aM (λz=>h3 z.symm)];rfl
theorem d9n(kn:List (Str×Int)):∀outs:List Str,(outs.filterMap λo=>(atS kn o).map D.int)=(dw kn outs).map D.int
 |[]=>rfl
 |o::outs=>by
  grind [dw]
abbrev nE(S:aO)(kn:List (Str×Int)):aO:=⟨S.s++[.o (.aB (pL kn))],S.r⟩
section
variable{S:aO}{kn:List (Str×Int)}{outs:List Str}{g0 g1 a7:ak Val}{x:ao}
theorem Qk(q:Nat)(h:outs.length<=1000):bC (af 0) (JF q) (JG q) (dS outs) [none,some (.c S.s.length)] (nE S kn) []=some (.ok ((dw kn outs).map D.int) (nE S kn)):=by
 rw[dS,x_ (λo=>(atS kn o).map D.int) outs (by lia) λo m=>by
  have v:=Dq o kn;unfold JF JG;cases hc:atS kn o with
  |some w=>
   rw[hc] at v;exact .inr ⟨rd (.int w),.int w,rfl,by simp only[↓ev,eS,aK,v,y9],by simp only[↓ev,eS,v],rfl⟩
  |none=>
   rw[hc] at v;exact .inl ⟨rfl,by simp only[↓ev,eS,aK,v,Be]⟩,d9n]
theorem e6c(ho:x.outs.length<=1000)(hb:dw kn x.outs=[]):Bz 0 [g0,g1,some (.c S.s.length),some (.d (.str x.name)),some (.d (.int x.long)),some (.d (.bl x.ring)),some (.d (.lst (dS x.outs))),a7] (nE S kn)=some (.nx [g0,g1,some (.c S.s.length),some (.d (.str x.name)),some (.d (.int x.long)),some (.d (.bl x.ring)),some (.d (.lst (dS x.outs))),some (.d (.lst []))] (nE S kn)):=by
 have e:=λq=>Qk (S:=S) (kn:=kn) q ho
 rw[hb] at e;unfold Bz;simp only[↓ev,e,aP,aK]
theorem d9o(ho:x.outs.length<=1000){i:Int}{is:List Int}(hb:dw kn x.outs=i::is)(hn:atS kn x.name=none)(hl:((pL kn).length<1000000)=True):Bz 0 [g0,g1,some (.c S.s.length),some (.d (.str x.name)),some (.d (.int x.long)),some (.d (.bl x.ring)),some (.d (.lst (dS x.outs))),a7] (nE S kn)=some (.nx [g0,g1,some (.c S.s.length),some (.d (.str x.name)),some (.d (.int x.long)),some (.d (.bl x.ring)),some (.d (.lst (dS x.outs))),some (.d (.lst ((i::is).map D.int)))] (nE S (kn++[(x.name,x.long+ic (i::is))]))):=by
 have e:=λq=>Qk (S:=S) (kn:=kn) q ho
 rw[hb] at e;have p:=Ra kn x.name (x.long+ic (i::is)) hn;have z:((i::is).map D.int).isEmpty=false:=rfl;have m:=JS (i::is);have ne:((i::is)=[])=False:=eq_false (NJ _ _);generalize(i::is).map D.int=l at *;unfold Bz;simp only[↓ev,e,aP,z,mV,m,ne,eS,hl,p,km]
theorem Ql{h:aA}(g:ax h){aQ:Str}(hc:aQ∈h.carts):P0 C5 [.d (aE h),.d (.str aQ)] (.o (.aB (pL (bq aQ h.ae)))):=by
 intro S;have bl:=g.sm.bl;have ou:=g.sm.ou;have f:=g.fwd;obtain⟨U',S',e,a3,a4,a5,a6,a7,rfl,rfl⟩:=lB (gg:=bF [(af 3),(af 4),(af 5),(af 6)]) (body:=Bz 0) (f:=aq) (U:=[some (.d (aE h)),some (.d (.str aQ)),some (.c S.s.length),none,none,none,none,none]) (S:=nE S (bq aQ [])) (λpre U S'=>∃a3 a4 a5 a6 a7,U=[some (.d (aE h)),some (.d (.str aQ)),some (.c S.s.length),a3,a4,a5,a6,a7]/\S'=nE S (bq aQ pre.reverse)) h.ae.reverse ⟨_,_,_,_,_,rfl,rfl⟩ (by
  rintro q x post eq U S' ⟨a3,a4,a5,a6,a7,rfl,rfl⟩;have eb:h.ae=post.reverse++x::q.reverse:=by
   simp_all
  have fx:l6 h.carts (x::q.reverse):=CU (by rw[<-eb];exact f)
  have ho:x.outs.length<=1000:=by
   grind
  have hn:atS (bq aQ q.reverse) x.name=none:=Kd (λz=>fx.2.2.1 (z ▸ hc)) fx.2.1
  have hl:(bq aQ q.reverse).length<=1000:=by
   grind [Qj]
  rw[List.reverse_append,List.reverse_singleton,List.singleton_append];have ebg:bq aQ (x::q.reverse)=if dw (bq aQ q.reverse) x.outs=[] then bq aQ q.reverse else bq aQ q.reverse++[(x.name,x.long+ic (dw (bq aQ q.reverse) x.outs))]:=by
   rfl
  rw[ebg];generalize bq aQ q.reverse=kn at *;cases hb:dw kn x.outs with
  |nil=>exact⟨_,_,_,rfl,.inl (e6c ho hb),_,_,_,_,_,rfl,by rw[aX rfl]⟩
  |cons i is=>exact⟨_,_,_,rfl,.inl (d9o ho hb hn (bJ (by unfold pL;rw[bh];lia))),_,_,_,_,_,rfl,by rw[aM (NJ _ _)]⟩)
 rw[List.reverse_reverse,List.map_reverse,show nE S (bq aQ [])=⟨S.s++[.o (.aB [(.inr aQ,.int 0)])],S.r⟩ from rfl] at e;have hD:aE h=.tup [.lst (h.ae.map aq),.lst (dS h.carts)]:=rfl;have tl:∀c:Cell,(S.s++[c]).take S.s.length=S.s:=λc=>List.take_left
 rw[hD] at e ⊢;unfold C5 PV;simp only[↓ev,Ez,eS,aP,IJ,pg0,List.foldl_nil,tl,cy,i9,e,AE,vg]
end
variable{kn:List (Str×Int)}{outs:List Str}{best:ak Str}
theorem Df{carts:List Str}:∀{bs:List ao},l6 carts bs->∀b∈bs,∀o∈b.outs,o∈bs.map ao.name\/o∈carts
 |x::bs,f,b,hb,o,ho=>by
  rcases y04.mp hb with rfl|hb
  .rcases f.1 o ho with z|z
   .exact .inl (.tail _ z)
   .exact .inr z
  .rcases Df f.2.2.2 b hb o ho with z|z
   .exact .inl (.tail _ z)
   .exact .inr z
theorem Gk{aQ:Str}{x:ao}{bs:List ao}{n:Str}(h:n≠x.name):atS (bq aQ (x::bs)) n=atS (bq aQ bs) n:=by
 conv=>lhs;unfold bq
 split
 .rfl
 .rw[GV,aM (λz=>h z.symm),Option.or_none]
theorem OM{kn':List (Str×Int)}(h:∀o∈outs,atS kn o=atS kn' o):dw kn outs=dw kn' outs:=by
 unfold dw
 induction outs with
 |nil=>rfl
 |cons o outs ih=>
  have:=ih λz hz=>h z (.tail _ hz)
  rw[pP,pP,h o (.head _),this]
theorem Kv{carts:List Str}{aQ:Str}(hc:aQ∈carts):∀{bs:List ao},l6 carts bs->∀b∈bs,atS (bq aQ bs) b.name=if dw (bq aQ bs) b.outs=[] then none else some (b.long+ic (dw (bq aQ bs) b.outs))
 |x::bs,f,b,hb=>by
  rcases y04.mp hb with rfl|hb
  .have ho:∀o∈b.outs,o≠b.name:=λo ho z=>by
    rcases f.1 o ho with y|y
    .exact f.2.1 (by rw[<-z];exact y)
    .exact f.2.2.1 (by rw[<-z];exact y)
   have e:=OM (kn:=bq aQ (b::bs)) (kn':=bq aQ bs) (outs:=b.outs) λo m=>Gk (ho o m)
   rw[e]
   conv=>lhs;unfold bq
   have hn:atS (bq aQ bs) b.name=none:=Kd (λz=>f.2.2.1 (by rw[z];exact hc)) f.2.1
   split
   .exact hn
   .rw[GV,hn,aX rfl];rfl
  .have hn:b.name≠x.name:=λz=>f.2.1 (by rw[<-z];exact j_ (f:=ao.name) hb)
   have ho:∀o∈b.outs,o≠x.name:=λo ho z=>by
    rcases Df f.2.2.2 b hb o ho with y|y
    .exact f.2.1 (by rw[<-z];exact y)
    .exact f.2.2.1 (by rw[<-z];exact y)
   have e:=OM (kn:=bq aQ (x::bs)) (kn':=bq aQ bs) (outs:=b.outs) λo m=>Gk (ho o m)
   rw[e,Gk hn];exact Kv hc f.2.2.2 b hb
theorem Rb{carts:List Str}{aQ:Str}(hc:aQ∈carts):∀{bs:List ao},l6 carts bs->atS (bq aQ bs) aQ=some 0
 |[],_=>by show atS [(aQ,0)] aQ=some 0;rw[zD,aX rfl]
 |x::bs,f=>by rw[Gk (λz=>f.2.2.1 (by rw[<-z];exact hc))];exact Rb hc f.2.2.2
def Aj(h:aA)(aQ n:Str)(c:Int):D:=match atS (bq aQ h.ae) n with
 |none=>.aI
 |some v=>.int (v - c)
def oi(kn:List (Str×Int))(best:ak Str)(o:Str):ak Str:=match atS kn o with
 |none=>best
 |some v=>match best with
  |none=>some o
  |some p=>if v<(atS kn p).getD 0 then some o else best
def gd(kn:List (Str×Int))(outs:List Str):ak Str:=outs.foldl (oi kn) none
def zU(kn:List (Str×Int))(best:ak Str):Prop:=∀p,best=some p->∃v,atS kn p=some v
theorem ON(h:zU kn best)(o:Str):zU kn (oi kn best o):=by
 intro p e;unfold oi at e;cases q:atS kn o with
 |none=>rw[q] at e;exact h p e
 |some v=>
  rw[q] at e;dsimp only at e;cases best with
  |none=>cases e;exact⟨v,q⟩
  |some p'=>
   dsimp only at e;split at e
   .cases e;exact⟨v,q⟩
   .exact h p e
theorem Rc{kn:List (Str×Int)}:∀{outs:List Str} {best:ak Str},zU kn best->zU kn (outs.foldl (oi kn) best)
 |[],_,h=>h
 |o::outs,best,h=>Rc (outs:=outs) (ON h o)
theorem Ke{kn:List (Str×Int)}:∀{outs:List Str} {best:ak Str},zU kn best->
  (outs.foldl (oi kn) best=none↔best=none/\dw kn outs=[])/\
  ∀a,outs.foldl (oi kn) best=some a->(best=some a\/a∈outs)/\∃v,atS kn a=some v/\(∀o∈outs,∀w,atS kn o=some w->v<=w)/\∀p w,best=some p->atS kn p=some w->v<=w
 |[],best,h=>by
  refine⟨⟨λe=>⟨e,rfl⟩,λe=>e.1⟩,λa e=>?_⟩
  obtain⟨v,hv⟩:=h a e;refine⟨.inl e,v,hv,λo m=>(by cases m),λp w e1 e2=>?_⟩
  have e:best=some a:=e;rw[e] at e1;cases e1;rw[hv] at e2;cases e2;exact Bg _
 |o::outs,best,h=>by
  obtain⟨i1,i2⟩:=Ke (outs:=outs) (ON h o);rw[IJ];constructor
  .rw[i1];unfold oi dw;cases q:atS kn o with
   |none=>rw[NH q]
   |some v=>
    rw[NI q];constructor
    .rintro⟨e,_⟩;exfalso;cases best with
     |none=>cases e
     |some p=>dsimp only at e;split at e <;> cases e
    .rintro⟨_,e⟩;cases e
  .intro a e;obtain⟨j1,v,j2,j3,j4⟩:=i2 a e;cases q:atS kn o with
   |none=>
    have es:oi kn best o=best:=by unfold oi;rw[q]
    rw[es] at j1 j4;refine⟨?_,v,j2,λo' m w e'=>?_,j4⟩
    .rcases j1 with z|z
     .exact .inl z
     .exact .inr (.tail _ z)
    .rcases y04.mp m with rfl|m
     .rw[q] at e';cases e'
     .exact j3 o' m w e'
   |some u=>
    cases best with
    |none=>
     have es:oi kn none o=some o:=by unfold oi;rw[q]
     rw[es] at j1 j4;refine⟨.inr ?_,v,j2,λo' m w e'=>?_,λp w e'=>(by cases e')⟩
     .rcases j1 with z|z
      .cases z;exact .head _
      .exact .tail _ z
     .rcases y04.mp m with rfl|m
      .rw[q] at e';cases e';exact j4 o' u rfl q
      .exact j3 o' m w e'
    |some p=>
     obtain⟨pv,hp⟩:=h p rfl;by_cases jl:u<pv
     .have es:oi kn (some p) o=some o:=by unfold oi;rw[q];dsimp only;rw[hp,IS,aX jl]
      rw[es] at j1 j4;refine⟨.inr ?_,v,j2,λo' m w e'=>?_,λp' w e1 e2=>?_⟩
      .rcases j1 with z|z
       .cases z;exact .head _
       .exact .tail _ z
      .rcases y04.mp m with rfl|m
       .rw[q] at e';cases e';exact j4 o' u rfl q
       .exact j3 o' m w e'
      .cases e1;rw[hp] at e2;cases e2;have:=j4 o u rfl q;lia
     .have es:oi kn (some p) o=some p:=by unfold oi;rw[q];dsimp only;rw[hp,IS,aM jl]
      rw[es] at j1 j4;refine⟨?_,v,j2,λo' m w e'=>?_,j4⟩
      .rcases j1 with z|z
       .exact .inl z
       .exact .inr (.tail _ z)
      .rcases y04.mp m with rfl|m
       .rw[q] at e';cases e';have:=j4 p pv rfl hp;lia
       .exact j3 o' m w e'
theorem lj{v:Int}:v∈dw kn outs↔∃o∈outs,atS kn o=some v:=pG
theorem l_:gd kn outs=none↔dw kn outs=[]:=by
 have:=(Ke (kn:=kn) (outs:=outs) (best:=none) (λp e=>by cases e)).1
 unfold gd;rw[this];exact⟨λz=>z.2,λz=>⟨rfl,z⟩⟩
theorem WZ{a:Str}(e:gd kn outs=some a):a∈outs/\atS kn a=some (ic (dw kn outs)):=by
 obtain⟨j1,v,j2,j3,_⟩:=(Ke (kn:=kn) (outs:=outs) (best:=none) (λp e=>by cases e)).2 a e
 have ha:a∈outs:=by
  rcases j1 with z|z
  .cases z
  .exact z
 have fG:dw kn outs≠[]:=λz=>by rw[l_.mpr z] at e;cases e
 obtain⟨m1,m2⟩:=O5 fG;obtain⟨o,ho,eo⟩:=lj.mp m1;have c1:=j3 o ho _ eo;have c2:=m2 v (lj.mpr ⟨a,ha,j2⟩);exact⟨ha,by rw[j2,show v=ic (dw kn outs) by lia]⟩
section
variable{h:aA}{aQ n:Str}{c:Int}
theorem e8x(g:ax h)(hc:aQ∈h.carts):P0 HA [.d (aE h),.d (.tup [.str n,.int c]),.d (.str aQ)] (rd (Aj h aQ n c)):=by
 intro S;have e:=Ql g hc;have v:=Dq n (bq aQ h.ae);unfold HA SE Aj;generalize aE h=hd at *;cases hk:atS (bq aQ h.ae) n with
 |none=>
  rw[hk] at v;simp only[↓ev,e,aP,cy,v,Be,mV,fZ]
 |some w=>
  rw[hk] at v;simp only[↓ev,e,aP,cy,v,y9,lG,aK,cV,fZ]
theorem YT{S:aO}(ok:zU kn best)(o:Str){g0 g1 g2:ak Val}:Dk 0 [g0,g1,g2,some (.d (.aB (pL kn))),some (.d (aL best)),some (.d (.str o))] S=some (.nx [g0,g1,g2,some (.d (.aB (pL kn))),some (.d (aL (oi kn best o))),some (.d (.str o))] S):=by
 have v:=Dq o kn;unfold Dk oi;cases hk:atS kn o with
 |none=>
  rw[hk] at v;simp only[↓ev,aK,v,Be]
 |some w=>
  rw[hk] at v;cases best with
  |none=>
   unfold aL;simp only[↓ev,aK,v,y9,aP]
  |some p=>
   obtain⟨u,hu⟩:=ok p rfl;have v2:=Dq p kn;rw[hu] at v2;unfold aL;by_cases hl:w<u
   .have ny:=bJ hl;simp only[↓ev,aK,v,y9,v2,ny,decide_true,aP,hu]
   .have ny:=eq_false hl;simp only[↓ev,aK,v,y9,v2,ny,decide_false,hu]
end
section
variable{h:aA}{aQ n:Str}{c:Int}
theorem YU{S:aO}{kn:List (Str×Int)}{outs:List Str}{g0 g1 g2 a:ak Val}:∃a',aH (af 5) (Dk 0) (dS outs) [g0,g1,g2,some (.d (.aB (pL kn))),some (.d .aI),a] S=some (.nx [g0,g1,g2,some (.d (.aB (pL kn))),some (.d (aL (gd kn outs))),a'] S):=by
 obtain⟨U',S',e,a',rfl,rfl⟩:=lB (gg:=af 5) (body:=Dk 0) (f:=D.str) (U:=[g0,g1,g2,some (.d (.aB (pL kn))),some (.d .aI),a]) (S:=S) (λpre U S'=>∃a',U=[g0,g1,g2,some (.d (.aB (pL kn))),some (.d (aL (gd kn pre))),a']/\S'=S) outs ⟨a,rfl,rfl⟩ (by
  rintro d x r eq U S' ⟨a',rfl,rfl⟩;have ok:zU kn (gd kn d):=Rc λp z=>by cases z
  refine⟨_,_,_,rfl,.inl (YT ok x),some (.d (.str x)),?_,rfl⟩;unfold gd;rw[NF];rfl)
 exact⟨a',e⟩
theorem HE(g:ax h){b:ao}(hb:b∈h.ae)(hc:aQ∈h.carts):P0 HC [.d (aE h),.d (.str b.name),.d (.str aQ)] (rd (aL (gd (bq aQ h.ae) b.outs))):=by
 intro S;have e1:=Ql g hc;have e2:=BF g hb;obtain⟨a',e⟩:=YU (S:=S) (kn:=bq aQ h.ae) (outs:=b.outs) (g0:=some (.d (aE h))) (g1:=some (.d (.str b.name))) (g2:=some (.d (.str aQ))) (a:=none);have hD:aq b=.tup [.str b.name,.int b.long,.bl b.ring,.lst (dS b.outs)]:=rfl;rw[hD] at e2;unfold HC SF;generalize aE h=hd at *;simp only[↓ev,e1,aP,e2,v3,i9,e,fZ]
end
noncomputable abbrev iW(h:aA):Str:=h.carts.getD 0 ""
def tR(h:aA)(ct:Str)(nw cl:Int)(b:Str)(i:Int):Bool:=match atS (bq ct h.ae) b with
 |none=>false
 |some v=>decide (nw+(v - i)<=cl)
noncomputable def t9(x:Hl)(w:Row):ak (Str×Int):=w.fl.bind λf=>(x.book.find? λp=>p.1 == f).map (·.2)
def z8(h:aA)(x:Hl)(w:Row):Bool:=match t9 x w with
 |none=>false
 |some (ct,cl)=>tR h ct x.now cl w.b w.i
def fO(h:aA)(x:Hl)(w:Row):Str:=match t9 x w with
 |none=>iW h
 |some (ct,cl)=>if tR h ct x.now cl w.b w.i=true then ct else iW h
section
variable{s:List Cell}{h:aA}{r:Int}{x:Hl}{n:Nat}{w:Row}
theorem J0(o:Ok h n x)(hw:w∈x.rows):(w.fl=none/\t9 x w=none)\/∃f ct cl,w.fl=some f/\t9 x w=some (ct,cl)/\ct∈h.carts/\aT (mf x.book) (.inr f)=some (.tup [.str f,.str ct,.int cl]):=by
 unfold t9;cases hf:w.fl with
 |none=>exact .inl ⟨rfl,rfl⟩
 |some f=>
  have v:aT (mf x.book) (.inr f)=_:=Dw f x.book;cases e:x.book.find? (λp=>p.1 == f) with
  |none=>
   obtain⟨p,hp,ep⟩:=dZ.mp ((o.rw w hw).2.2 f hf);have:=FD.mp e p hp;rw[ep,eL] at this;exact b_ rfl this
  |some p=>
   have e1:=NN e;have e1:p.1=f:=beq_iff_eq.mp e1;refine .inr ⟨f,p.2.1,p.2.2,rfl,by rw[vE,e];rfl,o.bk p (IQ e),?_⟩
   rw[v,e,<-e1];rfl
theorem d9p(g:ax h)(o:Ok h n x)(hw:w∈x.rows):CO 0 [.d (.ref 0),.d (.str w.bag)] (hS (aE h) r x s)=some (.ok (rd (.bl (z8 h x w))) (hS (aE h) r x s)):=by
 have h1:aT (gP x.rows) (.inr w.bag)=_:=lP o.nb hw;have h2:aT (ik x.rows) (.inr w.bag)=_:=lP o.nb hw;unfold CO Oq z8;rcases J0 o hw with⟨e1,e2⟩|⟨f,ct,cl,e1,e2,hc,hk⟩
 .rw[e1] at h2;rw[e2];unfold aL at h2;generalize aE h=hd at *;simp only[↓ev,hR,qy,rF,aP,h2,aK,cq]
 .rw[e1] at h2;rw[e2];unfold aL at h2;have e:=e8x (n:=w.b) (c:=w.i) g hc;unfold Aj at e;dsimp only;unfold tR;cases hv:atS (bq ct h.ae) w.b with
  |none=>
   rw[hv] at e;generalize aE h=hd at *;simp only[↓ev,hR,qy,rF,aP,h2,aK,sr,tM,hk,nR,oh,kB,lA,h1,cV,e,cq]
  |some v=>
   rw[hv] at e;generalize aE h=hd at *;simp only[↓ev,hR,qy,rF,aP,h2,aK,sr,tM,hk,nR,oh,kB,lA,h1,cV,e,Hx,KO,jj,cq]
theorem e6d(g:ax h)(o:Ok h n x)(hw:w∈x.rows):Gg 0 [.d (.ref 0),.d (.str w.bag)] (hS (aE h) r x s)=some (.ok (rd (.str (fO h x w))) (hS (aE h) r x s)):=by
 have h2:aT (ik x.rows) (.inr w.bag)=_:=lP o.nb hw;have e1:=λq=>d9m (s:=s) (r:=r) q (hd:=aE h) (o.rw w hw).2.1 hw o.nb
 have e2:=d9p (s:=s) (r:=r) g o hw;obtain⟨_,ha⟩:=Dm g;have hD:aE h=.tup [.lst (h.ae.map aq),.lst (dS h.carts)]:=rfl;rw[hD] at e1 e2 ⊢;unfold Gg Ot fO;unfold z8 at e2;rcases J0 o hw with⟨e3,e4⟩|⟨f,ct,cl,e3,e4,hc,hk⟩
 .rw[e4] at e2 ⊢;unfold iW;generalize h.carts.getD 0 ""=hnd at *;simp only[↓ev,hR,cU,Bq,e1,JM,e2,aK,nR,oh,cV,ha,cq]
 .rw[e4] at e2 ⊢;rw[e3] at h2;unfold aL at h2;dsimp only at e2 ⊢;unfold iW;generalize h.carts.getD 0 ""=hnd at *;cases hb:tR h ct x.now cl w.b w.i with
  |true=>
   rw[hb] at e2;simp only[↓ev,hR,cU,Bq,e1,JM,e2,sr,tM,aP,qy,rF,h2,hk,cV,cq]
  |false=>
   rw[hb] at e2;simp only[↓ev,hR,cU,Bq,e1,JM,e2,aK,nR,oh,cV,ha,cq]
theorem Kf(g:ax h):∀{bs pre:List ao},h.ae=pre++bs->∀b∈bs,∃v,atS (bq (iW h) h.ae) b.name=some v
 |x::bs,pre,eq,b,hb=>by
  have vi:h.ae=(pre++[x])++bs:=by rw[eq];simp
  rcases y04.mp hb with rfl|hb
  .have HP:b∈h.ae:=by rw[eq];simp
   have fx:l6 h.carts (b::bs):=CU (by rw[<-eq];exact g.fwd)
   have key:∀o∈b.outs,∀v,atS (bq (iW h) h.ae) o=some v->∃v,atS (bq (iW h) h.ae) b.name=some v:=λo m v e=>by
    have hm:=lj.mpr ⟨o,m,e⟩;rw[Kv (Dm g).1 g.fwd b HP,aM λz=>by rw[z] at hm;cases hm]
    exact⟨_,rfl⟩
   rcases g.hd b HP with z|⟨o,z1,z2⟩
   .exact key _ z _ (Rb (Dm g).1 g.fwd)
   .rcases fx.1 o z1 with y|y
    .obtain⟨w,hw,rfl⟩:=dZ.mp y;obtain⟨v,e⟩:=Kf g vi w hw;exact key _ z1 v e
    .exact b_ z2 (Gw g.fwd o y)
  .exact Kf g vi b hb
theorem Rf(g:ax h)(o:Ok h n x)(hw:w∈x.rows):fO h x w∈h.carts/\∃v,atS (bq (fO h x w) h.ae) w.b=some v:=by
 obtain⟨bt,hb,eb,_⟩:=(o.rw w hw).1;have hh:iW h∈h.carts/\∃v,atS (bq (iW h) h.ae) w.b=some v:=⟨(Dm g).1,by rw[<-eb];exact Kf g (pre:=[]) (bs:=h.ae) rfl bt hb⟩
 unfold fO;rcases J0 o hw with⟨e3,e4⟩|⟨f,ct,cl,e3,e4,hc,hk⟩
 .rw[e4];exact hh
 .rw[e4];dsimp only;split
  .rename_i Am
   refine⟨hc,?_⟩;unfold tR at Am;cases hv:atS (bq ct h.ae) w.b with
   |none=>rw[hv] at Am;cases Am
   |some v=>exact⟨v,rfl⟩
  .exact hh
end
variable{bt:ao}{o:Str}{busy:List Str}
abbrev Goal:=Str×ak Int
def gD:Goal->D
 |(c,none)=>.str c
 |(b,some i)=>pl b i
section
variable{s:List Cell}{h:aA}{r:Int}{x:Hl}{n:Nat}{w:Row}{ct:Str}
theorem e6e(g:ax h)(hb:bt∈h.ae)(hc:ct∈h.carts)(ho:gd (bq ct h.ae) bt.outs=some o)(hi:h.carts.contains o=true){busy:D}:P0 si [.d (aE h),.d (aq bt),.d (.str ct),.d busy] (rd (.str o)):=by
 intro S;have e:=HE g hb hc;rw[ho] at e;have hD:aE h=.tup [.lst (h.ae.map aq),.lst (dS h.carts)]:=rfl;have hB:aq bt=.tup [.str bt.name,.int bt.long,.bl bt.ring,.lst (dS bt.outs)]:=rfl;rw[hD] at e ⊢;rw[hB];unfold si CT;unfold aL at e;simp only[↓ev,cy,e,aP,cV,kE,aK,ke,hi,fZ]
theorem e6f(g:ax h)(hb:bt∈h.ae)(hc:ct∈h.carts)(ho:gd (bq ct h.ae) bt.outs=some o)(hi:h.carts.contains o=false)(hy:busy.contains o=false):P0 si [.d (aE h),.d (aq bt),.d (.str ct),.d (.lst (dS busy))] (rd (pl o 0)):=by
 intro S;have e:=HE g hb hc;rw[ho] at e;have hD:aE h=.tup [.lst (h.ae.map aq),.lst (dS h.carts)]:=rfl;have hB:aq bt=.tup [.str bt.name,.int bt.long,.bl bt.ring,.lst (dS bt.outs)]:=rfl;rw[hD] at e ⊢;rw[hB];unfold si CT;unfold aL at e;cases hr:bt.ring with
 |true=>simp only[↓ev,cy,e,aP,cV,kE,aK,ke,hi,jj,hy,fZ]
 |false=>simp only[↓ev,cy,e,aP,cV,kE,aK,ke,hi,jj,fZ]
theorem e6g(g:ax h)(hb:bt∈h.ae)(hc:ct∈h.carts)(ho:gd (bq ct h.ae) bt.outs=some o)(hi:h.carts.contains o=false)(hr:bt.ring=true)(hy:busy.contains o=true):P0 si [.d (aE h),.d (aq bt),.d (.str ct),.d (.lst (dS busy))] (rd (pl bt.name 0)):=by
 intro S;have e:=HE g hb hc;rw[ho] at e;have hD:aE h=.tup [.lst (h.ae.map aq),.lst (dS h.carts)]:=rfl;have hB:aq bt=.tup [.str bt.name,.int bt.long,.bl bt.ring,.lst (dS bt.outs)]:=rfl;rw[hD] at e ⊢;rw[hB,hr];unfold si CT;unfold aL at e;simp only[↓ev,cy,e,aP,cV,kE,aK,ke,hi,jj,hy,fZ]
theorem e6h(g:ax h)(hb:bt∈h.ae)(hc:ct∈h.carts)(ho:gd (bq ct h.ae) bt.outs=some o)(hi:h.carts.contains o=false)(hr:bt.ring=false):P0 si [.d (aE h),.d (aq bt),.d (.str ct),.d (.lst (dS busy))] (rd (pl o 0)):=by
 intro S;have e:=HE g hb hc;rw[ho] at e;have hD:aE h=.tup [.lst (h.ae.map aq),.lst (dS h.carts)]:=rfl;have hB:aq bt=.tup [.str bt.name,.int bt.long,.bl bt.ring,.lst (dS bt.outs)]:=rfl;rw[hD] at e ⊢;rw[hB,hr];unfold si CT;unfold aL at e;simp only[↓ev,cy,e,aP,cV,kE,aK,ke,hi,jj,fZ]
def eU(h:aA)(x:Hl):List Str:=bu h x++(ord h x.rows).filterMap λw=>if(w.i == 0)=true then some w.b else none
theorem W4(q:Nat)(l:List Row)(hl:l.length<=1000){S:aO}:bC (af 0) (Jo q) (Jp q) (l.map aU) [none] S []=some (.ok (dS (l.filterMap λw=>if(w.i == 0)=true then some w.b else none)) S):=by
 rw[x_ (λw=>(if(w.i == 0)=true then some w.b else none).map D.str) l (by lia) λw m=>by
  unfold Jo Jp aU;generalize aL w.fl=ff at *;cases hc:(w.i == 0) with
  |true=>exact .inr ⟨rd (.str w.b),.str w.b,rfl,by simp only[↓ev,jj,cV,aK,eY,hc],by simp only[↓ev,jj,cy],rfl⟩
  |false=>exact .inl ⟨rfl,by simp only[↓ev,jj,cV,aK,eY,hc]⟩]
 congr 2
 unfold dS;rw[List.map_filterMap]
theorem e6i(g:ax h)(o:Ok h n x):Gb 0 [.d (.ref 0)] (hS (aE h) r x s)=some (.ok (.o (.lst (dS (eU h x)))) (hS (aE h) r x s)):=by
 have rl:=o.rl;have e1:=λq=>Pl (s:=s) (r:=r) (q:=q) (x:=x) g
 have e2:=λq=>vb (s:=s) (r:=r) (q:=q) g o
 have e3:=λq=>W4 (S:=hS (aE h) r x s) q (ord h x.rows) (by rw[o.perm.length_eq];lia)
 have hl:((dS (bu h x)).length+(dS ((ord h x.rows).filterMap λw=>if(w.i == 0)=true then some w.b else none)).length<=1000000)=True:=bJ (by
  have h1:(bu h x).length<=(h.ae.map ao.name).length:=y6 _ _;have h2:=IT (λw:Row=>if(w.i == 0)=true then some w.b else none) (ord h x.rows)
  have h3:=o.perm.length_eq;have h4:=g.sm.bl;rw[bh] at h1;rw[bh,bh];lia)
 generalize aE h=hd at *;unfold Gb Oe eU;rw[dS,dB,<-dS,<-dS];simp only[↓ev,hR,cU,OL,e1,u_,e2,e3,hl,cq]
def uD(h:aA)(x:Hl)(bt:ao)(o:Str):Goal:=if h.carts.contains o=true then(o,none) else if(bt.ring&&(eU h x).contains o)=true then(bt.name,some 0) else(o,some 0)
def kY(h:aA)(r:Int)(x:Hl)(w:Row)(bt:ao):Goal:=if w.i+1<bt.long then(bt.name,some (w.i+1)) else if bt.ring=true/\w.fl=none/\w.gn<r then(bt.name,some 0) else uD h x bt ((gd (bq (fO h x w) h.ae) bt.outs).getD "")
def aj(h:aA)(r:Int)(x:Hl)(w:Row):Goal:=match findB h.ae w.b with
 |none=>(w.b,none)
 |some bt=>kY h r x w bt
theorem C0(g:ax h)(hb:bt∈h.ae):findB h.ae bt.name=some bt:=by
 unfold findB;cases e:h.ae.find? (λb=>b.name == bt.name) with
 |none=>
  have:=FD.mp e bt hb;rw[eL] at this;exact b_ rfl this
 |some c=>
  have h1:=NN e;rw[xR g.fwd c (IQ e) bt hb (beq_iff_eq.mp h1)]
theorem KQ(g:ax h)(o:Ok h n x)(hw:w∈x.rows)(hb:bt∈h.ae)(eb:bt.name=w.b):∃a,gd (bq (fO h x w) h.ae) bt.outs=some a/\a∈bt.outs:=by
 obtain⟨hc,v,hv⟩:=Rf g o hw;have bg:=Kv hc g.fwd bt hb;rw[eb,hv] at bg;have fG:¬dw (bq (fO h x w) h.ae) bt.outs=[]:=λz=>by rw[aX z] at bg;cases bg
 cases e:gd (bq (fO h x w) h.ae) bt.outs with
 |none=>exact b_ (l_.mp e) fG
 |some a=>exact⟨a,rfl,(WZ e).1⟩
theorem YV(g:ax h)(hb:bt∈h.ae)(hc:ct∈h.carts)(ho:gd (bq ct h.ae) bt.outs=some o):P0 si [.d (aE h),.d (aq bt),.d (.str ct),.d (.lst (dS (eU h x)))] (rd (gD (uD h x bt o))):=by
 unfold uD;cases e1:h.carts.contains o with
 |true=>exact e6e g hb hc ho e1
 |false=>
  rw[aM (by decide)]
  cases e2:bt.ring with
  |false=>exact e6h g hb hc ho e1 e2
  |true=>
   cases e3:(eU h x).contains o with
   |true=>exact e6g g hb hc ho e1 e2 e3
   |false=>exact e6f g hb hc ho e1 e3
end
section
variable{s:List Cell}{h:aA}{r:Int}{x:Hl}{n:Nat}{w:Row}{bt:ao}{a_:List D}{a8 a9:ak Val}{bz:D}
abbrev wS(hd:D)(r:Int)(x:Hl)(s:List Cell)(a_:List D):aO:=⟨s++[.o (.lst a_)],hR hd r x⟩
theorem Ni(g:ax h)(hb:bt∈h.ae)(eb:bt.name=w.b)(hl:(w.i+1<bt.long)=True)(ha:(a_.length<1000000)=True):vP 0 [some (.d (.ref 0)),some (.d (aE h)),some (.d bz),some (.c s.length),some (.d (.str w.bag)),some (.d (aL w.fl)),some (.d (pl w.b w.i)),some (.d (.int w.gn)),a8,a9] (wS (aE h) r x s a_)=some (.nx [some (.d (.ref 0)),some (.d (aE h)),some (.d bz),some (.c s.length),some (.d (.str w.bag)),some (.d (aL w.fl)),some (.d (pl w.b w.i)),some (.d (.int w.gn)),some (.d (aq bt)),some (.d (pl bt.name (w.i+1)))] (wS (aE h) r x s (a_++[.tup [.str w.bag,pl bt.name (w.i+1)]]))):=by
 have e4:=BF g hb;have hB:aq bt=.tup [.str bt.name,.int bt.long,.bl bt.ring,.lst (dS bt.outs)]:=rfl;rw[hB] at e4 ⊢;rw[eb] at e4 ⊢;generalize aE h=hd at *;generalize aL w.fl=ff at *;unfold vP;simp only[↓ev,cy,e4,aP,cV,hl,decide_true,eS,ha,km]
theorem Nj(g:ax h)(hb:bt∈h.ae)(eb:bt.name=w.b)(hl:(w.i+1<bt.long)=False)(hr:bt.ring=true)(hf:w.fl=none)(hg:(w.gn<r)=True)(ha:(a_.length<1000000)=True):vP 0 [some (.d (.ref 0)),some (.d (aE h)),some (.d bz),some (.c s.length),some (.d (.str w.bag)),some (.d (aL w.fl)),some (.d (pl w.b w.i)),some (.d (.int w.gn)),a8,a9] (wS (aE h) r x s a_)=some (.nx [some (.d (.ref 0)),some (.d (aE h)),some (.d bz),some (.c s.length),some (.d (.str w.bag)),some (.d (aL w.fl)),some (.d (pl w.b w.i)),some (.d (.int w.gn)),some (.d (aq bt)),some (.d (pl bt.name 0))] (wS (aE h) r x s (a_++[.tup [.str w.bag,pl bt.name 0]]))):=by
 have e4:=BF g hb;have e5:=λq s=>JZ (s:=s) (hd:=aE h) (r:=r) (q:=q) (x:=x)
 have hB:aq bt=.tup [.str bt.name,.int bt.long,.bl bt.ring,.lst (dS bt.outs)]:=rfl;rw[hB,hr] at e4 ⊢;rw[eb] at e4 ⊢;rw[hf];generalize aE h=hd at *;unfold vP aL;simp only[↓ev,cy,e4,aP,cV,hl,decide_false,aK,jj,hR,cU,JY,e5,hg,decide_true,eS,ha,km]
theorem Nk(g:ax h)(o:Ok h n x)(hw:w∈x.rows)(hb:bt∈h.ae)(eb:bt.name=w.b)(hl:(w.i+1<bt.long)=False){goal:D}(ho:P0 si [.d (aE h),.d (aq bt),.d (.str (fO h x w)),.d bz] (rd goal))(hc:bt.ring=false\/(∃f,w.fl=some f)\/w.fl=none/\¬w.gn<r)(ha:(a_.length<1000000)=True):vP 0 [some (.d (.ref 0)),some (.d (aE h)),some (.d bz),some (.c s.length),some (.d (.str w.bag)),some (.d (aL w.fl)),some (.d (pl w.b w.i)),some (.d (.int w.gn)),a8,a9] (wS (aE h) r x s a_)=some (.nx [some (.d (.ref 0)),some (.d (aE h)),some (.d bz),some (.c s.length),some (.d (.str w.bag)),some (.d (aL w.fl)),some (.d (pl w.b w.i)),some (.d (.int w.gn)),some (.d (aq bt)),some (.d goal)] (wS (aE h) r x s (a_++[.tup [.str w.bag,goal]]))):=by
 have e4:=BF g hb;have e5:=λq s=>JZ (s:=s) (hd:=aE h) (r:=r) (q:=q) (x:=x)
 have e6:=λs=>e6d (s:=s) (r:=r) g o hw
 have hB:aq bt=.tup [.str bt.name,.int bt.long,.bl bt.ring,.lst (dS bt.outs)]:=rfl;rw[hB] at e4 ho ⊢;rw[eb] at e4 ho ⊢;generalize aE h=hd at *;generalize fO h x w=ct at *;unfold vP;cases er:bt.ring with
 |false=>
  rw[er] at e4 ho;generalize aL w.fl=ff at *;simp only[↓ev,cy,e4,aP,cV,hl,decide_false,aK,jj,hR,cU,JL,e6,ho,eS,ha,km]
 |true=>
  rw[er] at e4 ho;rcases hc with z|⟨f,hf⟩|⟨hf,hg⟩
  .rw[er] at z;cases z
  .rw[hf];unfold aL;simp only[↓ev,cy,e4,aP,cV,hl,decide_false,aK,jj,hR,cU,JL,e6,ho,eS,ha,km]
  .rw[hf];unfold aL;have hg:=eq_false hg;simp only[↓ev,cy,e4,aP,cV,hl,decide_false,aK,jj,hR,cU,JY,e5,hg,JL,e6,ho,eS,ha,km]
theorem e6j(g:ax h)(o:Ok h n x)(hw:w∈x.rows)(ha:a_.length<1000)(s:List Cell):∃b8 b9,vP 0 [some (.d (.ref 0)),some (.d (aE h)),some (.d (.lst (dS (eU h x)))),some (.c s.length),some (.d (.str w.bag)),some (.d (aL w.fl)),some (.d (pl w.b w.i)),some (.d (.int w.gn)),a8,a9] (wS (aE h) r x s a_)=some (.nx [some (.d (.ref 0)),some (.d (aE h)),some (.d (.lst (dS (eU h x)))),some (.c s.length),some (.d (.str w.bag)),some (.d (aL w.fl)),some (.d (pl w.b w.i)),some (.d (.int w.gn)),b8,b9] (wS (aE h) r x s (a_++[.tup [.str w.bag,gD (aj h r x w)]]))):=by
 obtain⟨bt,hb,eb,_,_⟩:=(o.rw w hw).1;have Ly:(a_.length<1000000)=True:=bJ (by lia)
 have eg:aj h r x w=kY h r x w bt:=by unfold aj;rw[<-eb,C0 g hb]
 rw[eg];unfold kY;by_cases hl:w.i+1<bt.long
 .rw[aX hl];exact⟨_,_,Ni g hb eb (bJ hl) Ly⟩
 .rw[aM hl];by_cases hc:bt.ring=true/\w.fl=none/\w.gn<r
  .rw[aX hc];exact⟨_,_,Nj g hb eb (eq_false hl) hc.1 hc.2.1 (bJ hc.2.2) Ly⟩
  .rw[aM hc];obtain⟨a,ea,_⟩:=KQ g o hw hb eb;rw[ea,IS];refine⟨_,_,Nk g o hw hb eb (eq_false hl) (YV g hb (Rf g o hw).1 ea) ?_ Ly⟩;cases er:bt.ring with
   |false=>exact .inl rfl
   |true=>
    cases ef:w.fl with
    |some f=>exact .inr (.inl ⟨f,rfl⟩)
    |none=>exact .inr (.inr ⟨rfl,λz=>hc ⟨er,ef,z⟩⟩)
def q9(h:aA)(r:Int)(x:Hl)(w:Row):D:=.tup [.str w.bag,gD (aj h r x w)]
theorem YW(g:ax h)(o:Ok h n x):GR 0 [.d (.ref 0)] (hS (aE h) r x s)=some (.ok (.o (.lst ((ord h x.rows).map (q9 h r x)))) (hS (aE h) r x s)):=by
 have rl:=o.rl;have e1:=λq s=>YR (s:=s) (r:=r) (q:=q) (x:=x) g
 have e2:=λs=>e6i (s:=s) (r:=r) g o
 have e3:=λq s=>vb (s:=s) (r:=r) (q:=q) g o
 have pl:=o.perm.length_eq;obtain⟨U',S',e,⟨a4,a5,a6,a7,a8,a9,rfl⟩,rfl⟩:=lB (gg:=bF [(af 4),(af 5),(af 6),(af 7)]) (body:=vP 0) (f:=aU) (U:=[some (.d (.ref 0)),some (.d (aE h)),some (.d (.lst (dS (eU h x)))),some (.c s.length),none,none,none,none,none,none]) (S:=wS (aE h) r x s []) (λpre U S'=>(∃a4 a5 a6 a7 a8 a9,U=[some (.d (.ref 0)),some (.d (aE h)),some (.d (.lst (dS (eU h x)))),some (.c s.length),a4,a5,a6,a7,a8,a9])/\S'=wS (aE h) r x s (pre.map (q9 h r x))) (ord h x.rows) ⟨⟨_,_,_,_,_,_,rfl⟩,rfl⟩ (by
  rintro d w post eq U S' ⟨⟨a4,a5,a6,a7,a8,a9,rfl⟩,rfl⟩;have hw:w∈x.rows:=o.mem.mp (by rw[eq];simp)
  have hd:d.length<1000:=by
   grind
  obtain⟨b8,b9,e⟩:=e6j (r:=r) (a8:=a8) (a9:=a9) g o hw (a_:=d.map (q9 h r x)) (by rw[bh];exact hd) s
  refine⟨_,_,_,rfl,.inl e,⟨_,_,_,_,_,_,rfl⟩,?_⟩;rw[dB];rfl)
 generalize aE h=hd at *;generalize dS (eU h x)=bz at *;unfold GR P6;simp only[↓ev,hR,cU,YQ,e1,aP,e2,aK,u_,e3,i9,e,AE,eS,vg]
end
variable{W W':List (Str×D)}{b:Str}{S:aO}{n:Nat}
noncomputable def cA(W:List (Str×D)):List (TK×D):=td (·.1) (·.2) W
noncomputable def cD(G:Row->Goal)(L:List Row):List (TK×D):=td Row.bag (λw=>gD (G w)) L
abbrev tw(S:aO)(n:Nat)(W:List (Str×D)):aO:=⟨S.s.set n (.o (.aB (cA W))),S.r⟩
theorem KR{y:D}(h:b∉W.map (·.1)):bU (cA W) (.inr b) y=cA (W++[(b,y)]):=by
 unfold cA;rw[Dx h];unfold td;rw[dB];rfl
theorem BZ:(aT (cA W) (.inr b)).isSome=(W.map (·.1)).contains b:=BY
theorem K9(hn:n<S.s.length):(S.s.set n (.o (.aB (cA W))))[n]?=some (.o (.aB (cA W))):=xA hn
theorem KS:(S.s.set n (.o (.aB (cA W)))).set n (.o (.aB (cA W')))=S.s.set n (.o (.aB (cA W'))):=IM ..
theorem e6k:(tw S n W').cut (S.s.set n (.o (.aB (cA W)))).length=tw S n W':=by
 unfold aO.cut;dsimp only;rw[nW,vD (by rw[nW];exact bM _)]
noncomputable def jQ(st:List Str)(G:Row->Goal)(w:Row):ak D:=if st.contains w.b=true then some (.tup [.str "stopped",.str w.b]) else match G w with
 |(b,some _)=>if st.contains b=true then some (.tup [.str "stopped",.str b]) else none
 |(_,none)=>none
def cH(st:List Str)(G:Row->Goal)(L:List Row):List (Str×D):=L.filterMap λw=>(jQ st G w).map λy=>(w.bag,y)
section
variable{S:aO}{n:Nat}{st:List Str}{G:Row->Goal}{L:List Row}{w:Row}{W:List (Str×D)}{a8 bg:ak Val}
theorem YX(hn:n<S.s.length)(hv:aT (cD G L) (.inr w.bag)=some (gD (G w)))(hW:w.bag∉W.map (·.1))(hl:W.length<1000):∃b8,Bo 0 [bg,some (.d (.aB (cD G L))),some (.d (.lst (dS st))),some (.c n),some (.d (.str w.bag)),some (.d (aL w.fl)),some (.d (pl w.b w.i)),some (.d (.int w.gn)),a8] (tw S n W)=some (.nx [bg,some (.d (.aB (cD G L))),some (.d (.lst (dS st))),some (.c n),some (.d (.str w.bag)),some (.d (aL w.fl)),some (.d (pl w.b w.i)),some (.d (.int w.gn)),b8] (tw S n (W++((jQ st G w).map λy=>(w.bag,y)).toList))):=by
 have ta:=K9 (W:=W) hn;have ts:=λW'=>KS (S:=S) (n:=n) (W:=W) (W':=W')
 have hp:=λy=>KR (y:=y) hW
 have ny:((cA W).length<1000000)=True:=bJ (by unfold cA;rw[oo];lia)
 unfold jQ;cases h1:st.contains w.b with
 |true=>
  refine⟨some (.d (gD (G w))),?_⟩;generalize gD (G w)=gg at *;generalize aL w.fl=ff at *;show _=some (Fr.nx _ (tw S n (W++[(w.bag,_)])));unfold Bo;simp only[↓ev,hv,aP,cy,kE,aK,ke,h1,ta,ny,hp,ts]
 |false=>
  rw[aM (by decide)]
  generalize aL w.fl=ff at *;obtain⟨c,gi⟩:∃c,G w=c:=⟨_,rfl⟩;rw[gi] at hv ⊢;obtain⟨c,i⟩:=c;cases i with
  |none=>
   refine⟨some (.d (.str c)),?_⟩;show _=some (Fr.nx _ (tw S n (W++[])));rw[lY];unfold Bo;unfold gD at hv;simp only[↓ev,hv,aP,cy,kE,aK,ke,h1,L6]
  |some i=>
   refine⟨some (.d (pl c i)),?_⟩;unfold Bo;unfold gD at hv;dsimp only at hv ⊢;cases h2:st.contains c with
   |true=>
    show _=some (Fr.nx _ (tw S n (W++[(w.bag,_)])));simp only[↓ev,hv,aP,cy,kE,aK,ke,h1,Ie,h2,ta,ny,hp,ts]
   |false=>
    show _=some (Fr.nx _ (tw S n (W++[])));rw[lY];simp only[↓ev,hv,aP,cy,kE,aK,ke,h1,Ie,h2]
theorem VI(st:List Str)(G:Row->Goal)(L:List Row):∀b∈(cH st G L).map (·.1),b∈L.map Row.bag:=λb m=>by
 obtain⟨p,hp,rfl⟩:=dZ.mp m;obtain⟨w,hw,e⟩:=pG.mp hp;obtain⟨y,_,rfl⟩:=dm.mp e;exact j_ hw
theorem Kg{d post:List Row}(eq:L=d++w::post)(nd:(L.map Row.bag).Nodup):w.bag∉d.map Row.bag:=by
 rw[eq,dB,bQ] at nd;exact λm=>(jS.mp nd).2.2 _ m _ (.head _) rfl
theorem d9r(hn:n<S.s.length)(nd:(L.map Row.bag).Nodup)(hl:L.length<100):F0 0 [.d (.lst (L.map aU)),.d (.aB (cD G L)),.d (.lst (dS st)),.c n] (tw S n [])=some (.ok (rd .aI) (tw S n (cH st G L))):=by
 obtain⟨U',S',e,⟨a4,a5,a6,a7,a8,rfl⟩,rfl⟩:=lB (gg:=bF [(af 4),(af 5),(af 6),(af 7)]) (body:=Bo 0) (f:=aU) (U:=[some (.d (.lst (L.map aU))),some (.d (.aB (cD G L))),some (.d (.lst (dS st))),some (.c n),none,none,none,none,none]) (S:=tw S n []) (λpre U S'=>(∃a4 a5 a6 a7 a8,U=[some (.d (.lst (L.map aU))),some (.d (.aB (cD G L))),some (.d (.lst (dS st))),some (.c n),a4,a5,a6,a7,a8])/\S'=tw S n (cH st G pre)) L ⟨⟨_,_,_,_,_,rfl⟩,rfl⟩ (by
  rintro d w post eq U S' ⟨⟨a4,a5,a6,a7,a8,rfl⟩,rfl⟩;have hw:w∈L:=by rw[eq];simp
  have hv:aT (cD G L) (.inr w.bag)=some (gD (G w)):=lP nd hw;have hd:d.length<100:=by
   grind
  obtain⟨b8,e⟩:=YX (st:=st) (a8:=a8) (bg:=some (.d (.lst (L.map aU)))) hn hv (W:=cH st G d) (λm=>Kg eq nd (VI st G d _ m)) (Ny (IT _ _) (by lia))
  refine⟨_,_,_,rfl,.inl e,⟨_,_,_,_,_,rfl⟩,?_⟩;unfold cH;rw[NO];rw[show List.filterMap (λw=>(jQ st G w).map λy=>(w.bag,y)) [w]=((jQ st G w).map λy=>(w.bag,y)).toList by rw[pP,Cs];cases(jQ st G w) <;> rfl])
 have cu:=e6k (S:=S) (n:=n) (W:=[]) (W':=cH st G L);generalize cH st G L=W2 at *;unfold F0 NV;simp only[↓ev,i9,e,cu]
end
abbrev bA:=Str×Int
noncomputable def kC(p:bA):TK:=.tp [.inr p.1,.inl p.2]
theorem Sl{p q:bA}(e:kC p=kC q):p=q:=by
 unfold kC at e;have e:=TK.tp.inj e;have e1:=(List.cons.inj e).1;have e2:=(List.cons.inj (List.cons.inj e).2).1;exact Prod.ext (TK.inr.inj e1) (TK.inl.inj e2)
def gA(C:List (bA×Str)):List (TK×D):=C.map λe=>(kC e.1,.str e.2)
noncomputable def look(C:List (bA×Str))(k:bA):ak Str:=(C.find? λe=>e.1 == k).map (·.2)
noncomputable def kI:List (bA×Str)->bA->Str->List (bA×Str)
 |[],k,v=>[(k,v)]
 |e::es,k,v=>if e.1=k then(e.1,v)::es else e::kI es k v
theorem zC{e:bA×Str}{es:List (bA×Str)}{k:bA}:look (e::es) k=if e.1=k then some e.2 else look es k:=by
 unfold look;rw[uT];by_cases h:e.1=k
 .rw[aX h,show(e.1 == k)=true from beq_iff_eq.mpr h];rfl
 .rw[aM h,show(e.1 == k)=false by rw[nQ];exact h]
theorem Kh(k:bA)(v:Str)(k':bA):∀C:List (bA×Str),look (kI C k v) k'=if k=k' then some v else look C k'
 |[]=>by show look [(k,v)] k'=_;rw[zC]
 |e::es=>by
  unfold kI;by_cases h:e.1=k
  .rw[aX h,zC,zC,h];split <;> rfl
  .rw[aM h,zC,Kh k v k' es,zC];by_cases h2:e.1=k'
   .rw[aX h2,aX h2,aM λz=>h (h2.trans z.symm)]
   .rw[aM h2,aM h2]
theorem Dz(k:bA):∀C:List (bA×Str),aT (gA C) (kC k)=(look C k).map D.str
 |[]=>rfl
 |e::es=>by
  have ih:=Dz k es;rw[zC];unfold aT gA at *;rw[bQ,uT];dsimp only;by_cases h:e.1=k
  .rw[aX h,sd (by rw[h])];rfl
  .rw[aM h,sL λz=>h (Sl z)];exact ih
theorem KU(k:bA)(v:Str):∀C:List (bA×Str),bU (gA C) (kC k) (.str v)=gA (kI C k v)
 |[]=>rfl
 |e::es=>by
  have ih:=KU k v es;unfold gA at *;rw[bQ,Gz];unfold kI;dsimp only;by_cases h:e.1=k
  .rw[aX (by rw[h]),aX h];rfl
  .rw[aM λz=>h (Sl z),aM h,ih];rfl
theorem Qm(k:bA)(v:Str):∀C:List (bA×Str),(kI C k v).length<=C.length+1
 |[]=>by unfold kI;exact bM _
 |e::es=>by
  have ih:=Qm k v es;unfold kI;split
  .rw[ju,ju];lia
  .rw[ju,ju];lia
noncomputable def gk(G:Row->Goal)(w:Row):bA:=((G w).1,(G w).2.getD 0)
def ask(G:Row->Goal)(W:List (Str×D))(L:List Row):List Row:=L.filter λw => !(W.map (·.1)).contains w.bag&&(G w).2.isSome
theorem SH{G:Row->Goal}{w:Row}(h:(G w).2.isSome=true):gD (G w)=pl (gk G w).1 (gk G w).2:=by
 unfold gk gD;generalize G w=p at *;obtain⟨c,i⟩:=p;cases i with
 |none=>cases h
 |some i=>rfl
theorem kp{o:Str}{j:Int}:pD [.str o,.int j]=some [.inr o,.inl j]:=by simp[pD,sD]
def DK(G:Row->Goal)(C:List (bA×Str))(w:Row):List (bA×Str):=if look C (gk G w)=none\/w.b=(gk G w).1 then kI C (gk G w) w.bag else C
section
variable{S:aO}{n m:Nat}{G:Row->Goal}{L:List Row}{w:Row}{W:List (Str×D)}{C:List (bA×Str)}{a8 a9 FW g0 g3:ak Val}{t rr:List Cell}
theorem e6m(hv:aT (cD G L) (.inr w.bag)=some (gD (G w)))(hs:(G w).2.isSome=true)(ht:t[m]?=some (.o (.aB (gA C))))(hl:C.length<1000):CF 0 [g0,some (.d (.aB (cD G L))),some (.c n),g3,some (.c m),some (.d (.str w.bag)),some (.d (aL w.fl)),some (.d (pl w.b w.i)),some (.d (.int w.gn)),a9,FW] ⟨t,rr⟩=some (.nx [g0,some (.d (.aB (cD G L))),some (.c n),g3,some (.c m),some (.d (.str w.bag)),some (.d (aL w.fl)),some (.d (pl w.b w.i)),some (.d (.int w.gn)),some (.d (gD (G w))),FW] ⟨t.set m (.o (.aB (gA (DK G C w)))),rr⟩):=by
 rw[SH hs] at hv ⊢;have v:=Dz (gk G w) C;have pu:=KU (gk G w) w.bag C;have ny:((gA C).length<1000000)=True:=bJ (by unfold gA;rw[bh];lia)
 have lt:(m<t.length)=True:=bJ (eQ.mp ht).1;have se:t.set m (.o (.aB (gA C)))=t:=by
  obtain⟨h1,h2⟩:=eQ.mp ht;rw[<-h2,NP]
 unfold DK;unfold kC at v pu;generalize aL w.fl=ff at *;unfold CF;cases hk:look C (gk G w) with
 |none=>
  rw[aX (.inl rfl)];rw[hk] at v;simp only[↓ev,hv,aP,ht,v,Be,mV,ny,pu]
 |some b=>
  rw[hk] at v;cases he:(w.b == (gk G w).1) with
  |true=>
   rw[aX (.inr (beq_iff_eq.mp he))];simp only[↓ev,hv,aP,ht,v,y9,lG,aK,cy,ib,he,ny,pu]
  |false=>
   rw[aM (by rw[not_or];exact⟨λz=>(by cases z),λz=>(by rw[z,eL] at he;cases he)⟩),se]
   simp only[↓ev,hv,aP,ht,v,y9,lG,aK,cy,ib,he]
theorem YY(q:Nat)(nd:(L.map Row.bag).Nodup)(hl:L.length<=1000)(hn:t[n]?=some (.o (.aB (cA W)))):bC (af 0) (Jg q) (Jh q) (L.map aU) [none,some (.c n),some (.d (.aB (cD G L)))] ⟨t,rr⟩ []=some (.ok ((ask G W L).map aU) ⟨t,rr⟩):=by
 rw[x_ (λw=>if(!(W.map (·.1)).contains w.bag&&(G w).2.isSome)=true then some (aU w) else none) L (by lia) λw m=>by
  have v:aT (cD G L) (.inr w.bag)=_:=lP nd m;have i:=BZ (W:=W) (b:=w.bag);unfold Jg Jh;cases h1:(W.map (·.1)).contains w.bag with
  |true=>
   refine .inl ⟨rfl,?_⟩;rw[h1] at i;unfold aU;generalize aL w.fl=ff at *;generalize gD (G w)=gg at *;simp only[↓ev,cy,hn,i,lG,aK]
  |false=>
   rw[h1] at i;cases h2:(G w).2 with
   |none=>
    have e:gD (G w)=.str (G w).1:=by unfold gD;generalize G w=p at *;obtain⟨c,j⟩:=p;cases h2;rfl
    rw[e] at v;refine .inl ⟨rfl,?_⟩;unfold aU;generalize aL w.fl=ff at *;simp only[↓ev,cy,hn,i,mV,v,L6]
   |some j=>
    have e:gD (G w)=pl (G w).1 j:=by unfold gD;generalize G w=p at *;obtain⟨c,j⟩:=p;cases h2;rfl
    rw[e] at v;refine .inr ⟨rd (aU w),aU w,rfl,?_,?_,rfl⟩
    .unfold aU;generalize aL w.fl=ff at *;simp only[↓ev,cy,hn,i,mV,v,Ie]
    rfl]
 congr 2
 unfold ask;clear nd hl
 induction L with
 |nil=>rfl
 |cons w L ih=>
  rw[pP,vC,ih];cases(!(W.map (·.1)).contains w.bag&&(G w).2.isSome) <;> rfl
end
variable{G:Row->Goal}
def nY(G:Row->Goal)(d:List Row)(C:List (bA×Str)):Prop:=(∀k b,look C k=some b->∃c∈d,c.bag=b/\gk G c=k/\((∃z∈d,gk G z=k/\z.b=k.1)->c.b=k.1))/\(∀w∈d,look C (gk G w)≠none)/\C.length<=d.length
theorem e6n:nY G [] []:=⟨λk b e=>(by cases e),λw m=>(by cases m),bM _⟩
theorem d9s{d:List Row}{C:List (bA×Str)}(o:nY G d C)(w:Row):nY G (d++[w]) (DK G C w):=by
 obtain⟨o1,o2,o3⟩:=o;have me:∀{z},z∈d++[w]↔z∈d\/z=w:=λ{z}=>by rw[dr,lz]
 unfold DK;by_cases hc:look C (gk G w)=none\/w.b=(gk G w).1
 .rw[aX hc];refine⟨λk b e=>?_,λz m=>?_,?_⟩
  .rw[Kh] at e;by_cases hk:gk G w=k
   .rw[aX hk] at e;refine⟨w,me.mpr (.inr rfl),Option.some.inj e,hk,λ⟨z,mz,e1,e2⟩=>?_⟩
    rcases hc with hc|hc
    .rcases me.mp mz with mz|rfl
     .exact b_ (by rw[e1,<-hk];exact hc) (o2 z mz)
     .exact e2
    .rw[<-hk];exact hc
   .rw[aM hk] at e;obtain⟨c,mc,e1,e2,e3⟩:=o1 k b e;refine⟨c,me.mpr (.inl mc),e1,e2,λ⟨z,mz,e4,e5⟩=>e3 ?_⟩
    rcases me.mp mz with mz|rfl
    .exact⟨z,mz,e4,e5⟩
    .exact b_ e4 hk
  .rw[Kh];split
   .intro z;cases z
   .rename_i hk
    rcases me.mp m with m|rfl
    .exact o2 z m
    .exact b_ rfl hk
  .rw[du];exact i7 (Qm _ _ _) (Nat.add_le_add_right o3 1)
 .rw[aM hc];rw[not_or] at hc;refine⟨λk b e=>?_,λz m=>?_,by rw[du];lia⟩
  .obtain⟨c,mc,e1,e2,e3⟩:=o1 k b e;refine⟨c,me.mpr (.inl mc),e1,e2,λ⟨z,mz,e4,e5⟩=>e3 ?_⟩
   rcases me.mp mz with mz|rfl
   .exact⟨z,mz,e4,e5⟩
   .exact b_ (by rw[e4];exact e5) hc.2
  .rcases me.mp m with m|rfl
   .exact o2 z m
   .exact hc.1
def dq(G:Row->Goal)(C:List (bA×Str))(w:Row):ak (Str×D):=match look C (gk G w) with
 |none=>none
 |some c=>if c=w.bag then none else some (w.bag,.tup [.str "yields",.str c])
section
variable{S:aO}{n m:Nat}{G:Row->Goal}{L A:List Row}{w:Row}{W:List (Str×D)}{C:List (bA×Str)}{a8 a9 FW g0 g3:ak Val}{t rr:List Cell}
theorem e6o(hv:aT (cD G L) (.inr w.bag)=some (gD (G w)))(hs:(G w).2.isSome=true)(hm:t[m]?=some (.o (.aB (gA C))))(hn:t[n]?=some (.o (.aB (cA W))))(hW:w.bag∉W.map (·.1))(hl:W.length<1000){c:Str}(hk:look C (gk G w)=some c):CG 0 [g0,some (.d (.aB (cD G L))),some (.c n),g3,some (.c m),some (.d (.str w.bag)),some (.d (aL w.fl)),some (.d (pl w.b w.i)),some (.d (.int w.gn)),a9,FW] ⟨t,rr⟩=some (.nx [g0,some (.d (.aB (cD G L))),some (.c n),g3,some (.c m),some (.d (.str w.bag)),some (.d (aL w.fl)),some (.d (pl w.b w.i)),some (.d (.int w.gn)),a9,some (.d (.str c))] ⟨t.set n (.o (.aB (cA (W++(dq G C w).toList)))),rr⟩):=by
 rw[SH hs] at hv;have v:=Dz (gk G w) C;rw[hk] at v;have hp:=λy=>KR (y:=y) hW
 have ny:((cA W).length<1000000)=True:=bJ (by unfold cA;rw[oo];lia)
 have lt:(n<t.length)=True:=bJ (eQ.mp hn).1;have se:t.set n (.o (.aB (cA W)))=t:=by
  obtain⟨h1,h2⟩:=eQ.mp hn;rw[<-h2,NP]
 unfold dq;rw[hk];dsimp only;unfold kC at v;generalize aL w.fl=ff at *;unfold CG;cases he:(c == w.bag) with
 |true=>
  rw[aX (beq_iff_eq.mp he)];show _=some (Fr.nx _ ⟨t.set n (.o (.aB (cA (W++[])))),rr⟩);rw[lY,se];simp only[↓ev,hv,hm,v,aP,ib,he,lG,aK]
 |false=>
  rw[aM (by rw[nQ] at he;exact he)]
  show _=some (Fr.nx _ ⟨t.set n (.o (.aB (cA (W++[(w.bag,.tup [.str "yields",.str c])])))),rr⟩);simp only[↓ev,hv,hm,v,aP,ib,he,mV,hn,ny,hp]
theorem iC:w∈ask G W L↔w∈L/\w.bag∉W.map (·.1)/\(G w).2.isSome=true:=by
 unfold ask;rw[sE,eP,Bool.not_eq_true',y8,ne_eq,jv]
theorem YZ(C:List (bA×Str))(A:List Row):∀b∈(A.filterMap (dq G C)).map (·.1),b∈A.map Row.bag:=λb m=>by
 obtain⟨p,hp,rfl⟩:=dZ.mp m;obtain⟨w,hw,e⟩:=pG.mp hp;unfold dq at e;split at e
 .cases e
 .split at e
  .cases e
  .cases e;exact j_ hw
theorem d9t(nd:(L.map Row.bag).Nodup)(hl:L.length<100)(hA:∀w∈A,w∈L/\(G w).2.isSome=true)(HK:A.length<100)(t:List Cell):∃C,nY G A C/\∃a5 a6 a7 a8 a9,aH (bF [(af 5),(af 6),(af 7),(af 8)]) (CF 0) (A.map aU) [g0,some (.d (.aB (cD G L))),some (.c n),g3,some (.c t.length),none,none,none,none,none,none] ⟨t++[.o (.aB [])],rr⟩=some (.nx [g0,some (.d (.aB (cD G L))),some (.c n),g3,some (.c t.length),a5,a6,a7,a8,a9,none] ⟨t++[.o (.aB (gA C))],rr⟩):=by
 obtain⟨U',S',e,⟨a5,a6,a7,a8,a9,rfl⟩,C,oC,rfl⟩:=lB (gg:=bF [(af 5),(af 6),(af 7),(af 8)]) (body:=CF 0) (f:=aU) (U:=[g0,some (.d (.aB (cD G L))),some (.c n),g3,some (.c t.length),none,none,none,none,none,none]) (S:=⟨t++[.o (.aB [])],rr⟩) (λpre U S'=>(∃a5 a6 a7 a8 a9,U=[g0,some (.d (.aB (cD G L))),some (.c n),g3,some (.c t.length),a5,a6,a7,a8,a9,none])/\∃C,nY G pre C/\S'=⟨t++[.o (.aB (gA C))],rr⟩) A ⟨⟨_,_,_,_,_,rfl⟩,[],e6n,rfl⟩ (by
  rintro d w post eq U S' ⟨⟨a5,a6,a7,a8,a9,rfl⟩,C,oC,rfl⟩;obtain⟨hw,hs⟩:=hA w (by rw[eq];simp)
  have hd:d.length<100:=by
   grind
  have:=oC.2.2;refine⟨_,_,_,rfl,.inl (e6m (lP nd hw) hs eS (by lia)),⟨_,_,_,_,_,rfl⟩,DK G C w,d9s oC w,?_⟩
  rw[km];rfl)
 exact⟨C,oC,a5,a6,a7,a8,a9,e⟩
theorem d9u(nd:(L.map Row.bag).Nodup)(Mm:(A.map Row.bag).Nodup)(hA:∀w∈A,w∈L/\w.bag∉W.map (·.1)/\(G w).2.isSome=true)(HK:A.length<100)(Lx:W.length<100)(oC:nY G A C){t:List Cell}(hn:t[n]?=some (.o (.aB (cA W))))(hm:t[m]?=some (.o (.aB (gA C))))(nm:n≠m){a5 a6 a7 a8 a9:ak Val}:∃b5 b6 b7 b8 zR,aH (bF [(af 5),(af 6),(af 7),(af 8)]) (CG 0) (A.map aU) [g0,some (.d (.aB (cD G L))),some (.c n),g3,some (.c m),a5,a6,a7,a8,a9,none] ⟨t,rr⟩=some (.nx [g0,some (.d (.aB (cD G L))),some (.c n),g3,some (.c m),b5,b6,b7,b8,a9,zR] ⟨t.set n (.o (.aB (cA (W++A.filterMap (dq G C))))),rr⟩):=by
 have lt:=(eQ.mp hn).1;have se:t.set n (.o (.aB (cA (W++[]))))=t:=by
  obtain⟨h1,h2⟩:=eQ.mp hn;rw[lY,<-h2,NP]
 obtain⟨U',S',e,⟨b5,b6,b7,b8,zR,rfl⟩,rfl⟩:=lB (gg:=bF [(af 5),(af 6),(af 7),(af 8)]) (body:=CG 0) (f:=aU) (U:=[g0,some (.d (.aB (cD G L))),some (.c n),g3,some (.c m),a5,a6,a7,a8,a9,none]) (S:=⟨t,rr⟩) (λpre U S'=>(∃b5 b6 b7 b8 zR,U=[g0,some (.d (.aB (cD G L))),some (.c n),g3,some (.c m),b5,b6,b7,b8,a9,zR])/\S'=⟨t.set n (.o (.aB (cA (W++pre.filterMap (dq G C))))),rr⟩) A ⟨⟨_,_,_,_,_,rfl⟩,by rw[Cs,se]⟩ (by
  rintro d w post eq U S' ⟨⟨b5,b6,b7,b8,zR,rfl⟩,rfl⟩;have Tj:w∈A:=by rw[eq];simp
  obtain⟨hw,hwW,hs⟩:=hA w Tj;have hd:d.length<100:=by
   have:=congrArg List.length eq;rw[du] at this;lia
  obtain⟨c,hc⟩:=Option.ne_none_iff_exists'.mp (oC.2.1 w Tj);have hlen:=IT (dq G C) d;refine⟨_,_,_,rfl,.inl (e6o (lP nd hw) hs (by rw[Cm nm];exact hm) (by rw[xA lt]) (W:=W++d.filterMap (dq G C)) (λz=>?_) (by rw[du];lia) hc),⟨_,_,_,_,_,rfl⟩,?_⟩
  .rw[dB,dr] at z;rcases z with z|z
   .exact hwW z
   .exact Kg eq Mm (YZ C d _ z)
  .rw[IM,NO,l0,show List.filterMap (dq G C) [w]=(dq G C w).toList by rw[pP,Cs];cases dq G C w <;> rfl])
 exact⟨b5,b6,b7,b8,zR,e⟩
theorem d9v(hn:n<S.s.length)(nd:(L.map Row.bag).Nodup)(hl:L.length<100)(Lx:W.length<100):∃C,nY G (ask G W L) C/\FX 0 [.d (.lst (L.map aU)),.d (.aB (cD G L)),.c n] (tw S n W)=some (.ok (rd .aI) (tw S n (W++(ask G W L).filterMap (dq G C)))):=by
 have ta:=K9 (W:=W) hn;have hA:∀w∈ask G W L,w∈L/\w.bag∉W.map (·.1)/\(G w).2.isSome=true:=λw m=>iC.mp m
 have HK:(ask G W L).length<100:=Ny (y6 _ _) hl;have Mm:((ask G W L).map Row.bag).Nodup:=nd.sublist (List.Sublist.map _ IF);have e1:=λq=>YY (G:=G) (rr:=S.r) q nd (by lia) ta
 obtain⟨C,oC,a5,a6,a7,a8,a9,e2⟩:=d9t (n:=n) (rr:=S.r) (g0:=some (.d (.lst (L.map aU)))) (g3:=some (.d (.lst ((ask G W L).map aU)))) nd hl (λw m=>⟨(hA w m).1,(hA w m).2.2⟩) HK (S.s.set n (.o (.aB (cA W))))
 have jl:n<(S.s.set n (.o (.aB (cA W)))).length:=by rw[nW];exact hn
 obtain⟨b5,b6,b7,b8,zR,e3⟩:=d9u (n:=n) (m:=(S.s.set n (.o (.aB (cA W)))).length) (rr:=S.r) (g0:=some (.d (.lst (L.map aU)))) (g3:=some (.d (.lst ((ask G W L).map aU)))) (a5:=a5) (a6:=a6) (a7:=a7) (a8:=a8) (a9:=a9) nd Mm hA HK Lx oC (t:=S.s.set n (.o (.aB (cA W)))++[.o (.aB (gA C))]) (by rw[xF jl];exact ta) eS (by lia)
 refine⟨C,oC,?_⟩;generalize(ask G W L).filterMap (dq G C)=Y at *;rw[List.set_append_left _ _ jl,KS] at e3;have cu:aO.cut ⟨S.s.set n (.o (.aB (cA (W++Y))))++[.o (.aB (gA C))],S.r⟩ (S.s.set n (.o (.aB (cA W)))).length=tw S n (W++Y):=by
  unfold aO.cut;dsimp only;rw[nW,List.take_append_of_le_length (by rw[nW];exact bM _),vD (by rw[nW];exact bM _)]
 generalize(ask G W L).map aU=al at *;unfold FX NR;simp only[↓ev,i9,e1,aP,e2,e3,cu]
end
variable{C:List (bA×Str)}{k:bA}{b:Str}
noncomputable def ip(L:List Row):List (bA×Str):=L.map λw=>((w.b,w.i),w.bag)
theorem Qn{k:bA}{v:Str}:∀{C:List (bA×Str)},k∉C.map (·.1)->kI C k v=C++[(k,v)]
 |[],_=>rfl
 |e::es,h=>by
  rw[bQ,y04,not_or] at h;unfold kI;rw[aM λz=>h.1 z.symm,Qn h.2]
  rfl
theorem W5(h:look C k=some b):(k,b)∈C:=by
 unfold look at h;obtain⟨e,h1,h2⟩:=dm.mp h;have h3:=NN h1;have h3:e.1=k:=beq_iff_eq.mp h3;rw[<-h3,<-h2];exact IQ h1
theorem Y0(nd:(C.map (·.1)).Nodup)(h:(k,b)∈C):look C k=some b:=by
 induction C with
 |nil=>cases h
 |cons e es ih=>
  rw[bQ,qo] at nd;rw[zC];rcases y04.mp h with rfl|m
  .rw[aX rfl]
  .rw[aM λz=>nd.1 (by rw[z];exact j_ (f:=(·.1)) m)]
   exact ih nd.2 m
def hold(G:Row->Goal)(L:List Row)(w:Row):ak Str:=match(G w).2 with
 |none=>none
 |some i=>look (ip L) ((G w).1,i)
noncomputable def DE(o:Str):D:=.tup [.str "behind",.str o]
def kF(G:Row->Goal)(L:List Row)(X:List (Str×D))(w:Row)(o:Str):Prop:=w.bag∉X.map (·.1)/\hold G L w=some o/\o∈X.map (·.1)
inductive lL (G:Row->Goal) (L:List Row) (W:List (Str×D)):List (Str×D)->Prop
 |base:lL G L W W
 |step {X:List (Str×D)} {w:Row} {o:Str}:lL G L W X->w∈L->kF G L X w o->lL G L W (X++[(w.bag,DE o)])
theorem lL.trans{G:Row->Goal}{L:List Row}{W X Y:List (Str×D)}(a:lL G L W X)(b:lL G L X Y):lL G L W Y:=by
 induction b with
 |base=>exact a
 |step _ hw hc ih=>exact .step ih hw hc
section
variable{S:aO}{n m:Nat}{G:Row->Goal}{L:List Row}{w:Row}{W X:List (Str×D)}{a5 a6 a7 a9 g0:ak Val}{t rr:List Cell}{gr:Bool}
theorem e6p{d:List Row}(ht:t[m]?=some (.o (.aB (gA (ip d)))))(hl:d.length<1000)(hk:(w.b,w.i)∉d.map λw=>(w.b,w.i)){g1 g2 a8:ak Val}:CH 0 [g0,g1,g2,some (.c m),some (.d (.str w.bag)),some (.d (aL w.fl)),some (.d (pl w.b w.i)),some (.d (.int w.gn)),a8,a9] ⟨t,rr⟩=some (.nx [g0,g1,g2,some (.c m),some (.d (.str w.bag)),some (.d (aL w.fl)),some (.d (pl w.b w.i)),some (.d (.int w.gn)),a8,a9] ⟨t.set m (.o (.aB (gA (ip (d++[w]))))),rr⟩):=by
 have pu:=KU (w.b,w.i) w.bag (ip d);rw[Qn (by unfold ip;rw[fJ];exact hk),show ip d++[((w.b,w.i),w.bag)]=ip (d++[w]) by unfold ip;rw[dB];rfl] at pu
 have ny:((gA (ip d)).length<1000000)=True:=bJ (by unfold gA ip;rw[bh,bh];lia)
 have lt:(m<t.length)=True:=bJ (eQ.mp ht).1;unfold kC at pu;dsimp only at pu;generalize aL w.fl=ff at *;unfold CH;simp only[↓ev,ht,ny,pu]
theorem Y1{t:List Cell}{n:Nat}{c:Cell}(h:t[n]?=some c):t.set n c=t:=by
 obtain⟨h1,h2⟩:=eQ.mp h;rw[<-h2,NP]
theorem e6q{c:Str}:aT (gA C) (.inr c)=none:=by
 unfold aT gA;rw[FD.mpr]
 .rfl
 .intro e m z;obtain⟨p,_,rfl⟩:=dZ.mp m;have:=xI z;unfold kC at this;cases this
theorem e6r{α:Type}{k:α->Str}{v:α->D}{xs:List α}:aT (td k v xs) TK.aI=none:=by
 unfold aT td;rw[FD.mpr]
 .rfl
 .intro e m z;obtain⟨p,_,rfl⟩:=dZ.mp m;cases xI z
theorem e8y(hv:aT (cD G L) (.inr w.bag)=some (gD (G w)))(hm:t[m]?=some (.o (.aB (gA (ip L)))))(hn:t[n]?=some (.o (.aB (cA X))))(hc:∀o,¬kF G L X w o):∃b9,zu 0 [g0,some (.d (.aB (cD G L))),some (.c n),some (.c m),some (.d (.str w.bag)),a5,a6,a7,some (.d (.bl gr)),a9] ⟨t,rr⟩=some (.nx [g0,some (.d (.aB (cD G L))),some (.c n),some (.c m),some (.d (.str w.bag)),a5,a6,a7,some (.d (.bl gr)),b9] ⟨t,rr⟩):=by
 have i:=BZ (W:=X) (b:=w.bag);have nn:aT (cA X) TK.aI=none:=e6r;unfold kF hold at hc;unfold zu;generalize G w=p at *;obtain⟨c,j⟩:=p;cases j with
 |none=>
  unfold gD at hv;have v:=e6q (C:=ip L) (c:=c);refine⟨some (.d .aI),?_⟩;cases h1:(X.map (·.1)).contains w.bag with
  |true=>
   rw[h1] at i;simp only[↓ev,hm,hv,v,aP,hn,i,lG,aK]
  |false=>
   rw[h1] at i;simp only[↓ev,hm,hv,v,aP,hn,i,mV,aK,nn,Be]
 |some j=>
  unfold gD at hv;dsimp only at hc hv;have v:=Dz (c,j) (ip L);unfold kC at v;dsimp only at v;cases hk:look (ip L) (c,j) with
  |none=>
   rw[hk] at v;refine⟨some (.d .aI),?_⟩;cases h1:(X.map (·.1)).contains w.bag with
   |true=>
    rw[h1] at i;simp only[↓ev,hm,hv,v,aP,hn,i,lG,aK]
   |false=>
    rw[h1] at i;simp only[↓ev,hm,hv,v,aP,hn,i,mV,aK,nn,Be]
  |some o=>
   rw[hk] at v;refine⟨some (.d (.str o)),?_⟩;cases h1:(X.map (·.1)).contains w.bag with
   |true=>
    rw[h1] at i;simp only[↓ev,hm,hv,v,aP,hn,i,lG,aK]
   |false=>
    rw[h1] at i;have i2:=BZ (W:=X) (b:=o);have h2:(X.map (·.1)).contains o=false:=by
     rw[y8];intro z;exact hc o ⟨λy=>(by rw[jv.mpr y] at h1;cases h1),hk,jv.mp z⟩
    rw[h2] at i2;simp only[↓ev,hm,hv,v,aP,hn,i,mV,aK,i2]
theorem e6s(hv:aT (cD G L) (.inr w.bag)=some (gD (G w)))(hm:t[m]?=some (.o (.aB (gA (ip L)))))(hn:t[n]?=some (.o (.aB (cA X)))){o:Str}(hc:kF G L X w o)(hl:X.length<1000):zu 0 [g0,some (.d (.aB (cD G L))),some (.c n),some (.c m),some (.d (.str w.bag)),a5,a6,a7,some (.d (.bl gr)),a9] ⟨t,rr⟩=some (.nx [g0,some (.d (.aB (cD G L))),some (.c n),some (.c m),some (.d (.str w.bag)),a5,a6,a7,some (.d (.bl true)),some (.d (.str o))] ⟨t.set n (.o (.aB (cA (X++[(w.bag,DE o)])))),rr⟩):=by
 have i:=BZ (W:=X) (b:=w.bag);have i2:=BZ (W:=X) (b:=o);obtain⟨c1,c2,c3⟩:=hc;rw[show(X.map (·.1)).contains w.bag=false by rw[y8];exact λz=>c1 (jv.mp z)] at i
 rw[jv.mpr c3] at i2;have hp:=KR (y:=DE o) c1;have ny:((cA X).length<1000000)=True:=bJ (by unfold cA;rw[oo];lia)
 have lt:(n<t.length)=True:=bJ (eQ.mp hn).1;unfold hold at c2;unfold zu;generalize G w=p at *;obtain⟨c,j⟩:=p;cases j with
 |none=>cases c2
 |some j=>
  unfold gD at hv;dsimp only at c2 hv;have v:=Dz (c,j) (ip L);unfold kC at v;dsimp only at v;rw[c2] at v;unfold DE at hp ⊢;simp only[↓ev,hm,hv,v,aP,hn,i,mV,aK,i2,ny,hp]
end
variable{X:List (Str×D)}{w:Row}{L:List Row}
noncomputable def nk(X:List (Str×D))(w:Row):Bool := !(X.map (·.1)).contains w.bag
theorem nC:nk X w=true↔w.bag∉X.map (·.1):=by
 unfold nk;rw[Bool.not_eq_true',y8,ne_eq,jv]
def mu(L:List Row)(X:List (Str×D)):Nat:=(L.filter (nk X)).length
theorem d9w{y:D}(hw:w∈L)(h:w.bag∉X.map (·.1)):mu L (X++[(w.bag,y)])<mu L X:=by
 unfold mu;have e:L.filter (nk (X++[(w.bag,y)]))=(L.filter (nk X)).filter λz=>decide (z.bag≠w.bag):=by
  rw[List.filter_filter];refine List.filter_congr λz _=>?_
  rw[Ba,nC,eP,nC,y9a,dB,dr,List.map_singleton,lz];exact⟨λz=>⟨λy=>z (.inr y),λy=>z (.inl y)⟩,λz y=>y.elim z.2 z.1⟩
 rw[e,List.length_filter_lt_length_iff_exists];exact⟨w,sE.mpr ⟨hw,nC.mpr h⟩,by simp⟩
theorem lL.uR{G:Row->Goal}{W:List (Str×D)}(a:lL G L W X):X.length+mu L X<=W.length+mu L W:=by
 induction a with
 |base=>exact bM _
 |@step X w o _ hw hc ih=>
  have:=d9w (y:=DE o) hw hc.1;rw[du];simp;lia
theorem SI:mu L X<=L.length:=y6 _ _
section
variable{S:aO}{n m:Nat}{G:Row->Goal}{L:List Row}{w:Row}{W X:List (Str×D)}{a4 a5 a6 a7 a9 g0:ak Val}{t rr:List Cell}
theorem Y2(nd:(L.map Row.bag).Nodup)(hl:L.length<100)(hX:X.length<200)(nm:n≠m)(hm:t[m]?=some (.o (.aB (gA (ip L)))))(hn:t[n]?=some (.o (.aB (cA X)))):∃X' gr b4 b9,lL G L X X'/\(gr=true->X.length<X'.length)/\(gr=false->X'=X/\∀w∈L,∀o,¬kF G L X w o)/\aH (af 4) (zu 0) (dS (L.map Row.bag)) [g0,some (.d (.aB (cD G L))),some (.c n),some (.c m),a4,a5,a6,a7,some (.d (.bl false)),a9] ⟨t,rr⟩=some (.nx [g0,some (.d (.aB (cD G L))),some (.c n),some (.c m),b4,a5,a6,a7,some (.d (.bl gr)),b9] ⟨t.set n (.o (.aB (cA X'))),rr⟩):=by
 have lt:=(eQ.mp hn).1;rw[show dS (L.map Row.bag)=L.map λw=>.str w.bag by unfold dS;rw[fJ];rfl]
 obtain⟨U',S',e,X',gr,b4,b9,rfl,rfl,i1,i2,i3⟩:=lB (gg:=af 4) (body:=zu 0) (f:=λw:Row=>.str w.bag) (U:=[g0,some (.d (.aB (cD G L))),some (.c n),some (.c m),a4,a5,a6,a7,some (.d (.bl false)),a9]) (S:=⟨t,rr⟩) (λpre U S'=>∃X' gr b4 b9,U=[g0,some (.d (.aB (cD G L))),some (.c n),some (.c m),b4,a5,a6,a7,some (.d (.bl gr)),b9]/\S'=⟨t.set n (.o (.aB (cA X'))),rr⟩/\lL G L X X'/\(gr=true->X.length<X'.length)/\(gr=false->X'=X/\∀w∈pre,∀o,¬kF G L X w o)) L ⟨X,false,_,_,rfl,by rw[Y1 hn],.base,λz=>(by cases z),λ_=>⟨rfl,λw m=>(by cases m)⟩⟩ (by
  rintro d w post eq U S' ⟨X',gr,b4,b9,rfl,rfl,i1,i2,i3⟩;have hw:w∈L:=by rw[eq];simp
  have hv:aT (cD G L) (.inr w.bag)=some (gD (G w)):=lP nd hw;have Tf:(t.set n (.o (.aB (cA X'))))[m]?=some (.o (.aB (gA (ip L)))):=by rw[Cm nm];exact hm
  have HZ:(t.set n (.o (.aB (cA X'))))[n]?=some (.o (.aB (cA X'))):=xA lt;have tt:=i1.uR;have ml:=SI (L:=L) (X:=X);by_cases hc:∃o,kF G L X' w o
  .obtain⟨o,hc⟩:=hc;refine⟨_,_,_,rfl,.inl (e6s hv Tf HZ hc (by lia)),_,true,_,_,rfl,by rw[IM],.step i1 hw hc,λ_=>?_,λz=>(by cases z)⟩
   have:=(lL.step i1 hw hc).uR;rw[du];have h2:X.length<=X'.length:=by
    cases gr with
    |true=>have:=i2 rfl;lia
    |false=>rw[(i3 rfl).1];exact bM _
   simp;lia
  .obtain⟨c9,e⟩:=e8y (gr:=gr) (a5:=a5) (a6:=a6) (a7:=a7) (a9:=b9) (g0:=g0) (rr:=rr) hv Tf HZ λo z=>hc ⟨o,z⟩
   refine⟨_,_,_,rfl,.inl e,X',gr,_,_,rfl,rfl,i1,i2,λz=>⟨(i3 z).1,λw' mw o co=>?_⟩⟩
   rcases dr.mp mw with mw|mw
   .exact(i3 z).2 w' mw o co
   .rw[lz.mp mw] at co;exact hc ⟨o,by rw[(i3 z).1];exact co⟩)
 exact⟨X',gr,b4,b9,i1,i2,i3,e⟩
theorem Y3(nd:(L.map Row.bag).Nodup)(hl:L.length<100)(hX:X.length<200)(nm:n≠m)(hm:t[m]?=some (.o (.aB (gA (ip L)))))(hn:t[n]?=some (.o (.aB (cA X)))){a8:ak Val}:∃X' gr b4 b9,lL G L X X'/\(gr=true->X.length<X'.length)/\(gr=false->X'=X/\∀w∈L,∀o,¬kF G L X w o)/\FY 0 [g0,some (.d (.aB (cD G L))),some (.c n),some (.c m),a4,a5,a6,a7,a8,a9] ⟨t,rr⟩=some (.nx [g0,some (.d (.aB (cD G L))),some (.c n),some (.c m),b4,a5,a6,a7,some (.d (.bl gr)),b9] ⟨t.set n (.o (.aB (cA X'))),rr⟩):=by
 obtain⟨X',gr,b4,b9,i1,i2,i3,e⟩:=Y2 (G:=G) (a4:=a4) (a5:=a5) (a6:=a6) (a7:=a7) (a9:=a9) (g0:=g0) (rr:=rr) nd hl hX nm hm hn;refine⟨X',gr,b4,b9,i1,i2,i3,?_⟩;have k:(cD G L).map (·.1.d)=dS (L.map Row.bag):=Q5
 unfold FY;simp only[↓ev,aP,k,i9,e]
theorem Pm(nd:(L.map Row.bag).Nodup)(hl:L.length<100)(nm:n≠m):∀(f:Nat) {X:List (Str×D)} {t:List Cell} {a4 a9:ak Val},X.length+mu L X<200->mu L X+2<=f->t[m]?=some (.o (.aB (gA (ip L))))->t[n]?=some (.o (.aB (cA X)))->∃X' b4 b9,lL G L X X'/\(∀w∈L,∀o,¬kF G L X' w o)/\cS (cZ (uc 8)) (FY 0) f [g0,some (.d (.aB (cD G L))),some (.c n),some (.c m),a4,a5,a6,a7,some (.d (.bl true)),a9] ⟨t,rr⟩=some (.nx [g0,some (.d (.aB (cD G L))),some (.c n),some (.c m),b4,a5,a6,a7,some (.d (.bl false)),b9] ⟨t.set n (.o (.aB (cA X'))),rr⟩)
 |0,X,t,a4,a9,h1,h2,hm,hn=>by lia
 |f+1,X,t,a4,a9,h1,h2,hm,hn=>by
  have lt:=(eQ.mp hn).1;obtain⟨X',gr,b4,b9,i1,i2,i3,e⟩:=Y3 (G:=G) (a4:=a4) (a5:=a5) (a6:=a6) (a7:=a7) (a8:=some (.d (.bl true))) (a9:=a9) (g0:=g0) (rr:=rr) nd hl (by lia) nm hm hn
  have tt:=i1.uR;cases gr with
  |true=>
   have l1:=i2 rfl;obtain⟨Y,c4,c9,j1,j2,e2⟩:=Pm nd hl nm f (X:=X') (t:=t.set n (.o (.aB (cA X')))) (a4:=b4) (a9:=b9) (by lia) (by lia) (by rw[Cm nm];exact hm) (xA lt)
   rw[IM] at e2;refine⟨Y,c4,c9,i1.trans j1,j2,?_⟩;unfold cS;simp only[↓ev,e,e2]
  |false=>
   obtain⟨j1,j2⟩:=i3 rfl;subst j1;obtain⟨f',rfl⟩:∃f',f=f'+1:=⟨f - 1,by lia⟩
   refine⟨X',b4,b9,i1,j2,?_⟩;unfold cS;simp only[↓ev,e];rfl
end
section
variable{S:aO}{n:Nat}{G:Row->Goal}{L:List Row}{W:List (Str×D)}{g0 g1 g2:ak Val}{t rr:List Cell}
theorem d9x(un:(L.map λw=>(w.b,w.i)).Nodup)(hl:L.length<100)(t:List Cell):∃b4 b5 b6 b7,aH (bF [(af 4),(af 5),(af 6),(af 7)]) (CH 0) (L.map aU) [g0,g1,g2,some (.c t.length),none,none,none,none,none,none] ⟨t++[.o (.aB [])],rr⟩=some (.nx [g0,g1,g2,some (.c t.length),b4,b5,b6,b7,none,none] ⟨t++[.o (.aB (gA (ip L)))],rr⟩):=by
 obtain⟨U',S',e,⟨b4,b5,b6,b7,rfl⟩,rfl⟩:=lB (gg:=bF [(af 4),(af 5),(af 6),(af 7)]) (body:=CH 0) (f:=aU) (U:=[g0,g1,g2,some (.c t.length),none,none,none,none,none,none]) (S:=⟨t++[.o (.aB [])],rr⟩) (λpre U S'=>(∃b4 b5 b6 b7,U=[g0,g1,g2,some (.c t.length),b4,b5,b6,b7,none,none])/\S'=⟨t++[.o (.aB (gA (ip pre)))],rr⟩) L ⟨⟨_,_,_,_,rfl⟩,rfl⟩ (by
  rintro d w post eq U S' ⟨⟨b4,b5,b6,b7,rfl⟩,rfl⟩;have hd:d.length<100:=by
   grind
  have hk:(w.b,w.i)∉d.map λw=>(w.b,w.i):=by
   rw[eq,dB,bQ] at un;exact λm=>(jS.mp un).2.2 _ m _ (.head _) rfl
  refine⟨_,_,_,rfl,.inl (e6p eS (by lia) hk),⟨_,_,_,_,rfl⟩,?_⟩
  rw[km];rfl)
 exact⟨b4,b5,b6,b7,e⟩
theorem Y4(hn:n<S.s.length)(nd:(L.map Row.bag).Nodup)(un:(L.map λw=>(w.b,w.i)).Nodup)(hl:L.length<100)(Lx:W.length<100):∃X,lL G L W X/\(∀w∈L,∀o,¬kF G L X w o)/\F3 0 [.d (.lst (L.map aU)),.d (.aB (cD G L)),.c n] (tw S n W)=some (.ok (rd .aI) (tw S n X)):=by
 have ta:=K9 (W:=W) hn;have jl:n<(S.s.set n (.o (.aB (cA W)))).length:=by rw[nW];exact hn
 obtain⟨b4,b5,b6,b7,e1⟩:=d9x (g0:=some (.d (.lst (L.map aU)))) (g1:=some (.d (.aB (cD G L)))) (g2:=some (.c n)) (rr:=S.r) un hl (S.s.set n (.o (.aB (cA W))));have ml:=SI (L:=L) (X:=W);obtain⟨X,c4,c9,i1,i2,e2⟩:=Pm (G:=G) (n:=n) (m:=(S.s.set n (.o (.aB (cA W)))).length) (g0:=some (.d (.lst (L.map aU)))) (a5:=b5) (a6:=b6) (a7:=b7) (rr:=S.r) nd hl (by lia) 1000 (X:=W) (t:=S.s.set n (.o (.aB (cA W)))++[.o (.aB (gA (ip L)))]) (a4:=b4) (a9:=none) (by lia) (by lia) eS (by rw[xF jl];exact ta)
 refine⟨X,i1,i2,?_⟩;rw[List.set_append_left _ _ jl,KS] at e2;have cu:aO.cut ⟨S.s.set n (.o (.aB (cA X)))++[.o (.aB (gA (ip L)))],S.r⟩ (S.s.set n (.o (.aB (cA W)))).length=tw S n X:=by
  unfold aO.cut;dsimp only;rw[nW,List.take_append_of_le_length (by rw[nW];exact bM _),vD (by rw[nW];exact bM _)]
 unfold F3 NZ;simp only[↓ev,aP,i9,e1,e2,cu]
end
variable{a bag o:Str}{x j gn:Int}{z:Row}
theorem B1{b:Str}{y:Int}:aR (pl a x) (pl b y)=(a == b&&(x == y)):=by
 show cR [.str a,.int x] [.str b,.int y]=_;simp[cR,eY,ib]
theorem Il:c7 40 (pl a x)=true:=rfl
noncomputable def fF(bag o:Str)(j gn:Int)(z:Row):Row:=if z.bag=bag then{ z with b:=o,i:=j,gn:=gn} else z
theorem GW:(fF bag o j gn z).bag=z.bag:=by unfold fF;split <;> rfl
theorem d9y:(fF bag o j gn z).fl=z.fl:=by unfold fF;split <;> rfl
theorem pJ{α β:Type}{f:α->β}{l:List α}(nd:(l.map f).Nodup){a b:α}(ha:a∈l)(hb:b∈l)(e:f a=f b):a=b:=by
 induction l with
 |nil=>cases ha
 |cons z l ih=>
  rw[bQ,qo] at nd;rcases y04.mp ha with e1|ha
  .rcases y04.mp hb with e2|hb
   .rw[e1,e2]
   .exact b_ (j_ (f:=f) hb) (by rw[<-e,e1];exact nd.1)
  .rcases y04.mp hb with e2|hb
   .exact b_ (j_ (f:=f) ha) (by rw[e,e2];exact nd.1)
   .exact ih nd.2 ha hb
section
variable{rows:List Row}{bag o:Str}{j gn:Int}{w:Row}
theorem Sm(nb:(rows.map Row.bag).Nodup)(hb:bag∈rows.map Row.bag):bU (gP rows) (.inr bag) (pl o j)=gP (rows.map (fF bag o j gn)):=by
 unfold gP;rw[Dy nb hb];unfold td;rw[fJ];refine pH λz _=>?_
 dsimp only[Function.comp];rw[GW];unfold fF;split <;> rfl
theorem e6u(nb:(rows.map Row.bag).Nodup)(hb:bag∈rows.map Row.bag):bU (lF rows) (.inr bag) (.int gn)=lF (rows.map (fF bag o j gn)):=by
 unfold lF;rw[Dy nb hb];unfold td;rw[fJ];refine pH λz _=>?_
 dsimp only[Function.comp];rw[GW];unfold fF;split <;> rfl
theorem d9z(nb:(rows.map Row.bag).Nodup)(hw:w∈rows):lF (rows.map (fF w.bag o j w.gn))=lF rows:=by
 unfold lF td;rw[fJ];refine pH λz mz=>?_
 dsimp only[Function.comp];rw[GW];unfold fF;split
 .rename_i e
  rw[pJ nb mz hw e]
 .rfl
theorem Sn:ik (rows.map (fF bag o j gn))=ik rows:=by
 unfold ik td;rw[fJ];refine pH λz _=>?_
 dsimp only[Function.comp];rw[GW,d9y]
end
section
variable{s:List Cell}{h:aA}{r:Int}{x:Hl}{w:Row}{bt:ao}{o c:Str}{j:Int}
noncomputable def jr(bt:ao)(i:Int)(o:Str)(j:Int):Bool:=bt.ring&&((i == bt.long - 1)&&(o == bt.name&&(j == 0)))
theorem e6v(g:ax h)(nb:(x.rows.map Row.bag).Nodup)(hw:w∈x.rows)(hb:bt∈h.ae)(eb:bt.name=w.b)(hl:x.rows.length<1000):xO 0 [.d (.ref 0),.d (.str w.bag),.d (pl o j)] (hS (aE h) r x s)=some (.ok (rd .aI) (hS (aE h) r { x with rows:=x.rows.map (fF w.bag o j (if jr bt w.i o j=true then w.gn+1 else w.gn))} s)):=by
 have e:=BF g hb;have hB:aq bt=.tup [.str bt.name,.int bt.long,.bl bt.ring,.lst (dS bt.outs)]:=rfl;rw[hB] at e;have hm:=j_ (f:=Row.bag) hw;have h1:aT (gP x.rows) (.inr w.bag)=_:=lP nb hw;have h2:aT (lF x.rows) (.inr w.bag)=_:=lP nb hw;have l1:((gP x.rows).length<1000000)=True:=bJ (by unfold gP;rw[oo];lia)
 have l2:((lF x.rows).length<1000000)=True:=bJ (by unfold lF;rw[oo];lia)
 rw[<-eb] at h1;generalize aE h=hd at *;have yes:jr bt w.i o j=true->xO 0 [.d (.ref 0),.d (.str w.bag),.d (pl o j)] (hS hd r x s)=some (.ok (rd .aI) (hS hd r { x with rows:=x.rows.map (fF w.bag o j (if jr bt w.i o j=true then w.gn+1 else w.gn))} s)):=λhc=>by
  rw[aX hc];have p1:=Sm (o:=o) (j:=j) (gn:=w.gn+1) nb hm;have p2:=e6u (o:=o) (j:=j) (gn:=w.gn+1) nb hm;have p3:=Sn (rows:=x.rows) (bag:=w.bag) (o:=o) (j:=j) (gn:=w.gn+1);unfold jr at hc;rw[eP,eP] at hc;obtain⟨c1,c2,c3⟩:=hc;unfold xO JA;rw[c1] at e;simp only[↓ev,hS,hR,kB,lA,aP,h1,nR,oh,cy,e,jj,cV,Il,aK,B1,eL,c2,c3,BA,CV,h2,l2,p2,l1,p1,cq,p3]
 have no:jr bt w.i o j=false->xO 0 [.d (.ref 0),.d (.str w.bag),.d (pl o j)] (hS hd r x s)=some (.ok (rd .aI) (hS hd r { x with rows:=x.rows.map (fF w.bag o j (if jr bt w.i o j=true then w.gn+1 else w.gn))} s)):=λhc=>by
  rw[aM (by rw[hc];decide)]
  have p1:=Sm (o:=o) (j:=j) (gn:=w.gn) nb hm;have p2:=d9z (o:=o) (j:=j) nb hw;have p3:=Sn (rows:=x.rows) (bag:=w.bag) (o:=o) (j:=j) (gn:=w.gn);unfold jr at hc;unfold xO JA;cases er:bt.ring with
  |false=>
   rw[er] at e;simp only[↓ev,hS,hR,kB,lA,aP,h1,nR,oh,cy,e,jj,aK,l1,p1,cq,p3,p2]
  |true=>
   rw[er] at e hc;rw[Bool.true_and] at hc;cases c2:(w.i == bt.long - 1) with
   |false=>simp only[↓ev,hS,hR,kB,lA,aP,h1,nR,oh,cy,e,jj,cV,Il,aK,B1,eL,c2,l1,p1,cq,p3,p2]
   |true=>
    rw[c2,Bool.true_and] at hc;simp only[↓ev,hS,hR,kB,lA,aP,h1,nR,oh,cy,e,jj,cV,Il,aK,B1,eL,c2,hc,l1,p1,cq,p3,p2]
 cases hc:jr bt w.i o j with
 |true=>have:=yes hc;rw[hc] at this;exact this
 |false=>have:=no hc;rw[hc] at this;exact this
end
section
variable{s:List Cell}{h:aA}{r:Int}{x:Hl}{w:Row}{c:Str}
theorem e6w{l:List (Str×Str×Int)}{b:Str}{nw:Int}(hb:b∉l.map (·.1)):bU (z_ l) (.inr b) (.str c)=z_ (l++[(b,c,nw)]):=by
 unfold z_;rw[Dx hb];unfold td;rw[dB];rfl
theorem e0a{hd:D}(nb:(x.rows.map Row.bag).Nodup)(hw:w∈x.rows)(hg:w.bag∉x.gone.map (·.1))(hl:x.gone.length<2000):CL 0 [.d (.ref 0),.d (.str w.bag),.d (.str c)] (hS hd r x s)=some (.ok (rd .aI) (hS hd r { x with rows:=x.rows.filter λz=>decide (z.bag≠w.bag),gone:=x.gone++[(w.bag,c,x.now)]} s)):=by
 have h1:aT (gP x.rows) (.inr w.bag)=_:=lP nb hw;have h2:aT (lF x.rows) (.inr w.bag)=_:=lP nb hw;have h3:aT (ik x.rows) (.inr w.bag)=_:=lP nb hw;have d1:dy (gP x.rows) w.bag=gP (x.rows.filter λz=>decide (z.bag≠w.bag)):=Dp
 have d2:dy (lF x.rows) w.bag=lF (x.rows.filter λz=>decide (z.bag≠w.bag)):=Dp
 have d3:dy (ik x.rows) w.bag=ik (x.rows.filter λz=>decide (z.bag≠w.bag)):=Dp
 have p1:=e6w (c:=c) (nw:=x.now) hg;have l1:((z_ x.gone).length<1000000)=True:=bJ (by unfold z_;rw[oo];lia)
 have l2:((vj x.gone).length<1000000)=True:=bJ (by unfold vj;rw[bh];lia)
 have p2:vj x.gone++[.tup [.str w.bag,.str c,.int x.now]]=vj (x.gone++[(w.bag,c,x.now)]):=by unfold vj;rw[dB];rfl
 have t1:gu (gP x.rows)=true:=zT;have t2:gu (lF x.rows)=true:=zT;have t3:gu (ik x.rows)=true:=zT;generalize aL w.fl=ff at *;unfold CL Oa;simp only[↓ev,hS,hR,kB,lA,aP,t1,h1,d1,qy,rF,t3,h3,d3,BA,CV,t2,h2,d2,u9,vQ,l1,p1,Ku,Q6,Hx,KO,l2,p2,cq]
end
variable{z:Row}
def i6(h:aA)(G:Row->Goal)(z:Row):ak Row:=match(G z).2 with
 |none=>none
 |some j=>some { z with b:=(G z).1,i:=j,gn:=match findB h.ae z.b with
  |none=>z.gn
  |some bt=>if jr bt z.i (G z).1 j=true then z.gn+1 else z.gn}
def iB(h:aA)(G:Row->Goal)(p:Row->Bool)(rows:List Row):List Row:=rows.filterMap λz=>if p z=true then i6 h G z else some z
noncomputable def fD(G:Row->Goal)(nw:Int)(w:Row):ak (Str×Str×Int):=match(G w).2 with
 |none=>some (w.bag,(G w).1,nw)
 |some _=>none
def gb(h:aA)(G:Row->Goal)(p:Row->Bool)(M:List Row)(x:Hl):Hl:={ x with now:=x.now+1,rows:=iB h G p x.rows,gone:=x.gone++M.filterMap (fD G (x.now+1))}
section
variable{s:List Cell}{h:aA}{r:Int}{x:Hl}{w:Row}{G:Row->Goal}{p p':Row->Bool}{rows:List Row}
theorem Qo{α β:Type}{f g:α->ak β}{l:List α}(h:∀x∈l,f x=g x):l.filterMap f=l.filterMap g:=by
 induction l with
 |nil=>rfl
 |cons x l ih=>rw[pP,pP,h x (.head _),ih λy m=>h y (.tail _ m)]
theorem Hc{z':Row}(e:i6 h G z=some z'):z'.bag=z.bag/\z'.fl=z.fl:=by
 unfold i6 at e;split at e
 .cases e
 .cases e;exact⟨rfl,rfl⟩
theorem GX(p:Row->Bool)(rows:List Row):((iB h G p rows).map Row.bag).Sublist (rows.map Row.bag):=by
 unfold iB
 induction rows with
 |nil=>exact .slnil
 |cons z rows ih=>
  rw[pP,bQ];split
  .exact .cons _ ih
  .rename_i b hb
   split at hb
   .rw[bQ,(Hc hb).1];exact ih.cons₂ _
   .cases hb;exact ih.cons₂ _
theorem Rg(hz:z∈rows)(hp:p z=false):z∈iB h G p rows:=pG.mpr ⟨z,hz,by rw[hp];rfl⟩
theorem e0b(nb:(rows.map Row.bag).Nodup)(hw:w∈rows)(hp:p w=false)(LS:∀z,p' z=(p z || z.bag == w.bag))(hG:(G w).2=none):(iB h G p rows).filter (λz=>decide (z.bag≠w.bag))=iB h G p' rows:=by
 unfold iB;rw[List.filter_filterMap];refine Qo λz mz=>?_
 rw[LS z];by_cases e:z.bag=w.bag
 .have ez:=pJ nb mz hw e;subst ez;rw[hp,eL,IP,aM (by decide),aX rfl,show i6 h G z=none by unfold i6;rw[hG]]
  show Option.filter _ (some z)=none;unfold Option.filter;simp
 .rw[show(z.bag == w.bag)=false by rw[nQ];exact e,IG]
  split
  .cases em:i6 h G z with
   |none=>rfl
   |some z'=>
    unfold Option.filter;dsimp only;exact aX (sd (by rw[(Hc em).1];exact e))
  .unfold Option.filter;dsimp only;exact aX (sd e)
theorem e6x(nb:(rows.map Row.bag).Nodup)(hw:w∈rows)(hp:p w=false)(LS:∀z,p' z=(p z || z.bag == w.bag)){j:Int}(hG:(G w).2=some j){bt:ao}(hb:findB h.ae w.b=some bt):(iB h G p rows).map (fF w.bag (G w).1 j (if jr bt w.i (G w).1 j=true then w.gn+1 else w.gn))=iB h G p' rows:=by
 obtain⟨gv,Ta⟩:∃gv,(if jr bt w.i (G w).1 j=true then w.gn+1 else w.gn)=gv:=⟨_,rfl⟩
 rw[Ta];unfold iB;rw[List.map_filterMap];refine Qo λz mz=>?_
 rw[LS z];by_cases e:z.bag=w.bag
 .have ez:=pJ nb mz hw e;subst ez;rw[hp,eL,IP,aM (by decide),aX rfl]
  unfold i6 fF;rw[hG,hb,FC,aX rfl];dsimp only;rw[Ta]
 .rw[show(z.bag == w.bag)=false by rw[nQ];exact e,IG]
  split
  .cases em:i6 h G z with
   |none=>rfl
   |some z'=>
    rw[FC];unfold fF;rw[aM (by rw[(Hc em).1];exact e)]
  .rw[FC];unfold fF;rw[aM e]
end
variable{S2:aO}{hd:D}
noncomputable def k7(d:List Row)(z:Row):Bool:=(d.map Row.bag).contains z.bag
noncomputable def pO(G:Row->Goal)(w:Row):D:=.tup [.str w.bag,gD (G w)]
section
variable{s:List Cell}{h:aA}{r:Int}{x:Hl}{w:Row}{G:Row->Goal}{n:Nat}{M:List Row}{g1 a2 a3:ak Val}
theorem e8z{j:Int}(hG:(G w).2=some j)(e:xO 0 [.d (.ref 0),.d (.str w.bag),.d (pl (G w).1 j)] (hS hd r x s)=some (.ok (rd .aI) S2)):zz 0 [some (.d (.ref 0)),g1,some (.d (.str w.bag)),some (.d (gD (G w)))] (hS hd r x s)=some (.nx [some (.d (.ref 0)),g1,some (.d (.str w.bag)),some (.d (gD (G w)))] S2):=by
 have e1:gD (G w)=pl (G w).1 j:=by unfold gD;generalize G w=p at *;obtain⟨c,i⟩:=p;cases hG;rfl
 rw[e1];unfold zz;simp only[↓ev,Ie,hR,cU,VH,e]
theorem e6y(hG:(G w).2=none)(e:CL 0 [.d (.ref 0),.d (.str w.bag),.d (.str (G w).1)] (hS hd r x s)=some (.ok (rd .aI) S2)):zz 0 [some (.d (.ref 0)),g1,some (.d (.str w.bag)),some (.d (gD (G w)))] (hS hd r x s)=some (.nx [some (.d (.ref 0)),g1,some (.d (.str w.bag)),some (.d (gD (G w)))] S2):=by
 have e1:gD (G w)=.str (G w).1:=by unfold gD;generalize G w=p at *;obtain⟨c,i⟩:=p;cases hG;rfl
 rw[e1];unfold zz;simp only[↓ev,L6,aK,hR,cU,U9,e]
theorem Qp(d:List Row)(w z:Row):k7 (d++[w]) z=(k7 d z || z.bag == w.bag):=by
 unfold k7;rw[Ba,Nw,jv,jv,beq_iff_eq,dB,dr,List.map_singleton,lz]
theorem e0c(g:ax h)(o:Ok h n x)(hM:∀w∈M,w∈x.rows)(nM:(M.map Row.bag).Nodup)(S6:M.length<=x.rows.length)(hn:n<1000):∃b2 b3,aH (bF [(af 2),(af 3)]) (zz 0) (M.map (pO G)) [some (.d (.ref 0)),g1,none,none] (hS (aE h) r { x with now:=x.now+1} s)=some (.nx [some (.d (.ref 0)),g1,b2,b3] (hS (aE h) r (gb h G (k7 M) M x) s)):=by
 obtain⟨U',S',e,⟨b2,b3,rfl⟩,rfl⟩:=lB (gg:=bF [(af 2),(af 3)]) (body:=zz 0) (f:=pO G) (U:=[some (.d (.ref 0)),g1,none,none]) (S:=hS (aE h) r { x with now:=x.now+1} s) (λpre U S'=>(∃b2 b3,U=[some (.d (.ref 0)),g1,b2,b3])/\S'=hS (aE h) r (gb h G (k7 pre) pre x) s) M ⟨⟨_,_,rfl⟩,by
   have e1:gb h G (k7 []) [] x={ x with now:=x.now+1}:=by
    unfold gb iB;rw[Cs,lY,show(λz:Row=>if k7 [] z=true then i6 h G z else some z)=some from funext λz=>by rw[aM (by unfold k7;simp)],List.filterMap_some]
   rw[e1]⟩ (by
  rintro d w post eq U S' ⟨⟨b2,b3,rfl⟩,rfl⟩;have hw:w∈x.rows:=hM w (by rw[eq];simp)
  have To:w.bag∉d.map Row.bag:=Kg eq nM;have hp:k7 d w=false:=by unfold k7;rw[y8];exact λz=>To (jv.mp z)
  have nb:((gb h G (k7 d) d x).rows.map Row.bag).Nodup:=o.nb.sublist (GX _ _);have Tn:w∈(gb h G (k7 d) d x).rows:=Rg hw hp;have ll:(gb h G (k7 d) d x).rows.length<=x.rows.length:=by
   have:=(GX (h:=h) (G:=G) (k7 d) x.rows).length_le;rw[bh,bh] at this;exact this
  have rl:=o.rl;have sz:=o.sz;obtain⟨bt,hb,eb,_⟩:=(o.rw w hw).1;have fb:=C0 g hb;rw[eb] at fb;cases hG:(G w).2 with
  |some j=>
   refine⟨_,_,_,rfl,.inl (e8z hG (e6v g nb Tn hb eb (by lia))),⟨_,_,rfl⟩,?_⟩
   unfold gb;dsimp only;rw[e6x o.nb hw hp (Qp d w) hG fb,NO,show List.filterMap (fD G (x.now+1)) [w]=[] by rw[pP,Cs];unfold fD;rw[hG],lY]
  |none=>
   have hgd:w.bag∉(gb h G (k7 d) d x).gone.map (·.1):=by
    unfold gb;dsimp only;rw[dB,dr];rintro(z|z)
    .exact(jS.mp o.nd).2.2 _ (j_ hw) _ z rfl
    .obtain⟨q,hq,e1⟩:=dZ.mp z;obtain⟨u,hu,e2⟩:=pG.mp hq;unfold fD at e2;split at e2
     .cases e2;exact To (by rw[<-e1];exact j_ hu)
     .cases e2
   have Eb:(gb h G (k7 d) d x).gone.length<2000:=by
    grind [gb]
   refine⟨_,_,_,rfl,.inl (e6y hG (e0a nb Tn hgd Eb)),⟨_,_,rfl⟩,?_⟩;unfold gb;dsimp only;rw[e0b o.nb hw hp (Qp d w) hG,NO,show List.filterMap (fD G (x.now+1)) [w]=[(w.bag,(G w).1,x.now+1)] by rw[pP,Cs];unfold fD;rw[hG],l0])
 exact⟨b2,b3,e⟩
end
section
variable{s:List Cell}{h:aA}{r:Int}{x:Hl}{w:Row}{G:Row->Goal}{n m:Nat}{M L:List Row}{X:List (Str×D)}{hd:D}
theorem hlen{nw':Int}{m:Nat}:Nat.blt (hF hd r nw' m).length 1000=true:=rfl
theorem e6z(g:ax h)(o:Ok h n x)(hM:∀w∈M,w∈x.rows)(nM:(M.map Row.bag).Nodup)(S6:M.length<=x.rows.length)(hn:n<1000)(hs:s[m]?=some (.o (.lst (M.map (pO G))))):GP 0 [.d (.ref 0),.c m] (hS (aE h) r x s)=some (.ok (rd .aI) (hS (aE h) r (gb h G (k7 M) M x) (s.set m (.z (.lst (M.map (pO G))))))):=by
 obtain⟨b2,b3,e⟩:=e0c (G:=G) (r:=r) (s:=s.set m (.z (.lst (M.map (pO G))))) (g1:=some (.c m)) g o hM nM S6 hn;generalize M.map (pO G)=ml at *;generalize aE h=hd at *;unfold GP P4;simp only[↓ev,hS,hR,Hx,KO,eL,hlen,e5x,hs,i9,e,Rz]
noncomputable def iZ(X:List (Str×D))(G:Row->Goal)(w:Row):D:=match X.find? λp=>p.1 == w.bag with
 |some p=>.tup [.str w.bag,pl w.b w.i,pl w.b w.i,p.2]
 |none=>.tup [.str w.bag,pl w.b w.i,gD (G w),.aI]
abbrev tS(hd:D)(r:Int)(x:Hl)(s:List Cell)(X:List (Str×D))(lg mv:List D):aO:=⟨s++[.o (.aB (cA X)),.o (.lst lg),.o (.lst mv)],hR hd r x⟩
theorem Rh(X:List (Str×D))(w:Row):(X.find? (λp=>p.1 == w.bag)=none/\nk X w=true/\aT (cA X) (.inr w.bag)=none)\/∃p,X.find? (λp=>p.1 == w.bag)=some p/\nk X w=false/\aT (cA X) (.inr w.bag)=some p.2:=by
 have v:aT (cA X) (.inr w.bag)=_:=Dw w.bag X;have i:=BZ (W:=X) (b:=w.bag);rw[v] at i ⊢;unfold nk;rw[<-i];cases X.find? (λp=>p.1 == w.bag) with
 |none=>exact .inl ⟨rfl,rfl,rfl⟩
 |some p=>exact .inr ⟨p,rfl,rfl,rfl⟩
theorem e7a{lg mv:List D}{g1:ak Val}(hv:aT (cD G L) (.inr w.bag)=some (gD (G w)))(l1:lg.length<1000)(l2:mv.length<1000):Dc 0 [some (.d (.ref 0)),g1,some (.d (.aB (cD G L))),some (.c s.length),some (.c (s.length+1)),some (.c (s.length+2)),some (.d (.str w.bag)),some (.d (aL w.fl)),some (.d (pl w.b w.i)),some (.d (.int w.gn))] (tS hd r x s X lg mv)=some (.nx [some (.d (.ref 0)),g1,some (.d (.aB (cD G L))),some (.c s.length),some (.c (s.length+1)),some (.c (s.length+2)),some (.d (.str w.bag)),some (.d (aL w.fl)),some (.d (pl w.b w.i)),some (.d (.int w.gn))] (tS hd r x s X (lg++[iZ X G w]) (if nk X w=true then mv++[pO G w] else mv))):=by
 have Tt:(lg.length<1000000)=True:=bJ (by lia)
 have l2':(mv.length<1000000)=True:=bJ (by lia)
 unfold iZ pO;generalize aL w.fl=ff at *;generalize gD (G w)=gg at *;unfold Dc;rcases Rh X w with⟨e1,e2,e3⟩|⟨p,e1,e2,e3⟩
 .rw[e1,e2,aX rfl];simp only[↓ev,tS,eS,aK,e3,Be,GK,hv,aP,Tt,MP,l2']
 .rw[e1,e2,aM (by decide)]
  dsimp only;generalize p.2=py at *;simp only[↓ev,tS,eS,aK,e3,y9,GK,aP,Tt,MP]
theorem e0d{g1:ak Val}(nd:(L.map Row.bag).Nodup)(hl:L.length<100):∃a6 a7 a8 a9,aH (bF [(af 6),(af 7),(af 8),(af 9)]) (Dc 0) (L.map aU) [some (.d (.ref 0)),g1,some (.d (.aB (cD G L))),some (.c s.length),some (.c (s.length+1)),some (.c (s.length+2)),none,none,none,none] (tS hd r x s X [] [])=some (.nx [some (.d (.ref 0)),g1,some (.d (.aB (cD G L))),some (.c s.length),some (.c (s.length+1)),some (.c (s.length+2)),a6,a7,a8,a9] (tS hd r x s X (L.map (iZ X G)) ((L.filter (nk X)).map (pO G)))):=by
 obtain⟨U',S',e,⟨a6,a7,a8,a9,rfl⟩,rfl⟩:=lB (gg:=bF [(af 6),(af 7),(af 8),(af 9)]) (body:=Dc 0) (f:=aU) (U:=[some (.d (.ref 0)),g1,some (.d (.aB (cD G L))),some (.c s.length),some (.c (s.length+1)),some (.c (s.length+2)),none,none,none,none]) (S:=tS hd r x s X [] []) (λpre U S'=>(∃a6 a7 a8 a9,U=[some (.d (.ref 0)),g1,some (.d (.aB (cD G L))),some (.c s.length),some (.c (s.length+1)),some (.c (s.length+2)),a6,a7,a8,a9])/\S'=tS hd r x s X (pre.map (iZ X G)) ((pre.filter (nk X)).map (pO G))) L ⟨⟨_,_,_,_,rfl⟩,rfl⟩ (by
  rintro d w post eq U S' ⟨⟨a6,a7,a8,a9,rfl⟩,rfl⟩;have hd:d.length<100:=by
   grind
  have hf:=y6 (nk X) d;refine⟨_,_,_,rfl,.inl (e7a (lP nd (by rw[eq];simp)) (by rw[bh];lia) (by rw[bh];lia)),⟨_,_,_,_,rfl⟩,?_⟩
  rw[dB,List.filter_append,dB,vC,List.filter_nil];cases nk X w with
  |true=>rw[aX rfl,aX rfl];rfl
  |false=>rw[aM (by decide),aM (by decide),xG,lY];rfl)
 exact⟨a6,a7,a8,a9,e⟩
theorem Ri:∀L:List Row,ig (L.map (pO G))=some (cD G L)
 |[]=>rfl
 |w::L=>by
  have ih:=Ri L;rw[bQ];show(k9 (.str w.bag)).bind (λk=>(ig (L.map (pO G))).map ((k,gD (G w))::·))=_
  rw[ih];rfl
theorem e0e(nd:(L.map Row.bag).Nodup):(cD G L).foldl (λa p=>bU a p.1 p.2) []=cD G L:=by
 have key:∀(M N:List Row),((N++M).map Row.bag).Nodup->(cD G M).foldl (λa p=>bU a p.1 p.2) (cD G N)=cD G (N++M):=by
  intro M
  induction M with
  |nil=>intro N _;rw[lY];rfl
  |cons w M ih=>
   intro N nd;have hw:w.bag∉N.map Row.bag:=by
    rw[dB,bQ] at nd;exact λm=>(jS.mp nd).2.2 _ m _ (.head _) rfl
   have e:bU (cD G N) (.inr w.bag) (gD (G w))=cD G (N++[w]):=by
    unfold cD;rw[Dx hw];unfold td;rw[dB];rfl
   show(cD G M).foldl _ (bU (cD G N) (.inr w.bag) (gD (G w)))=_;rw[e,ih (N++[w]) (by rw[l0];exact nd),l0]
   rfl
 exact key L [] nd
end
def jX(h:aA)(r:Int)(x:Hl)(X:List (Str×D)):Prop:=∃C,nY (aj h r x) (ask (aj h r x) (cH (bu h x) (aj h r x) (ord h x.rows)) (ord h x.rows)) C/\lL (aj h r x) (ord h x.rows) (cH (bu h x) (aj h r x) (ord h x.rows)++(ask (aj h r x) (cH (bu h x) (aj h r x) (ord h x.rows)) (ord h x.rows)).filterMap (dq (aj h r x) C)) X/\∀w∈ord h x.rows,∀o,¬kF (aj h r x) (ord h x.rows) X w o
def cf(h:aA)(x:Hl)(X:List (Str×D)):List Row:=(ord h x.rows).filter (nk X)
def bG(h:aA)(r:Int)(x:Hl)(X:List (Str×D)):Hl:=gb h (aj h r x) (k7 (cf h x X)) (cf h x X) x
section
variable{s:List Cell}{h:aA}{r:Int}{x:Hl}{n:Nat}
theorem BQ{s:List Cell}{rr:List Cell}{W W':List (Str×D)}:tw ⟨s++[.o (.aB (cA W))],rr⟩ s.length W'=⟨s++[.o (.aB (cA W'))],rr⟩:=by
 unfold tw;dsimp only;rw[km];rfl
theorem KW(g:ax h)(o:Ok h n x)(hn:n<1000):∃X,jX h r x X/\xY 0 [.d (.ref 0)] (hS (aE h) r x s)=some (.ok (.o (.lst ((ord h x.rows).map (iZ X (aj h r x))))) (hS (aE h) r (bG h r x X) s)):=by
 have rl:=o.rl;have pl:=o.perm.length_eq;have nd:((ord h x.rows).map Row.bag).Nodup:=(o.perm.map _).nodup_iff.mpr o.nb;have un:((ord h x.rows).map λw=>(w.b,w.i)).Nodup:=(o.perm.map _).nodup_iff.mpr o.un
 have e1:=λq s=>vb (s:=s) (r:=r) (q:=q) g o
 have e2:=λs=>YW (s:=s) (r:=r) g o
 have e3:=λq s=>Pl (s:=s) (r:=r) (q:=q) (x:=x) g
 have ln:s.length<(s++[Cell.o (.aB (cA []))]).length:=by rw[du];exact xD _
 have e5:=d9r (S:=⟨s++[.o (.aB (cA []))],hR (aE h) r x⟩) (n:=s.length) (st:=bu h x) (G:=aj h r x) (L:=ord h x.rows) ln nd (by lia)
 rw[BQ,BQ] at e5;have lw:(cH (bu h x) (aj h r x) (ord h x.rows)).length<=(ord h x.rows).length:=IT _ _;obtain⟨C,oC,e6⟩:=d9v (S:=⟨s++[.o (.aB (cA []))],hR (aE h) r x⟩) (n:=s.length) (W:=cH (bu h x) (aj h r x) (ord h x.rows)) (G:=aj h r x) (L:=ord h x.rows) ln nd (by lia) (by lia)
 rw[BQ,BQ] at e6;have ly:((ask (aj h r x) (cH (bu h x) (aj h r x) (ord h x.rows)) (ord h x.rows)).filterMap (dq (aj h r x) C)).length<=(ord h x.rows).length:=i7 (IT _ _) (y6 _ _);obtain⟨X,i1,i2,e7⟩:=Y4 (S:=⟨s++[.o (.aB (cA []))],hR (aE h) r x⟩) (n:=s.length) (W:=cH (bu h x) (aj h r x) (ord h x.rows)++(ask (aj h r x) (cH (bu h x) (aj h r x) (ord h x.rows)) (ord h x.rows)).filterMap (dq (aj h r x) C)) (G:=aj h r x) (L:=ord h x.rows) ln nd un (by lia) (by rw[du];lia)
 rw[BQ,BQ] at e7;obtain⟨a6,a7,a8,a9,e8⟩:=e0d (s:=s) (hd:=aE h) (r:=r) (x:=x) (X:=X) (G:=aj h r x) (L:=ord h x.rows) (g1:=some (.d (.lst ((ord h x.rows).map aU)))) nd (by lia)
 have e4:=e6z (r:=r) (G:=aj h r x) (M:=cf h x X) (m:=s.length+2) (s:=s++[.o (.aB (cA X)),.o (.lst ((ord h x.rows).map (iZ X (aj h r x)))),.o (.lst ((cf h x X).map (pO (aj h r x))))]) g o (λw m=>o.mem.mp (sE.mp m).1) (nd.sublist (List.Sublist.map _ IF)) (by rw[<-pl];exact y6 _ _) hn GK
 rw[MP] at e4;refine⟨X,⟨C,oC,i1,i2⟩,?_⟩;have pw:=Ri (G:=aj h r x) (ord h x.rows);have fg:=e0e (G:=aj h r x) nd;have ll:((cD (aj h r x) (ord h x.rows)).length<1000)=True:=bJ (by unfold cD;rw[oo];lia)
 have ew:(ord h x.rows).map (q9 h r x)=(ord h x.rows).map (pO (aj h r x)):=rfl;have w0:cA []=[]:=rfl;rw[w0] at e5;unfold bG;rw[ew] at e2;clear i1 i2 oC;generalize cH (bu h x) (aj h r x) (ord h x.rows)=W1 at *;generalize W1++(ask (aj h r x) W1 (ord h x.rows)).filterMap (dq (aj h r x) C)=W2 at *;generalize gb h (aj h r x) (k7 (cf h x X)) (cf h x X) x=x2 at *;unfold cf at e4;generalize(ord h x.rows).map (pO (aj h r x))=l1 at *;generalize((ord h x.rows).filter (nk X)).map (pO (aj h r x))=l2 at *;generalize(ord h x.rows).map (iZ X (aj h r x))=l3 at *;generalize(ord h x.rows).map aU=l4 at *;generalize cD (aj h r x) (ord h x.rows)=gs at *;generalize aE h=hd at *;unfold xY Sh;simp only[↓ev,hR,cU,u_,e1,aP,e2,pw,ll,fg,OL,e3,e5,e6,e7,aK,Ez,zM,i9,e8,d9j,e4,lt2,GK,vg]
end
variable{G:Row->Goal}{j:Int}
theorem He{α:Type}[DecidableEq α]:∀{l1 l2:List α},l1.Nodup->(∀a∈l1,a∈l2)->l1.length<=l2.length
 |[],_,_,_=>mU _
 |a::l1,l2,nd,h=>by
  rw[qo] at nd;have ha:=h a (.head _);have ih:=He (l1:=l1) (l2:=l2.erase a) nd.2 λb m=>by
   rw[List.mem_erase_of_ne (λe=>nd.1 (by rw[<-e];exact m))]
   exact h b (.tail _ m)
  rw[List.length_erase_of_mem ha] at ih;have:=List.length_pos_of_mem ha;rw[ju];lia
section
variable{h:aA}{r:Int}{x:Hl}{n:Nat}{X:List (Str×D)}{w z:Row}
theorem e0f(g:ax h)(o:Ok h n x)(hw:w∈x.rows):((aj h r x w).2=none->(aj h r x w).1∈h.carts)/\∀j,(aj h r x w).2=some j->∃bt∈h.ae,bt.name=(aj h r x w).1/\0<=j/\j<bt.long:=by
 obtain⟨bt,hb,eb,i0,i1,_⟩:=(o.rw w hw).1;have lo:=(g.lg bt hb).1;have eg:aj h r x w=kY h r x w bt:=by unfold aj;rw[<-eb,C0 g hb]
 rw[eg];unfold kY;split
 .exact⟨λz=>(by cases z),λj e=>⟨bt,hb,rfl,by cases e;lia,by cases e;assumption⟩⟩
 .split
  .exact⟨λz=>(by cases z),λj e=>⟨bt,hb,rfl,by cases e;lia,by cases e;lia⟩⟩
  .obtain⟨a,ea,ha⟩:=KQ g o hw hb eb;rw[ea,IS];unfold uD;split
   .rename_i hc
    exact⟨λ_=>jv.mp hc,λj e=>(by cases e)⟩
   .rename_i hc
    split
    .exact⟨λz=>(by cases z),λj e=>⟨bt,hb,rfl,by cases e;lia,by cases e;lia⟩⟩
    .have hm:a∈h.ae.map ao.name:=(Df g.fwd bt hb a ha).resolve_right λz=>hc (jv.mpr z)
     obtain⟨b2,wk,e2⟩:=dZ.mp hm;have l2:=(g.lg b2 wk).1;exact⟨λz=>(by cases z),λj e=>⟨b2,wk,e2,by cases e;lia,by cases e;lia⟩⟩
theorem lL.sub{L:List Row}{W X:List (Str×D)}(a:lL G L W X):∀b∈W.map (·.1),b∈X.map (·.1):=by
 induction a with
 |base=>exact λ_ m=>m
 |step _ _ _ ih=>exact λb m=>by rw[dB];exact dr.mpr (.inl (ih b m))
theorem tN(o:Ok h n x):w∈cf h x X↔w∈x.rows/\w.bag∉X.map (·.1):=by
 unfold cf;rw[sE,o.mem,nC]
theorem Y5(o:Ok h n x)(t:jX h r x X):∃C:List (bA×Str),∀w∈cf h x X,(aj h r x w).2.isSome=true->look C (gk (aj h r x) w)=some w.bag:=by
 obtain⟨C,oC,gr,fn⟩:=t;refine⟨C,λw hw hs=>?_⟩
 obtain⟨hr,hX⟩:=(tN o).mp hw;have h1:w.bag∉(cH (bu h x) (aj h r x) (ord h x.rows)).map (·.1):=λm=>hX (gr.sub _ (by rw[dB];exact dr.mpr (.inl m)))
 have ha:w∈ask (aj h r x) (cH (bu h x) (aj h r x) (ord h x.rows)) (ord h x.rows):=iC.mpr ⟨o.mem.mpr hr,h1,hs⟩;obtain⟨c,hc⟩:=Option.ne_none_iff_exists'.mp (oC.2.1 w ha);rw[hc];by_cases e:c=w.bag
 .rw[e]
 .refine b_ (gr.sub w.bag ?_) hX;rw[dB];refine dr.mpr (.inr (dZ.mpr ⟨(w.bag,.tup [.str "yields",.str c]),pG.mpr ⟨w,ha,?_⟩,rfl⟩));unfold dq;rw[hc];exact aM e
theorem qA(e:(G w).2=some j):gk G w=((G w).1,j):=by unfold gk;rw[e];rfl
theorem VJ(o:Ok h n x)(t:jX h r x X)(hw:w∈cf h x X)(hz:z∈cf h x X){k:Int}(ew:(aj h r x w).2=some j)(ez:(aj h r x z).2=some k)(e:((aj h r x w).1,j)=((aj h r x z).1,k)):w=z:=by
 obtain⟨C,hC⟩:=Y5 o t;have h1:=hC w hw (by rw[ew];rfl)
 have h2:=hC z hz (by rw[ez];rfl)
 rw[qA ew,e,<-qA ez,h2] at h1;exact pJ o.nb ((tN o).mp hw).1 ((tN o).mp hz).1 (Option.some.inj h1).symm
theorem e0g(un:(x.rows.map λw=>(w.b,w.i)).Nodup)(o:Ok h n x)(hz:z∈x.rows)(ew:(G w).2=some j)(e:((G w).1,j)=(z.b,z.i)):hold G (ord h x.rows) w=some z.bag:=by
 unfold hold;rw[ew];dsimp only;rw[e];refine Y0 ?_ (dZ.mpr ⟨z,o.mem.mpr hz,rfl⟩);unfold ip;rw[fJ];exact(o.perm.map _).nodup_iff.mpr un
theorem Y6(o:Ok h n x)(t:jX h r x X)(hw:w∈cf h x X)(hz:z∈x.rows)(ew:(aj h r x w).2=some j)(e:((aj h r x w).1,j)=(z.b,z.i)):z∈cf h x X:=by
 obtain⟨C,oC,gr,fn⟩:=t;obtain⟨hr,hX⟩:=(tN o).mp hw;refine(tN o).mpr ⟨hz,λm=>fn w (o.mem.mpr hr) z.bag ⟨hX,e0g o.un o hz ew e,m⟩⟩
theorem zK(o:Ok h n x)(hz:z∈x.rows):k7 (cf h x X) z=true↔z∈cf h x X:=by
 unfold k7;rw[jv,dZ];constructor
 .rintro⟨u,hu,e⟩;rw[<-pJ o.nb ((tN o).mp hu).1 hz e];exact hu
 .exact λm=>⟨z,m,rfl⟩
end
section
variable{h:aA}{r:Int}{x:Hl}{n:Nat}{X:List (Str×D)}{w z z':Row}
theorem GY(o:Ok h n x)(hz:z'∈(bG h r x X).rows):∃z∈x.rows,z'.bag=z.bag/\z'.fl=z.fl/\((z∉cf h x X/\z'=z)\/(z∈cf h x X/\i6 h (aj h r x) z=some z')):=by
 obtain⟨z,L3,e⟩:=pG.mp hz;refine⟨z,L3,?_⟩;split at e
 .rename_i hm
  obtain⟨e1,e2⟩:=Hc e;exact⟨e1,e2,.inr ⟨(zK o L3).mp hm,e⟩⟩
 .rename_i hm
  cases e;exact⟨rfl,rfl,.inl ⟨λm=>hm ((zK o L3).mpr m),rfl⟩⟩
theorem e7b{G:Row->Goal}(e:i6 h G z=some z')(h0:0<=z.gn):0<=z'.gn:=by
 unfold i6 at e;split at e
 .cases e
 .cases e;dsimp only;split
  .exact h0
  .split <;> lia
theorem DA{G:Row->Goal}(e:i6 h G z=some z'):∃j,(G z).2=some j/\z'.b=(G z).1/\z'.i=j:=by
 unfold i6 at e;split at e
 .cases e
 .rename_i j ej
  cases e;exact⟨j,ej,rfl,rfl⟩
theorem Rj{nw:Int}{p:Str×Str×Int}(o:Ok h n x)(hp:p∈(cf h x X).filterMap (fD (aj h r x) nw)):∃u∈x.rows,u∈cf h x X/\(aj h r x u).2=none/\p=(u.bag,(aj h r x u).1,nw):=by
 obtain⟨u,hu,e⟩:=pG.mp hp;refine⟨u,((tN o).mp hu).1,hu,?_⟩;unfold fD at e;split at e
 .rename_i en
  cases e;exact⟨en,rfl⟩
 .cases e
theorem Rk{G:Row->Goal}{nw:Int}:∀M:List Row,((M.filterMap (fD G nw)).map (·.1)).Sublist (M.map Row.bag)
 |[]=>.slnil
 |u::M=>by
  have ih:=Rk (G:=G) (nw:=nw) M;rw[bQ];cases e:(G u).2 with
  |none=>
   rw[NI (b:=(u.bag,(G u).1,nw)) (by unfold fD;rw[e])]
   exact ih.cons₂ _
  |some j=>
   rw[NH (by unfold fD;rw[e])]
   exact ih.cons _
theorem Ok.turn(g:ax h)(o:Ok h n x)(t:jX h r x X):Ok h n (bG h r x X):=by
 have nM:((cf h x X).map Row.bag).Nodup:=(((o.perm.map _).nodup_iff.mpr o.nb:((ord h x.rows).map Row.bag).Nodup)).sublist (List.Sublist.map _ IF);have sb:((bG h r x X).rows.map Row.bag).Sublist (x.rows.map Row.bag):=GX _ _;have uE:∀b∈((cf h x X).filterMap (fD (aj h r x) (x.now+1))).map (·.1),∃u∈x.rows,u∈cf h x X/\(aj h r x u).2=none/\b=u.bag:=λb m=>by
  obtain⟨p,hp,rfl⟩:=dZ.mp m;obtain⟨u,h1,h2,h3,rfl⟩:=Rj o hp;exact⟨u,h1,h2,h3,rfl⟩
 have dj:∀b∈(bG h r x X).rows.map Row.bag,b∉((cf h x X).filterMap (fD (aj h r x) (x.now+1))).map (·.1):=λb mb mo=>by
  obtain⟨z',Ia,rfl⟩:=dZ.mp mb;obtain⟨u,hu,hum,hn,e⟩:=uE _ mo;obtain⟨z,hz,eb,_,st⟩:=GY o Ia;have ezu:z=u:=pJ o.nb hz hu (by rw[<-eb,e])
  subst ezu;rcases st with⟨s1,_⟩|⟨_,s2⟩
  .exact s1 hum
  .obtain⟨j,ej,_⟩:=DA s2;rw[hn] at ej;cases ej
 have ndo:(((cf h x X).filterMap (fD (aj h r x) (x.now+1))).map (·.1)).Nodup:=by
  exact nM.sublist (Rk _)
 have nd:((bG h r x X).rows.map Row.bag++(bG h r x X).gone.map (·.1)).Nodup:=by
  have o1:=jS.mp o.nd;have eg:(bG h r x X).gone.map (·.1)=x.gone.map (·.1)++((cf h x X).filterMap (fD (aj h r x) (x.now+1))).map (·.1):=by
   show(x.gone++_).map _=_
   simp_all
  rw[eg,jS];refine⟨o1.1.sublist sb,jS.mpr ⟨o1.2.1,ndo,λa ma b mb e=>?_⟩,λa ma b mb e=>?_⟩
  .obtain⟨u,hu,_,_,eu⟩:=uE b mb;exact o1.2.2 u.bag (j_ hu) a ma (by rw[e,eu])
  .rcases dr.mp mb with mb|mb
   .exact o1.2.2 a (sb.subset ma) b mb e
   .exact dj a ma (by rw[e];exact mb)
 refine⟨λz' Ia=>?_,nd,?_,o.bk,o.bn,?_,?_⟩
 .obtain⟨z,hz,eb,ef,st⟩:=GY o Ia;obtain⟨k1,k2,k3⟩:=o.rw z hz;refine⟨?_,by rw[eb];exact k2,by rw[ef];exact k3⟩
  rcases st with⟨_,rfl⟩|⟨_,s2⟩
  .exact k1
  .obtain⟨j,ej,e1,e2⟩:=DA s2;obtain⟨bt,hb,e3,e4,e5⟩:=(e0f g o hz).2 j ej;obtain⟨_,_,_,_,_,DV⟩:=k1;exact⟨bt,hb,by rw[e1];exact e3,by rw[e2];exact e4,by rw[e2];exact e5,e7b s2 DV⟩
 .show((iB h (aj h r x) (k7 (cf h x X)) x.rows).map _).Nodup;unfold iB;rw[List.Nodup,IL,List.pairwise_filterMap];have un:=o.un;have nb:=o.nb;rw[List.Nodup,IL] at un nb;refine(un.and nb).imp_of_mem λ{a b} ma mb ne a' ea b' yf e=>?_
  grind [DA,zK,Y6,VJ]
 .have:=sb.length_le;rw[bh,bh] at this;exact i7 this o.rl
 .have:=He nd (l2:=x.rows.map Row.bag++x.gone.map (·.1)) λa m=>by
   rcases dr.mp m with m|m
   .exact dr.mpr (.inl (sb.subset m))
   .have m:a∈(x.gone++(cf h x X).filterMap (fD (aj h r x) (x.now+1))).map (·.1):=m
    rw[dB,dr] at m;rcases m with m|m
    .exact dr.mpr (.inr m)
    .obtain⟨u,hu,_,_,e⟩:=uE a m;exact dr.mpr (.inl (by rw[e];exact j_ hu))
  rw[du,du,bh,bh,bh,bh] at this;have sz:=o.sz;show x.book.length+x.halts.length+_+_<=n;lia
end
variable{l:List Str}
abbrev lV(z:Str)(v:Bool):Prop:=Pr qb [.d (.str z)] (rd (.bl v))
def Dn(h:aA)(r:Int)(n:Nat)(x:Hl)(s:List Cell)(res:ak (Rs Rv)):Prop:=(∃x',res=some (.ok (rd .aI) (hS (aE h) r x' s))/\Ok h (n+1) x')\/∃C,res=some (.ex C none (hS (aE h) r x s))/\wT jk C=some true
section
variable{s:List Cell}{h:aA}{r:Int}{x:Hl}{n q:Nat}{f ct b:Str}{cl:Int}{v:Bool}
theorem zL{hd:D}(q:Nat)(hv:lV f v):zv q [.d (.ref 0),.d (.str f)] (hS hd r x s)=some (if(v&&(x.book.map (·.1)).contains f)=true then .ok (rd .aI) (hS hd r x s) else .ex 104 none (hS hd r x s)):=by
 have i:(aT (mf x.book) (.inr f)).isSome=_:=BY;unfold zv NS;cases v with
 |false=>simp only[↓ev,hv,cq,hR,aK]
 |true=>
  cases hc:(x.book.map (·.1)).contains f with
  |true=>rw[hc] at i;simp only[↓ev,hv,aK,hR,sr,tM,aP,i,lG,cq]
  |false=>rw[hc] at i;simp only[↓ev,hv,aK,hR,sr,tM,aP,i,mV,cq]
theorem Pn(q:Nat){S:aO}:CI q [.d (.int cl)] S=some (if cl<0 then .ex 92 none S else .ok (rd .aI) S):=by
 unfold CI NW;by_cases hl:cl<0
 .rw[aX hl];have hl:=bJ hl;simp only[↓ev,hl,decide_true,fZ]
 .rw[aM hl];have hl:=eq_false hl;simp only[↓ev,hl,decide_false,aK,fZ]
theorem Ok.up(o:Ok h n x):Ok h (n+1) x:=⟨o.rw,o.nd,o.un,o.bk,o.bn,o.rl,Nat.le_succ_of_le o.sz⟩
theorem u0(h:l.contains b=true):b∈l:=jv.mp h
theorem CW(h:l.contains b=false):b∉l:=λm=>by rw[jv.mpr m] at h;cases h
theorem Y7(g:ax h)(o:Ok h n x)(hn:n<1000)(hv:lV f v):Dn h r n x s (Gn 0 [.d (.ref 0),.d (.str f),.d (.str ct),.d (.int cl)] (hS (aE h) r x s)):=by
 have i:(aT (mf x.book) (.inr f)).isSome=_:=BY;have cu:cutD (dS h.carts) (some 1) none=dS (h.carts.drop 1):=by rw[show(1:Int)=((1:Nat):Int) from rfl,Qa,dS,dS,IK]
 have e1:=λq S=>Pn (cl:=cl) (S:=S) q
 have hD:aE h=.tup [.lst (h.ae.map aq),.lst (dS h.carts)]:=rfl;unfold Dn;rw[hD];unfold Gn OH;cases v with
 |false=>
  refine .inr ⟨44,?_,rfl⟩;simp only[↓ev,hv,cq,hR]
 |true=>
  cases h1:(x.book.map (·.1)).contains f with
  |true=>
   rw[h1] at i;refine .inr ⟨44,?_,rfl⟩;simp only[↓ev,hv,aK,hR,sr,tM,aP,i,cq]
  |false=>
   rw[h1] at i;cases h2:(h.carts.drop 1).contains ct with
   |false=>
    refine .inr ⟨68,?_,rfl⟩;simp only[↓ev,hv,aK,hR,sr,tM,aP,i,nR,oh,cV,cu,kE,ke,h2,mV,cq]
   |true=>
    by_cases hl:cl<0
    .simp only[aX hl] at e1;refine .inr ⟨92,?_,rfl⟩;simp only[↓ev,hv,aK,hR,sr,tM,aP,i,nR,oh,cV,cu,kE,ke,h2,lG,e1,cq]
    .simp only[aM hl] at e1;have hf:=CW h1;have p:bU (mf x.book) (.inr f) (.tup [.str f,.str ct,.int cl])=mf (x.book++[(f,ct,cl)]):=by
      unfold mf;rw[Dx hf];unfold td;rw[dB];rfl
     have sz:=o.sz;have l1:((mf x.book).length<1000000)=True:=bJ (by unfold mf;rw[oo];lia)
     refine .inl ⟨{ x with book:=x.book++[(f,ct,cl)]},?_,λw m=>⟨(o.rw w m).1,(o.rw w m).2.1,λf' e=>?_⟩,o.nd,o.un,λp m=>?_,?_,o.rl,?_⟩
     .simp only[↓ev,hS,hR,hv,aK,sr,tM,aP,i,nR,oh,cV,cu,kE,ke,h2,lG,e1,l1,p,cq]
     .rw[dB];exact dr.mpr (.inl ((o.rw w m).2.2 f' e))
     .rcases dr.mp m with m|m
      .exact o.bk p m
      .rw[lz.mp m];exact List.mem_of_mem_drop (u0 h2)
     .rw[dB,jS];refine⟨o.bn,by simp,λa ma b mb e=>hf ?_⟩
      have:b=f:=by simpa using mb
      rw[<-this,<-e];exact ma
     .dsimp only;rw[du,vB];lia
theorem Y8(g:ax h)(o:Ok h n x)(hn:n<1000)(hv:lV f v):Dn h r n x s (Gp 0 [.d (.ref 0),.d (.str f),.d (.int cl)] (hS (aE h) r x s)):=by
 have e0:=λq=>zL (s:=s) (hd:=aE h) (r:=r) (x:=x) q hv
 have e1:=λq S=>Pn (cl:=cl) (S:=S) q
 unfold Dn;generalize aE h=hd at *;unfold Gp OI;cases hc:(v&&(x.book.map (·.1)).contains f) with
 |false=>
  simp only[hc,aK,j'] at e0;refine .inr ⟨104,?_,rfl⟩;simp only[↓ev,hR,cU,tF,e0,cq]
 |true=>
  simp only[hc,pS] at e0;by_cases hl:cl<0
  .simp only[aX hl] at e1;refine .inr ⟨92,?_,rfl⟩;simp only[↓ev,hR,cU,tF,e0,e1,cq]
  .simp only[aM hl] at e1;rw[eP] at hc;have hm:=u0 hc.2;obtain⟨p,hp,ep⟩:=dZ.mp hm;have v0:aT (mf x.book) (.inr f)=some (.tup [.str p.1,.str p.2.1,.int p.2.2]):=by rw[<-ep];exact lP o.bn hp
   have pu:bU (mf x.book) (.inr f) (.tup [.str f,.str p.2.1,.int cl])=mf (x.book.map λz=>if z.1=f then(f,z.2.1,cl) else z):=by
    unfold mf;rw[Dy o.bn hm];unfold td;rw[fJ];refine pH λz mz=>?_
    dsimp only[Function.comp];by_cases e:z.1=f
    .rw[aX e,aX e,pJ (f:=λp:Str×Str×Int=>p.1) o.bn mz hp (by rw[e,ep]),ep]
     rfl
    .rw[aM e,aM e]
   have sz:=o.sz;have l1:((mf x.book).length<1000000)=True:=bJ (by unfold mf;rw[oo];lia)
   have ek:(x.book.map λz=>if z.1=f then(f,z.2.1,cl) else z).map (·.1)=x.book.map (·.1):=by
    rw[fJ];refine pH λz _=>?_
    dsimp only[Function.comp];split
    .rename_i e;exact e.symm
    .rfl
   refine .inl ⟨{ x with book:=x.book.map λz=>if z.1=f then(f,z.2.1,cl) else z},?_,λw m=>⟨(o.rw w m).1,(o.rw w m).2.1,λf' e=>?_⟩,o.nd,o.un,λp m=>?_,?_,o.rl,?_⟩
   .simp only[↓ev,hS,hR,cU,tF,e0,e1,sr,tM,aP,v0,cV,l1,pu,cq]
   .show f'∈(x.book.map _).map _;rw[ek];exact(o.rw w m).2.2 f' e
   .obtain⟨z,mz,rfl⟩:=dZ.mp m;split
    .exact o.bk z mz
    .exact o.bk z mz
   .show((x.book.map _).map _).Nodup;rw[ek];exact o.bn
   .dsimp only;rw[bh];lia
theorem e7c(g:ax h)(o:Ok h n x)(hn:n<1000):Dn h r n x s (C7 0 [.d (.ref 0),.d (.str b)] (hS (aE h) r x s)):=by
 cases hb:(h.ae.map ao.name).contains b with
 |false=>
  have e0:=λq=>BD (s:=s) (r:=r) (x:=x) (q:=q) g hb
  simp only[aK,j'] at e0;refine .inr ⟨116,?_,rfl⟩;generalize aE h=hd at *;unfold C7 J_;simp only[↓ev,hR,cU,tG,e0,cq]
 |true=>
  have e0:=λq=>BD (s:=s) (r:=r) (x:=x) (q:=q) g hb
  simp only[pS] at e0;have sz:=o.sz;have l1:((nV x.halts).length<1000000)=True:=bJ (by rw[KN];lia)
  have p:=Hw b x.halts;refine .inl ⟨{ x with halts:=g_ x.halts b},?_,o.rw,o.nd,o.un,o.bk,o.bn,o.rl,?_⟩
  .generalize aE h=hd at *;unfold C7 J_;simp only[↓ev,hS,hR,cU,tG,e0,BG,Dd,aP,l1,p,cq]
  grind [Qc]
theorem e0h(b:Str)(ks:List Str):dy (nV ks) b=nV (ks.filter λk=>decide (k≠b)):=Dp (k:=λk=>k) (v:=λ_=>.bl true)
theorem Rl(g:ax h)(o:Ok h n x)(hb:(h.ae.map ao.name).contains b=true):zB 0 [.d (.ref 0),.d (.str b)] (hS (aE h) r x s)=some (.ok (rd .aI) (hS (aE h) r { x with halts:=x.halts.filter λk=>decide (k≠b)} s)):=by
 have e0:=λq=>BD (s:=s) (r:=r) (x:=x) (q:=q) g hb
 simp only[pS] at e0;have i:=xZ b x.halts;have d:=e0h b x.halts;have t1:gu (nV x.halts)=true:=zT (k:=λk=>k) (v:=λ_=>.bl true)
 generalize aE h=hd at *;unfold zB JV;cases hc:x.halts.contains b with
 |true=>
  rw[hc] at i;obtain⟨y,hy⟩:=Option.isSome_iff_exists.mp i;simp only[↓ev,hS,hR,cU,tG,e0,BG,Dd,aP,aK,hy,y9,t1,d,cq]
 |false=>
  rw[hc] at i;have hf:x.halts.filter (λk=>decide (k≠b))=x.halts:=List.filter_eq_self.mpr λk m=>sd λe=>CW hc (by rw[<-e];exact m)
  simp only[↓ev,hS,hR,cU,tG,e0,BG,Dd,aP,aK,i,cq,hf]
theorem Ok.start(o:Ok h n x):Ok h n { x with halts:=x.halts.filter λk=>decide (k≠b)}:=⟨o.rw,o.nd,o.un,o.bk,o.bn,o.rl,by
 have:=y6 (λk=>decide (k≠b)) x.halts
 have sz:=o.sz
 lia⟩
theorem Y9(g:ax h)(o:Ok h n x):Dn h r n x s (zB 0 [.d (.ref 0),.d (.str b)] (hS (aE h) r x s)):=by
 cases hb:(h.ae.map ao.name).contains b with
 |false=>
  have e0:=λq=>BD (s:=s) (r:=r) (x:=x) (q:=q) g hb
  simp only[aK,j'] at e0;refine .inr ⟨116,?_,rfl⟩;generalize aE h=hd at *;unfold zB JV;simp only[↓ev,hR,cU,tG,e0,cq]
 |true=>exact .inl ⟨_,Rl g o hb,o.start.up⟩
end
theorem e0i{b:Str}(hn:rT b):b.length<=8:=by
 refine y9d λz=>?_
 have e:=hn 0 ⟨[],[]⟩;have h2:((b.length:Int)<=8)=False:=eq_false (by lia)
 have h3:(1<=(b.length:Int))=True:=bJ (by lia)
 by_cases hl:b.length<=1000000
 .have h4:=bJ hl;have e2:qb 0 [.d (.str b)] ⟨[],[]⟩=some (.ok (rd (.bl false)) ⟨[],[]⟩):=by
   unfold qb CZ;simp only[↓ev,Ic,aK,h4,h3,decide_true,h2,decide_false];rfl
  rw[e] at e2;cases e2
 .have h4:=eq_false hl;have e2:qb 0 [.d (.str b)] ⟨[],[]⟩=none:=by
   unfold qb CZ;simp only[↓ev,Ic,aK,h4];rfl
  rw[e] at e2;cases e2
noncomputable def Ik(rows:List Row)(b:Str):Bool:=rows.any λw=>w.b == b&&w.i == 0
theorem Y_(b:Str)(rows:List Row):((gP rows).map (·.2)).any (λz=>aR z (pl b 0))=Ik rows b:=by
 unfold gP td Ik;rw[fJ,List.any_map]
 congr 1
 funext w;exact B1
theorem e0j(rows:List Row):((gP rows).map (·.2)).all (c7 40)=true:=by
 unfold gP td;rw[fJ,FJ];exact pR.mpr λw _=>rfl
theorem Kw{α:Type}{k:α->Str}{v:α->D}{xs:List α}{x:α}(h:k x∉xs.map k):bU (td k v xs) (.inr (k x)) (v x)=td k v (xs++[x]):=by
 rw[Dx h];unfold td;rw[dB];rfl
section
variable{s:List Cell}{h:aA}{r:Int}{x:Hl}{n q:Nat}{f b bag:Str}{v v2:Bool}{fl:ak Str}
theorem e9a(g:ax h)(o:Ok h n x)(hn:n<1000)(hv:lV bag v)(hf:∀f,fl=some f->lV f v2)(h8:x.rows.length<8):Dn h r n x s (rJ 0 [.d (.ref 0),.d (.str bag),.d (aL fl),.d (.str b)] (hS (aE h) r x s)):=by
 have i1:(aT (gP x.rows) (.inr bag)).isSome=_:=BY;have i2:(aT (z_ x.gone) (.inr bag)).isSome=_:=BY;cases v with
 |false=>
  refine .inr ⟨44,?_,rfl⟩;generalize aE h=hd at *;generalize aL fl=ff at *;unfold rJ tL;simp only[↓ev,hv,cq,hR]
 |true=>
 cases h1:(x.rows.map Row.bag).contains bag with
 |true=>
  rw[h1] at i1;refine .inr ⟨44,?_,rfl⟩;generalize aE h=hd at *;generalize aL fl=ff at *;unfold rJ tL;simp only[↓ev,hv,aK,hR,kB,lA,aP,i1,cq]
 |false=>
 rw[h1] at i1;cases h2:(x.gone.map (·.1)).contains bag with
 |true=>
  rw[h2] at i2;refine .inr ⟨44,?_,rfl⟩;generalize aE h=hd at *;generalize aL fl=ff at *;unfold rJ tL;simp only[↓ev,hv,aK,hR,kB,lA,aP,i1,u9,vQ,i2,cq]
 |false=>
 rw[h2] at i2;have fz:(∃f,fl=some f/\(v2&&(x.book.map (·.1)).contains f)=false)\/(fl=none\/∃f,fl=some f/\(v2&&(x.book.map (·.1)).contains f)=true):=by
  cases fl with
  |none=>exact .inr (.inl rfl)
  |some f=>
   cases hc:(v2&&(x.book.map (·.1)).contains f) with
   |true=>exact .inr (.inr ⟨f,rfl,hc⟩)
   |false=>exact .inl ⟨f,rfl,hc⟩
 rcases fz with⟨f,rfl,hc⟩|fz
 .have e0:=λq=>zL (s:=s) (hd:=aE h) (r:=r) (x:=x) q (hf f rfl)
  simp only[hc,aK,j'] at e0;refine .inr ⟨104,?_,rfl⟩;generalize aE h=hd at *;unfold rJ tL aL;simp only[↓ev,hv,aK,hR,kB,lA,aP,i1,u9,vQ,i2,cU,tF,e0,cq]
 .have hfl:∀f,fl=some f->f∈x.book.map (·.1):=λf e=>by
   rcases fz with z|⟨f',z,hc⟩
   .rw[z] at e;cases e
   .rw[z] at e;cases e;rw[eP] at hc;exact u0 hc.2
  cases hb:(h.ae.map ao.name).contains b with
  |false=>
   have e1:=λq=>BD (s:=s) (r:=r) (x:=x) (q:=q) g hb
   simp only[aK,j'] at e1;refine .inr ⟨116,?_,rfl⟩;rcases fz with rfl|⟨f,rfl,hc⟩
   .generalize aE h=hd at *;unfold rJ tL aL;simp only[↓ev,hv,aK,hR,kB,lA,aP,i1,u9,vQ,i2,cU,tG,e1,cq]
   .have e0:=λq=>zL (s:=s) (hd:=aE h) (r:=r) (x:=x) q (hf f rfl)
    simp only[hc,pS] at e0;generalize aE h=hd at *;unfold rJ tL aL;simp only[↓ev,hv,aK,hR,kB,lA,aP,i1,u9,vQ,i2,cU,tF,e0,tG,e1,cq]
  |true=>
   have e1:=λq=>BD (s:=s) (r:=r) (x:=x) (q:=q) g hb
   simp only[pS] at e1;have t1:gu (gP x.rows)=true:=zT;have va:=Y_ b x.rows;have vo:=e0j x.rows;obtain⟨bt,HQ,SS⟩:=dZ.mp (u0 hb);have lb:=e0i (g.nm bt HQ);rw[SS] at lb;have l1:(b.length<=1000000)=True:=bJ (by lia)
   have l2:((Str.empty++("cell 0 of belt ":Str)).length<=1000000)=True:=bJ (by decide +kernel)
   have l3:((Str.empty++("cell 0 of belt ":Str)++b).length<=1000000)=True:=bJ (by
    rw[Str.length_append];have:(Str.empty++("cell 0 of belt ":Str)).length<=100:=by decide +kernel
    lia)
   have l4:((Str.empty++("cell 0 of belt ":Str)++b++(" has a bag":Str)).length<=1000000)=True:=bJ (by
    rw[Str.length_append,Str.length_append];have:(Str.empty++("cell 0 of belt ":Str)).length<=100:=by decide +kernel
    have:(" has a bag":Str).length<=100:=by decide +kernel
    lia)
   cases ho:Ik x.rows b with
   |true=>
    rw[ho] at va;refine .inr ⟨128,?_,rfl⟩;rcases fz with rfl|⟨f,rfl,hc⟩
    .generalize aE h=hd at *;unfold rJ tL aL;simp only[↓ev,hv,aK,hR,kB,lA,aP,i1,u9,vQ,i2,cU,tG,e1,t1,vo,va,l2,l1,l3,l4,cq]
    .have e0:=λq=>zL (s:=s) (hd:=aE h) (r:=r) (x:=x) q (hf f rfl)
     simp only[hc,pS] at e0;generalize aE h=hd at *;unfold rJ tL aL;simp only[↓ev,hv,aK,hR,kB,lA,aP,i1,u9,vQ,i2,cU,tF,e0,tG,e1,t1,vo,va,l2,l1,l3,l4,cq]
   |false=>
    rw[ho] at va;have wo:=CW h1;have p1:bU (gP x.rows) (.inr bag) (pl b 0)=gP (x.rows++[⟨bag,b,0,fl,0⟩]):=Kw (x:=(⟨bag,b,0,fl,0⟩:Row)) wo;have p2:bU (ik x.rows) (.inr bag) (aL fl)=ik (x.rows++[⟨bag,b,0,fl,0⟩]):=Kw (x:=(⟨bag,b,0,fl,0⟩:Row)) wo;have p3:bU (lF x.rows) (.inr bag) (.int 0)=lF (x.rows++[⟨bag,b,0,fl,0⟩]):=Kw (x:=(⟨bag,b,0,fl,0⟩:Row)) wo;have m1:((gP x.rows).length<1000000)=True:=bJ (by unfold gP;rw[oo];lia)
    have m2:((ik x.rows).length<1000000)=True:=bJ (by unfold ik;rw[oo];lia)
    have m3:((lF x.rows).length<1000000)=True:=bJ (by unfold lF;rw[oo];lia)
    have sz:=o.sz;have lo:=(g.lg bt HQ).1;refine .inl ⟨{ x with rows:=x.rows++[⟨bag,b,0,fl,0⟩]},?_,λw m=>?_,?_,?_,o.bk,o.bn,?_,?_⟩
    .rcases fz with rfl|⟨f,rfl,hc⟩
     .generalize aE h=hd at *;unfold rJ tL;unfold aL at p2 ⊢;simp only[↓ev,hS,hR,hv,aK,kB,lA,aP,i1,u9,vQ,i2,cU,tG,e1,t1,vo,va,m1,p1,qy,rF,m2,p2,BA,CV,m3,p3,cq]
     .have e0:=λq=>zL (s:=s) (hd:=aE h) (r:=r) (x:=x) q (hf f rfl)
      simp only[hc,pS] at e0;generalize aE h=hd at *;unfold rJ tL;unfold aL at p2 ⊢;simp only[↓ev,hS,hR,hv,aK,kB,lA,aP,i1,u9,vQ,i2,cU,tF,e0,tG,e1,t1,vo,va,m1,p1,qy,rF,m2,p2,BA,CV,m3,p3,cq]
    .rcases dr.mp m with m|m
     .exact o.rw w m
     .rw[lz.mp m];exact⟨⟨bt,HQ,SS,Bg _,by show(0:Int)<_;lia,Bg _⟩,hv,hfl⟩
    .dsimp only;rw[dB,l0];have o1:=jS.mp o.nd;refine jS.mpr ⟨o1.1,jS.mpr ⟨by simp,o1.2.1,λa ma c mc e=>?_⟩,λa ma c mc e=>?_⟩
     .have:a=bag:=by simpa using ma
      exact CW h2 (by rw[<-this,e];exact mc)
     .rcases dr.mp mc with mc|mc
      .have:c=bag:=by simpa using mc
       exact wo (by rw[<-this,<-e];exact ma)
      .exact o1.2.2 a ma c mc e
    .dsimp only;rw[dB];refine jS.mpr ⟨o.un,by simp,λa ma c mc e=>?_⟩
     have ec:c=(b,0):=by simpa using mc
     obtain⟨w,hw,ew⟩:=dZ.mp ma;have:Ik x.rows b=true:=NB.mpr ⟨w,hw,by
      rw[e,ec] at ew;have h1:=congrArg Prod.fst ew;have h2:=congrArg Prod.snd ew;dsimp only at h1 h2;rw[h1,h2];simp⟩
     rw[ho] at this;cases this
    .dsimp only;rw[du,vB];lia
    .dsimp only;rw[du,vB];lia
end
variable{hd:D}
noncomputable def fV(p:Row->Bool)(y:ak Str)(z:Row):Row:=if p z=true then{ z with fl:=y} else z
section
variable{s:List Cell}{h:aA}{r:Int}{x:Hl}{n q:Nat}{f bag:Str}{v v2:Bool}{p:Row->Bool}{y:ak Str}{rows:List Row}
theorem Rm:(rows.map (fV p y)).map Row.bag=rows.map Row.bag:=by
 rw[fJ];refine pH λz _=>?_
 dsimp only[Function.comp];unfold fV;split <;> rfl
theorem So:gP (rows.map (fV p y))=gP rows:=by
 unfold gP td;rw[fJ];refine pH λz _=>?_
 dsimp only[Function.comp];unfold fV;split <;> rfl
theorem Sq:lF (rows.map (fV p y))=lF rows:=by
 unfold lF td;rw[fJ];refine pH λz _=>?_
 dsimp only[Function.comp];unfold fV;split <;> rfl
theorem Ok.read(o:Ok h n x){bk:List (Str×Str×Int)}(hb:∀q∈bk,q∈x.book)(hbn:(bk.map (·.1)).Nodup)(hl:bk.length<=x.book.length)(hf:∀w∈x.rows,∀f,(fV p y w).fl=some f->f∈bk.map (·.1)):Ok h (n+1) { x with book:=bk,rows:=x.rows.map (fV p y)}:=by
 have sz:=o.sz;refine⟨λw m=>?_,?_,?_,λq m=>o.bk q (hb q m),hbn,?_,?_⟩
 .obtain⟨z,mz,rfl⟩:=dZ.mp m;obtain⟨k1,k2,k3⟩:=o.rw z mz;refine⟨?_,?_,hf z mz⟩
  .unfold fV;split
   .exact k1
   .exact k1
  .unfold fV;split
   .exact k2
   .exact k2
 .dsimp only;rw[Rm];exact o.nd
 .dsimp only;have:(x.rows.map (fV p y)).map (λw=>(w.b,w.i))=x.rows.map λw=>(w.b,w.i):=by
   rw[fJ];refine pH λz _=>?_
   dsimp only[Function.comp];unfold fV;split <;> rfl
  rw[this];exact o.un
 .dsimp only;rw[bh];exact o.rl
 .dsimp only;rw[bh];lia
theorem Zk(q:Nat)(hv:lV bag v):zw q [.d (.ref 0),.d (.str bag)] (hS hd r x s)=some (if(v&&(x.rows.map Row.bag).contains bag)=true then .ok (rd .aI) (hS hd r x s) else .ex 140 none (hS hd r x s)):=by
 have i:(aT (gP x.rows) (.inr bag)).isSome=_:=BY;unfold zw Jj;cases v with
 |false=>simp only[↓ev,hv,cq,hR,aK]
 |true=>
  cases hc:(x.rows.map Row.bag).contains bag with
  |true=>rw[hc] at i;simp only[↓ev,hv,aK,hR,kB,lA,aP,i,lG,cq]
  |false=>rw[hc] at i;simp only[↓ev,hv,aK,hR,kB,lA,aP,i,mV,cq]
theorem e7d(g:ax h)(o:Ok h n x)(hn:n<1000)(hv:lV bag v)(qS:lV f v2):Dn h r n x s (GN 0 [.d (.ref 0),.d (.str bag),.d (.str f)] (hS (aE h) r x s)):=by
 have e0:=λq=>Zk (s:=s) (hd:=aE h) (r:=r) (x:=x) q hv
 have e1:=λq=>zL (s:=s) (hd:=aE h) (r:=r) (x:=x) q qS
 unfold Dn;generalize aE h=hd at *;unfold GN PZ;cases hc:(v&&(x.rows.map Row.bag).contains bag) with
 |false=>
  simp only[hc,aK,j'] at e0;refine .inr ⟨140,?_,rfl⟩;simp only[↓ev,hR,cU,Bq,e0,cq]
 |true=>
  simp only[hc,pS] at e0;cases uf:(v2&&(x.book.map (·.1)).contains f) with
  |false=>
   simp only[uf,aK,j'] at e1;refine .inr ⟨104,?_,rfl⟩;simp only[↓ev,hR,cU,Bq,e0,tF,e1,cq]
  |true=>
   simp only[uf,pS] at e1;rw[eP] at hc uf;have hm:=u0 hc.2;have p1:bU (ik x.rows) (.inr bag) (.str f)=ik (x.rows.map (fV (λz=>z.bag == bag) (some f))):=by
    unfold ik;rw[Dy o.nb hm];unfold td;rw[fJ];refine pH λz _=>?_
    dsimp only[Function.comp];unfold fV;by_cases e:z.bag=bag
    .rw[aX e,aX (beq_iff_eq.mpr e)];rfl
    .rw[aM e,aM (by rw[beq_iff_eq];exact e)]
   have p2:=So (p:=λz=>z.bag == bag) (y:=some f) (rows:=x.rows)
   have p3:=Sq (p:=λz=>z.bag == bag) (y:=some f) (rows:=x.rows)
   have rl:=o.rl;have m2:((ik x.rows).length<1000000)=True:=bJ (by unfold ik;rw[oo];lia)
   refine .inl ⟨_,?_,o.read (p:=λz=>z.bag == bag) (y:=some f) (λ_ m=>m) o.bn (bM _) λw mw f' e=>?_⟩
   .simp only[↓ev,hS,hR,cU,Bq,e0,tF,e1,qy,rF,aP,m2,p1,cq,p2,p3]
   .unfold fV at e;split at e
    .cases e;exact u0 uf.2
    .exact(o.rw w mw).2.2 f' e
theorem e7e{rs:List Row}{w:Row}(nb:(rs.map Row.bag).Nodup)(hw:w∈rs)(hl:rs.length<1000){x:Hl}{a2:ak Val}:CK 0 [some (.d (.ref 0)),some (.d (.str f)),some (.d (.str w.bag))] (hS hd r { x with rows:=rs} s)=some (.nx [some (.d (.ref 0)),some (.d (.str f)),some (.d (.str w.bag))] (hS hd r { x with rows:=rs.map (fV (λz=>z.bag == w.bag&&z.fl == some f) none)} s)):=by
 have v0:aT (ik rs) (.inr w.bag)=some (aL w.fl):=lP nb hw;have p2:=So (p:=λz=>z.bag == w.bag&&z.fl == some f) (y:=none) (rows:=rs)
 have p3:=Sq (p:=λz=>z.bag == w.bag&&z.fl == some f) (y:=none) (rows:=rs)
 have m2:((ik rs).length<1000000)=True:=bJ (by unfold ik;rw[oo];lia)
 have same:w.fl≠some f->rs.map (fV (λz=>z.bag == w.bag&&z.fl == some f) none)=rs:=λne=>by
  conv=>rhs;rw[<-List.map_id rs]
  refine pH λz mz=>?_
  unfold fV;rw[aM λe=>?_]
  .rfl
  .rw[eP,beq_iff_eq,beq_iff_eq] at e;rw[pJ nb mz hw e.1] at e;exact ne e.2
 unfold CK;cases hf:w.fl with
 |none=>
  rw[hf] at v0;rw[same (by rw[hf];intro z;cases z)]
  unfold aL at v0;have en:aR .aI (.str f)=false:=rfl;simp only[↓ev,hR,qy,rF,aP,v0,aK,en]
 |some f'=>
  rw[hf] at v0;unfold aL at v0;cases he:(f' == f) with
  |false=>
   rw[same (by rw[hf];intro z;cases z;rw[eL] at he;cases he)]
   simp only[↓ev,hR,qy,rF,aP,v0,aK,ib,he]
  |true=>
   have p1:bU (ik rs) (.inr w.bag) .aI=ik (rs.map (fV (λz=>z.bag == w.bag&&z.fl == some f) none)):=by
    unfold ik;rw[Dy nb (j_ hw)];unfold td;rw[fJ];refine pH λz mz=>?_
    dsimp only[Function.comp];unfold fV;by_cases e:z.bag=w.bag
    .have ez:=pJ nb mz hw e;rw[aX e,aX (by rw[ez];dsimp only;rw[hf,eL,beq_iff_eq.mp he];simp)]
     rfl
    .rw[aM e,aM (by rw[eP,beq_iff_eq];exact λz=>e z.1)]
   simp only[↓ev,hS,hR,qy,rF,aP,v0,aK,ib,he,m2,p1,p2,p3]
theorem Zl{z:Row}:(fV p y z).bag=z.bag:=by unfold fV;split <;> rfl
theorem Zm(d:List Row)(w z:Row):fV (λz=>z.bag == w.bag&&z.fl == some f) none (fV (λz=>(d.map Row.bag).contains z.bag&&z.fl == some f) none z)=fV (λz=>((d++[w]).map Row.bag).contains z.bag&&z.fl == some f) none z:=by
 unfold fV;dsimp only;rw[dB];by_cases h2:z.fl=some f
 .by_cases h1:z.bag∈d.map Row.bag
  .simp[h1,h2]
  .by_cases h3:z.bag=w.bag
   .rw[h3] at h1;simp[h1,h2,h3]
   .simp[h1,h2,h3]
 .simp[h2]
theorem e0k(nb:(x.rows.map Row.bag).Nodup)(hl:x.rows.length<1000):∃a2,aH (af 2) (CK 0) (dS (x.rows.map Row.bag)) [some (.d (.ref 0)),some (.d (.str f)),none] (hS hd r x s)=some (.nx [some (.d (.ref 0)),some (.d (.str f)),a2] (hS hd r { x with rows:=x.rows.map (fV (λz=>z.fl == some f) none)} s)):=by
 rw[show dS (x.rows.map Row.bag)=x.rows.map λw=>.str w.bag by unfold dS;rw[fJ];rfl]
 obtain⟨U',S',e,⟨a2,rfl⟩,rfl⟩:=lB (gg:=af 2) (body:=CK 0) (f:=λw:Row=>.str w.bag) (U:=[some (.d (.ref 0)),some (.d (.str f)),none]) (S:=hS hd r x s) (λpre U S'=>(∃a2,U=[some (.d (.ref 0)),some (.d (.str f)),a2])/\S'=hS hd r { x with rows:=x.rows.map (fV (λz=>(pre.map Row.bag).contains z.bag&&z.fl == some f) none)} s) x.rows ⟨⟨_,rfl⟩,by
   have:x.rows.map (fV (λz=>(([]:List Row).map Row.bag).contains z.bag&&z.fl == some f) none)=x.rows:=by
    conv=>rhs;rw[<-List.map_id x.rows]
    rfl
   rw[this]⟩ (by
  rintro d w post eq U S' ⟨⟨a2,rfl⟩,rfl⟩;have hw:w∈x.rows:=by rw[eq];simp
  have e:=e7e (hd:=hd) (r:=r) (s:=s) (x:=x) (f:=f) (a2:=none) (rs:=x.rows.map (fV (λz=>(d.map Row.bag).contains z.bag&&z.fl == some f) none)) (w:=fV (λz=>(d.map Row.bag).contains z.bag&&z.fl == some f) none w) (by rw[Rm];exact nb) (j_ hw) (by rw[bh];exact hl)
  rw[Zl] at e;refine⟨_,_,_,rfl,.inl e,⟨_,rfl⟩,?_⟩;rw[fJ]
  congr 3
  funext z;exact Zm d w z)
 have:x.rows.map (fV (λz=>(x.rows.map Row.bag).contains z.bag&&z.fl == some f) none)=x.rows.map (fV (λz=>z.fl == some f) none):=pH λz mz=>by
  have hc:(x.rows.map Row.bag).contains z.bag=true:=jv.mpr (j_ mz);unfold fV;simp only[hc,Bool.true_and]
 rw[this] at e;exact⟨a2,e⟩
theorem e9b(g:ax h)(o:Ok h n x)(hv:lV f v):Dn h r n x s (Ga 0 [.d (.ref 0),.d (.str f)] (hS (aE h) r x s)):=by
 have e0:=λq=>zL (s:=s) (hd:=aE h) (r:=r) (x:=x) q hv
 unfold Dn;generalize aE h=hd at *;unfold Ga Od;cases hc:(v&&(x.book.map (·.1)).contains f) with
 |false=>
  simp only[hc,aK,j'] at e0;refine .inr ⟨104,?_,rfl⟩;simp only[↓ev,hR,cU,tF,e0,cq]
 |true=>
  simp only[hc,pS] at e0;rw[eP] at hc;obtain⟨p,hp,ep⟩:=dZ.mp (u0 hc.2);have v0:aT (mf x.book) (.inr f)=some (t3 p):=by rw[<-ep];exact lP o.bn hp
  have d1:dy (mf x.book) f=mf (x.book.filter λz=>decide (z.1≠f)):=Dp
  have t1:gu (mf x.book)=true:=zT;have k1:(ik x.rows).map (·.1.d)=dS (x.rows.map Row.bag):=Q5
  have rl:=o.rl;have l1:((ik x.rows).length<1000000)=True:=bJ (by unfold ik;rw[oo];lia)
  have l2:((ik x.rows).length<=1000000)=True:=bJ (by unfold ik;rw[oo];lia)
  obtain⟨a2,e1⟩:=e0k (hd:=hd) (r:=r) (s:=s) (f:=f) (x:={ x with book:=x.book.filter λz=>decide (z.1≠f)}) o.nb (by dsimp only;lia)
  generalize t3 p=tp at *;refine .inl ⟨_,?_,o.read (p:=λz=>z.fl == some f) (y:=none) (bk:=x.book.filter λz=>decide (z.1≠f)) (λq m=>(sE.mp m).1) (o.bn.sublist (List.Sublist.map _ IF)) (y6 _ _) λw mw f' e=>?_⟩
  .dsimp only at e1;simp only[↓ev,hS,hR,cU,tF,e0,sr,tM,aP,t1,v0,d1,qy,rF,k1,i9,e1,cq]
  .unfold fV at e;split at e
   .cases e
   .rename_i ne
    obtain⟨q,hq,eq⟩:=dZ.mp ((o.rw w mw).2.2 f' e);refine dZ.mpr ⟨q,sE.mpr ⟨hq,sd λz=>ne ?_⟩,eq⟩
    dsimp only;rw[e,<-eq,z];exact eL _
end
inductive ir:D->Prop
 |nt {f ct:Str} {cl:Int} {v:Bool}:lV f v->ir (.tup [.str "flight",.str f,.str ct,.int cl])
 |change {f:Str} {cl:Int} {v:Bool}:lV f v->ir (.tup [.str "change",.str f,.int cl])
 |off {f:Str} {v:Bool}:lV f v->ir (.tup [.str "off",.str f])
 |put {bag b:Str} {fl:ak Str} {v v2:Bool}:lV bag v->(∀f,fl=some f->lV f v2)->ir (.tup [.str "put",.str bag,aL fl,.str b])
 |read {bag f:Str} {v v2:Bool}:lV bag v->lV f v2->ir (.tup [.str "read",.str bag,.str f])
 |stop {b:Str}:ir (.tup [.str "stop",.str b])
 |start {b:Str}:ir (.tup [.str "start",.str b])
section
variable{s:List Cell}{h:aA}{r:Int}{x:Hl}{n q:Nat}{d:D}
theorem TU:(("change":Str) == "flight")=false:=by decide +kernel
theorem TV:(("off":Str) == "flight")=false:=by decide +kernel
theorem TX:(("off":Str) == "change")=false:=by decide +kernel
theorem MV:(("put":Str) == "flight")=false:=by decide +kernel
theorem MW:(("put":Str) == "change")=false:=by decide +kernel
theorem MX:(("put":Str) == "off")=false:=by decide +kernel
theorem TY:(("read":Str) == "flight")=false:=by decide +kernel
theorem TZ:(("read":Str) == "change")=false:=by decide +kernel
theorem T1:(("read":Str) == "off")=false:=by decide +kernel
theorem E3:(("read":Str) == "put")=false:=by decide +kernel
theorem E4:(("stop":Str) == "flight")=false:=by decide +kernel
theorem E5:(("stop":Str) == "change")=false:=by decide +kernel
theorem E6:(("stop":Str) == "off")=false:=by decide +kernel
theorem E7:(("stop":Str) == "put")=false:=by decide +kernel
theorem E8:(("stop":Str) == "read")=false:=by decide +kernel
theorem E9:(("start":Str) == "flight")=false:=by decide +kernel
theorem E_:(("start":Str) == "change")=false:=by decide +kernel
theorem E':(("start":Str) == "off")=false:=by decide +kernel
theorem Fb:(("start":Str) == "put")=false:=by decide +kernel
theorem Fc:(("start":Str) == "read")=false:=by decide +kernel
theorem Fd:(("start":Str) == "stop")=false:=by decide +kernel
theorem e7f(g:ax h)(o:Ok h n x)(hn:n<1000)(qP:ir d):Dn h r n x s (tK 0 [.d (.ref 0),.d d] (hS (aE h) r x s)):=by
 cases qP with
 |@nt f ct cl v hv=>
  have e:=Y7 (s:=s) (r:=r) (ct:=ct) (cl:=cl) g o hn hv;unfold Dn at *;generalize aE h=hd at *;unfold tK vR;rcases e with⟨x',e,ok⟩|⟨C,e,hC⟩
  .refine .inl ⟨x',?_,ok⟩;simp only[↓ev,cy,aK,ib,eL,hR,cU,Pj,cV,jj,v3,e,cq]
  .refine .inr ⟨C,?_,hC⟩;simp only[↓ev,cy,aK,ib,eL,hR,cU,Pj,cV,jj,v3,e,cq]
 |@change f cl v hv=>
  have e:=Y8 (s:=s) (r:=r) (cl:=cl) g o hn hv;unfold Dn at *;generalize aE h=hd at *;unfold tK vR;rcases e with⟨x',e,ok⟩|⟨C,e,hC⟩
  .refine .inl ⟨x',?_,ok⟩;simp only[↓ev,cy,aK,ib,TU,eL,hR,cU,Pk,cV,jj,e,cq]
  .refine .inr ⟨C,?_,hC⟩;simp only[↓ev,cy,aK,ib,TU,eL,hR,cU,Pk,cV,jj,e,cq]
 |@off f v hv=>
  have e:=e9b (s:=s) (r:=r) g o hv;unfold Dn at *;generalize aE h=hd at *;unfold tK vR;rcases e with⟨x',e,ok⟩|⟨C,e,hC⟩
  .refine .inl ⟨x',?_,ok⟩;simp only[↓ev,cy,aK,ib,TV,TX,eL,hR,cU,Ov,cV,e,cq]
  .refine .inr ⟨C,?_,hC⟩;simp only[↓ev,cy,aK,ib,TV,TX,eL,hR,cU,Ov,cV,e,cq]
 |@put bag b fl v v2 hv hf=>
  have eb:=λq=>vb (s:=s) (r:=r) (q:=q) g o
  have ll:(((ord h x.rows).map aU).length:Int)=(x.rows.length:Int):=by rw[bh,o.perm.length_eq]
  by_cases h8:x.rows.length<8
  .have e:=e9a (s:=s) (r:=r) (b:=b) (fl:=fl) g o hn hv hf h8;have l8:((x.rows.length:Int)<8)=True:=bJ (by lia)
   unfold Dn at *;generalize(ord h x.rows).map aU=rl at *;generalize aE h=hd at *;generalize aL fl=ff at *;unfold tK vR;rcases e with⟨x',e,ok⟩|⟨C,e,hC⟩
   .refine .inl ⟨x',?_,ok⟩;simp only[↓ev,cy,aK,ib,MV,MW,MX,eL,hR,cU,u_,eb,ll,l8,decide_true,Sk,cV,jj,v3,e,cq]
   .refine .inr ⟨C,?_,hC⟩;simp only[↓ev,cy,aK,ib,MV,MW,MX,eL,hR,cU,u_,eb,ll,l8,decide_true,Sk,cV,jj,v3,e,cq]
  .have l8:((x.rows.length:Int)<8)=False:=eq_false (by lia)
   refine .inl ⟨x,?_,o.up⟩;generalize(ord h x.rows).map aU=rl at *;generalize aE h=hd at *;generalize aL fl=ff at *;unfold tK vR;simp only[↓ev,cy,aK,ib,MV,MW,MX,eL,hR,cU,u_,eb,ll,l8,decide_false,cq]
 |@read bag f v v2 hv qS=>
  have e:=e7d (s:=s) (r:=r) g o hn hv qS;unfold Dn at *;generalize aE h=hd at *;unfold tK vR;rcases e with⟨x',e,ok⟩|⟨C,e,hC⟩
  .refine .inl ⟨x',?_,ok⟩;simp only[↓ev,cy,aK,ib,TY,TZ,T1,E3,eL,hR,cU,Q7,cV,jj,e,cq]
  .refine .inr ⟨C,?_,hC⟩;simp only[↓ev,cy,aK,ib,TY,TZ,T1,E3,eL,hR,cU,Q7,cV,jj,e,cq]
 |@stop b=>
  have e:=e7c (s:=s) (r:=r) (b:=b) g o hn;unfold Dn at *;generalize aE h=hd at *;unfold tK vR;rcases e with⟨x',e,ok⟩|⟨C,e,hC⟩
  .refine .inl ⟨x',?_,ok⟩;simp only[↓ev,cy,aK,ib,E4,E5,E6,E7,E8,eL,hR,cU,Q8,cV,e,cq]
  .refine .inr ⟨C,?_,hC⟩;simp only[↓ev,cy,aK,ib,E4,E5,E6,E7,E8,eL,hR,cU,Q8,cV,e,cq]
 |@start b=>
  have e:=Y9 (s:=s) (r:=r) (b:=b) g o;unfold Dn at *;generalize aE h=hd at *;unfold tK vR;rcases e with⟨x',e,ok⟩|⟨C,e,hC⟩
  .refine .inl ⟨x',?_,ok⟩;simp only[↓ev,cy,aK,ib,E9,E_,E',Fb,Fc,Fd,eL,hR,cU,Kc,cV,e,cq]
  .refine .inr ⟨C,?_,hC⟩;simp only[↓ev,cy,aK,ib,E9,E_,E',Fb,Fc,Fd,eL,hR,cU,Kc,cV,e,cq]
theorem e7g(g:ax h)(o:Ok h n x)(hn:n<1000)(qP:ir d):∃(v:Bool) (x':Hl),Ok h (n+1) x'/\C9 0 [.d (.ref 0),.d d] (hS (aE h) r x s)=some (.ok (rd (.bl v)) (hS (aE h) r x' s)):=by
 have e:=e7f (s:=s) (r:=r) g o hn qP;unfold Dn at e;rcases e with⟨x',e,ok⟩|⟨C,e,hC⟩
 .refine⟨true,x',ok,?_⟩;generalize aE h=hd at *;unfold C9 Ka;simp only[↓ev,aP,e,cq]
 .have hC':(jk.any λp=>p.2 == C)=true:=by
   unfold wT at hC;split at hC
   .assumption
   .cases hC
  refine⟨false,x,o.up,?_⟩;generalize aE h=hd at *;unfold C9 Ka;simp only[↓ev,aP,e,hC',cq]
end
theorem Hf(l:List Nat)(h1:1<=l.length)(h2:l.length<=8):∃v,lV ⟨l.toArray⟩ v:=by
 have e:∀q S,bC (af 0) (iV true) (Ge q) (l.map λc=>.str (jZ c)) [none] S []=some (.ok ((l.map λc => !(Builtin.Str.occurrences (Str.ofString "abcdefghijklmnopqrstuvwxyz") (jZ c) 0 (Str.ofString "abcdefghijklmnopqrstuvwxyz").length 1).isEmpty).map D.bl) S):=λq S=>by
  rw[vf (λc=>D.bl (!(Builtin.Str.occurrences (Str.ofString "abcdefghijklmnopqrstuvwxyz") (jZ c) 0 (Str.ofString "abcdefghijklmnopqrstuvwxyz").length 1).isEmpty)) l (by lia) λc m=>⟨rd (.bl _),by
   rfl,rfl⟩,fJ]
  rfl
 have c1:(1<=((⟨l.toArray⟩:Str).length:Int))=True:=bJ (by rw[vW];lia)
 have c2:(((⟨l.toArray⟩:Str).length:Int)<=8)=True:=bJ (by rw[vW];lia)
 have c3:((⟨l.toArray⟩:Str).length<=1000000)=True:=bJ (by rw[vW];lia)
 refine⟨(l.map λc => !(Builtin.Str.occurrences (Str.ofString "abcdefghijklmnopqrstuvwxyz") (jZ c) 0 (Str.ofString "abcdefghijklmnopqrstuvwxyz").length 1).isEmpty).all id,λq S=>?_⟩
 generalize(l.map λc => !(Builtin.Str.occurrences (Str.ofString "abcdefghijklmnopqrstuvwxyz") (jZ c) 0 (Str.ofString "abcdefghijklmnopqrstuvwxyz").length 1).isEmpty)=bs at *
 unfold qb CZ;simp only[↓ev,Ic,aK,c3,c1,decide_true,c2,e,JX,fZ]
noncomputable abbrev l3:List D:=[.int 11,.int 12,.int 13]
theorem SJ:∀a:Nat,a<3->dU l3 (a:Int)=some (.int ((11+a:Nat):Int))
 |0,_=>rfl
 |1,_=>rfl
 |2,_=>rfl
section
variable{ns:List Int}
theorem e0l(n:Nat)(hn:n<20):∃f v,Pr Bp [.d (ba ns),.d (.int (n:Int))] (rd (.str f))/\lV f v:=by
 obtain⟨d1,d2,d3⟩:=g9 ns 12 4 3 (by decide) (by decide) (by decide)
 have d1:Pr il [.d (ba ns),.d (.int 12),.d (.int 4),.d (.int 3)] _:=d1;cases h6:((n:Int) == 6) with
 |true=>
  obtain⟨v,hv⟩:=Hf [65] (by decide) (by decide)
  refine⟨"A",v,λq S=>?_,by rw[show("A":Str)=⟨[65].toArray⟩ by decide +kernel];exact hv⟩
  generalize(n:Int)=ni at *;unfold Bp Jk;simp only[↓ev,aK,eY,h6,fZ]
 |false=>
  have ha:=SJ (bf ns 12 4 3).toNat (by lia)
  rw[Int.toNat_of_nonneg d2] at ha;have hx:=Hv ns (11+(bf ns 12 4 3).toNat) (by lia) n hn
  have hl:=BX ns (11+(bf ns 12 4 3).toNat) (by lia) n
  obtain⟨v,hv⟩:=Hf _ hl.1 hl.2;refine⟨_,v,λq S=>?_,hv⟩
  generalize((11+(bf ns 12 4 3).toNat:Nat):Int)=qi at *;generalize bf ns 12 4 3=dg at *;generalize(n:Int)=ni at *;unfold Bp Jk;unfold jP at hx;simp only[↓ev,aK,eY,h6,aP,d1,ha,hx,fZ]
theorem e0m(n:Nat)(hn:n<20):∃f v,Pr Bt [.d (ba ns),.d (.int (n:Int))] (rd (.str f))/\lV f v:=by
 obtain⟨d1,d2,d3⟩:=g9 ns 13 4 3 (by decide) (by decide) (by decide)
 have d1:Pr il [.d (ba ns),.d (.int 13),.d (.int 4),.d (.int 3)] _:=d1;cases h6:((n:Int) == 12) with
 |true=>
  obtain⟨v,hv⟩:=Hf [98,49] (by decide) (by decide)
  refine⟨"b1",v,λq S=>?_,by rw[show("b1":Str)=⟨[98,49].toArray⟩ by decide +kernel];exact hv⟩
  generalize(n:Int)=ni at *;unfold Bt Jv;simp only[↓ev,aK,eY,h6,fZ]
 |false=>
  have ha:=SJ (bf ns 13 4 3).toNat (by lia)
  rw[Int.toNat_of_nonneg d2] at ha;have hx:=Hv ns (11+(bf ns 13 4 3).toNat) (by lia) n hn
  have hl:=BX ns (11+(bf ns 13 4 3).toNat) (by lia) n
  obtain⟨v,hv⟩:=Hf _ hl.1 hl.2;refine⟨_,v,λq S=>?_,hv⟩
  generalize((11+(bf ns 13 4 3).toNat:Nat):Int)=qi at *;generalize bf ns 13 4 3=dg at *;generalize(n:Int)=ni at *;unfold Bt Jv;unfold jP at hx;simp only[↓ev,aK,eY,h6,aP,d1,ha,hx,fZ]
theorem VL(k:Nat)(hk:k<900):∃cl,Pr xP [.d (ba ns),.d (.int (k:Int))] (rd (.int cl)):=by
 have hp:=zS ns (k+1) 10 (by lia) (by decide)
 obtain⟨c,hc⟩:=KL ns k;obtain⟨d1,_,_⟩:=g9 ns (k+1) 3 30 (by lia) (by decide) (by decide)
 rw[show((k+1:Nat):Int)=(k:Int)+1 by lia] at hp d1
 have d1:Pr il [.d (ba ns),.d (.int ((k:Int)+1)),.d (.int 3),.d (.int 30)] _:=d1;generalize(k:Int)=ki at *;generalize bf ns (k+1) 0 10=pv at *;have p8:(0<(10:Int)^8)=True:=bJ (by decide)
 have p9:(0<(10:Int)^9)=True:=bJ (by decide)
 have TL:(Int.natAbs 10<2^64)=True:=bJ (by decide)
 cases h0:(pv == 0) with
 |true=>
  refine⟨-1 - c%10^8,λq S=>?_⟩
  unfold xP Gf;simp only[↓ev,hp,aP,aK,eY,h0,hc,TL,and_self,decide_true,p8,fZ]
 |false=>
  cases h1:(pv == 1) with
  |true=>
   refine⟨c%10^9,λq S=>?_⟩
   unfold xP Gf;simp only[↓ev,hp,aP,aK,eY,h0,h1,hc,TL,and_self,decide_true,p9,fZ]
  |false=>
   refine⟨bf ns (k+1) 3 30,λq S=>?_⟩
   unfold xP Gf;simp only[↓ev,hp,aP,aK,eY,h0,h1,d1,fZ]
end
section
variable{ns:List Int}{k kd mk fi ob tb oc ln Cd cl:Int}{bl nl cs c1 n1:List D}{f bag b ct:Str}{S:aO}
structure IV (ns:List Int) (k kd mk fi ob tb oc ln Cd cl:Int) (bl nl cs c1 n1:List D) (f bag b ct:Str):Prop where
 hp:Pr lO [.d (ba ns),.d (.int k),.d (.int 20)] (rd (.int kd))
 ht:Pr og [.d (ba ns),.d (.int k),.d (.int 10)] (rd (.int mk))
 hi:(mk == 9)=true/\fi=6\/(mk == 9)=false/\fi=mk%3
 hf:Pr Bp [.d (ba ns),.d (.int fi)] (rd (.str f))
 ho:Pr kc [.d (ba ns),.d (.int k),.d (.int 13)] (rd (.int ob))
 hb:Pr Bt [.d (ba ns),.d (.int ob)] (rd (.str bag))
 hc:∀q S,bC (af 0) (iV true) (Gj q) bl [none] S []=some (.ok nl S)
 k1:cutD cs none (some 1)=c1
 k2:cutD nl none (some 1)=n1
 a1:(nl.length+nl.length<=1000000)=True
 a2:(nl.length+nl.length+c1.length<=1000000)=True
 a3:(cs.length+n1.length<=1000000)=True
 ll:(nl.length:Int)=ln
 lc:((cs.length+n1.length:Nat):Int)=Cd
 hm:(-2^64<(2:Int)/\(2:Int)<2^64 \/ -2^64<ln/\ln<2^64)=True
 B8:Pr og [.d (ba ns),.d (.int (k+1)),.d (.int (2*ln+1))] (rd (.int tb))
 wk:dU (nl++(nl++c1)) tb=some (.str b)
 wx:Pr kc [.d (ba ns),.d (.int (k+1)),.d (.int Cd)] (rd (.int oc))
 B5:dU (cs++n1) oc=some (.str ct)
 vp:Pr xP [.d (ba ns),.d (.int k)] (rd (.int cl))
abbrev vh(ns:List Int)(k kd mk cl:Int)(bl nl cs n1:List D)(f bag b ct:Str):Gm:=[some (.d (ba ns)),some (.d (.int k)),some (.d (.tup [.lst bl,.lst cs])),some (.d (.int kd)),some (.d (.int mk)),some (.d (.str f)),some (.d (.str bag)),some (.d (.lst nl)),some (.d (.str b)),some (.d (.lst (cs++n1))),some (.d (.tup [.str "flight",.str f,.str ct,.int cl]))]
theorem vc(x:IV ns k kd mk fi ob tb oc ln Cd cl bl nl cs c1 n1 f bag b ct)(rest:GS):JW rest 0 [some (.d (ba ns)),some (.d (.int k)),some (.d (.tup [.lst bl,.lst cs])),none,none,none,none,none,none,none,none] S=rest (vh ns k kd mk cl bl nl cs n1 f bag b ct) S:=by
 obtain⟨hp,ht,hi,hf,ho,hb,hc,k1,k2,a1,a2,a3,ll,lc,hm,B8,wk,wx,B5,vp⟩:=x;have m3:((0:Int)<3)=True:=bJ (by decide)
 unfold JW;rcases hi with⟨h9,rfl⟩|⟨h9,rfl⟩
 .simp only[↓ev,hp,aP,ht,aK,eY,h9,hf,ho,hb,cy,i9,hc,a1,cV,k1,Ez,a2,zM,ll,hm,B8,wk,k2,a3,lc,wx,B5,vp]
 .simp only[↓ev,hp,aP,ht,aK,eY,h9,m3,decide_true,hf,ho,hb,cy,i9,hc,a1,cV,k1,Ez,a2,zM,ll,hm,B8,wk,k2,a3,lc,wx,B5,vp]
end
noncomputable def lu(m:Int):D:=.tup [.str "turn",.int m]
def zf(ds:List D):Prop:=ds.length<=2/\∀d∈ds,ir d\/∃m:Int,1<=m/\m<=12/\d=lu m
section
variable{ns:List Int}{k kd mk fi ob tb oc ln Cd cl:Int}{bl nl cs c1 n1:List D}{f bag b ct:Str}{S:aO}{v v2:Bool}
theorem vd{hd:D}{ds:List D}(e:rG 0 [some (.d (ba ns)),some (.d (.int k)),some (.d hd),none,none,none,none,none,none,none,none] S=some (.rt (.o (.lst ds)) S)):BC 0 [.d (ba ns),.d (.int k),.d hd] S=some (.ok (.o (.lst ds)) S):=by
 unfold BC aS;generalize rG 0=ml at *;simp only[↓ev,e,fZ]
theorem Qq(x:IV ns k kd mk fi ob tb oc ln Cd cl bl nl cs c1 n1 f bag b ct)(k0:0<=kd)(k20:kd<20)(hv:lV bag v)(qS:lV f v2){o3 t1 bg:Int}{bt:ao}(h3:Pr kc [.d (ba ns),.d (.int (k+1)),.d (.int 3)] (rd (.int o3)))(yp:dU bl 0=some (aq bt))(hbg:(9<bt.long)=True/\bg=12\/(9<bt.long)=False/\bg=4)(DX:Pr og [.d (ba ns),.d (.int (k+1)),.d (.int bg)] (rd (.int t1)))(ht1:0<=t1/\t1<12):∃ds,zf ds/\BC 0 [.d (ba ns),.d (.int k),.d (.tup [.lst bl,.lst cs])] S=some (.ok (.o (.lst ds)) S):=by
 have vp:=x.vp;have one:∀{d:D},ir d->zf [d]:=λ{d} hd=>⟨by simp,λz m=>by rw[lz.mp m];exact .inl hd⟩
 by_cases c3:kd<3
 .have q1:=bJ c3;refine⟨_,one (.nt (ct:=ct) (cl:=cl) qS),vd ?_⟩;unfold rG;rw[vc x];unfold tI;clear x;simp only[↓ev,vh,q1,decide_true,aP,aK]
 have q1:=eq_false c3;cases e3:(kd == 3) with
 |true=>
  refine⟨_,one (.change (cl:=cl) qS),vd ?_⟩;unfold rG;rw[vc x];unfold tI;clear x;simp only[↓ev,vh,q1,decide_false,aK,eY,e3,vp,aP]
 |false=>
 cases e4:(kd == 4) with
 |true=>
  refine⟨_,one (.off qS),vd ?_⟩;unfold rG;rw[vc x];unfold tI;clear x;simp only[↓ev,vh,q1,decide_false,aK,eY,e3,e4,aP]
 |false=>
 cases e5:(kd == 5) with
 |true=>
  refine⟨[.tup [.str "off",.str f],.tup [.str "flight",.str f,.str ct,.int cl]],⟨by simp,λz m=>?_⟩,vd ?_⟩
  .rcases y04.mp m with rfl|m
   .exact .inl (.off qS)
   .rw[lz.mp m];exact .inl (.nt qS)
  .unfold rG;rw[vc x];unfold tI;clear x;simp only[↓ev,vh,q1,decide_false,aK,eY,e3,e4,e5,aP]
 |false=>
 by_cases Qs:kd<11
 .have q2:=bJ Qs;cases e0:(o3 == 0) with
  |true=>
   refine⟨[.tup [.str "put",.str bag,.aI,.str b]],one (.put (fl:=none) (v2:=true) hv λ_ z=>by cases z),vd ?_⟩
   unfold rG;rw[vc x];unfold tI;clear x;simp only[↓ev,vh,q1,decide_false,aK,eY,e3,e4,e5,q2,decide_true,h3,e0,aP]
  |false=>
   refine⟨[.tup [.str "put",.str bag,.str f,.str b]],one (.put (fl:=some f) hv λ_ z=>by cases z;exact qS),vd ?_⟩
   unfold rG;rw[vc x];unfold tI;clear x;simp only[↓ev,vh,q1,decide_false,aK,eY,e3,e4,e5,q2,decide_true,h3,e0,aP]
 have q2:=eq_false Qs;cases DQ:(kd == 11) with
 |true=>
  refine⟨_,one (.read hv qS),vd ?_⟩;unfold rG;rw[vc x];unfold tI;clear x;simp only[↓ev,vh,q1,decide_false,aK,eY,e3,e4,e5,q2,DQ,aP]
 |false=>
 have n11:kd≠11:=by rw[nQ] at DQ;exact DQ
 by_cases Ve:kd<14
 .rcases(show kd=12\/kd=13 by lia) with rfl|rfl
  .refine⟨_,one (.stop (b:=b)),vd ?_⟩;unfold rG;rw[vc x];unfold tI;rfl
  .refine⟨_,one (.start (b:=b)),vd ?_⟩;unfold rG;rw[vc x];unfold tI;rfl
 have q3:=eq_false Ve;refine⟨[lu (1+t1)],⟨by simp,λz m=>by rw[lz.mp m];exact .inr ⟨1+t1,by lia,by lia,rfl⟩⟩,vd ?_⟩
 unfold rG;rw[vc x];unfold tI;clear x;unfold lu;unfold aq at yp;rcases hbg with⟨h9,rfl⟩|⟨h9,rfl⟩
 .simp only[↓ev,vh,q1,decide_false,aK,eY,e3,e4,e5,q2,DQ,q3,cy,yp,cV,h9,decide_true,DX,aP]
 .simp only[↓ev,vh,q1,decide_false,aK,eY,e3,e4,e5,q2,DQ,q3,cy,yp,cV,h9,DX,aP]
end
theorem Rn(ds:List D):cutD ds none (some 1)=ds.take 1:=by
 unfold cutD;have e:HT.cG ds.length ds.length (some 1)=min 1 ds.length:=by
  unfold HT.cG;simp
 have e2:HT.cG ds.length 0 none=0:=rfl;rw[e,e2,List.drop_zero,Nat.sub_zero];by_cases h:1<=ds.length
 .rw[Nat.min_eq_left h]
 .rw[Nat.min_eq_right (by lia),vD (bM _),vD (by lia)]
section
variable{ns:List Int}{h:aA}
theorem e0n(g:ax h)(b0:0<h.ae.length)(k:Nat)(hk:k<900)(S:aO):∃ds,zf ds/\BC 0 [.d (ba ns),.d (.int (k:Int)),.d (aE h)] S=some (.ok (.o (.lst ds)) S):=by
 have bl:=g.sm.bl;have ct:=g.sm.ct;have c0:=g.c0;obtain⟨_,p0,p1⟩:=g9 ns k 0 20 (by lia) (by decide) (by decide)
 have hp:=zS ns k 20 (by lia) (by decide)
 obtain⟨_,t0,t1⟩:=g9 ns k 2 10 (by lia) (by decide) (by decide)
 have ht:=zI ns k 10 (by lia) (by decide)
 obtain⟨_,o0,o1⟩:=g9 ns k 1 13 (by lia) (by decide) (by decide)
 have ho:=xS ns k 13 (by lia) (by decide)
 obtain⟨fn,Ea,hfi⟩:∃fn:Nat,fn<20/\((bf ns k 2 10 == 9)=true/\(fn:Int)=6\/(bf ns k 2 10 == 9)=false/\(fn:Int)=bf ns k 2 10%3):=by
  cases e:(bf ns k 2 10 == 9) with
  |true=>exact⟨6,by decide,.inl ⟨rfl,rfl⟩⟩
  |false=>exact⟨(bf ns k 2 10%3).toNat,by lia,.inr ⟨rfl,by lia⟩⟩
 obtain⟨f,v2,hf,qS⟩:=e0l (ns:=ns) fn Ea;obtain⟨bag,v,hb,hv⟩:=e0m (ns:=ns) (bf ns k 1 13).toNat (by lia)
 rw[Int.toNat_of_nonneg o0] at hb;obtain⟨cl,vp⟩:=VL (ns:=ns) k hk;have comp:∀q S,bC (af 0) (iV true) (Gj q) (h.ae.map aq) [none] S []=some (.ok (dS (h.ae.map ao.name)) S):=λq S=>by
  rw[vf (λb=>.str b.name) h.ae (by lia) λb m=>⟨rd (.str b.name),by unfold Gj aq;simp only[↓ev,cy],rfl⟩,dS,fJ]
  rfl
 obtain⟨_,tb0,tb1⟩:=g9 ns (k+1) 2 (2*(h.ae.length:Int)+1) (by lia) (by decide) (by lia)
 have B8:=zI ns (k+1) (2*(h.ae.length:Int)+1) (by lia) (by lia)
 obtain⟨_,oc0,oc1⟩:=g9 ns (k+1) 1 (((h.carts.length+1:Nat)):Int) (by lia) (by decide) (by lia)
 have wx:=xS ns (k+1) (((h.carts.length+1:Nat)):Int) (by lia) (by lia)
 have h3:=xS ns (k+1) 3 (by lia) (by decide)
 have DX:=zI ns (k+1) 12 (by lia) (by decide)
 have h4:=zI ns (k+1) 4 (by lia) (by decide)
 obtain⟨_,a0,a1⟩:=g9 ns (k+1) 2 12 (by lia) (by decide) (by decide)
 obtain⟨_,Ul,b1⟩:=g9 ns (k+1) 2 4 (by lia) (by decide) (by decide)
 rw[show((k+1:Nat):Int)=(k:Int)+1 by lia] at B8 wx h3 DX h4
 have AE:(h.carts.take 1).length=1:=by rw[yZ];lia
 have Tv:((h.ae.map ao.name).take 1).length=1:=by rw[yZ,bh];lia
 have wk:=Hb (xs:=h.ae.map ao.name++(h.ae.map ao.name++h.carts.take 1)) (k:=bf ns (k+1) 2 (2*(h.ae.length:Int)+1)) tb0 (by rw[du,du,bh,AE];lia)
 have B5:=Hb (xs:=h.carts++(h.ae.map ao.name).take 1) (k:=bf ns (k+1) 1 (((h.carts.length+1:Nat)):Int)) oc0 (by rw[du,Tv];lia)
 generalize(h.ae.map ao.name++(h.ae.map ao.name++h.carts.take 1)).getD (bf ns (k+1) 2 (2*(h.ae.length:Int)+1)).toNat ""=bb at *;generalize(h.carts++(h.ae.map ao.name).take 1).getD (bf ns (k+1) 1 (((h.carts.length+1:Nat)):Int)).toNat ""=cc at *;rw[dS,dB,dB,<-dS,<-dS] at wk;rw[dS,dB,<-dS,<-dS] at B5;have D:IV ns k (bf ns k 0 20) (bf ns k 2 10) fn (bf ns k 1 13) (bf ns (k+1) 2 (2*(h.ae.length:Int)+1)) (bf ns (k+1) 1 (((h.carts.length+1:Nat)):Int)) h.ae.length (((h.carts.length+1:Nat)):Int) cl (h.ae.map aq) (dS (h.ae.map ao.name)) (dS h.carts) (dS (h.carts.take 1)) (dS ((h.ae.map ao.name).take 1)) f bag bb cc:=⟨hp,ht,hfi,hf,ho,hb,comp,by rw[Rn,dS,dS,NK],by rw[Rn,dS,dS,NK],bJ (by simp;lia),bJ (by simp;lia),bJ (by simp;lia),by simp,by rw[bh,bh,Tv],bJ (.inl (by decide)),B8,wk,wx,B5,vp⟩
 obtain⟨bt,HQ,ab⟩:∃bt∈h.ae,dU (h.ae.map aq) 0=some (aq bt):=by
  cases e:h.ae with
  |nil=>rw[e] at b0;simp at b0
  |cons z zs=>exact⟨z,.head _,cy⟩
 by_cases h9:9<bt.long
 .exact Qq D p0 p1 hv qS h3 ab (.inl ⟨bJ h9,rfl⟩) DX ⟨a0,a1⟩
 .exact Qq D p0 p1 hv qS h3 ab (.inr ⟨eq_false h9,rfl⟩) h4 ⟨Ul,by lia⟩
end
theorem W6{d:D}(hd:ir d):∃t ts,d=.tup (.str t::ts)/\(t == ("turn":Str))=false:=by
 cases hd with
 |nt _=>exact⟨_,_,rfl,by decide +kernel⟩
 |change _=>exact⟨_,_,rfl,by decide +kernel⟩
 |off _=>exact⟨_,_,rfl,by decide +kernel⟩
 |put _ _=>exact⟨_,_,rfl,by decide +kernel⟩
 |read _ _=>exact⟨_,_,rfl,by decide +kernel⟩
 |stop=>exact⟨_,_,rfl,by decide +kernel⟩
 |start=>exact⟨_,_,rfl,by decide +kernel⟩
section
variable{s:List Cell}{h:aA}{r:Int}{x:Hl}{n:Nat}{d:D}{g0 g1 g3 a4 a5 a6 a7:ak Val}{ns:List Int}
theorem e7i{S2:aO}{l:List D}{hd:D}(e:xY 0 [.d (.ref 0)] (hS hd r x s)=some (.ok (.o (.lst l)) S2)):Dl 0 [g0,g1,some (.d (.ref 0)),g3,a4,a5,a6,a7] (hS hd r x s)=some (.nx [g0,g1,some (.d (.ref 0)),g3,a4,a5,a6,a7] S2):=by
 unfold Dl;simp only[↓ev,e]
theorem e0o(g:ax h)(o:Ok h n x)(hn:n<1000)(m:Nat):∃x' jY,Ok h n x'/\aH (af 5) (Dl 0) (gp 0 m) [g0,g1,some (.d (.ref 0)),g3,a4,a5,a6,a7] (hS (aE h) r x s)=some (.nx [g0,g1,some (.d (.ref 0)),g3,a4,jY,a6,a7] (hS (aE h) r x' s)):=by
 rw[rZ];obtain⟨U',S',e,⟨jY,rfl⟩,x',o',rfl⟩:=lB (gg:=af 5) (body:=Dl 0) (f:=λ(i:Nat)=>D.int (i:Int)) (U:=[g0,g1,some (.d (.ref 0)),g3,a4,a5,a6,a7]) (S:=hS (aE h) r x s) (λpre U S'=>(∃a5,U=[g0,g1,some (.d (.ref 0)),g3,a4,a5,a6,a7])/\∃x',Ok h n x'/\S'=hS (aE h) r x' s) (List.range m) ⟨⟨_,rfl⟩,x,o,rfl⟩ (by
  rintro d i post eq U S' ⟨⟨a5,rfl⟩,x',o',rfl⟩;obtain⟨X,t,e⟩:=KW (r:=r) (s:=s) g o' hn;exact⟨_,_,_,rfl,.inl (e7i e),⟨_,rfl⟩,_,o'.turn g t,rfl⟩)
 exact⟨x',jY,o',e⟩
theorem e0p(g:ax h)(o:Ok h n x)(hn:n<1000)(qP:ir d\/∃m:Int,1<=m/\m<=12/\d=lu m):∃x' jY,Ok h (n+1) x'/\BN 0 [g0,g1,some (.d (.ref 0)),g3,some (.d d),a5,a6,a7] (hS (aE h) r x s)=some (.nx [g0,g1,some (.d (.ref 0)),g3,some (.d d),jY,a6,a7] (hS (aE h) r x' s)):=by
 rcases qP with qP|⟨m,m1,m12,rfl⟩
 .obtain⟨v,x',o',e⟩:=e7g (s:=s) (r:=r) g o hn qP;obtain⟨t,ts,rfl,ht⟩:=W6 qP;refine⟨x',a5,o',?_⟩;clear qP;generalize aE h=hd at *;unfold BN;simp only[↓ev,cy,aK,ib,ht,e]
 .obtain⟨x',jY,o',e⟩:=e0o (r:=r) (s:=s) (g0:=g0) (g1:=g1) (g3:=g3) (a4:=some (.d (lu m))) (a5:=a5) (a6:=a6) (a7:=a7) g o hn m.toNat;have hz:Nat.ble m.natAbs 1000000000000=true:=by rw[Nat.ble_eq];lia
  have ht:(("turn":Str) == "turn")=true:=by decide +kernel
  refine⟨x',jY,o'.up,?_⟩;generalize aE h=hd at *;unfold BN;unfold lu at e ⊢;simp only[↓ev,cy,aK,ib,eL,cV,hz,i9,e]
theorem Zn(g:ax h)(o:Ok h n x)(ds:List D)(hl:n+ds.length<900)(qP:∀d∈ds,ir d\/∃m:Int,1<=m/\m<=12/\d=lu m):∃x' su jY,Ok h (n+ds.length) x'/\aH (af 4) (BN 0) ds [g0,g1,some (.d (.ref 0)),g3,a4,a5,a6,a7] (hS (aE h) r x s)=some (.nx [g0,g1,some (.d (.ref 0)),g3,su,jY,a6,a7] (hS (aE h) r x' s)):=by
 have key:=lB (gg:=af 4) (body:=BN 0) (f:=λd:D=>d) (U:=[g0,g1,some (.d (.ref 0)),g3,a4,a5,a6,a7]) (S:=hS (aE h) r x s) (λpre U S'=>(∃a4 a5,U=[g0,g1,some (.d (.ref 0)),g3,a4,a5,a6,a7])/\∃x',Ok h (n+pre.length) x'/\S'=hS (aE h) r x' s) ds ⟨⟨_,_,rfl⟩,x,o,rfl⟩ (by
  rintro p d post eq U S' ⟨⟨a4,a5,rfl⟩,x',o',rfl⟩;have hp:p.length+1<=ds.length:=by
   simp_all
  obtain⟨x2,jY,o2,e⟩:=e0p (r:=r) (s:=s) (g0:=g0) (g1:=g1) (g3:=g3) (a5:=a5) (a6:=a6) (a7:=a7) g o' (by lia) (qP d (by rw[eq];simp))
  refine⟨_,_,_,rfl,.inl e,⟨_,_,rfl⟩,x2,?_,rfl⟩;rw[du,vB];exact o2)
 rw[List.map_id'] at key;obtain⟨U',S',e,⟨su,jY,rfl⟩,x',o',rfl⟩:=key;exact⟨x',su,jY,o',e⟩
theorem Ml(g:ax h)(b0:0<h.ae.length)(o:Ok h n x)(hn:n<800)(k:Nat)(hk:k<900):∃x' su jY,Ok h (n+2) x'/\BO 0 [some (.d (ba ns)),some (.d (aE h)),some (.d (.ref 0)),some (.d (.int (k:Int))),a4,a5,a6,a7] (hS (aE h) r x s)=some (.nx [some (.d (ba ns)),some (.d (aE h)),some (.d (.ref 0)),some (.d (.int (k:Int))),su,jY,a6,a7] (hS (aE h) r x' s)):=by
 obtain⟨ds,dk,ed⟩:=e0n (ns:=ns) g b0 k hk (hS (aE h) r x s);have dl:=dk.1;obtain⟨x',su,jY,o',e⟩:=Zn (r:=r) (s:=s) (g0:=some (.d (ba ns))) (g1:=some (.d (aE h))) (g3:=some (.d (.int (k:Int)))) (a4:=a4) (a5:=a5) (a6:=a6) (a7:=a7) g o ds (by lia) dk.2
 refine⟨x',su,jY,?_,?_⟩
 .exact⟨o'.rw,o'.nd,o'.un,o'.bk,o'.bn,o'.rl,i7 o'.sz (by lia)⟩
 .generalize aE h=hd at *;generalize(k:Int)=ki at *;unfold BO;simp only[↓ev,ed,i9,e]
end
section
variable{s:List Cell}{h:aA}{r:Int}{x:Hl}{n:Nat}{g0 g1 g3 a3 a4 a5 a6 a7:ak Val}{ns:List Int}
theorem e9c(g:ax h)(b0:0<h.ae.length)(o:Ok h 0 x)(m:Nat)(hm:m<100):∃n x' Ji su jY,Ok h n x'/\n<300/\aH (af 3) (BO 0) (nN 15 2 m) [some (.d (ba ns)),some (.d (aE h)),some (.d (.ref 0)),a3,a4,a5,a6,a7] (hS (aE h) r x s)=some (.nx [some (.d (ba ns)),some (.d (aE h)),some (.d (.ref 0)),Ji,su,jY,a6,a7] (hS (aE h) r x' s)):=by
 have er:nN 15 2 m=(List.range m).map λi=>D.int ((15+2*i:Nat):Int):=by
  unfold nN;refine pH λi _=>?_
  congr 1
  lia
 rw[er];obtain⟨U',S',e,⟨Ji,su,jY,rfl⟩,x',o',rfl⟩:=lB (gg:=af 3) (body:=BO 0) (f:=λi:Nat=>D.int ((15+2*i:Nat):Int)) (U:=[some (.d (ba ns)),some (.d (aE h)),some (.d (.ref 0)),a3,a4,a5,a6,a7]) (S:=hS (aE h) r x s) (λpre U S'=>(∃a3 a4 a5,U=[some (.d (ba ns)),some (.d (aE h)),some (.d (.ref 0)),a3,a4,a5,a6,a7])/\∃x',Ok h (2*pre.length) x'/\S'=hS (aE h) r x' s) (List.range m) ⟨⟨_,_,_,rfl⟩,x,o,rfl⟩ (by
  rintro p i post eq U S' ⟨⟨a3,a4,a5,rfl⟩,x',o',rfl⟩;obtain⟨hq,hi⟩:=Kb eq;obtain⟨x2,su,jY,o2,e⟩:=Ml (ns:=ns) (r:=r) (s:=s) (a4:=a4) (a5:=a5) (a6:=a6) (a7:=a7) g b0 o' (by lia) (15+2*i) (by lia)
  refine⟨_,_,_,rfl,.inl e,⟨_,_,_,rfl⟩,x2,?_,rfl⟩;rw[du,vB,Nat.mul_add];exact o2)
 rw[vG] at o';exact⟨_,x',Ji,su,jY,o',by lia,e⟩
theorem e7j(g:ax h)(o:Ok h n x){bt:ao}(hb:bt∈h.ae):BP 0 [g0,g1,some (.d (.ref 0)),a3,a4,a5,some (.d (aq bt)),a7] (hS (aE h) r x s)=some (.nx [g0,g1,some (.d (.ref 0)),a3,a4,a5,some (.d (aq bt)),a7] (hS (aE h) r { x with halts:=x.halts.filter λk=>decide (k≠bt.name)} s)):=by
 have e:=Rl (s:=s) (r:=r) g o (jv.mpr (j_ (f:=ao.name) hb));have hB:aq bt=.tup [.str bt.name,.int bt.long,.bl bt.ring,.lst (dS bt.outs)]:=rfl;rw[hB];generalize aE h=hd at *;unfold BP;simp only[↓ev,hR,cU,Kc,cy,e]
theorem e0q(g:ax h)(o:Ok h n x):∃x' vX,Ok h n x'/\bu h x'=[]/\aH (af 6) (BP 0) (h.ae.map aq) [g0,g1,some (.d (.ref 0)),a3,a4,a5,a6,a7] (hS (aE h) r x s)=some (.nx [g0,g1,some (.d (.ref 0)),a3,a4,a5,vX,a7] (hS (aE h) r x' s)):=by
 obtain⟨U',S',e,⟨vX,rfl⟩,x',o',hs,rfl⟩:=lB (gg:=af 6) (body:=BP 0) (f:=aq) (U:=[g0,g1,some (.d (.ref 0)),a3,a4,a5,a6,a7]) (S:=hS (aE h) r x s) (λpre U S'=>(∃a6,U=[g0,g1,some (.d (.ref 0)),a3,a4,a5,a6,a7])/\∃x',Ok h n x'/\(∀b∈pre,b.name∉x'.halts)/\S'=hS (aE h) r x' s) h.ae ⟨⟨_,rfl⟩,x,o,λb m=>(by cases m),rfl⟩ (by
  rintro p b post eq U S' ⟨⟨a6,rfl⟩,x',o',hs,rfl⟩;refine⟨_,_,_,rfl,.inl (e7j g o' (by rw[eq];simp)),⟨_,rfl⟩,_,o'.start,λc mc hc=>?_,rfl⟩
  obtain⟨h1,h2⟩:=sE.mp hc;rcases dr.mp mc with mc|mc
  .exact hs c mc h1
  .rw[lz.mp mc] at h2;exact xI h2 rfl)
 refine⟨x',vX,o',?_,e⟩;unfold bu;rw[List.filter_eq_nil_iff];intro b mb hb;obtain⟨c,mc,rfl⟩:=dZ.mp mb;exact hs c mc (u0 hb)
end
noncomputable def lv:List ao->Str->Nat
 |[],_=>0
 |b::bs,n=>if b.name=n then bs.length+1 else lv bs n
theorem Lb:∀(bs:List ao) (n:Str),lv bs n<=bs.length
 |[],_=>bM _
 |b::bs,n=>by
  have:=Lb bs n;unfold lv;rw[ju];split <;> lia
theorem KY:∀{bs:List ao} {n:Str},n∈bs.map ao.name->1<=lv bs n
 |b::bs,n,h=>by
  unfold lv;split
  .lia
  .rename_i ne
   rcases y04.mp h with e|m
   .exact b_ e.symm ne
   .exact KY m
theorem KZ{carts:List Str}:∀{bs:List ao},l6 carts bs->∀b∈bs,∀o∈b.outs,o≠b.name
 |x::bs,f,b,hb,o,ho=>by
  rcases y04.mp hb with rfl|hb
  .intro e;rcases f.1 o ho with z|z
   .exact f.2.1 (e ▸ z)
   .exact f.2.2.1 (e ▸ z)
  .exact KZ f.2.2.2 b hb o ho
theorem Kx(b:ao)(bs:List ao)(n:Str):lv (b::bs) n=if b.name=n then bs.length+1 else lv bs n:=rfl
theorem Hy{carts:List Str}:∀{bs:List ao},l6 carts bs->∀bt∈bs,∀a∈bt.outs,a∈bs.map ao.name->lv bs a<lv bs bt.name
 |z::bs,f,bt,hb,a,ha,hn=>by
  have az:z.name≠a:=λe=>by
   rcases y04.mp hb with e2|hb
   .exact KZ f bt (by rw[e2];exact .head _) a ha (by rw[<-e,e2])
   .rcases Df f.2.2.2 bt hb a ha with y|y
    .exact f.2.1 (by rw[e];exact y)
    .exact f.2.2.1 (by rw[e];exact y)
  have ea:lv (z::bs) a=lv bs a:=by rw[Kx,aM az]
  rcases y04.mp hb with e|hb
  .have:=Lb bs a;rw[ea,e,Kx,aX rfl];lia
  .have ne:z.name≠bt.name:=λe=>f.2.1 (by rw[e];exact j_ (f:=ao.name) hb)
   rw[ea,Kx,aM ne];refine Hy f.2.2.2 bt hb a ha ?_;rcases y04.mp hn with e|m
   .exact b_ e.symm az
   .exact m
section
variable{h:aA}{r:Int}{x:Hl}{n:Nat}{X:List (Str×D)}{w z:Row}{bt:ao}
theorem JN(g:ax h)(o:Ok h n x)(hs:bu h x=[])(hw:w∈x.rows)(hb:bt∈h.ae)(eb:bt.name=w.b):
  (w.i+1<bt.long/\aj h r x w=(bt.name,some (w.i+1)))\/
  (w.i+1=bt.long/\bt.ring=true/\aj h r x w=(bt.name,some 0)/\(w.fl=none/\w.gn<r\/∃a∈bt.outs,a∈h.ae.map ao.name/\∃u∈x.rows,u.b=a))\/
  (w.i+1=bt.long/\¬(bt.ring=true/\w.fl=none/\w.gn<r)/\∃a∈bt.outs,(a∈h.carts/\aj h r x w=(a,none))\/(a∈h.ae.map ao.name/\aj h r x w=(a,some 0))):=by
 obtain⟨ia,kf,yf,i0,i1,_⟩:=(o.rw w hw).1;have e:ia=bt:=xR g.fwd ia kf bt hb (by rw[yf,eb])
 subst e;have eg:aj h r x w=kY h r x w ia:=by unfold aj;rw[<-eb,C0 g hb]
 rw[eg];unfold kY;by_cases hl:w.i+1<ia.long
 .rw[aX hl];exact .inl ⟨hl,rfl⟩
 .rw[aM hl];have le:w.i+1=ia.long:=by lia
  by_cases hc:ia.ring=true/\w.fl=none/\w.gn<r
  .rw[aX hc];exact .inr (.inl ⟨le,hc.1,rfl,.inl hc.2⟩)
  .rw[aM hc];obtain⟨a,ea,ha⟩:=KQ g o hw hb eb;rw[ea,IS];unfold uD;cases S9:h.carts.contains a with
   |true=>rw[aX rfl];exact .inr (.inr ⟨le,hc,a,ha,.inl ⟨u0 S9,rfl⟩⟩)
   |false=>
    rw[aM (by decide)]
    have hm:a∈h.ae.map ao.name:=(Df g.fwd ia hb a ha).resolve_right (CW S9);cases hr:(ia.ring&&(eU h x).contains a) with
    |false=>rw[aM (by decide)];exact .inr (.inr ⟨le,hc,a,ha,.inr ⟨hm,rfl⟩⟩)
    |true=>
     rw[aX rfl];rw[eP] at hr;refine .inr (.inl ⟨le,hr.1,rfl,.inr ⟨a,ha,hm,?_⟩⟩);have LA:=u0 hr.2;unfold eU at LA;rw[hs,y7] at LA;obtain⟨u,hu,e⟩:=pG.mp LA;split at e
     .cases e;exact⟨u,o.mem.mp hu,rfl⟩
     .cases e
end
section
variable{h:aA}{r:Int}{x:Hl}{n:Nat}{X:List (Str×D)}{w z:Row}{bt:ao}{G:Row->Goal}{L:List Row}
theorem Po{o:Str}(e:hold G L w=some o):∃u∈L,∃j,(G w).2=some j/\(u.b,u.i)=((G w).1,j)/\u.bag=o:=by
 unfold hold at e;split at e
 .cases e
 .rename_i j ej
  obtain⟨u,hu,eu⟩:=dZ.mp (W5 e);have h1:=congrArg Prod.fst eu;have h2:=congrArg Prod.snd eu;exact⟨u,hu,j,ej,h1,h2⟩
theorem Pp:cH [] G L=[]:=by
 unfold cH;rw[List.filterMap_eq_nil_iff];intro w _;have:jQ [] G w=none:=by
  unfold jQ;rw[aM (by simp)]
  split
  .rw[aM (by simp)]
  .rfl
 rw[this];rfl
def Last(h:aA)(x:Hl)(bt:ao):Prop:=bt∈h.ae/\∀u∈x.rows,lv h.ae bt.name<=lv h.ae u.b
theorem C1(g:ax h)(o:Ok h n x)(hs:bu h x=[])(la:Last h x bt)(hw:w∈x.rows)(eb:bt.name=w.b):
  (w.i+1<bt.long/\aj h r x w=(bt.name,some (w.i+1)))\/
  (w.i+1=bt.long/\bt.ring=true/\w.fl=none/\w.gn<r/\aj h r x w=(bt.name,some 0))\/
  (w.i+1=bt.long/\¬(bt.ring=true/\w.fl=none/\w.gn<r)/\∃a,aj h r x w=(a,none)\/(lv h.ae a<lv h.ae bt.name/\aj h r x w=(a,some 0))):=by
 rcases JN (r:=r) g o hs hw la.1 eb with c|⟨c1,c2,c3,c4⟩|⟨c1,c2,a,ha,c3⟩
 .exact .inl c
 .rcases c4 with c4|⟨a,ha,hn,u,hu,eu⟩
  .exact .inr (.inl ⟨c1,c2,c4.1,c4.2,c3⟩)
  .have h1:=Hy g.fwd bt la.1 a ha hn;have h2:=la.2 u hu;rw[eu] at h2;lia
 .refine .inr (.inr ⟨c1,c2,a,?_⟩);rcases c3 with⟨_,c3⟩|⟨hn,c3⟩
  .exact .inl c3
  .exact .inr ⟨Hy g.fwd bt la.1 a ha hn,c3⟩
def FL(h:aA)(r:Int)(x:Hl)(X:List (Str×D)):Prop:=∃w∈cf h x X,(aj h r x w).2=none\/(aj h r x w).1≠w.b
theorem VM(g:ax h)(o:Ok h n x)(hs:bu h x=[])(la:Last h x bt)(t:jX h r x X)(nc:¬FL h r x X)(hw:w∈x.rows)(eb:bt.name=w.b):w∈cf h x X:=by
 have t0:=t;obtain⟨C,oC,gr,fn⟩:=t;rw[hs,Pp] at oC gr;rw[y7] at gr;have empty:∀u∈x.rows,∀a,lv h.ae a<lv h.ae bt.name->u.b≠a:=λu hu a ha e=>by
  have:=la.2 u hu;rw[e] at this;lia
 refine(tN o).mpr ⟨hw,?_⟩;have key:∀Y,lL (aj h r x) (ord h x.rows) ((ask (aj h r x) [] (ord h x.rows)).filterMap (dq (aj h r x) C)) Y->(∀b∈Y.map (·.1),b∈X.map (·.1))->∀w∈x.rows,bt.name=w.b->w.bag∉Y.map (·.1):=by
  intro Y gy
  induction gy with
  |base=>
   intro _ y hy ey m;obtain⟨p,hp,e1⟩:=dZ.mp m;obtain⟨y',L0,e2⟩:=pG.mp hp;obtain⟨yl,_,ys⟩:=iC.mp L0;unfold dq at e2;split at e2
   .cases e2
   .rename_i cb hcb
    split at e2
    .cases e2
    .rename_i ne
     cases e2;have ey':y'=y:=pJ o.nb (o.mem.mp yl) hy e1;subst ey';obtain⟨c,hc,DI,ck,x9⟩:=oC.1 _ _ hcb;obtain⟨cl,_,cs⟩:=iC.mp hc;have wt:=o.mem.mp cl;rcases C1 (r:=r) g o hs la hy ey with⟨l1,l2⟩|⟨l1,l2,_,_,l5⟩|⟨l1,_,a,l3|⟨l3,l4⟩⟩
     .have kb:c.b=bt.name:=by
       have:=x9 ⟨y',L0,rfl,by rw[qA (j:=y'.i+1) (by rw[l2]),l2];exact ey.symm⟩
       rw[this,qA (j:=y'.i+1) (by rw[l2]),l2]
      refine ne ?_;rw[<-DI]
      congr 1
      refine pJ o.un wt hy (Prod.ext (by show c.b=y'.b;rw[kb,ey]) ?_)
      show c.i=y'.i;have i0:0<=y'.i:=by obtain⟨_,_,_,i0,_⟩:=(o.rw y' hy).1;exact i0
      rw[qA (G:=aj h r x) (w:=y') (j:=y'.i+1) (by rw[l2]),l2] at ck
      rcases C1 (r:=r) g o hs la wt kb.symm with⟨m1,m2⟩|⟨m1,m2,_,_,m5⟩|⟨m1,_,a,m3|⟨m3,m4⟩⟩
      .rw[qA (G:=aj h r x) (j:=c.i+1) (by rw[m2]),m2] at ck
       lia
      .rw[qA (G:=aj h r x) (j:=0) (by rw[m5]),m5] at ck
       lia
      .simp_all
      .rw[qA (G:=aj h r x) (j:=0) (by rw[m4]),m4] at ck
       lia
     .have kb:c.b=bt.name:=by
       have:=x9 ⟨y',L0,rfl,by rw[qA (j:=0) (by rw[l5]),l5];exact ey.symm⟩
       rw[this,qA (j:=0) (by rw[l5]),l5]
      refine ne ?_;rw[<-DI]
      congr 1
      refine pJ o.un wt hy (Prod.ext (by show c.b=y'.b;rw[kb,ey]) ?_)
      show c.i=y'.i;have i0:0<=c.i:=by obtain⟨_,_,_,i0,_⟩:=(o.rw c wt).1;exact i0
      rw[qA (G:=aj h r x) (w:=y') (j:=0) (by rw[l5]),l5] at ck
      rcases C1 (r:=r) g o hs la wt kb.symm with⟨m1,m2⟩|⟨m1,m2,_,_,m5⟩|⟨m1,_,a,m3|⟨m3,m4⟩⟩
      .rw[qA (G:=aj h r x) (j:=c.i+1) (by rw[m2]),m2] at ck
       lia
      all_goals lia
     .simp_all
     .have K5:gk (aj h r x) c=(a,0):=by rw[ck,qA (j:=0) (by rw[l4]),l4]
      have cX:c.bag∉X.map (·.1):=by
       have kk:∀Z,lL (aj h r x) (ord h x.rows) ((ask (aj h r x) [] (ord h x.rows)).filterMap (dq (aj h r x) C)) Z->c.bag∉Z.map (·.1):=by
        intro Z gz
        induction gz with
        |base=>
         intro m2;obtain⟨p2,LV,e3⟩:=dZ.mp m2;obtain⟨c',lS,e4⟩:=pG.mp LV;unfold dq at e4;split at e4
         .cases e4
         .rename_i cb2 hcb2
          split at e4
          .cases e4
          .rename_i ne2
           cases e4;have:c'=c:=pJ o.nb (o.mem.mp (iC.mp lS).1) wt e3
           lia
        |@step Z' w' o' _ Em wq ih=>
         intro m2;rw[dB,dr] at m2;rcases m2 with m2|m2
         .exact ih m2
         .have e3:c.bag=w'.bag:=by simpa using m2
          have:c=w':=pJ o.nb wt (o.mem.mp Em) e3;subst this;obtain⟨u,hu,j,ej,eu,_⟩:=Po wq.2.1;rw[qA ej] at K5;rw[K5] at eu;exact empty u (o.mem.mp hu) a l3 (congrArg Prod.fst eu)
       exact kk X gr
      refine nc ⟨c,(tN o).mpr ⟨wt,cX⟩,.inr λe=>?_⟩
      have:(aj h r x c).1=a:=congrArg Prod.fst K5;exact empty c wt a l3 (by rw[<-e,this])
  |@step Y' w' o' gy' Em wq ih=>
   intro sub y hy ey m;have ih:=ih λb mb=>sub b (by rw[dB];exact dr.mpr (.inl mb))
   rw[dB,dr] at m;rcases m with m|m
   .exact ih y hy ey m
   .have e3:y.bag=w'.bag:=by simpa using m
    have:y=w':=pJ o.nb hy (o.mem.mp Em) e3;subst this;obtain⟨u,hu,j,ej,eu,ub⟩:=Po wq.2.1;have LX:=o.mem.mp hu;have Nf:u.b=(aj h r x y).1:=congrArg Prod.fst eu;have T7:u.bag∈Y'.map (·.1):=by rw[ub];exact wq.2.2
    rcases C1 (r:=r) g o hs la hy ey with⟨l1,l2⟩|⟨l1,l2,_,_,l5⟩|⟨l1,_,a,l3|⟨l3,l4⟩⟩
    .exact ih u LX (by rw[Nf,l2]) T7
    .exact ih u LX (by rw[Nf,l5]) T7
    .rw[l3] at ej;cases ej
    .exact empty u LX a l3 (by rw[Nf,l4])
 exact key X gr (λ_ m=>m) w hw eb
end
def i5(h:aA)(rows:List Row):Int:=(rows.map λw=>(lv h.ae w.b:Int)).sum
def vl(h:aA):ak Row->Int
 |none=>0
 |some w=>lv h.ae w.b
section
variable{h:aA}{r:Int}{x:Hl}{n:Nat}{X:List (Str×D)}{w z:Row}{bt:ao}{f:Row->ak Row}
theorem K1:∀{rows:List Row},(∀z∈rows,vl h (f z)<=lv h.ae z.b)->i5 h (rows.filterMap f)<=i5 h rows
 |[],_=>Bg _
 |z::rows,hz=>by
  have ih:=K1 (rows:=rows) λu m=>hz u (.tail _ m)
  have h1:=hz z (.head _);unfold i5 at *;rw[pP,bQ,sJ];cases e:f z with
  |none=>
   rw[e] at h1;unfold vl at h1;dsimp only at h1 ⊢;lia
  |some u=>
   rw[e] at h1;unfold vl at h1;dsimp only at h1 ⊢;rw[bQ,sJ];lia
theorem Sr:∀{rows:List Row},(∀z∈rows,vl h (f z)<=lv h.ae z.b)->∀{w:Row},w∈rows->vl h (f w)<lv h.ae w.b->i5 h (rows.filterMap f)+1<=i5 h rows
 |z::rows,hz,w,hw,jl=>by
  have le:=K1 (h:=h) (f:=f) (rows:=rows) λu m=>hz u (.tail _ m)
  have h1:=hz z (.head _);rcases y04.mp hw with rfl|hw
  .unfold i5 at *;rw[pP,bQ,sJ];cases e:f w with
   |none=>
    rw[e] at jl;unfold vl at jl;dsimp only at jl ⊢;lia
   |some u=>
    rw[e] at jl;unfold vl at jl;dsimp only at jl ⊢;rw[bQ,sJ];lia
  .have ih:=Sr (rows:=rows) (λu m=>hz u (.tail _ m)) hw jl
   unfold i5 at *;rw[pP,bQ,sJ];cases e:f z with
   |none=>
    rw[e] at h1;unfold vl at h1;dsimp only at h1 ⊢;lia
   |some u=>
    rw[e] at h1;unfold vl at h1;dsimp only at h1 ⊢;rw[bQ,sJ];lia
theorem e0s(g:ax h)(o:Ok h n x)(hs:bu h x=[])(hw:w∈x.rows){j:Int}(ej:(aj h r x w).2=some j):lv h.ae (aj h r x w).1<=lv h.ae w.b/\((aj h r x w).1≠w.b->lv h.ae (aj h r x w).1<lv h.ae w.b):=by
 obtain⟨bt,hb,eb,_⟩:=(o.rw w hw).1;rcases JN (r:=r) g o hs hw hb eb with⟨_,c⟩|⟨_,_,c,_⟩|⟨_,_,a,ha,⟨_,c⟩|⟨hn,c⟩⟩
 .rw[c,eb];exact⟨bM _,λz=>b_ rfl z⟩
 .rw[c,eb];exact⟨bM _,λz=>b_ rfl z⟩
 .rw[c] at ej;cases ej
 .have:=Hy g.fwd bt hb a ha hn;rw[c,<-eb];exact⟨IB this,λ_=>this⟩
theorem SK(g:ax h)(o:Ok h n x)(hs:bu h x=[])(hz:z∈x.rows):vl h (i6 h (aj h r x) z)<=lv h.ae z.b/\((aj h r x z).2=none\/(aj h r x z).1≠z.b->vl h (i6 h (aj h r x) z)<lv h.ae z.b):=by
 have lp:=KY (o.rw z hz).1.nm;cases ej:(aj h r x z).2 with
 |none=>
  have e:i6 h (aj h r x) z=none:=by unfold i6;rw[ej]
  rw[e];show(0:Int)<=_/\(_->(0:Int)<_)
  lia
 |some j=>
  obtain⟨k1,k2⟩:=e0s g o hs hz ej;have e:∃z',i6 h (aj h r x) z=some z'/\z'.b=(aj h r x z).1:=by unfold i6;rw[ej];exact⟨_,rfl,rfl⟩
  obtain⟨z',e,eb⟩:=e;rw[e];show((lv h.ae z'.b:Nat):Int)<=_/\(_->((lv h.ae z'.b:Nat):Int)<_)
  lia
theorem Ro(g:ax h)(o:Ok h n x)(hs:bu h x=[]):∀z∈x.rows,vl h (if k7 (cf h x X) z=true then i6 h (aj h r x) z else some z)<=lv h.ae z.b:=λz hz=>by
 split
 .exact(SK g o hs hz).1
 .exact Bg _
theorem Zo(g:ax h)(o:Ok h n x)(hs:bu h x=[]):i5 h (bG h r x X).rows<=i5 h x.rows:=K1 (Ro g o hs)
theorem U_(g:ax h)(o:Ok h n x)(hs:bu h x=[])(c:FL h r x X):i5 h (bG h r x X).rows+1<=i5 h x.rows:=by
 obtain⟨w,hw,hc⟩:=c;have hr:=((tN o).mp hw).1;refine Sr (Ro g o hs) hr ?_;rw[aX ((zK o hr).mpr hw)];exact(SK g o hs hr).2 hc
noncomputable def AG(r:Int)(bt:ao)(w:Row):Int:=(if bt.ring=true/\w.fl=none/\w.gn<r then(r - w.gn)*bt.long else 0)+(bt.long - 1 - w.i)
def Bl(h:aA)(r K:Int)(x:Hl)(m:Int):Prop:=x.rows=[]\/∃w bt,w∈x.rows/\bt.name=w.b/\Last h x bt/\K*(i5 h x.rows - 1)+AG r bt w+1<=m
theorem Rq:∀{rows:List Row},rows≠[]->∃w∈rows,∀u∈rows,lv h.ae w.b<=lv h.ae u.b
 |[w],_=>⟨w,.head _,λu m=>by rw[lz.mp m];exact bM _⟩
 |w::z::rows,_=>by
  obtain⟨v,hv,hm⟩:=Rq (rows:=z::rows) (NJ _ _);by_cases e:lv h.ae w.b<=lv h.ae v.b
  .refine⟨w,.head _,λu m=>?_⟩
   rcases y04.mp m with rfl|m
   .exact bM _
   .exact i7 e (hm u m)
  .refine⟨v,.tail _ hv,λu m=>?_⟩
   rcases y04.mp m with rfl|m
   .lia
   .exact hm u m
theorem Rr(g:ax h)(o:Ok h n x)(ne:x.rows≠[]):∃w bt,w∈x.rows/\bt.name=w.b/\Last h x bt:=by
 obtain⟨w,hw,hm⟩:=Rq (h:=h) ne;obtain⟨bt,hb,eb,_⟩:=(o.rw w hw).1;exact⟨w,bt,hw,eb,hb,λu hu=>by rw[eb];exact hm u hu⟩
theorem SM(g:ax h)(o:Ok h n x)(hw:w∈x.rows)(hb:bt∈h.ae)(eb:bt.name=w.b):0<=AG r bt w:=by
 obtain⟨ia,kf,yf,i0,i1,_⟩:=(o.rw w hw).1;have e:ia=bt:=xR g.fwd ia kf bt hb (by rw[yf,eb])
 subst e;unfold AG;split
 .rename_i c
  have:=vH (show 0<=r - w.gn by lia) (show 0<=ia.long by lia)
  lia
 .lia
theorem Ss(g:ax h)(o:Ok h n x)(r0:0<=r){K M:Int}(hM:∀b∈h.ae,b.long<=M)(hK:K=(r+1)*M)(hw:w∈x.rows)(hb:bt∈h.ae)(eb:bt.name=w.b):AG r bt w+1<=K:=by
 obtain⟨ia,kf,yf,i0,i1,DV⟩:=(o.rw w hw).1;have e:ia=bt:=xR g.fwd ia kf bt hb (by rw[yf,eb])
 subst e;have l1:=(g.lg ia hb).1;have k1:(r+1)*ia.long<=K:=by rw[hK];exact IU (hM ia hb) (by lia)
 rw[Int.add_mul,Int.one_mul] at k1;have k2:0<=r*ia.long:=vH r0 (by lia)
 unfold AG;split
 .have:=Int.mul_le_mul_of_nonneg_right (show r - w.gn<=r by lia) (show 0<=ia.long by lia)
  lia
 .lia
end
section
variable{h:aA}{r K M:Int}{x:Hl}{n:Nat}{X:List (Str×D)}{w z:Row}{bt:ao}
theorem e0t(g:ax h)(o:Ok h n x)(hs:bu h x=[])(r0:0<=r)(hM:∀b∈h.ae,b.long<=M)(hK:K=(r+1)*M)(M0:0<=M)(t:jX h r x X){m:Int}(c:FL h r x X)(hm:K*(i5 h x.rows - 1)+1<=m+1):Bl h r K (bG h r x X) m:=by
 by_cases ne:(bG h r x X).rows=[]
 .exact .inl ne
 .have o':=o.turn g t;obtain⟨w1,b1,Ti,SR,Tu⟩:=Rr g o' ne;have k1:=Ss g o' r0 hM hK Ti Tu.1 SR;have k2:=U_ g o hs c;have K0:0<=K:=by rw[hK];exact vH (by lia) M0
  have k3:=IU (show i5 h (bG h r x X).rows<=i5 h x.rows - 1 by lia) K0
  refine .inr ⟨w1,b1,Ti,SR,Tu,?_⟩
  lia
theorem Qr(g:ax h)(o:Ok h n x)(hs:bu h x=[])(r0:0<=r)(hM:∀b∈h.ae,b.long<=M)(hK:K=(r+1)*M)(M0:0<=M)(t:jX h r x X)(ne:x.rows≠[]){m:Int}(pt:Bl h r K x (m+1)):Bl h r K (bG h r x X) m/\∃w,w∈cf h x X:=by
 obtain⟨w,bt,hw,eb,la,hm⟩:=pt.resolve_left ne;have m0:=SM (r:=r) g o hw la.1 eb;by_cases c:FL h r x X
 .exact⟨e0t g o hs r0 hM hK M0 t c (by lia),by obtain⟨u,hu,_⟩:=c;exact⟨u,hu⟩⟩
 .have wm:=VM g o hs la t c hw eb;refine⟨?_,w,wm⟩;have jt:∀u∈cf h x X,∃j,(aj h r x u).2=some j/\(aj h r x u).1=u.b:=λu hu=>by
   cases ej:(aj h r x u).2 with
   |none=>exact b_ ⟨u,hu,.inl ej⟩ c
   |some j=>exact⟨j,rfl,y9d λz=>c ⟨u,hu,.inr z⟩⟩
  have Cb:Last h (bG h r x X) bt:=⟨la.1,λu' rR=>by
   obtain⟨u,hu,_,_,st⟩:=GY o rR;rcases st with⟨_,rfl⟩|⟨um,e⟩
   .exact la.2 _ hu
   .obtain⟨j,_,e1,_⟩:=DA e;obtain⟨_,_,e2⟩:=jt u um;rw[e1,e2];exact la.2 u hu⟩
  have ph:=Zo (r:=r) (X:=X) g o hs;have K0:0<=K:=by rw[hK];exact vH (by lia) M0
  have k3:=IU (show i5 h (bG h r x X).rows - 1<=i5 h x.rows - 1 by lia) K0
  obtain⟨ia,kf,yf,i0,i1,DV⟩:=(o.rw w hw).1;have e:ia=bt:=xR g.fwd ia kf bt la.1 (by rw[yf,eb])
  subst e;have fb:=C0 g la.1;rw[eb] at fb;have l2:=(g.lg ia la.1).2;have Tq:∀w',i6 h (aj h r x) w=some w'->w'∈(bG h r x X).rows:=λw' e=>pG.mpr ⟨w,hw,by rw[aX ((zK o hw).mpr wm)];exact e⟩
  rcases C1 (r:=r) g o hs la hw eb with⟨c1,c2⟩|⟨c1,c2,c3,c4,c5⟩|⟨c1,_,a,c3|⟨c3,c4⟩⟩
  .have em:i6 h (aj h r x) w=some { w with b:=ia.name,i:=w.i+1}:=by
    unfold i6;rw[c2];dsimp only;rw[fb];dsimp only;rw[aM];unfold jr;intro z;rw[eP,eP,beq_iff_eq] at z;lia
   refine .inr ⟨_,ia,Tq _ em,rfl,Cb,?_⟩
   grind [AG]
  .have em:i6 h (aj h r x) w=some { w with b:=ia.name,i:=0,gn:=w.gn+1}:=by
    unfold i6;rw[c5];dsimp only;rw[fb];dsimp only;rw[aX];unfold jr;rw[eP,eP,eP,beq_iff_eq,beq_iff_eq,beq_iff_eq];exact⟨c2,by lia,rfl,rfl⟩
   refine .inr ⟨_,ia,Tq _ em,rfl,Cb,?_⟩;unfold AG at hm ⊢;rw[aX ⟨c2,c3,c4⟩] at hm;dsimp only;have er:(r - w.gn)*ia.long=(r - (w.gn+1))*ia.long+ia.long:=by
    rw[show r - w.gn=(r - (w.gn+1))+1 by lia,Int.add_mul,Int.one_mul]
   split
   .lia
   .rename_i q
    have:r - (w.gn+1)=0:=by
     have:¬w.gn+1<r:=λz=>q ⟨c2,c3,z⟩
     lia
    rw[this,Int.zero_mul] at er;lia
  .obtain⟨j,e1,_⟩:=jt w wm;rw[c3] at e1;cases e1
  .obtain⟨j,_,e2⟩:=jt w wm;rw[c4,<-eb] at e2;dsimp only at e2;rw[e2] at c3;exact b_ c3 (j9 _)
theorem Rt(g:ax h)(o:Ok h n x)(hs:bu h x=[])(hw:w∈x.rows){j:Int}(ej:(aj h r x w).2=some j):((aj h r x w).1,j)≠(w.b,w.i):=by
 obtain⟨bt,hb,eb,i0,i1,_⟩:=(o.rw w hw).1;intro e;have e1:=congrArg Prod.fst e;have e2:=congrArg Prod.snd e;dsimp only at e1 e2;rcases JN (r:=r) g o hs hw hb eb with⟨_,c⟩|⟨c1,c2,c,_⟩|⟨_,_,a,ha,⟨_,c⟩|⟨hn,c⟩⟩
 .lia
 .rw[c] at ej;cases ej;have:=(g.lg bt hb).2 c2;lia
 .rw[c] at ej;cases ej
 .rw[c,<-eb] at e1;exact KZ g.fwd bt hb a ha e1
theorem OO(g:ax h)(o:Ok h n x)(t:jX h r x X):(bG h r x X).rows.length+(bG h r x X).gone.length=x.rows.length+x.gone.length:=by
 have o':=o.turn g t;have eg:(bG h r x X).gone=x.gone++(cf h x X).filterMap (fD (aj h r x) (x.now+1)):=rfl;have sb:((bG h r x X).rows.map Row.bag).Sublist (x.rows.map Row.bag):=GX _ _;have l1:=He o'.nd (l2:=x.rows.map Row.bag++x.gone.map (·.1)) λa m=>by
  rcases dr.mp m with m|m
  .exact dr.mpr (.inl (sb.subset m))
  .rw[eg,dB,dr] at m;rcases m with m|m
   .exact dr.mpr (.inr m)
   .obtain⟨p,hp,rfl⟩:=dZ.mp m;obtain⟨u,hu,_,_,rfl⟩:=Rj o hp;exact dr.mpr (.inl (j_ hu))
 have l2:=He o.nd (l2:=(bG h r x X).rows.map Row.bag++(bG h r x X).gone.map (·.1)) λa m=>by
  rcases dr.mp m with m|m
  .obtain⟨u,hu,rfl⟩:=dZ.mp m;by_cases um:u∈cf h x X
   .cases ej:(aj h r x u).2 with
    |none=>
     refine dr.mpr (.inr ?_);rw[eg,dB,dr];exact .inr (dZ.mpr ⟨(u.bag,(aj h r x u).1,x.now+1),pG.mpr ⟨u,um,by unfold fD;rw[ej]⟩,rfl⟩)
    |some j=>
     have em:∃u',i6 h (aj h r x) u=some u'/\u'.bag=u.bag:=by unfold i6;rw[ej];exact⟨_,rfl,rfl⟩
     obtain⟨u',em,eu⟩:=em;refine dr.mpr (.inl (dZ.mpr ⟨u',pG.mpr ⟨u,hu,?_⟩,eu⟩));rw[aX ((zK o hu).mpr um)];exact em
   .exact dr.mpr (.inl (dZ.mpr ⟨u,Rg hu (by rw[y8];exact λz=>um ((zK o hu).mp z)),rfl⟩))
  .refine dr.mpr (.inr ?_);rw[eg,dB,dr];exact .inl m
 rw[du,du,bh,bh,bh,bh] at l1 l2;lia
end
theorem e7m{a b:ak Str}(e:aR (aL a) (aL b)=true):a=b:=by
 cases a with
 |none=>
  cases b with
  |none=>rfl
  |some b=>cases e
 |some a=>
  cases b with
  |none=>cases e
  |some b=>
   have:(a == b)=true:=e;rw[beq_iff_eq.mp this]
theorem e7n{a b:Row}(e:aR (aU a) (aU b)=true):a=b:=by
 have e:(aR (.str a.bag) (.str b.bag)&&(aR (aL a.fl) (aL b.fl)&&(aR (pl a.b a.i) (pl b.b b.i)&&(aR (.int a.gn) (.int b.gn)&&true))))=true:=by
  unfold aU at e;have:cR [.str a.bag,aL a.fl,pl a.b a.i,.int a.gn] [.str b.bag,aL b.fl,pl b.b b.i,.int b.gn]=true:=e;simp only[cR] at this;exact this
 rw[eP,eP,eP,eP,ib,eY,B1,eP,beq_iff_eq,beq_iff_eq,beq_iff_eq,beq_iff_eq] at e;obtain⟨e1,e2,⟨e3,e4⟩,e5,_⟩:=e;cases a;cases b;dsimp only at *;rw[e1,e7m e2,e3,e4,e5]
theorem Ru:∀{a b:List Row},cR (a.map aU) (b.map aU)=true->a=b
 |[],[],_=>rfl
 |[],_::_,e=>by rw[bQ,xG] at e;unfold cR at e;cases e
 |_::_,[],e=>by rw[bQ,xG] at e;unfold cR at e;cases e
 |x::a,y::b,e=>by
  rw[bQ,bQ] at e;unfold cR at e;rw[eP] at e;rw[e7n e.1,Ru e.2]
theorem e7o(w:Row):c7 39 (aU w)=true:=by
 unfold aU;show[D.str w.bag,aL w.fl,pl w.b w.i,.int w.gn].all (c7 38)=true;rw[qr,qr,qr,qr,List.all_nil];have h1:c7 38 (D.str w.bag)=true:=rfl;have h2:c7 38 (aL w.fl)=true:=by cases w.fl <;> rfl
 have h3:c7 38 (pl w.b w.i)=true:=rfl;have h4:c7 38 (D.int w.gn)=true:=rfl;rw[h1,h2,h3,h4];rfl
theorem Rw(l:List Row):c7 40 (.lst (l.map aU))=true:=by
 show(l.map aU).all (c7 39)=true;rw[FJ];exact pR.mpr λw _=>e7o w
section
variable{s:List Cell}{h:aA}{r K M:Int}{x:Hl}{n:Nat}{X:List (Str×D)}{w z:Row}{bt:ao}{G:Row->Goal}{L:List Row}
theorem e0u(hs:bu h x=[])(t:jX h r x X):∀p∈X,∃l,p.2=.tup l:=by
 obtain⟨C,oC,gr,fn⟩:=t;rw[hs,Pp,y7] at gr;have key:∀Y,lL (aj h r x) (ord h x.rows) ((ask (aj h r x) [] (ord h x.rows)).filterMap (dq (aj h r x) C)) Y->∀p∈Y,∃l,p.2=.tup l:=by
  intro Y gy
  induction gy with
  |base=>
   grind [dq]
  |step _ _ _ ih=>
   intro p hp;rcases dr.mp hp with m|m
   .exact ih p m
   .rw[lz.mp m];exact⟨_,rfl⟩
 exact key X gr
theorem Zp(q:Nat)(hl:L.length<=1000)(hX:∀p∈X,∃l,p.2=.tup l)(hg:∀w∈L,∀j,(G w).2=some j->((G w).1,j)≠(w.b,w.i)){S:aO}:∃ds:List D,ds.length=(L.filter (nk X)).length/\bC (af 0) (Js q) (Jt q) (L.map (iZ X G)) [none] S []=some (.ok ds S):=by
 refine⟨L.filterMap λw=>if nk X w=true then some (iZ X G w) else none,?_,?_⟩
 .clear hl hg
  induction L with
  |nil=>rfl
  |cons w L ih=>
   rw[pP,vC];cases nk X w with
   |true=>rw[aX rfl,aX rfl];exact congrArg (·+1) ih
   |false=>rw[aM (by decide),aM (by decide)];exact ih
 .rw[x_ (λw=>if nk X w=true then some (iZ X G w) else none) L (by lia) λw m=>?_]
  unfold Js Jt iZ;rcases Rh X w with⟨e1,e2,_⟩|⟨p,e1,e2,_⟩
  .rw[e1,e2];refine .inr ⟨rd (.tup [.str w.bag,pl w.b w.i,gD (G w),.aI]),_,rfl,?_,?_,rfl⟩
   .cases ej:(G w).2 with
    |none=>
     have eg:gD (G w)=.str (G w).1:=by unfold gD;generalize G w=p at *;obtain⟨c,j⟩:=p;cases ej;rfl
     have en:aR (.str (G w).1) (pl w.b w.i)=false:=rfl;rw[eg];rfl
    |some j=>
     have eg:gD (G w)=pl (G w).1 j:=by unfold gD;generalize G w=p at *;obtain⟨c,j⟩:=p;cases ej;rfl
     have en:((G w).1 == w.b&&j == w.i)=false:=by
      rw[y8];intro z;rw[eP,beq_iff_eq,beq_iff_eq] at z;exact hg w m j ej (by rw[z.1,z.2])
     rw[eg];simp only[↓ev,v3,aK,jj,cV,Il,B1,en,mV]
   .generalize gD (G w)=gg at *;simp only[↓ev]
  .rw[e1,e2];obtain⟨l,hl⟩:=hX p (IQ e1);refine .inl ⟨rfl,?_⟩;dsimp only;rw[hl];simp only[↓ev,v3,aK]
end
variable{gg:GG}{body:GS}{U U1:Gm}{S S':aO}{x:D}
theorem e0v{xs:List D}{rv:Rv}(e1:gg x U=some U1)(e2:body U1 S=some (.rt rv S')):aH gg body (x::xs) U S=some (.rt rv S'):=by
 unfold aH;rw[e1,vE,e2];rfl
theorem e0w{U2:Gm}{xs:List D}{fr:Fr}(e1:gg x U=some U1)(e2:body U1 S=some (.nx U2 S'))(e3:aH gg body xs U2 S'=some fr):aH gg body (x::xs) U S=some fr:=by
 unfold aH;rw[e1,vE,e2];exact e3
section
variable{s:List Cell}{h:aA}{r K M:Int}{x:Hl}{n:Nat}{X:List (Str×D)}{g1 g2 g3 g4 a5 a6 a7:ak Val}
theorem e0x(g:ax h)(o:Ok h n x)(he:x.rows=[]):zx 0 [some (.d (.ref 0)),g1,g2,g3,g4,a5,a6,a7] (hS (aE h) r x s)=some (.rt (rd (.bl true)) (hS (aE h) r x s)):=by
 have e1:=λq=>vb (s:=s) (r:=r) (q:=q) g o
 rw[show ord h x.rows=[] by rw[he];rfl,xG] at e1
 have z0:(((0:Nat):Int) == 0)=true:=rfl;generalize aE h=hd at *;unfold zx;simp only[↓ev,hR,cU,u_,e1,aP,aK,eY,z0]
theorem e0y(g:ax h)(o:Ok h n x)(hn:n<1000)(hs:bu h x=[])(ne:x.rows≠[])(mv:∀X,jX h r x X->∃w,w∈cf h x X):∃X vX Ue,jX h r x X/\zx 0 [some (.d (.ref 0)),g1,g2,g3,g4,a5,a6,a7] (hS (aE h) r x s)=some (.nx [some (.d (.ref 0)),g1,g2,g3,g4,a5,vX,Ue] (hS (aE h) r (bG h r x X) s)):=by
 have rl:=o.rl;obtain⟨X,t,e2⟩:=KW (s:=s) (r:=r) g o hn;have o':=o.turn g t;obtain⟨w,hw⟩:=mv X t;have e1:=λq=>vb (s:=s) (r:=r) (q:=q) g o
 have e3:=λq=>vb (s:=s) (r:=r) (q:=q) g o'
 have lp:=o.perm.length_eq;have hlen:(((ord h x.rows).map aU).length:Int)=(x.rows.length:Int):=by rw[bh,lp]
 have hl0:((x.rows.length:Int) == 0)=false:=by
  simp_all
 obtain⟨ds,dl,e4⟩:=Zp (S:=hS (aE h) r (bG h r x X) s) (G:=aj h r x) (X:=X) (L:=ord h x.rows) 0 (by lia) (e0u hs t) λu hu j ej=>Rt g o hs (o.mem.mp hu) ej
 have dl0:((ds.length:Int) == 0)=false:=by
  rw[nQ,dl];have:=List.length_pos_of_mem hw;unfold cf at this;lia
 have neq:aR (.lst ((ord h (bG h r x X).rows).map aU)) (.lst ((ord h x.rows).map aU))=false:=by
  rw[y8];intro z;have z:cR ((ord h (bG h r x X).rows).map aU) ((ord h x.rows).map aU)=true:=z;have ez:=Ru z;obtain⟨LZ,_⟩:=(tN o).mp hw;have Em:w∈(bG h r x X).rows:=o'.mem.mp (by rw[ez];exact o.mem.mpr LZ)
  obtain⟨u,hu,eb,_,st⟩:=GY o Em;have euw:u=w:=pJ o.nb hu LZ eb.symm;subst euw;rcases st with⟨s1,_⟩|⟨_,s2⟩
  .exact s1 hw
  .obtain⟨j,ej,e5,e6⟩:=DA s2;exact Rt g o hs LZ ej (by rw[<-e5,e6])
 have bI:=Rw (ord h x.rows);have cJ:=Rw (ord h (bG h r x X).rows);refine⟨X,some (.d (.lst ((ord h x.rows).map aU))),some (.d (.lst ((ord h x.rows).map (iZ X (aj h r x))))),t,?_⟩;generalize bG h r x X=x2 at *;generalize(ord h x.rows).map (iZ X (aj h r x))=lg at *;generalize(ord h x.rows).map aU=l1 at *;generalize(ord h x2.rows).map aU=l2 at *;generalize aE h=hd at *;unfold zx;simp only[↓ev,hR,cU,u_,e1,aP,hlen,aK,eY,hl0,e2,i9,e4,dl0,e3,cJ,bI,neq]
theorem Su:∀rows:List Row,0<=i5 h rows
 |[]=>Bg _
 |z::rows=>by
  have:=Su rows;unfold i5 at *;rw[bQ,sJ];lia
theorem Sv:∀{rows:List Row} {w:Row},w∈rows->(lv h.ae w.b:Int)<=i5 h rows
 |z::rows,w,m=>by
  have nn:=Su (h:=h) rows;have es:i5 h (z::rows)=(lv h.ae z.b:Int)+i5 h rows:=by unfold i5;rw[bQ,sJ]
  rw[es];rcases y04.mp m with rfl|m
  .lia
  .have:=Sv m;lia
theorem Sw(g:ax h)(hn:n<1000)(r0:0<=r)(hM:∀b∈h.ae,b.long<=M)(hK:K=(r+1)*M)(M0:0<=M):∀(ks:List D) {x:Hl} {m:Int} {a5 a6 a7:ak Val},Ok h n x->bu h x=[]->Bl h r K x m->0<=m->m<ks.length->∃x',Ok h n x'/\x'.rows=[]/\x'.gone.length=x.rows.length+x.gone.length/\bu h x'=[]/\aH (af 5) (zx 0) ks [some (.d (.ref 0)),g1,g2,g3,g4,a5,a6,a7] (hS (aE h) r x s)=some (.rt (rd (.bl true)) (hS (aE h) r x' s))
 |[],x,m,a5,a6,a7,o,hs,pt,m0,hm=>by
  have hm:m<0:=hm;lia
 |k::ks,x,m,a5,a6,a7,o,hs,pt,m0,hm=>by
  by_cases ne:x.rows=[]
  .exact⟨x,o,ne,by rw[ne];simp,hs,e0v rfl (e0x g o ne)⟩
  .have K0:0<=K:=by rw[hK];exact vH (by lia) M0
   have m1:1<=m:=by
    obtain⟨w,bt,hw,eb,la,hm⟩:=pt.resolve_left ne;have h1:=SM (r:=r) g o hw la.1 eb;have h2:=Sv (h:=h) hw;have h3:=KY (o.rw w hw).1.nm;have h4:=vH K0 (show 0<=i5 h x.rows - 1 by lia)
    lia
   have TM:Bl h r K x (m - 1+1):=by rw[Int.sub_add_cancel];exact pt
   obtain⟨X,b6,b7,t,e⟩:=e0y (s:=s) (r:=r) (g1:=g1) (g2:=g2) (g3:=g3) (g4:=g4) (a5:=some (.d k)) (a6:=a6) (a7:=a7) g o hn hs ne λX t=>(Qr g o hs r0 hM hK M0 t ne TM).2
   rw[ju] at hm;obtain⟨x',o',r',c',s',e'⟩:=Sw g hn r0 hM hK M0 ks (x:=bG h r x X) (m:=m - 1) (a5:=some (.d k)) (a6:=b6) (a7:=b7) (o.turn g t) hs (Qr g o hs r0 hM hK M0 t ne TM).1 (by lia) (by lia)
   exact⟨x',o',r',by rw[c',OO g o t],s',e0w rfl e e'⟩
end
section
variable{s:List Cell}{h:aA}{r K M:Int}{x:Hl}{n:Nat}
theorem Ky:∀{bs:List ao},(∀b∈bs,1<=b.long)->0<=cN bs/\∀b∈bs,b.long<=cN bs
 |[],_=>⟨Bg _,λb m=>by cases m⟩
 |z::bs,hl=>by
  obtain⟨i1,i2⟩:=Ky (bs:=bs) λb m=>hl b (.tail _ m)
  have h1:=hl z (.head _);have es:cN (z::bs)=z.long+cN bs:=by unfold cN;rw[bQ,sJ]
  rw[es];refine⟨by lia,λb m=>?_⟩
  rcases y04.mp m with rfl|m
  .lia
  .have:=i2 b m;lia
theorem Rx:∀rows:List Row,i5 h rows<=(rows.length:Int)*(h.ae.length:Int)
 |[]=>by unfold i5;simp
 |z::rows=>by
  have ih:=Rx rows;have l:=Lb h.ae z.b;have es:i5 h (z::rows)=(lv h.ae z.b:Int)+i5 h rows:=by unfold i5;rw[bQ,sJ]
  rw[es,ju,Int.natCast_add,Int.add_mul]
  lia
theorem MC(g:ax h)(o:Ok h n x)(r0:0<=r):Bl h r ((r+1)*cN h.ae) x ((x.rows.length:Int)*(h.ae.length:Int)*((r+2)*cN h.ae+(x.rows.length:Int))):=by
 obtain⟨c0,hM⟩:=Ky (bs:=h.ae) λb m=>(g.lg b m).1
 by_cases ne:x.rows=[]
 .exact .inl ne
 .obtain⟨w,bt,hw,eb,la⟩:=Rr g o ne;have k1:=Ss g o r0 hM rfl hw la.1 eb;have k2:=Rx (h:=h) x.rows;have K0:0<=(r+1)*cN h.ae:=vH (by lia) c0
  have k3:=IU k2 K0;have P0:0<=(x.rows.length:Int)*(h.ae.length:Int):=vH (by lia) (by lia)
  have k4:(r+1)*cN h.ae<=(r+2)*cN h.ae+(x.rows.length:Int):=by
   lia
  have k5:=IU k4 P0;refine .inr ⟨w,bt,hw,eb,la,?_⟩
  lia
theorem VN(q:Nat)(hb:h.ae.length<=1000){S:aO}:bC (af 0) (iV true) (F8 q) (h.ae.map aq) [none] S []=some (.ok ((h.ae.map ao.long).map D.int) S):=by
 rw[vf (λb=>.int b.long) h.ae (by lia) λb m=>⟨rd (.int b.long),by unfold F8 aq;simp only[↓ev,cV],rfl⟩,fJ]
 rfl
theorem e0z{bl cs l1:List D}{EA:List Int}{mn bn cells pb pc most:Int}{S2:aO}(e1:∀q,qc q [.d (.ref 0)] (hS (.tup [.lst bl,.lst cs]) r x s)=some (.ok (.o (.lst l1)) (hS (.tup [.lst bl,.lst cs]) r x s)))(hlen:(l1.length:Int)=mn)
  (e2:∀q,bC (af 0) (iV true) (F8 q) bl [none] (hS (.tup [.lst bl,.lst cs]) r x s) []=some (.ok (EA.map D.int) (hS (.tup [.lst bl,.lst cs]) r x s))) (ne:(EA=[])=False) (es:EA.sum=cells) (lb:(bl.length:Int)=bn)
  (q1:(-2^64<mn/\mn<2^64 \/ -2^64<bn/\bn<2^64)=True) (q2:(-2^64<r+2/\r+2<2^64 \/ -2^64<cells/\cells<2^64)=True) (ep:mn*bn=pb) (vi:(r+2)*cells=pc) (q3:(-2^64<pb/\pb<2^64 \/ -2^64<pc+mn/\pc+mn<2^64)=True) (em:pb*(pc+mn)=most) (hz:Nat.ble (most+1).natAbs 1000000000000=true)
  (e5:aH (af 5) (zx 0) (gp 0 (most+1).toNat) [some (.d (.ref 0)),some (.d (.tup [.lst bl,.lst cs])),some (.d (.int mn)),some (.d (.int cells)),some (.d (.int most)),none,none,none] (hS (.tup [.lst bl,.lst cs]) r x s)=some (.rt (rd (.bl true)) S2)) (hc:S2.cut s.length=S2):By 0 [.d (.ref 0),.d (.tup [.lst bl,.lst cs])] (hS (.tup [.lst bl,.lst cs]) r x s)=some (.ok (rd (.bl true)) S2):=by
 have e3:=JS EA;have e4:=λq s=>JZ (s:=s) (hd:=.tup [.lst bl,.lst cs]) (r:=r) (q:=q) (x:=x)
 generalize EA.map D.int=lgd at *;unfold By Ou;simp only[↓ev,hR,cU,u_,e1,hlen,aP,cy,i9,e2,e3,ne,es,lb,q1,ep,JY,e4,q2,vi,q3,em,hz,e5,hc]
theorem Zq(g:ax h)(o:Ok h n x)(hn:n<1000)(hs:bu h x=[])(r0:0<=r)(r2:r<=100)(b0:0<h.ae.length)(VZ:cN h.ae<=39):∃x',Ok h n x'/\x'.rows=[]/\x'.gone.length=x.rows.length+x.gone.length/\bu h x'=[]/\By 0 [.d (.ref 0),.d (aE h)] (hS (aE h) r x s)=some (.ok (rd (.bl true)) (hS (aE h) r x' s)):=by
 have rl:=o.rl;have bl:=g.sm.bl;obtain⟨c0,hM⟩:=Ky (bs:=h.ae) λb m=>(g.lg b m).1
 have e1:=λq=>vb (s:=s) (r:=r) (q:=q) g o
 have lp:=o.perm.length_eq;have hlen:(((ord h x.rows).map aU).length:Int)=(x.rows.length:Int):=by rw[bh,lp]
 have e2:=λq=>VN (h:=h) (S:=hS (aE h) r x s) q (by lia)
 have ne:(h.ae.map ao.long=[])=False:=eq_false λz=>by
  simp_all
 have es:(h.ae.map ao.long).sum=cN h.ae:=rfl;have lb:((h.ae.map aq).length:Int)=(h.ae.length:Int):=by rw[bh]
 have pt:=MC g o r0;have p1:0<=(x.rows.length:Int)*(h.ae.length:Int):=vH (by lia) (by lia)
 have p2:(x.rows.length:Int)*(h.ae.length:Int)<=8*100:=Int.mul_le_mul (by lia) (by lia) (by lia) (by lia)
 have p3:0<=(r+2)*cN h.ae:=vH (by lia) c0
 have p4:(r+2)*cN h.ae<=102*39:=Int.mul_le_mul (by lia) VZ c0 (by lia)
 have p5:0<=(x.rows.length:Int)*(h.ae.length:Int)*((r+2)*cN h.ae+(x.rows.length:Int)):=vH p1 (by lia)
 have p6:(x.rows.length:Int)*(h.ae.length:Int)*((r+2)*cN h.ae+(x.rows.length:Int))<=800*5000:=Int.mul_le_mul (by lia) (by lia) (by lia) (by lia)
 have q1:(-2^64<(x.rows.length:Int)/\(x.rows.length:Int)<2^64 \/ -2^64<(h.ae.length:Int)/\(h.ae.length:Int)<2^64)=True:=bJ (.inl ⟨by lia,by lia⟩)
 have q2:(-2^64<r+2/\r+2<2^64 \/ -2^64<cN h.ae/\cN h.ae<2^64)=True:=bJ (.inl ⟨by lia,by lia⟩)
 generalize ep:(x.rows.length:Int)*(h.ae.length:Int)=pb at *;generalize vi:(r+2)*cN h.ae=pc at *;have q3:(-2^64<pb/\pb<2^64 \/ -2^64<pc+(x.rows.length:Int)/\pc+(x.rows.length:Int)<2^64)=True:=bJ (.inl ⟨by lia,by lia⟩)
 generalize em:pb*(pc+(x.rows.length:Int))=most at *;obtain⟨x',o',h1,h2,h3,e5⟩:=Sw (s:=s) (g1:=some (.d (aE h))) (g2:=some (.d (.int (x.rows.length:Int)))) (g3:=some (.d (.int (cN h.ae)))) (g4:=some (.d (.int most))) g hn r0 hM rfl c0 (gp 0 (most+1).toNat) (x:=x) (m:=most) (a5:=none) (a6:=none) (a7:=none) o hs pt p5 (by rw[rZ,bh,vG];lia)
 refine⟨x',o',h1,h2,h3,?_⟩;have hz:Nat.ble (most+1).natAbs 1000000000000=true:=by rw[Nat.ble_eq];lia
 exact e0z e1 hlen e2 ne es lb q1 q2 ep vi q3 em hz e5 (by unfold aO.cut;dsimp only;rw[ND])
end
noncomputable def x0:Hl:=⟨0,[],[],[],[]⟩
section
variable{s:List Cell}{h:aA}{r t:Int}{x x1 x2:Hl}{n:Nat}{ns:List Int}{bl cs:List D}{hd:D}{b3 b4 b5 b6:ak Val}
theorem vx(h:aA):Ok h 0 x0:=⟨λw m=>(by cases m),IH,IH,λp m=>(by cases m),IH,by decide,by decide⟩
theorem e1a(g:ax h)(o:Ok h n x)(he:x.rows=[]):C8 0 [.d (.ref 0)] (hS (aE h) r x s)=some (.ok (.o (.lst [])) (hS (aE h) r x s)):=by
 have rl:=o.rl;have e1:=λq=>Q9 (s:=s) (r:=r) (q:=q) g o.nk (by lia) λw m=>(o.rw w m).1
 rw[show dS ((ord h x.rows).map Row.bag)=[] by rw[he];rfl] at e1
 generalize aE h=hd at *;unfold C8 P5;simp only[↓ev,hR,cU,Ow,e1,bC,cq]
structure Ja (ns:List Int) (hd:D) (bl cs:List D) (r t:Int) (x1 x2:Hl) (b3 b4 b5 b6:ak Val):Prop where
 ed:hd=.tup [.lst bl,.lst cs]
 hh:P0 BB [.d (ba ns)] (rd hd)
 hr:Pr lO [.d (ba ns),.d (.int 14),.d (.int 3)] (rd (.int r))
 hi:C_ 0 [.d (.ref 0),.d hd,.d (.int r)] ⟨[],[.ins cHall []]⟩=some (.ok (rd .aI) (hS hd r x0 []))
 ho:Pr kc [.d (ba ns),.d (.int 14),.d (.int 20)] (rd (.int t))
 hm:(-2^64<(2:Int)/\(2:Int)<2^64 \/ -2^64<t/\t<2^64)=True
 hz:Nat.ble (23+2*t).natAbs 1000000=true
 hl:aH (af 3) (BO 0) (nN 15 2 (fT 15 (23+2*t))) [some (.d (ba ns)),some (.d hd),some (.d (.ref 0)),none,none,none,none,none] (hS hd r x0 [])=some (.nx [some (.d (ba ns)),some (.d hd),some (.d (.ref 0)),b3,b4,b5,none,none] (hS hd r x1 []))
 hs:aH (af 6) (BP 0) bl [some (.d (ba ns)),some (.d hd),some (.d (.ref 0)),b3,b4,b5,none,none] (hS hd r x1 [])=some (.nx [some (.d (ba ns)),some (.d hd),some (.d (.ref 0)),b3,b4,b5,b6,none] (hS hd r x2 []))
theorem e7p(b:Ja ns hd bl cs r t x1 x2 b3 b4 b5 b6)(rest:GS):K8 rest 0 [some (.d (ba ns)),none,none,none,none,none,none,none] ⟨[],[]⟩=rest [some (.d (ba ns)),some (.d hd),some (.d (.ref 0)),b3,b4,b5,b6,none] (hS hd r x2 []):=by
 obtain⟨ed,hh,hr,hi,ho,hm,hz,hl,hs⟩:=b;subst ed;unfold K8;have z15:Nat.ble (15:Int).natAbs 1000000=true:=by decide
 simp only[↓ev,hh,aP,hr,hi,ho,hm,z15,hz,and_self,i9,hl,cy,hs]
end
section
variable{h:aA}{r t:Int}{x1 x2 x3 x4:Hl}{n:Nat}{ns:List Int}{bl cs:List D}{hd:D}{b3 b4 b5 b6:ak Val}
theorem Lg:aR (.lst []) (.lst [])=true:=rfl
theorem e7q{S2:aO}(e:HD 0 [some (.d (ba ns)),none,none,none,none,none,none,none] ⟨[],[]⟩=some (.rt (rd (.bl true)) S2)):∃S,DH 0 [.d (ba ns)] ⟨[],[]⟩=some (.ok (.v (.d (.bl true))) S):=by
 refine⟨S2.cut 0,?_⟩;unfold DH aS;generalize HD 0=ml at *;simp only[↓ev,e]
theorem e1b(b:Ja ns hd bl cs r t x1 x2 b3 b4 b5 b6){l1 g1 g3 g4:List D}{mn gn uR:Int}
  (eb:∀q,qc q [.d (.ref 0)] (hS hd r x2 [])=some (.ok (.o (.lst l1)) (hS hd r x2 []))) (HX:(l1.length:Int)=mn)
  (eo:∀q,vV q [.d (.ref 0)] (hS hd r x2 [])=some (.ok (.o (.lst g1)) (hS hd r x2 []))) (hg1:(g1.length:Int)=gn) (et:mn+gn=uR)
  (ea:By 0 [.d (.ref 0),.d hd] (hS hd r x2 [])=some (.ok (rd (.bl true)) (hS hd r x3 [])))
  (eo3:∀q,vV q [.d (.ref 0)] (hS hd r x3 [])=some (.ok (.o (.lst g3)) (hS hd r x3 []))) (hg3:(g3.length:Int)=uR)
  (tn:xY 0 [.d (.ref 0)] (hS hd r x3 [])=some (.ok (.o (.lst [])) (hS hd r x4 [])))
  (HG:∀q,qc q [.d (.ref 0)] (hS hd r x4 [])=some (.ok (.o (.lst [])) (hS hd r x4 [])))
  (el4:C8 0 [.d (.ref 0)] (hS hd r x4 [])=some (.ok (.o (.lst [])) (hS hd r x4 [])))
  (eo4:∀q,vV q [.d (.ref 0)] (hS hd r x4 [])=some (.ok (.o (.lst g4)) (hS hd r x4 []))) (hg4:(g4.length:Int)=uR):∃S,DH 0 [.d (ba ns)] ⟨[],[]⟩=some (.ok (.v (.d (.bl true))) S):=by
 refine e7q (S2:=hS hd r x4 []) ?_;unfold HD;rw[e7p b];unfold SG;clear b;simp only[↓ev,hR,cU,u_,eb,HX,e5y,eo,hg1,et,aP,ea,aK,eo3,hg3,eY,eL,lG,tn,Lg,HG,d9i,el4,eo4,hg4]
theorem e9d:∀ns:List Int,ns.length<=63->∃S,DH 0 [.d (.lst (ns.map D.int))] ⟨[],[]⟩=some (.ok (.v (.d (.bl true))) S):=by
 intro ns _;obtain⟨h,g,sl,b0,b5,c4,eh⟩:=d9h ns;obtain⟨_,r0,r4⟩:=g9 ns 14 0 3 (by decide) (by decide) (by decide)
 have hr:Pr lO [.d (ba ns),.d (.int 14),.d (.int 3)] _:=zS ns 14 3 (by decide) (by decide)
 obtain⟨_,t0,t21⟩:=g9 ns 14 1 20 (by decide) (by decide) (by decide)
 have ho:Pr kc [.d (ba ns),.d (.int 14),.d (.int 20)] _:=xS ns 14 20 (by decide) (by decide)
 generalize bf ns 14 0 3=r at *;generalize bf ns 14 1 20=t at *;obtain⟨n,x1,a3,a4,a5,o1,hn,hl⟩:=e9c (ns:=ns) (r:=r) (s:=[]) (a3:=none) (a4:=none) (a5:=none) (a6:=none) (a7:=none) g b0 (vx h) (fT 15 (23+2*t)) (by unfold fT;lia)
 obtain⟨x2,a6,o2,wz,hs⟩:=e0q (r:=r) (s:=[]) (g0:=some (.d (ba ns))) (g1:=some (.d (aE h))) (a3:=a3) (a4:=a4) (a5:=a5) (a6:=none) (a7:=none) g o1;have B:Ja ns (aE h) (h.ae.map aq) (dS h.carts) r t x1 x2 a3 a4 a5 a6:=⟨rfl,eh,hr,e5v (S:=⟨[],[]⟩) g,ho,bJ (.inl (by decide)),by rw[Nat.ble_eq];lia,hl,hs⟩
 obtain⟨x3,o3,e3,c3,s3,ea⟩:=Zq (s:=[]) (r:=r) g o2 (by lia) wz r0 (by lia) b0 sl
 obtain⟨X,t4,tn⟩:=KW (s:=[]) (r:=r) g o3 (by lia)
 have o4:=o3.turn g t4;have e4:(bG h r x3 X).rows=[]:=by
  show iB h _ _ x3.rows=[];rw[e3];rfl
 have We:=OO g o3 t4;rw[e3,e4] at We;rw[show(ord h x3.rows).map (iZ X (aj h r x3))=[] by rw[e3];rfl] at tn
 have HG:=λq=>vb (s:=[]) (r:=r) (q:=q) g o4
 rw[show(ord h (bG h r x3 X).rows).map aU=[] by rw[e4];rfl] at HG
 refine e1b B (λq=>vb g o2) (by rw[bh,o2.perm.length_eq]) (λq=>KP) (by unfold vj;rw[bh]) (show _=((x2.rows.length+x2.gone.length:Nat):Int) by lia) ea (λq=>KP) (by unfold vj;rw[bh,c3]) tn HG (e1a g o4 e4) (λq=>KP) ?_
 grind [vj]
end
variable{w:cC}{K:PySem.W.Frag}{mg:Str->ak ai}{us:List ai}{h:bV}{l:PySem.W.OpenLaw}
def qZ(K:PySem.W.Frag):L2.Sp:=λvs H Q _=>∃(a:ag) (ns:List Int),vs=[.ref a]/\cM K H a (ns.map V.int)/\ns.length<=63/\∀H',Q (.bl true) H'
theorem e7r{P:de}{base:bV}{t:aW}(T:Txt K mg t):dD P w K mg base (nX P w) 8 t.t6 t.tU ["_law_script"] (qZ K):=by
 exact d8p (e5m T 0) e9d
theorem us_1(h:us.length=1):∃a0,us=[a0]:=by
 obtain _|⟨a0,us⟩:=us
 .cases h
 obtain _|⟨z,us⟩:=us
 .exact⟨a0,rfl⟩
 .simp at h
theorem us_2(h:us.length=2):∃a0 a1,us=[a0,a1]:=by
 obtain _|⟨a0,us⟩:=us
 .cases h
 obtain _|⟨a1,us⟩:=us
 .cases h
 obtain _|⟨z,us⟩:=us
 .exact⟨a0,a1,rfl⟩
 .simp at h
theorem us_3(h:us.length=3):∃a0 a1 a2,us=[a0,a1,a2]:=by
 obtain _|⟨a0,us⟩:=us
 .cases h
 obtain _|⟨a1,us⟩:=us
 .cases h
 obtain _|⟨a2,us⟩:=us
 .cases h
 obtain _|⟨z,us⟩:=us
 .exact⟨a0,a1,a2,rfl⟩
 .simp at h
theorem us_4(h:us.length=4):∃a0 a1 a2 a3,us=[a0,a1,a2,a3]:=by
 obtain _|⟨a0,us⟩:=us
 .cases h
 obtain _|⟨a1,us⟩:=us
 .cases h
 obtain _|⟨a2,us⟩:=us
 .cases h
 obtain _|⟨a3,us⟩:=us
 .cases h
 obtain _|⟨z,us⟩:=us
 .exact⟨a0,a1,a2,a3,rfl⟩
 .simp at h
abbrev iu(K:PySem.W.Frag)(n:Str)(C:ag):Prop:=PySem.W.nsIn K mainGlobals n=some (some (.ref C))/\fK K C (.ref 31::sy) none/\PySem.W.keepIn K (.ref C)=true
theorem errs_mk(X:K.In h)(G:h.Ns mainGlobals mg)(h0:iu K "NoName" 44)(h1:iu K "NoSize" 56)(h2:iu K "NoOut" 68)(h3:iu K "NoHand" 80)(h4:iu K "NoMoment" 92)(h5:iu K "NoFlight" 104)(h6:iu K "NoBelt" 116)(h7:iu K "NoRoom" 128)(h8:iu K "NoBag" 140)(GB:fK K 31 sy none)(hB:PySem.W.nsIn K mainGlobals "CarryError"=some (some (.ref 31))):ra K mg jk 31:=by
 refine⟨λp hp=>?_,GB,PySem.W.mg_of X G hB⟩
 simp only[jk,y04,y1r,or_false] at hp;rcases hp with rfl|rfl|rfl|rfl|rfl|rfl|rfl|rfl|rfl
 .exact⟨PySem.W.mg_of X G h0.1,h0.2⟩
 .exact⟨PySem.W.mg_of X G h1.1,h1.2⟩
 .exact⟨PySem.W.mg_of X G h2.1,h2.2⟩
 .exact⟨PySem.W.mg_of X G h3.1,h3.2⟩
 .exact⟨PySem.W.mg_of X G h4.1,h4.2⟩
 .exact⟨PySem.W.mg_of X G h5.1,h5.2⟩
 .exact⟨PySem.W.mg_of X G h6.1,h6.2⟩
 .exact⟨PySem.W.mg_of X G h7.1,h7.2⟩
 .exact⟨PySem.W.mg_of X G h8.1,h8.2⟩
theorem fin_mk{fa f0 f1 f2 f3 f4 f5 f6 f7 f8 f9 f10 f11 f12 f13 f14 f15 f16 f17 f18 f19 f20 f21 f22 f23 f24 f25 f26 f27 f28 f29 f30 f31 f32 f33 f34 f35 f36 f37 f38 f39 f40 f41 f42 f43 f44 f45 f46 f47 f48 f49 f50 f51 f52 f53 f54 f55 f56 f57 f58 f59 f60:ag}{d0 d1 d2 d3 d4 d5 d6 d7 d8 d9 Yc Yd Ye Yf Yg Yh Yi Yj Yk Yl YB YC YD YE YF YG YH YI YJ YK Za Zb Zc Zd Ze Zf Zg Zh Zi Zj Zr Zs Zt Zu Zv Zw Zx Zy Zz ZA ZC ZD ZE ZF ZG ZH ZI ZJ ZK ZL Z9:bR}(X:K.In h)(G:h.Ns mainGlobals mg)(hfa:mg "law"=some (.ref fa))(T:Txt K mg ⟨f0,d0,f1,d1,f2,d2,f3,d3,f4,d4,f5,d5,f6,d6,f7,d7,f8,d8,f9,d9,f10,Yc,f11,Yd,f12,Ye,f13,Yf,f14,Yg,f15,Yh,f16,Yi,f17,Yj,f18,Yk,f19,Yl,f20,YB,f21,YC,f22,YD,f23,YE,f24,YF,f25,YG,f26,YH,f27,YI,f28,YJ,f29,YK,f30,Za,f31,Zb,f32,Zc,f33,Zd,f34,Ze,f35,Zf,f36,Zg,f37,Zh,f38,Zi,f39,Zj,f40,Zr,f41,Zs,f42,Zt,f43,Zu,f44,Zv,f45,Zw,f46,Zx,f47,Zy,f48,Zz,f49,ZA,f50,ZC,f51,ZD,f52,ZE,f53,ZF,f54,ZG,f55,ZH,f56,ZI,f57,ZJ,f58,ZK,f59,ZL,f60,Z9⟩)
  : ∃fd:bR,(∀(s:au) (v:ai),BindsTo s fd ⟨[v],[]⟩ [("_law_script",v)])/\∀base:bV,K.In base->base.Ns mainGlobals mg->dD l.prog w K mg base (nX l.prog w) 8 fa fd ["_law_script"] (qZ K):=by
 have e:=hfa.symm.trans T.s9.mg;cases e;obtain⟨oc,od,kV,doc,pm,an,gf,ct,vy,e,_,_⟩:=T.s9.fn.ex;exact⟨_,λs v=>by rw[e];exact .of_eq rfl,λbase _ _=>e7r T⟩
theorem walk{q:de}{loose:List Str}{XP:(Str->ak ai)->bV->Prop}{YP:cC->bV->Prop}{d:DefRec}{K:Params->PySem.W.Frag}(hn:l.most=some 63)(D_:d.params.defaults=[])
  (hY:∀(w:cC) (h:bV),YP w h->(K w.params).In h)
  (F:∀(w:cC) (mg:Str->ak ai) (fa:ag) (h:bV),(K w.params).In h->h.Ns mainGlobals mg->mg d.name=some (.ref fa)-> ∃fd:bR,(∀(s:au) (u:ai),BindsTo s fd ⟨[u],[]⟩ [("_law_script",u)])/\∀base:bV,(K w.params).In base->base.Ns mainGlobals mg->dD l.prog w (K w.params) mg base (nX l.prog w) 8 fa fd ["_law_script"] (qZ (K w.params))) :
  PySem.W.WalkO q loose XP YP l.row.toRowW d [] (λf vs=>PySem.call f vs):=
 L2.xx (n:=63) (k:=8) (x:="_law_script") (CX:=λw=>nX l.prog w) (sp:=λw=>qZ (K w.params)) hn (by decide) D_ ⟨rfl,by decide,by decide⟩ hY F (λ_ _ a ns hl _ hS=>⟨a,ns,rfl,hS,hl,λ_=>rfl⟩) λ_ _ _ _ _ ⟨_,_,_,_,_,_,z⟩=>z
end Carry
end
open PySem PySem.W PyProof.Rows
set_option maxRecDepth 100000 in
set_option maxHeartbeats 0 in
theorem PySem.Challenge.cw_carry_k69_whole_nothing_stands_for_ever_holds : PySem.Challenge.rw_carry_k69_whole_nothing_stands_for_ever.Holds := by
 simp -failIfUnchanged only[Carry.Hd.hd0];w_on;o_law;(try simp only[Carry.Hd.hd]);k_head;(case hw=>w_witness2)
 k_fill
 refine Carry.walk (l:=PySem.Challenge.rw_carry_k69_whole_nothing_stands_for_ever) rfl rfl (λw h Y=>PySem.W.kIn_of Y) ?F
 case F=>
  intro w mg fa h KX G hmg;refine' Carry.fin_mk KX G hmg ⟨L2.dM KX G ?_ ?_ ?_,L2.dM KX G ?_ ?_ ?_,L2.dM KX G ?_ ?_ ?_,L2.dM KX G ?_ ?_ ?_,L2.dM KX G ?_ ?_ ?_,L2.dM KX G ?_ ?_ ?_,L2.dM KX G ?_ ?_ ?_,L2.dM KX G ?_ ?_ ?_,L2.dM KX G ?_ ?_ ?_,L2.dM KX G ?_ ?_ ?_,L2.dM KX G ?_ ?_ ?_,L2.dM KX G ?_ ?_ ?_,L2.dM KX G ?_ ?_ ?_,L2.dM KX G ?_ ?_ ?_,L2.dM KX G ?_ ?_ ?_,L2.dM KX G ?_ ?_ ?_,L2.dM KX G ?_ ?_ ?_,L2.dM KX G ?_ ?_ ?_,L2.dM KX G ?_ ?_ ?_,L2.dM KX G ?_ ?_ ?_,L2.dM KX G ?_ ?_ ?_,L2.dM KX G ?_ ?_ ?_,L2.dM KX G ?_ ?_ ?_,L2.dM KX G ?_ ?_ ?_,L2.dM KX G ?_ ?_ ?_,L2.dM KX G ?_ ?_ ?_,L2.dM KX G ?_ ?_ ?_,L2.dM KX G ?_ ?_ ?_,L2.dM KX G ?_ ?_ ?_,L2.dM KX G ?_ ?_ ?_,L2.dM KX G ?_ ?_ ?_,L2.dM KX G ?_ ?_ ?_,L2.dM KX G ?_ ?_ ?_,L2.dM KX G ?_ ?_ ?_,L2.dM KX G ?_ ?_ ?_,L2.dM KX G ?_ ?_ ?_,L2.dM KX G ?_ ?_ ?_,L2.dM KX G ?_ ?_ ?_,?F38,(L2.Fun.binds ?F38 ?_),L2.mM ?_ ?_ ?_ ?_,L2.mM ?_ ?_ ?_ ?_,L2.mM ?_ ?_ ?_ ?_,L2.mM ?_ ?_ ?_ ?_,L2.mM ?_ ?_ ?_ ?_,L2.mM ?_ ?_ ?_ ?_,L2.mM ?_ ?_ ?_ ?_,L2.mM ?_ ?_ ?_ ?_,L2.mM ?_ ?_ ?_ ?_,L2.mM ?_ ?_ ?_ ?_,L2.mM ?_ ?_ ?_ ?_,L2.mM ?_ ?_ ?_ ?_,L2.mM ?_ ?_ ?_ ?_,L2.mM ?_ ?_ ?_ ?_,L2.mM ?_ ?_ ?_ ?_,L2.mM ?_ ?_ ?_ ?_,L2.mM ?_ ?_ ?_ ?_,L2.mM ?_ ?_ ?_ ?_,L2.mM ?_ ?_ ?_ ?_,L2.mM ?_ ?_ ?_ ?_,L2.mM ?_ ?_ ?_ ?_,L2.mM ?_ ?_ ?_ ?_,⟨?_,?_,?_,?_⟩,⟨?_,?_,?_,?_⟩,PySem.W.mg_of KX G ?_,?atr,?er,PySem.W.mg_none_of KX G ?_,PySem.W.mg_none_of KX G ?_,PySem.W.mg_none_of KX G ?_,PySem.W.mg_none_of KX G ?_,PySem.W.mg_none_of KX G ?_,PySem.W.mg_none_of KX G ?_,PySem.W.mg_none_of KX G ?_,PySem.W.mg_none_of KX G ?_,PySem.W.mg_none_of KX G ?_,PySem.W.mg_none_of KX G ?_,PySem.W.mg_none_of KX G ?_,PySem.W.mg_none_of KX G ?_,PySem.W.mg_none_of KX G ?_,PySem.W.mg_none_of KX G ?_,PySem.W.mg_none_of KX G ?_,L2.kM KX G ?_,L2.kM KX G ?_⟩
  case atr=>
   intro p hp;simp only[Carry.atrs,y04,y1r,or_false] at hp;rcases hp with rfl|rfl|rfl|rfl|rfl|rfl|rfl|rfl|rfl|rfl <;> (dsimp only[Carry.cHall];exact⟨⟨by k_is,by k_is,by k_is,by k_is⟩,by show _=_;k_is⟩)
  case er=>
   refine' Carry.errs_mk KX G ?h0 ?h1 ?h2 ?h3 ?h4 ?h5 ?h6 ?h7 ?h8 ?GB ?hB
   all_goals first|(refine' ⟨?za,?zb,?zd⟩;(case zb=>refine' L2.errC_mk ?zl ?zm ?zs ?zi;(case zl=>k_is);(case zm=>k_is);(case zs=>kernel_rfl);(case zi=>kernel_rfl));(case za=>k_is);(case zd=>k_is))|(refine' L2.errC_mk ?zl ?zm ?zs ?zi;(case zl=>k_is);(case zm=>k_is);(case zs=>kernel_rfl);(case zi=>kernel_rfl))|k_is|(show _=_;k_is)
  all_goals (try dsimp only[Carry.cHall])
  all_goals first|(refine' L2.fun_mk ?zl ?zc ?zk;(case zl=>k_is);(case zc=>k_is);(case zk=>k_is))|(intro _ _ _ _ _ _ us hl;obtain⟨_,rfl⟩:=Carry.us_1 hl;rfl)|(intro _ _ _ _ _ _ us hl;obtain⟨_,_,rfl⟩:=Carry.us_2 hl;rfl)|(intro _ _ _ _ _ _ us hl;obtain⟨_,_,_,rfl⟩:=Carry.us_3 hl;rfl)|(intro _ _ _ _ _ _ us hl;obtain⟨_,_,_,_,rfl⟩:=Carry.us_4 hl;rfl)|k_is|(show _=_;k_is)|skip
  all_goals (try (refine' L2.fun_mk ?zl ?zc ?zk;(case zl=>k_is);(case zc=>k_is);(case zk=>k_is)))