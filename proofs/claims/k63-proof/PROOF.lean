import PyProof.Rows.All
import Wide.All
import OpenK.AllK
import Wide.FinOn
import Lean
import PyProof.EqAt
import PyProof.EqKinds
import PyProof.TupleCall
import PyProof.StationsW
import PyProof.ExcClass3
import PyProof.ExcInit
import PyProof.ExcBaseAll.ValueError
import PyProof.ExcArgsOwn
import KE.KIsAll
import PyProof.ExcAttrAll.ValueError
import PyProof.InstStoreFacts
import KE.KTryMore
import PyProof.RulesAs
import PyProof.NsDelKeeps
import KE.KRevIter
import PyProof.SeqI3
import PyProof.DictWalks
import PyProof.EnumIter
import PyProof.EnumStmt
import PyProof.EnumMake
import PyProof.WalksEnum
import PyProof.FactsAll.NoneType_1
import PyProof.NeKinds
import KE.KDictList
import KE.KItemsList
import PyProof.Rows.SortShell
import PyProof.WalkInts
import PyProof.MeetsSeq
import PyProof.SeqRoads2
import KE.KDictOf
import PyProof.AttrMissHeap
import KE.KSortTup
import PyProof.Rows.SortWalk
import PyProof.Rows.SumAny
import PyProof.Rows.SortStr
import PySem.Challenge.RW_carry_k63_carts_and_late_ones
set_option linter.all false
set_option bootstrap.genMatcherCode false
set_option compiler.extract_closed false
set_option compiler.reuse false
set_option genSizeOf false
set_option genSizeOfSpec false
def bj:=@List.length_map.{0,0}
def bV:=@Nat.le_refl
def cy:=@Option.bind_eq_some_iff.{0,0}
def cQ:=@PySem.Heap.lt_size
def cU:=@List.map_cons.{0,0}
theorem cY:type_of% @Option.any_some.{0}:=rfl
def c_:=@Option.map_eq_some_iff.{0,0}
def dy:=@PySem.Heap.get?_push_of_some
def dz:=@List.length_append.{0}
def eP:=@List.map_map.{0,0,0}
def y0a:=@List.mem_cons.{0}
def eY:=@List.getElem?_eq_some_iff.{0}
def fF:=@List.size_toArray.{0}
def fP:=@Nat.max_self
def fU:=@List.getElem?_map.{0,0}
def gE:=@Nat.lt_of_lt_of_le
def gF:=@List.map_append.{0,0}
def g_:=@Nat.ne_of_lt
def iN:=@List.getElem?_eq_getElem.{0}
def jC:=@List.mem_append.{0}
def jP:=@PySem.Heap.get?_push_size
def jQ:=@List.mem_map.{0,0}
def kx:=@Nat.le_trans
def kO:=@Bool.and_eq_true
def kX:=@Nat.lt_irrefl
def kY:=@List.append_nil.{0}
theorem l_:type_of% @List.length_cons.{0}:=rfl
def mf:=@Bool.not_true
def mS:=@List.prefix_refl.{0}
def nK:=@Nat.zero_le
def oO:=@List.all_eq_true.{0}
def oP:=@List.contains_iff_mem.{0}
def oQ:=@Bool.not_false
def oV:=@List.nodup_append.{0}
def qE:=@List.mem_singleton.{0}
def qF:=@List.append_assoc.{0}
def qC:=@List.mem_map_of_mem.{0,0}
def qD:=@List.map_congr_left.{0,0}
def rG:=@List.mem_append_right.{0}
def rH:=@PySem.Heap.get?_update_other
def sQ:=@List.length_replicate.{0}
def tV:=@List.mem_range
def tW:=@List.mem_cons_of_mem.{0}
def t_:=@List.nodup_cons.{0}
def ua:=@List.getElem?_append_right.{0}
def ub:=@PySem.Heap.get?_update_self
def uc:=@Bool.false_eq_true
def vL:=@List.filterMap_cons.{0,0}
def vM:=@Bool.false_ne_true
def vN:=@List.getElem?_append_left.{0}
def vO:=@List.mem_of_getElem?.{0}
def vP:=@List.all_cons.{0}
def wx:=@List.mem_filter.{0}
def wy:=@List.getElem?_set_self.{0}
def wz:=@List.length_set.{0}
def wB:=@List.length_singleton.{0}
def wC:=@Array.getElem?_eq_getElem.{0}
def wD:=@List.length_filter_le.{0}
theorem wG:type_of% @Option.isSome_some.{0}:=rfl
def yq:=@Nat.lt_succ_self
def zG:=@Nat.ne_of_gt
def zH:=@Nat.le_succ
def zI:=@List.length_take.{0}
def zJ:=@List.filter_cons.{0}
def zK:=@Array.getElem?_toList.{0}
def zL:=@List.length_range
theorem zM:type_of% @Option.isSome_none.{0}:=rfl
def BF:=@List.mem_filterMap.{0,0}
def BG:=@Nat.lt_succ_of_lt
def BH:=@List.mem_iff_getElem?.{0}
def BI:=@List.getElem?_range
def BJ:=@Nat.le_of_ble_eq_true
def BK:=@List.getElem?_eq_none.{0}
def BL:=@List.getD_eq_getElem?_getD.{0}
def CZ:=@List.mem_cons_self.{0}
def C0:=@List.getElem?_set_ne.{0}
def C1:=@List.length_drop.{0}
def C2:=@List.getElem_mem.{0}
theorem C3:type_of% @List.length_nil.{0}:=rfl
def C4:=@Array.getElem?_eq_some_iff.{0}
def C5:=@Bool.and_eq_true_iff
def C6:=@Option.bind_some.{0,0}
theorem C7:type_of% @Option.map_some.{0,0}:=λ_ _=>rfl
def Gv:=@List.getElem_inj.{0}
def Gw:=@Nat.le_of_eq
def Gy:=@List.map_nil.{0,0}
def Gz:=@Bool.eq_iff_iff
def GC:=@List.take_of_length_le.{0}
def y1q:=@List.not_mem_nil.{0}
def GD:=@List.all_map.{0,0}
def GF:=@List.find?_cons.{0}
def GI:=@PySem.Heap.get?_push_ne
def GK:=@List.filterMap_nil.{0,0}
def GL:=@List.nil_append.{0}
def GN:=@List.pairwise_map.{0,0}
def GP:=@List.length_filterMap_le.{0,0}
def JQ:=@List.mem_append_left.{0}
theorem JR:type_of% @Array.length_toList.{0}:=rfl
def JE:=@List.drop_of_length_le.{0}
theorem JF:type_of% @Int.toNat_natCast:=λ_=>rfl
def JG:=@Nat.le_add_right
def JH:=@List.length_reverse.{0}
def JI:=@List.filter_sublist.{0}
def JJ:=@List.nodup_nil.{0}
def JK:=@List.map_drop.{0,0}
def JL:=@List.set_set.{0}
def JM:=@List.mem_of_find?_eq_some.{0}
def JN:=@List.find?_some.{0}
theorem JO:type_of% @Option.getD_some.{0}:=rfl
def JP:=@Nat.ble_eq
def N3:=@Nat.le_of_lt
def N4:=@Array.mem_toList_iff.{0}
def N5:=@List.getElem?_replicate.{0}
def N6:=@Nat.sub_self
def N7:=@Nat.lt_of_le_of_lt
def N8:=@List.drop_eq_getElem_cons.{0}
def N9:=@List.nodup_range
def N_:=@List.find?_eq_none.{0}
def Oa:=@List.any_eq_true.{0}
def Ob:=@List.ext_getElem?.{0}
def Oc:=@Int.le_refl
def Od:=@List.foldl_append.{0,0}
def Oe:=@PySem.Heap.size_update
def Of:=@List.mem_of_mem_drop.{0}
def Og:=@List.map_take.{0,0}
def Oh:=@Nat.ble_eq_true_of_le
def Oi:=@List.sum_cons.{0}
def Oj:=@Bool.or_true
def Ol:=@List.set_getElem_self.{0}
def Om:=@Bool.eq_false_iff
def aA:=@PySem.wpAny_bind
def aX:=@PySem.wpAny_pure
def sR:=@if_true.{1}
def bK:=@if_pos.{1}
def bD:=@if_neg.{1}
def kP:=@if_false.{1}
def vQ:=@decide_eq_true
def wH:=@decide_eq_false
def fV:=@beq_self_eq_true.{0}
def mh:=@PySem.wpAny_holding
def yr:=@of_decide_eq_true
def vR:=@beq_eq_false_iff_ne.{0}
def cJ:=@absurd.{0}
def vS:=@True.intro
def br:=@eq_true
namespace Carry.Hd
open Lean Meta PySem PySem.W
abbrev kC:=@mkConst
abbrev aM:=@mkAppM
abbrev nL:=mkRawNatLit
abbrev Ex:=Lean.Expr
def fit(ds:Array (Ex×Ex×Ex)):MetaM (Array (Ex×Ex×Ex)):=do
 let cs:Std.HashSet Ex:=ds.foldl (λz d=>if d.1.isConst then z.insert d.1 else z) {}
 ds.filterM λd=>do
  let ty:=Fast.bareType (<-inferType d.1)
  return (ty.find? λy=>cs.contains y || y.isConstOf ``PySem.W.Frag).isNone
def spots(ds:Array (Ex×Ex×Ex)):Std.HashMap Ex Nat:=ds.zipIdx.foldl (λz d=>z.insert d.1.1 d.2) {}
def parts(tw:Name->MetaM Unit)(v:Ex):MetaM (Array (Ex×Ex×Ex)):=do
 for x in Fast.constsOf v do
  if let .const c _:=x then
   if((<-getEnv).getModuleIdxFor? c).isNone || (`PySem.Challenge).isPrefixOf c then tw c
 fit (<-Fast.twinsIn v)
def twin:Nat->Name->MetaM Unit
 |0,_=>return
 |k+1,c=>do
  let (n,e) <-Fast.stemIn c true
  if(<-getEnv).contains e then return
  if let some none:=(<-Fast.primed.get).get? c then return
  let some (.defnInfo d):=(<-getEnv).find? c|return
  let ds <-parts (twin k) d.value
  if ds.isEmpty then
   Fast.primed.modify λz=>z.insert c none
   return
  let ix:=spots ds
  withOptions (Elab.async.set · false) do
   addDecl (.defnDecl { name:=n,levelParams:=[],type:=d.type,value:=Fast.putIn ix (λi=>ds[i]!.2.1) d.value,hints:=d.hints,safety:=.safe})
   addDecl (.thmDecl { name:=e,levelParams:=[],type:=<-mkEq (kC c) (kC n),value:=<-mkEqRefl (kC c)})
  Fast.primed.modify λz=>z.insert c (some (n,e))
def prep(v:Ex):MetaM (Array (Ex×Ex×Ex)):=parts (twin 9) v
def put(stem:Name)(ty v:Ex):MetaM Ex:=do
 let ds <-prep v
 let c <-defAt stem ty (Fast.putIn (spots ds) (λi=>ds[i]!.2.1) v)
 Fast.primed.modify λz=>z.insert c.constName! none
 return c
abbrev Objs:=Array (Obj×Obj×Ex)
def lay(old:Objs)(s t:Shared):MetaM Objs:=do
 let P:=kC ``Params
 unless s.heap.objs.size == t.heap.objs.size && s.toks == t.toks && toExpr s.drawn == toExpr t.drawn && toExpr s.heap.life == toExpr t.heap.life do throwError "the worlds part"
 let mut out:=#[]
 for i in [0:s.heap.objs.size] do
  let (a,b):=(s.heap.objs[i]!,t.heap.objs[i]!)
  if let some (a',b',e):=old[i]? then
   if sameObjNow a' a && sameObjNow b' b then
    out:=out.push (a',b',e)
    continue
  let v <-withLocalDeclD `P P λp=>do
   let e:=objE p a
   unless e == objE p b do throwError "an object is the world's"
   mkLambdaFVars #[p] e
  out:=out.push (a,b,<-put `o (<-mkArrow P (kC ``Obj)) v)
 return out
def state(l:Bool)(old:Objs)(s t:Shared):MetaM (Objs×W.State):=do
 let P:=kC ``Params
 let os <-lay old s t
 let life:=toExpr s.heap.life
 let S:W.State:={ heap:=default,gens:=<-gensE s t,drawn:=toExpr s.drawn,toks:=nL s.toks}
 if l then
  let v <-withLocalDeclD `P P λp=>mkLambdaFVars #[p] (mkApp2 (kC ``Heap.mk) (mkApp2 (kC ``Array.mk [0]) (kC ``Obj) (listE (kC ``Obj) (os.toList.map λx=>mkApp x.2.2 p))) life)
  return (os,{ S with heap:=<-put `h (<-mkArrow P (kC ``Heap)) v})
 let v <-withLocalDeclD `P P λp=>mkLambdaFVars #[p] (treeE p (os.map (·.2.2)) 1 0)
 return (os,{ S with tree:=some (<-put `t (<-mkArrow P (kC ``BT)) v,nL s.heap.objs.size,life)})
def aux(ty pf:Ex):MetaM Ex:=do return kC (<-withOptions (Elab.async.set · false) (mkAuxLemma [] ty pf (cache:=false)))
def look:Nat->Ex->Ex->MetaM Ex
 |k,l,r=>do
  let W:=kC ``World
  let O:=kC ``OsState
  let q <-withLocalDeclD `w W λw=>withLocalDeclD `os O λos=>do
   let un (e:Ex):MetaM Ex:=do
    let e:=(mkApp2 e w os).headBeta
    if e.isAppOf ``openSeen || e.isAppOf ``openGood then return (<-unfoldDefinition? e).getD e
    return e
   let (a,b):=(<-un l,<-un r)
   unless a.isAppOfArity ``Prod.mk 4 && b.isAppOfArity ``Prod.mk 4 do return none
   let sh (e:Ex) (i:Nat):MetaM Ex:=mkLambdaFVars #[w,os] (e.getArg! i)
   return some (<-sh a 2,<-sh b 2,<-sh a 3,<-sh b 3)
  match k,q with
  |n+1,some (a1,b1,a2,b2)=>
   let (x,y):=(<-look n a1 b1,<-look n a2 b2)
   let (ty,pf) <-withLocalDeclD `w W λw=>withLocalDeclD `os O λos=>do
    return (<-mkForallFVars #[w,os] (<-mkEq (mkApp2 l w os).headBeta (mkApp2 r w os).headBeta),<-mkLambdaFVars #[w,os] (<-aM ``looks_pair #[mkApp2 x w os,mkApp2 y w os]))
   aux ty pf
  |_,_=>
   let P <-withLocalDeclD `w W λw=>do mkLambdaFVars #[w] (<-mkEq (mkApp l w).headBeta (mkApp r w).headBeta)
   discard <| prep P
   let e <-byKernelQuick P []
   withLocalDeclD `w W λw=>withLocalDeclD `os O λos=>do mkLambdaFVars #[w,os] (<-aM ``congrFun #[mkApp e w,os])
def most:Nat:=3000
def left(g:MVarId)(pE:Ex)(p:Program)(_:List String):MetaM Unit:=g.withContext do
 let a:=(<-instantiateMVars (<-g.getType)).consumeMData.getAppArgs
 let some N <-(Meta.evalNat a[7]!).run|throwError "no number"
 let (.ok t,.ok t'):=(<-traceTop p N 1,<-traceTop p N 2)|throwError "no trace"
 let tb:=kC ``treeTable
 let (W,O):=(kC ``World,kC ``OsState)
 let m0:=nL t.s0.heap.objs.size
 let ann:=toExpr t.ann
 let main <-aM ``Program.main #[pE]
 let op <-aM ``opening #[pE]
 let e1 <-aux (<-mkEq op (mkApp (kC ``plainProg) (<-aM ``Scope.names #[<-aM ``Module.scope #[main]]))) (<-mkEqRefl op)
 let e2 <-withLocalDeclD `s (kC ``Shared) λs=>do
  let r <-aM ``some #[s]
  aux (<-mkForallFVars #[s] (<-mkEq (mkApp2 (kC ``fenceModules?) pE s) r)) (<-mkLambdaFVars #[s] (<-mkEqRefl r))
 let e3 <-mkDecideProof (<-mkEq (mkApp2 (kC ``Nat.ble) (nL 600) a[7]!) (kC ``Bool.true))
 let boot:=mkAppN (kC ``boot_open) #[pE,a[7]!,e1,e3,e2]
 let bE <-aM ``behindTheImports #[pE]
 let some cells <-cellsD? bE|throwError "no body"
 let env0 <-Elab.Term.TermElabM.run' do
  let s1 <-Elab.Term.exprToSyntax (<-aM ``Module.scope #[main])
  let s2 <-Elab.Term.exprToSyntax (toExpr t.code)
  let e <-Elab.Term.withSynthesize (Elab.Term.elabTermEnsuringType (<-`(({ scope:=$s1,locals:=mainNs,globals:=mainNs,cells:=[],code:=$s2,frame:=some $(quote t.frame)}:Env))) (kC ``Env))
  instantiateMVars e
 let env <-defAt `env (kC ``Env) env0
 let fp:=toExpr t.framePos
 let cE:=mkApp2 (kC ``Code.body) bE env
 let B:=listE (kC ``Frame) [mkApp (kC ``topFrame) fp]
 let go (f:Name) (more:Array Ex) (n:Nat) (w s th:Ex):Ex:=mkAppN (kC f) (#[tb,pE,w,m0,ann]++more++#[nL n,s,th])
 let one:=#[nL 1]
 let piece (rows:List String) (l r:Ex->Ex->MetaM Ex):MetaM Ex:=do
  for x in [pE,env] do discard <| prep x
  byPiece rows l r
 let ends (S:Ex) (pos:Pos):MetaM Ex:=do aM ``some #[<-aM ``Prod.mk #[kC ``Flow.next,<-aM ``Prod.mk #[S,<-aM ``Prod.mk #[cE,toExpr pos]]]]
 let rowsOf (x y:Snap):=(x.rows++y.rows).eraseDups
 let mut o:Objs:=#[]
 for i in [0:t.s0.heap.objs.size] do o:=o.push (t.s0.heap.objs[i]!,t'.s0.heap.objs[i]!,kC ((`PySem.W).str s!"boot_o_{i}"))
 let S0:PySem.W.State:={ heap:=kC ``boot_heap,gens:=mkApp2 (kC ``Array.mk [0]) (kC ``GenState) (mkApp (kC ``List.nil [0]) (kC ``GenState)),drawn:=kC ``boot_drawn,toks:=kC ``boot_toks}
 let (o1,Sa) <-state true o t.pre.s t'.pre.s
 let thA:=mkApp4 (kC ``Thread.mk) (mkApp2 (kC ``denote) tb cE) cE (toExpr t.pre.pos) B
 let stub:=mkApp (kC ``topStub) pE
 let pre <-piece (rowsOf t.pre t'.pre) (λw os=>pure (go ``topGo #[] t.pre.steps w (S0.at w os) stub)) λw os=>do aM ``some #[<-aM ``Prod.mk #[Sa.at w os,thA]]
 let (o2,Sb) <-state false o1 t.block.s t'.block.s
 let block <-piece (rowsOf t.block t'.block) (λw os=>pure (go ``segRun one t.block.steps.succ w (Sa.at w os) (mkAppN (kC ``blockOf) #[bE,env,cE,toExpr t.pre.pos,B]))) λw os=>ends (Sb.at w os) t.block.pos
 let mut gs:Array (List Ex×Nat×Snap×Snap×List String):=#[]
 for (st,x,x') in cells.zip (t.pieces.zip t'.pieces) do
  let k:=max x.steps x'.steps
  let rs:=rowsOf x x'
  match gs.back? with
  |some (l,n,_,_,r)=>
   if n+k<=most && (r++rs).eraseDups.length<=3 then gs:=gs.pop.push (l++[st],n+k,x,x',(r++rs).eraseDups) else gs:=gs.push ([st],k,x,x',rs)
  |none=>gs:=gs.push ([st],k,x,x',rs)
 let mut cur:=(o2,Sb,t.block.pos)
 let mut lems:=#[]
 for (sts,n,x,x',rs) in gs do
  let stE <-defAt `st (mkApp (kC ``List [0]) (kC ``Stmt)) (listE (kC ``Stmt) sts)
  discard <| prep stE
  let (o0,S1,p1):=cur
  let (o',S') <-state false o0 x.s x'.s
  let th:=mkAppN (kC ``piecesOf) #[stE,env,cE,toExpr p1,B]
  let h <-piece rs (λw os=>pure (go ``segRunT one n.succ w (S1.atT w os) th)) λw os=>ends (S'.atT w os) x.pos
  lems:=lems.push (stE,n.succ,S1,p1,S',x.pos,<-liftT h ``segRun_of)
  cur:=(o',S',x.pos)
  logInfo m!"PIECE {sts.length} {n} {x.s.heap.objs.size}"
 let (oN,SN,pN):=cur
 let (_,Sf) <-state true oN t.fin.s t'.fin.s
 let fin <-piece (rowsOf t.fin t'.fin) (λw os=>pure (go ``topRun #[] t.fin.steps.succ w (SN.at w os) (mkApp4 (kC ``Thread.mk) (mkApp (kC ``doneF) (kC ``Flow.next)) cE (toExpr pN) B))) λw os=>aM ``some #[Sf.at w os]
 let run <-withLocalDeclD `w W λw=>withLocalDeclD `os O λos=>do
  let w1 (l:Ex):MetaM Ex:=do aM ``congrFun #[mkApp l w,os]
  let r:=Sf.at w os
  let com:=#[tb,pE,w,m0,ann,env,fp]
  let mut k <-w1 fin
  let mut M:=nL t.fin.steps.succ
  let mut rest:=listE (kC ``Stmt) []
  for (stE,n,S1,p1,S',p2,h) in lems.toList.reverse do
   k:=mkAppN (kC ``piece_app) (com++#[nL n,M,S1.at w os,S'.at w os,r,stE,rest,cE,toExpr p1,toExpr p2,<-w1 h,k])
   M:=mkApp2 (kC ``Nat.add) (nL n) M
   rest <-aM ``HAppend.hAppend #[stE,rest]
  k:=mkAppN (kC ``piece_block) (com++#[nL t.block.steps.succ,M,Sa.at w os,Sb.at w os,r,bE,cE,toExpr t.pre.pos,toExpr t.block.pos,<-w1 block,k])
  M:=mkApp2 (kC ``Nat.add) (nL t.block.steps.succ) M
  k:=mkAppN (kC ``go_top) #[tb,pE,w,m0,ann,nL t.pre.steps,M,S0.at w os,Sa.at w os,r,stub,thA,<-w1 pre,k]
  M:=mkApp2 (kC ``Nat.add) (nL t.pre.steps) M
  let ty <-mkEq (mkAppN (kC ``topRun) #[tb,pE,w,m0,ann,M,S0.at w os,stub]) (<-aM ``some #[r])
  return (M,<-aux (<-mkForallFVars #[w,os] ty) (<-mkLambdaFVars #[w,os] k))
 let lem:=kC ``LeftO.of_pieces
 let (ms,_,_) <-forallMetaTelescope (<-inferType lem)
 let vs:=#[pE,a[1]!,a[2]!,a[3]!,a[4]!,a[5]!,a[6]!,a[7]!,a[8]!,S0.heap,Sf.heap,S0.gens,Sf.gens,S0.drawn,Sf.drawn,S0.toks,Sf.toks,m0,ann,run.1]
 for (m,v) in ms.zip vs do m.mvarId!.assign v
 let want (i:Nat):MetaM Ex:=do instantiateMVars (<-inferType ms[i]!)
 let .forallE n1 d1 b1 i1 <-want 21|throwError "size"
 let size <-byKernelQuick (.lam n1 d1 b1 i1) []
 let .forallE _ _ bl _ <-want 24|throwError "looks"
 let (l,r) <-withLocalDeclD `w W λw=>do
  let some (_,l,r):=(bl.instantiate1 w).eq?|throwError "looks"
  return (<-mkLambdaFVars #[w] l,<-mkLambdaFVars #[w] r)
 let h <-look 12 l r
 let looks <-withLocalDeclD `w W λw=>do
  let f <-withLocalDeclD `os O λos=>mkLambdaFVars #[os] (mkApp2 h w os)
  mkLambdaFVars #[w] (<-aM ``funext #[f])
 g.assign (mkAppN lem (vs++#[boot,size,run.2,<-mkDecideProof (<-want 23),looks]))
simproc_decl hd0 (PySem.W.OpenLaw.Holds _):=λe=>do
 if let .const (.str p s) _:=e.appArg! then twin 9 (p.str ("p"++(s.drop 1).toString))
 return .continue
simproc_decl hd (PySem.W.OpenRow.Holds _):=λ_=>do
 PySem.W.leftPieces.set (some left)
 return .continue
end Carry.Hd
noncomputable section
set_option Elab.async false
set_option maxRecDepth 100000
abbrev ai:=@PySem.Value
abbrev av:=@PySem.Shared
abbrev ag:=@PySem.Addr
abbrev aj:=@Option.{0}
abbrev bJ:=@PySem.FuncData
abbrev cR:=@PySem.Around
abbrev c7:=@PySem.Program
abbrev rJ:=@PySem.NameKind
abbrev bP:=@PySem.Heap
abbrev cB:=@PySem.World
abbrev aL:=@PySem.W.Frag
abbrev fQ:=@PySem.W.Frag
namespace L2
open PySem PySem.Spec PyProof.Rows
abbrev Key:=Sum Int Str
noncomputable def zf:Key->ai->Bool
 |.inl k,v=>Value.isInt k v
 |.inr x,v=>Value.isStrOf x v
noncomputable def MR(w:cB):Key->Int
 |.inl k=>hashInt k
 |.inr x=>hashStr w x
theorem z7:∀{k:Key} {v:ai},zf k v=true->(∃i t,k=Sum.inl i/\v=Value.int i t)\/(∃x t,k=Sum.inr x/\v=Value.str x t)
 |.inl i,v,h=>by
  obtain⟨t,e⟩:=Value.isInt_shape (k:=i) (v:=v) h;exact .inl ⟨i,t,rfl,e⟩
 |.inr x,v,h=>by
  obtain⟨t,e⟩:=Value.isStrOf_shape (x:=x) (v:=v) h;exact .inr ⟨x,t,rfl,e⟩
def e3t(a b:Int):decide ((Sum.inl a:Key)=Sum.inl b)=(a == b):=by
 by_cases e:a=b
 .subst e;simp
 .have h:¬(Sum.inl a:Key)=Sum.inl b:=λq=>e (Sum.inl.inj q)
  rw[wH h];exact(vR.mpr e).symm
def e3u(a b:Str):decide ((Sum.inr a:Key)=Sum.inr b)=decide (a=b):=by
 by_cases e:a=b
 .subst e;simp
 .have h:¬(Sum.inr a:Key)=Sum.inr b:=λq=>e (Sum.inr.inj q)
  rw[wH h,wH e]
def e3v(a:Int)(b:Str):decide ((Sum.inl a:Key)=Sum.inr b)=false:=wH (λq=>nomatch q)
def e3w(a:Str)(b:Int):decide ((Sum.inr a:Key)=Sum.inl b)=false:=wH (λq=>nomatch q)
def Le(prog:c7)(w:cB):PySem.KeyKind prog w Key where
 is:=zf
 hash:=MR w
 inj:=λv a b ha hb=>by
  grind [z7]
 byValue:=λk v h=>by
  rcases z7 h with⟨i,t,rfl,rfl⟩|⟨x,t,rfl,rfl⟩ <;> rfl
 pyHash:=λhv h=>by
  rcases z7 hv with⟨i,t,rfl,rfl⟩|⟨x,t,rfl,rfl⟩
  .exact wpAny_pyHash_int h
  .exact wpAny_pyHash_str h
 eqBool:=λhu hv h=>by
  rcases z7 hu with⟨i,t,rfl,rfl⟩|⟨x,t,rfl,rfl⟩
  .rcases z7 hv with⟨j,u,rfl,rfl⟩|⟨y,u,rfl,rfl⟩
   .rw[e3t] at h;exact wpAny_eqBool_int h
   .rw[e3v] at h;exact SeqAt.EqAt.int_str i t y u _ _ _ _ h
  .rcases z7 hv with⟨j,u,rfl,rfl⟩|⟨y,u,rfl,rfl⟩
   .rw[e3w] at h;exact SeqAt.EqAt.str_int x t j u _ _ _ _ h
   .rw[e3u] at h;exact wpAny_eqBool_str h
 «strs»:=λk x t v h=>by
  rcases z7 h with⟨i,u,rfl,e⟩|⟨y,u,rfl,e⟩
  .exact nomatch e
  .injection e with e1 _;subst e1;cases v <;> rfl
inductive V where
 |aH|bl (b:Bool)|int (i:Int)|str (x:Str)|yH (b:Array UInt8)|yP (b:UInt64)|ref (a:ag)|ty (n:String)
 deriving DecidableEq
def RelV:V->ai->Prop
 |.aH,u=>u=Value.none
 |.bl b,u=>u=Value.bool b
 |.int i,u=>∃t,u=Value.int i t
 |.str x,u=>∃t,u=Value.str x t
 |.yH b,u=>∃t,u=Value.bytes b t
 |.yP b,u=>∃t,u=Value.float b t
 |.ref a,u=>u=Value.ref a
 |.ty n,u=>u=Value.type n
abbrev Vals:List V->List ai->Prop:=Paired RelV
theorem Vals.length{xs:List V}{us:List ai}(r:Vals xs us):xs.length=us.length:=Paired.length r
theorem Vals.get:∀{xs:List V} {us:List ai} {i:Nat} {x:V},Vals xs us->xs[i]?=some x->∃u,us[i]?=some u/\RelV x u
 |_,_,_,_,.nil,e=>by simp at e
 |_,_,0,_,.cons r _,e=>by simp at e;subst e;exact⟨_,rfl,r⟩
 |_,_,i+1,x,.cons _ t,e=>by
  obtain⟨u,h1,h2⟩:=Vals.get (i:=i) (x:=x) t (by simpa using e)
  exact⟨u,by simpa using h1,h2⟩
theorem Vals.set{x:V}{u:ai}(r:RelV x u):∀{xs:List V} {us:List ai} (i:Nat),Vals xs us->Vals (xs.set i x) (us.set i u)
 |_,_,_,.nil=>.nil
 |_,_,0,.cons _ t=>.cons r t
 |_,_,i+1,.cons q t=>.cons q (Vals.set r i t)
def Vals.append{xs ys:List V}{us ws:List ai}(h:Vals xs us)(s:Vals ys ws):Vals (xs++ys) (us++ws):=by
 induction h with
 |nil=>exact s
 |cons r t ih=>exact .cons r ih
theorem Vals.take:∀{xs:List V} {us:List ai} (n:Nat),Vals xs us->Vals (xs.take n) (us.take n)
 |_,_,0,_=>.nil
 |_,_,_+1,.nil=>.nil
 |_,_,n+1,.cons r t=>.cons r (Vals.take n t)
theorem Vals.drop:∀{xs:List V} {us:List ai} (n:Nat),Vals xs us->Vals (xs.drop n) (us.drop n)
 |_,_,0,r=>r
 |_,_,_+1,.nil=>.nil
 |_,_,n+1,.cons _ t=>Vals.drop n t
def iU:aj V->aj ai->Prop
 |some v,some u=>RelV v u
 |none,none=>True
 |_,_=>False
def KV{κ:Type}:List (κ×V)->List (κ×ai)->Prop:=Paired λ(p:κ×V) (q:κ×ai)=>p.1=q.1/\RelV p.2 q.2
noncomputable def kV:Key->V
 |.inl i=>.int i
 |.inr x=>.str x
inductive TK where
 |inl (i:Int)|inr (x:Str)|tp (l:List TK)|aH
mutual
def TK.beq:TK->TK->Bool
 |.inl a,.inl b=>decide (a=b)
 |.inr a,.inr b=>decide (a=b)
 |.tp l,.tp m=>TK.rh l m
 |.aH,.aH=>true
 |_,_=>false
def TK.rh:List TK->List TK->Bool
 |[],[]=>true
 |a::l,b::m=>TK.beq a b&&TK.rh l m
 |_,_=>false
end
mutual
theorem TK.beq_iff:∀a b:TK,TK.beq a b=true↔a=b
 |.inl a,.inl b=>by unfold TK.beq;rw[decide_eq_true_eq];exact⟨λe=>by rw[e],λe=>by cases e;rfl⟩
 |.inr a,.inr b=>by unfold TK.beq;rw[decide_eq_true_eq];exact⟨λe=>by rw[e],λe=>by cases e;rfl⟩
 |.tp l,.tp m=>by unfold TK.beq;rw[TK.pj l m];exact⟨λe=>by rw[e],λe=>by cases e;rfl⟩
 |.inl _,.inr _=>by unfold TK.beq;exact⟨λe=>(nomatch e),λe=>(nomatch e)⟩
 |.inl _,.tp _=>by unfold TK.beq;exact⟨λe=>(nomatch e),λe=>(nomatch e)⟩
 |.inr _,.inl _=>by unfold TK.beq;exact⟨λe=>(nomatch e),λe=>(nomatch e)⟩
 |.inr _,.tp _=>by unfold TK.beq;exact⟨λe=>(nomatch e),λe=>(nomatch e)⟩
 |.tp _,.inl _=>by unfold TK.beq;exact⟨λe=>(nomatch e),λe=>(nomatch e)⟩
 |.tp _,.inr _=>by unfold TK.beq;exact⟨λe=>(nomatch e),λe=>(nomatch e)⟩
 |.aH,.aH=>by unfold TK.beq;exact⟨λ_=>rfl,λ_=>rfl⟩
 |.aH,.inl _=>by unfold TK.beq;exact⟨λe=>(nomatch e),λe=>(nomatch e)⟩
 |.aH,.inr _=>by unfold TK.beq;exact⟨λe=>(nomatch e),λe=>(nomatch e)⟩
 |.aH,.tp _=>by unfold TK.beq;exact⟨λe=>(nomatch e),λe=>(nomatch e)⟩
 |.inl _,.aH=>by unfold TK.beq;exact⟨λe=>(nomatch e),λe=>(nomatch e)⟩
 |.inr _,.aH=>by unfold TK.beq;exact⟨λe=>(nomatch e),λe=>(nomatch e)⟩
 |.tp _,.aH=>by unfold TK.beq;exact⟨λe=>(nomatch e),λe=>(nomatch e)⟩
theorem TK.pj:∀l m:List TK,TK.rh l m=true↔l=m
 |[],[]=>by unfold TK.rh;exact⟨λ_=>rfl,λ_=>rfl⟩
 |a::l,b::m=>by unfold TK.rh;rw[kO,TK.beq_iff a b,TK.pj l m];exact⟨λe=>by rw[e.1,e.2],λe=>by cases e;exact⟨rfl,rfl⟩⟩
 |[],_::_=>by unfold TK.rh;exact⟨λe=>(nomatch e),λe=>(nomatch e)⟩
 |_::_,[]=>by unfold TK.rh;exact⟨λe=>(nomatch e),λe=>(nomatch e)⟩
end
instance:DecidableEq TK:=λa b=>decidable_of_iff _ (TK.beq_iff a b)
mutual
def TK.hash(w:cB):TK->Int
 |.inl i=>hashInt i
 |.inr x=>hashStr w x
 |.tp l=>reduceHash (Builtin.Tuple.tupleHashOf (TK.dP w l))
 |.aH=>4238894112
def TK.dP(w:cB):List TK->List Int
 |[]=>[]
 |a::l=>TK.hash w a::TK.dP w l
end
def TK.ok:Nat->TK->Bool
 |n+1,.tp l=>l.all (TK.ok n)
 |0,.tp _=>false
 |_,_=>true
def jD(w:cB)(e:TK×V×V)(x:DictEntry):Prop:=x.hash=e.1.hash w/\RelV e.2.1 x.key/\RelV e.2.2 x.val/\e.1.ok 8=true
inductive HO where
  |lst (xs:List V)
  |tup (xs:List V)
  |dK (kvs:List (Key×V))|dT (kvs:List (List Key×V))
  |dG (es:List (TK×V×V)) (ep:Nat)
  |set (S:Int->Bool) (n:Nat)
  |ins (C dx:ag) (fs:List (Str×V))
  |own (x:ag)
  |xd (fs:List (Str×V))
  |met (f x:ag)
  |Nl (lo hi:Int)
  |Y (o:Obj) (u:HO)
  |BB (ps:Array ai)
  |ext (φ:bP->Prop)
abbrev Hp:=ag->aj HO
noncomputable def upd(H:Hp)(a:ag)(o:HO):Hp:=λb=>if b=a then some o else H b
theorem aK{H:Hp}{a:ag}{o:HO}:upd H a o a=some o:=by unfold upd;rw[bK rfl]
theorem dc{H:Hp}{a b:ag}{o:HO}(h:b≠a):upd H a o b=H b:=by unfold upd;rw[bD h]
def d7k{H:Hp}{a:ag}{o u:HO}:upd (upd H a o) a u=upd H a u:=by
 funext b;unfold upd;split <;> rfl
def vY{H:Hp}{a b:ag}{o:HO}(h:H a=some o)(h':H b=none):a≠b:=by
 lia
section
variable(P:c7)(w:cB)
def bC(H:Hp)(h:bP)(a:ag):HO->Prop
 |.lst xs=>xs.length<=sizeLine/\∃(aG:List ai) (n:Nat),Vals xs aG/\h.get? a=some { cls:=.type "list",data:=.seq aG.toArray n}
 |.tup xs=>xs.length<=sizeLine/\∃aG:List ai,Vals xs aG/\IsTup h a aG.toArray
 |.dK kvs=>kvs.length<=sizeLine/\(a == sysModules)=false/\∃vs,KV kvs vs/\h.DictOf (Le P w) a vs
 |.dT kvs=>kvs.length<=sizeLine/\(a == sysModules)=false/\∃xs:List (List Key×ag×ai),
   Paired (λ(p:List Key×V) (q:List Key×ag×ai)=>p.1=q.1/\H q.2.1=some (.tup (p.1.map kV))/\RelV p.2 q.2.2) kvs xs/\
   ∃o es ep,h.get? a=some o/\o.ExactDict/\o.data=.dict es ep/\es.toList=xs.map (entryOfKey (tupleKind (Le P w)))/\(xs.map (·.1)).Nodup
 |.dG es ep=>es.length<=sizeLine/\(a == sysModules)=false/\∃o xs,h.get? a=some o/\o.ExactDict/\o.data=.dict xs ep/\Paired (jD w) es xs.toList/\(es.map (·.1)).Nodup
 |.set S n=>h.SetOf (intKind P w) a S n
 |.ins C dx fs=>H dx=some (.own a)/\fs.length<=1000/\dx≠a/\h.get? a=some (PySem.W.instObj C dx)/\
   ∃mA,h.Ns1 dx mA/\(∀f,iU (fs.lookup f) (mA f))/\PySem.Within mA (fs.map (·.1))
 |.own _=>∃o,h.get? a=some o
 |.xd fs=>∃mA,h.Ns1 a mA/\∀f,iU (fs.lookup f) (mA f)
 |.Nl lo hi=>∃t u v,h.get? a=some { cls:=.type "range",data:=.fields #[.int lo t,.int hi u,.int 1 v]}
 |.Y o u=>h.get? a=some o/\bC H h a u
 |.BB ps=>h.get? a=some { cls:=.none,data:=.fields ps}
 |.met f x=>h.get? a=some (PySem.W.methodObj (.ref f) (.ref x))
 |.ext φ=>φ h/\(∃o,h.get? a=some o)/\∀h1 h2:bP,φ h1->(∀o,h1.get? a=some o->h2.get? a=some o)->φ h2
def jI(H:Hp)(h:bP):Prop:=∀a o,H a=some o->bC P w H h a o
end
section
variable{P:c7}{w:cB}{H H':Hp}{h h':bP}{a:ag}{o:HO}
theorem bC.lt(x:bC P w H h a o):a<h.objs.size:=by
 cases o with
 |lst xs=>obtain⟨_,_,_,_,e⟩:=x;exact cQ e
 |tup xs=>obtain⟨_,_,_,p⟩:=x;exact p.lt
 |dK kvs=>obtain⟨_,_,_,_,o,_,_,e,_⟩:=x;exact cQ e
 |dT kvs=>obtain⟨_,_,_,_,o,_,_,e,_⟩:=x;exact cQ e
 |dG es ep=>obtain⟨_,_,o,_,e,_⟩:=x;exact cQ e
 |set S n=>obtain⟨o,_,_,_,e,_⟩:=x;exact cQ e
 |ins C dx fs=>obtain⟨_,_,_,e,_⟩:=x;exact cQ e
 |own y=>obtain⟨_,e⟩:=x;exact cQ e
 |xd fs=>obtain⟨_,⟨_,_,_,e,_⟩,_⟩:=x;exact cQ e
 |Nl lo hi=>obtain⟨_,_,_,e⟩:=x;exact cQ e
 |Y ob u=>obtain⟨e,_⟩:=x;exact cQ e
 |BB ps=>exact cQ (show h.get? a=some _ from x)
 |met f y=>exact cQ (show h.get? a=some _ from x)
 |ext φ=>obtain⟨_,⟨_,e⟩,_⟩:=x;exact cQ e
def Paired.Fo{α β:Type}{F G:α->β->Prop}{l₁:List α}{l₂:List β}(h:Paired F l₁ l₂)(f:∀a b,F a b->G a b):Paired G l₁ l₂:=by
 induction h with
 |nil=>exact .nil
 |cons r t ih=>exact .cons (f _ _ r) ih
def bC.oK(x:bC P w H h a o)(k:∀b u,(b=a\/H b=some (.own a))->h.get? b=some u->h'.get? b=some u)
  (ho:∀b,H b=some (.own a)->H' b=some (.own a)) (ht:∀b xs,H b=some (.tup xs)->H' b=some (.tup xs)):bC P w H' h' a o:=by
 induction o with
 |lst xs=>obtain⟨z,aG,n,r,e⟩:=x;exact⟨z,aG,n,r,k _ _ (.inl rfl) e⟩
 |tup xs=>obtain⟨z,aG,r,ob,e,c⟩:=x;exact⟨z,aG,r,ob,k _ _ (.inl rfl) e,c⟩
 |dK kvs=>obtain⟨z,y,vs,r,ob,es,ep,e,c⟩:=x;exact⟨z,y,vs,r,ob,es,ep,k _ _ (.inl rfl) e,c⟩
 |dT kvs=>
  obtain⟨z,y,xs,r,ob,es,ep,e,c⟩:=x;exact⟨z,y,xs,Paired.Fo r λp q z=>⟨z.1,ht _ _ z.2.1,z.2.2⟩,ob,es,ep,k _ _ (.inl rfl) e,c⟩
 |dG es ep=>obtain⟨z,y,ob,xs,e,c⟩:=x;exact⟨z,y,ob,xs,k _ _ (.inl rfl) e,c⟩
 |set S n=>obtain⟨ob,es,ep,t,e,c⟩:=x;exact⟨ob,es,ep,t,k _ _ (.inl rfl) e,c⟩
 |ins C dx fs=>
  obtain⟨d,z,ne,e,mA,⟨od,es,ep,e2,c⟩,r⟩:=x;exact⟨ho _ d,z,ne,k _ _ (.inl rfl) e,mA,⟨od,es,ep,k _ _ (.inr d) e2,c⟩,r⟩
 |own y=>obtain⟨ob,e⟩:=x;exact⟨ob,k _ _ (.inl rfl) e⟩
 |xd fs=>obtain⟨mA,⟨od,es,ep,e,c⟩,r⟩:=x;exact⟨mA,⟨od,es,ep,k _ _ (.inl rfl) e,c⟩,r⟩
 |Nl lo hi=>obtain⟨t,u,v,e⟩:=x;exact⟨t,u,v,k _ _ (.inl rfl) e⟩
 |Y ob u ih=>obtain⟨e,q⟩:=x;exact⟨k _ _ (.inl rfl) e,ih q⟩
 |BB ps=>
  have e:h.get? a=some { cls:=.none,data:=.fields ps}:=x;show h'.get? a=some { cls:=.none,data:=.fields ps};exact k a _ (.inl rfl) e
 |met f y=>
  have e:h.get? a=some (PySem.W.methodObj (.ref f) (.ref y)):=x;show h'.get? a=some (PySem.W.methodObj (.ref f) (.ref y));exact k a _ (.inl rfl) e
 |ext φ=>obtain⟨p,⟨o,e⟩,st⟩:=x;exact⟨st _ _ p λo q=>k _ _ (.inl rfl) q,⟨o,k _ _ (.inl rfl) e⟩,st⟩
theorem jI.lt(x:jI P w H h)(e:H a=some o):a<h.objs.size:=(x a o e).lt
def jI.fresh(x:jI P w H h)(e:h.objs.size<=a):H a=none:=by
 cases q:H a with
 |none=>rfl
 |some u=>exact cJ (gE (x.lt q) e) (kX _)
def jI.kept(x:jI P w H h)(k:∀b u,h.get? b=some u->h'.get? b=some u):jI P w H h':=λa o e=>
 (x a o e).oK (λb u _ q=>k b u q) (λ_ q=>q) λ_ _ q=>q
def jI.laid(x:jI P w H h)(k:∀b u,h.get? b=some u->h'.get? b=some u)(hp:h.objs.size<=a)(new:bC P w (upd H a o) h' a o):jI P w (upd H a o) h':=λb u e=>by
 have hn:=x.fresh hp;by_cases hb:b=a
 .subst hb;rw[aK] at e;cases e;exact new
 .rw[dc hb] at e;exact(x b u e).oK (λc v _ q=>k c v q) (λc q=>by rw[dc (vY q hn)];exact q) λc xs q=>by rw[dc (vY q hn)];exact q
end
def Rd(H:Hp)(a:ag)(u:HO):Prop:=H a=some u\/∃o,H a=some (.Y o u)
def Rd.ok{P:c7}{w:cB}{H:Hp}{h:bP}{a:ag}{u:HO}(r:Rd H a u)(x:jI P w H h):bC P w H h a u:=by
 rcases r with r|⟨o,r⟩
 .exact x a u r
 .obtain⟨_,q⟩:=x a _ r;exact q
def Dg:aj HO->Prop
 |some (.lst _)=>True
 |some (.dK _)=>True
 |some (.dT _)=>True
 |some (.dG _ _)=>True
 |some (.set _ _)=>True
 |some (.ins _ _ _)=>True
 |some (.ext _)=>True
 |_=>False
section
variable{P:c7}{w:cB}{H:Hp}{h h':bP}{x e:ag}{o':HO}
def jI.write(ok:jI P w H h)(mu:Dg (H x))(he:e=x\/H e=some (.own x))(k:∀b u,b≠e->h.get? b=some u->h'.get? b=some u)(CG:∃u,h'.get? e=some u)
  (new:bC P w (upd H x o') h' x o'):jI P w (upd H x o') h':=λb u q=>by
 have M0:∀c y,H c=some (.own y)->c≠x:=λc y r z=>by subst z;rw[r] at mu;exact mu
 have M3:∀c xs,H c=some (.tup xs)->c≠x:=λc xs r z=>by subst z;rw[r] at mu;exact mu
 by_cases hb:b=x
 .grind [aK]
 .rw[dc hb] at q;by_cases CD:b=e
  .have q':H b=some (.own x):=by
    rcases he with z|z
    .exact cJ (CD.trans z) hb
    .rw[CD];exact z
   rw[q] at q';cases q';obtain⟨v,hv⟩:=CG;exact⟨v,by rw[CD];exact hv⟩
  .refine(ok b u q).oK (λc v hc r=>k c v ?_ r) (λc r=>by rw[dc (M0 c b r)];exact r) λc xs r=>by rw[dc (M3 c xs r)];exact r
   grind
end
structure Un (fs ex:List ag) (H H':Hp) (h h':bP):Prop where
 keep:∀b o,h.get? b=some o->H b=none->b∉fs->b∉ex->h'.get? b=some o
 slot:∀b o,h.get? b=some o->H b=none->b∈fs->b∉ex->∃sl,h'.get? b=some { o with slots:=sl}
 free:∀b o,h.get? b=some o->H b=none->b∉ex->H' b=none
 there:∀b o,h.get? b=some o->b∉ex->∃o',h'.get? b=some o'
 mR:∀b xs,H b=some (.tup xs)->H' b=some (.tup xs)
 lP:∀b o u,H b=some (.Y o u)->H' b=some (.Y o u)
 mQ:∀b ps,H b=some (.BB ps)->∃more,H' b=some (.BB (ps++more))
section
variable{fs CC ex ex':List ag}{H H1 H2:Hp}{h h1 h2 h':bP}{a x e:ag}{o:HO}
def Un.any(u:Un fs ex H H1 h h1){b:ag}{ob:Obj}(q:h.get? b=some ob)(n:H b=none)(hx:b∉ex):∃sl,h1.get? b=some { ob with slots:=sl}:=by
 by_cases hb:b∈fs
 .exact u.slot b ob q n hb hx
 .exact⟨ob.slots,u.keep b ob q n hb hx⟩
def Un.kept(k:∀b u,h.get? b=some u->h'.get? b=some u):Un fs ex H H h h':=
 ⟨λb ob q _ _ _=>k b ob q,λb ob q _ _ _=>⟨ob.slots,k b ob q⟩,λ_ _ _ n _=>n,λb ob q _=>⟨ob,k b ob q⟩,λ_ _ q=>q,λ_ _ _ q=>q,λ_ ps q=>⟨#[],by rw[q];simp⟩⟩
def Un.refl:Un fs ex H H h h:=Un.kept λ_ _ q=>q
def Un.laid(k:∀b u,h.get? b=some u->h'.get? b=some u)(hp:h.objs.size<=a)(hn:H a=none):Un fs ex H (upd H a o) h h' where
 keep:=λb u q _ _ _=>k b u q
 slot:=λb u q _ _ _=>⟨u.slots,k b u q⟩
 free:=λb u q n _=>by rw[dc (g_ (gE (cQ q) hp))];exact n
 there:=λb u q _=>⟨u,k b u q⟩
 mR:=λb xs q=>by rw[dc (vY q hn)];exact q
 lP:=λb u xs q=>by rw[dc (vY q hn)];exact q
 mQ:=λb ps q=>⟨#[],by rw[dc (vY q hn),q];simp⟩
def Un.write(mu:Dg (H x))(he:e=x\/H e=some (.own x))(k:∀b u,b≠e->h.get? b=some u->h'.get? b=some u)(CG:∃u,h'.get? e=some u):Un fs ex H (upd H x o) h h':=by
 have hx:∀b,H b=none->b≠x:=λb n z=>by subst z;rw[n] at mu;exact mu
 have hb:∀b,H b=none->b≠e:=λb n z=>by
  subst z;rcases he with r|r
  .exact hx b n r
  .rw[n] at r;cases r
 have hm:∀b u,H b=some u->¬Dg (some u)->b≠x:=λb u q nm z=>by subst z;rw[q] at mu;exact nm mu
 refine⟨λb u q n _ _=>k b u (hb b n) q,λb u q n _ _=>⟨u.slots,k b u (hb b n) q⟩,λb u q n _=>by rw[dc (hx b n)];exact n,λb u q _=>?_,
  λb xs q=>by rw[dc (hm b _ q λz=>z)];exact q,λb u xs q=>by rw[dc (hm b _ q λz=>z)];exact q,λb ps q=>⟨#[],by rw[dc (hm b _ q λz=>z),q];simp⟩⟩
 by_cases CD:b=e
 .subst CD;exact CG
 .exact⟨u,k b u CD q⟩
end
noncomputable def JB(h:bP)(H:Hp):List ag:=(List.range h.objs.size).filter λa=>(H a).isSome
def oh(h:bP)(H:Hp):bP:=PySem.W.hideAll h (JB h H)
def WE(h:bP)(H:Hp):(oh h H).objs.size=h.objs.size:=PySem.W.hideAll_size _ _
def X7{h:bP}{H:Hp}{b:ag}{o:Obj}(e:h.get? b=some o)(n:H b=none):(oh h H).get? b=some o:=
 PySem.W.hideAll_get _ e λhm=>by
  have q:(H b).isSome=true:=(wx.mp hm).2;rw[n] at q;simp at q
def d7l{h:bP}{H:Hp}{b:ag}{o:Obj}(e:(oh h H).get? b=some o):h.get? b=some o/\H b=none:=by
 have e':h.get? b=some o:=PySem.W.of_hideAll (JB h H) e;refine⟨e',?_⟩;cases q:H b with
 |none=>rfl
 |some x=>
  have hm:b∈JB h H:=wx.mpr ⟨tV.mpr (cQ e'),by simp[q]⟩
  have z:(oh h H).get? b=none:=PySem.W.hideAll_none (JB h H) hm;rw[z] at e;cases e
noncomputable def d7m(g h:bP)(L:ag):List (ag×Obj):=(List.range h.objs.size).filterMap λa=>if a=L\/(g.get? a).isSome=true then none else(h.get? a).map λo=>(a,o)
def rest(g h:bP)(L d:ag):List (ag×Obj):=(d7m g h L).filter λp=>decide (p.1≠d)
variable{t' i:Nat}{ch:List ag}{x:Str}{M:Model}{A:cR}{E:ai->av->Prop}{v:V}{u:ai}{Q:Unit->av->Prop}
structure Mod (K:aL) (mg:Str->aj ai) (base:bP):Prop where
 CM:K.In base
 glob:base.Ns mainGlobals mg
 blt:∃mb,base.Ns builtinsNs mb/\∀x:Str,x≠"__name__"->mb x=bootBuiltins x
 nolimit:base.NoLimit
set_option genInjectivity false in
structure Cx where
 prog:c7
 w:cB
 K:aL
 mg:Str->aj ai
 base:bP
 A:cR
 N:List Str
 s₀:av
 H₀:Hp
 env:Env
 outer:List Env
 stack:List Env
 ex:List ag
 fn:Str->Bool
 calm:Bool
 pn:List (ag×Obj)
 xe:ai->av->Prop
noncomputable def lO(l:List Env):List ag:=l.filterMap (·.frame)
abbrev Cx.fs(X:Cx):List ag:=lO X.outer
def GZ(sc:Scope)(x:Str):Prop:=sc.names.lookup x=some .local \/ sc.names.lookup x=some .cell\/sc.names.lookup x=some .free
def Loc(sc:Scope)(x:Str):Prop:=sc.names.lookup x=some .local \/ sc.names.lookup x=some .cell
def Look(env:Env)(h:bP)(m:Str->aj ai)(x:Str)(u:ai):Prop:=
 (env.kindOf x=some .local /\ m x=some u)\/((env.kindOf x=some .cell\/env.kindOf x=some .free)/\∃c,env.cells.lookup x=some c/\h.IsCell c (some u))
structure Cx.Ok (X:Cx):Prop where
 mod:Mod X.K X.mg X.base
 kind:X.env.scope.kind=.function
 glob:X.env.globals=mainGlobals
 blt:X.env.builtins=builtinsNs
 above:X.s₀.heap.objs.size<=X.env.locals
 inj:∀x y c,X.env.cells.lookup x=some c->X.env.cells.lookup y=some c->x=y
 has:∀x,(X.env.kindOf x=some .cell\/X.env.kindOf x=some .free)->∃c,X.env.cells.lookup x=some c
 Ay:∀x c,X.fn x=true->X.env.cells.lookup x=some c->X.s₀.heap.objs.size<=c
 hd:X.calm=true->X.A.handled=none
 frames:X.A.frames=some X.stack
 CT:X.stack=X.outer\/(X.stack=X.env::X.outer/\X.env.frame=some X.env.locals)
 IU:∀b∈X.ex,b≠X.env.locals/\∀x c,X.env.cells.lookup x=some c->c≠b
 bs:∀b o,X.base.get? b=some o->X.s₀.heap.get? b=some o/\X.H₀ b=none
 uP:X.base.objs.size<=X.s₀.heap.objs.size
 rA:∀b o,X.base.get? b=some o->b∉X.ex
 tJ:∀b∈X.ex,b∉X.fs
 jm:X.s₀.heap.FunFrames X.base X.outer
 xw:∀b∈X.fs,X.H₀ b=none
structure Inv (X:Cx) (aa:List (ag×Obj)) (Z:List (aj V)) (H:Hp) (s:av):Prop where
 ok:X.Ok
 os:s.os=X.s₀.os
 bare:AllBare s.gens
 base:Un X.fs X.ex X.H₀ H X.s₀.heap s.heap
 loc:∃m,s.heap.Ns X.env.locals m/\∀(i:Nat) (x:Str) (v:V),X.N[i]?=some x->Z[i]?=some (some v)->GZ X.env.scope x->∃u,RelV v u/\Look X.env s.heap m x u
 cell:∀x c,X.env.cells.lookup x=some c->∃v,s.heap.IsCell c v
 free:H X.env.locals=none
 eH:∀x c,X.env.cells.lookup x=some c->H c=none
 pin:∀p∈X.pn++aa,s.heap.get? p.1=some p.2/\H p.1=none/\p.1≠X.env.locals/\p.1∉X.fs/\∀v,p.2.data≠.cell v
 bx:jI X.prog X.w H s.heap
 len:Z.length=X.N.length
section
variable{X:Cx}{aa:List (ag×Obj)}{Z:List (aj V)}{H H':Hp}{s:av}{h':bP}
def Cx.Ok.MZ(ok:X.Ok){b:ag}{o:Obj}(e:X.base.get? b=some o):b∉X.fs:=λhb=>by
 have:=(ok.jm.mem hb).1
 lia
theorem Inv.bs(I:Inv X aa Z H s):∀b o,X.base.get? b=some o->s.heap.get? b=some o/\H b=none:=λb o e=>
 ⟨I.base.keep b o (I.ok.bs b o e).1 (I.ok.bs b o e).2 (I.ok.MZ e) (I.ok.rA b o e),I.base.free b o (I.ok.bs b o e).1 (I.ok.bs b o e).2 (I.ok.rA b o e)⟩
def Inv.bk(I:Inv X aa Z H s):∀b o,X.base.get? b=some o->s.heap.get? b=some o:=λb o e=>(I.bs b o e).1
theorem Inv.mod(I:Inv X aa Z H s):Mod X.K X.mg X.base:=I.ok.mod
def Inv.kT(I:Inv X aa Z H s):X.K.In s.heap:=I.ok.mod.CM.keeps I.bk
theorem Inv.lt(I:Inv X aa Z H s):X.env.locals<s.heap.objs.size:=let ⟨_,hn,_⟩:=I.loc;hn.lt
def Inv.sz(I:Inv X aa Z H s):X.s₀.heap.objs.size<=s.heap.objs.size:=kx I.ok.above (N3 I.lt)
def Inv.Bc(I:Inv X aa Z H s){a:ag}(h:s.heap.objs.size<=a):a∉X.fs:=λhb=>by
 obtain⟨_,o,ho,_⟩:=I.ok.jm.mem hb;exact cJ (gE (cQ ho) (kx I.sz h)) (kX _)
def Inv.Az(I:Inv X aa Z H s):∀x c,X.env.cells.lookup x=some c->c≠X.env.locals:=λx c e z=>by
 obtain⟨v,o,ho,hd⟩:=I.cell x c e;obtain⟨m,⟨o',es,ep,yV,sk,_⟩,_⟩:=I.loc
 lia
theorem Inv.jm(I:Inv X aa Z H s):s.heap.FunFrames X.base X.outer:=by
 have all:∀(l:List Env),(∀b∈lO l,b∈X.fs)->X.s₀.heap.FunFrames X.base l->s.heap.FunFrames X.base l:=by
  intro l
  induction l with
  |nil=>intro _ _;trivial
  |cons env r ih=>
   intro hs hl;obtain⟨hk,⟨L,o,hf,hn,ho,hd⟩,hr⟩:=hl;have hL:L∈X.fs:=hs L (by unfold lO;rw[vL,hf];exact CZ)
   obtain⟨sl,e⟩:=I.base.slot L o ho (I.ok.xw L hL) hL λz=>I.ok.tJ L z hL
   exact⟨hk,⟨L,_,hf,hn,e,hd⟩,ih (λb hb=>hs b (by unfold lO;rw[vL,hf];exact tW _ hb)) hr⟩
 exact all X.outer (λ_ hb=>hb) I.ok.jm
def Inv.stack(I:Inv X aa Z H s):s.heap.FunFrames X.base X.stack:=by
 rcases I.ok.CT with e|⟨e,hf⟩
 .rw[e];exact I.jm
 .rw[e];obtain⟨m,hn,_⟩:=I.loc;refine .cons (by rw[I.ok.kind];decide) hf hn ?_ I.jm
  exact Heap.get?_none_of_le (kx I.ok.uP I.ok.above)
def Inv.l7(I:Inv X aa Z H s):∀b∈lO X.stack,b∈X.env.locals::X.fs:=λb hb=>by
 rcases I.ok.CT with e|⟨e,hf⟩
 .rw[e] at hb;exact tW _ hb
 .rw[e] at hb;unfold lO at hb;rw[vL,hf] at hb;exact hb
def Inv.kW(I:Inv X aa Z H s):∀b∈lO X.stack,H b=none:=λb hb=>by
 rcases y0a.mp (I.l7 b hb) with e|hb
 .rw[e];exact I.free
 .obtain⟨_,o,ho,_⟩:=I.ok.jm.mem hb;exact I.base.free b o ho (I.ok.xw b hb) λz=>I.ok.tJ b z hb
def Inv.step{g':Array GenState}{t':Nat}{d':Drawn}{ch:List ag}(I:Inv X aa Z H s)
  (mj:∀b∈ch,(b∈X.ex\/X.s₀.heap.objs.size<=b)/\b≠X.env.locals/\(∀x c,X.env.cells.lookup x=some c->c≠b)/\∀p∈X.pn++aa,p.1≠b)
  (keep:∀b o,b≠X.env.locals->b∉X.fs->b∉ch->s.heap.get? b=some o->H b=none->h'.get? b=some o)
  (slot:∀b o,b≠X.env.locals->b∈X.fs->b∉ch->s.heap.get? b=some o->H b=none->∃sl,h'.get? b=some { o with slots:=sl}) (free:∀b o,b∉ch->s.heap.get? b=some o->H b=none->H' b=none)
  (there:∀b o,b∉ch->s.heap.get? b=some o->∃o',h'.get? b=some o')
  (mR:∀b xs,H b=some (.tup xs)->H' b=some (.tup xs)) (lP:∀b o u,H b=some (.Y o u)->H' b=some (.Y o u)) (mQ:∀b ps,H b=some (.BB ps)->∃more,H' b=some (.BB (ps++more)))
  (ns:∀m,s.heap.Ns X.env.locals m->h'.Ns X.env.locals m) (bx:jI X.prog X.w H' h') (hg:AllBare g') :
  Inv X aa Z H' { s with heap:=h',gens:=g',drawn:=d',toks:=t'}:=by
 have UA:∀b o,X.s₀.heap.get? b=some o->b≠X.env.locals:=λb o e=>g_ (gE (cQ e) I.ok.above)
 have Jq:∀b o,X.s₀.heap.get? b=some o->b∉X.ex->b∉ch:=λb o e hx hb=>by
  rcases(mj b hb).1 with z|z
  .exact hx z
  .exact cJ (gE (cQ e) z) (kX _)
 have cellK:∀x c,X.env.cells.lookup x=some c->∀v,s.heap.IsCell c v->h'.IsCell c v:=λx c e v ⟨o,ho,hd⟩=>by
  have xQ:c∉ch:=λz=>(mj c z).2.2.1 x c e rfl
  by_cases hc:c∈X.fs
  .obtain⟨sl,q⟩:=slot c o (I.Az x c e) hc xQ ho (I.eH x c e);exact⟨_,q,hd⟩
  .exact⟨o,keep c o (I.Az x c e) hc xQ ho (I.eH x c e),hd⟩
 refine⟨I.ok,I.os,hg,⟨λb o e n hb hx=>?_,λb o e n hb hx=>?_,λb o e n hx=>?_,λb o e hx=>?_,λb xs e=>mR b xs (I.base.mR b xs e),λb o xs e=>lP b o xs (I.base.lP b o xs e),λb ps e=>?_⟩,?_,λx c e=>?_,?_,λx c e=>?_,λp hp=>?_,bx,I.len⟩
 .exact keep b o (UA b o e) hb (Jq b o e hx) (I.base.keep b o e n hb hx) (I.base.free b o e n hx)
 .obtain⟨sl,e1⟩:=I.base.slot b o e n hb hx;obtain⟨FU,e2⟩:=slot b _ (UA b o e) hb (Jq b o e hx) e1 (I.base.free b o e n hx);exact⟨FU,e2⟩
 .obtain⟨o',e1⟩:=I.base.there b o e hx;exact free b o' (Jq b o e hx) e1 (I.base.free b o e n hx)
 .obtain⟨o',e1⟩:=I.base.there b o e hx;exact there b o' (Jq b o e hx) e1
 .obtain⟨m1,e1⟩:=I.base.mQ b ps e;obtain⟨m2,e2⟩:=mQ b _ e1;exact⟨m1++m2,by rw[e2,Array.append_assoc]⟩
 .obtain⟨m,hn,hl⟩:=I.loc;refine⟨m,ns m hn,λi x v e1 e2 e3=>?_⟩
  obtain⟨u,r,l⟩:=hl i x v e1 e2 e3;refine⟨u,r,?_⟩;rcases l with l|⟨k,c,e,z⟩
  .exact .inl l
  .exact .inr ⟨k,c,e,cellK x c e _ z⟩
 .obtain⟨v,z⟩:=I.cell x c e;exact⟨v,cellK x c e v z⟩
 .obtain⟨m,⟨o,_,_,ho,_⟩,_⟩:=I.loc;exact free _ o (λz=>(mj _ z).2.1 rfl) ho I.free
 .obtain⟨v,o,ho,hd⟩:=I.cell x c e;exact free c o (λz=>(mj c z).2.2.1 x c e rfl) ho (I.eH x c e)
 .obtain⟨e,n,ne,nf,d⟩:=I.pin p hp;have xQ:p.1∉ch:=λz=>(mj p.1 z).2.2.2 p hp rfl
  exact⟨keep p.1 p.2 ne nf xQ e n,free p.1 p.2 xQ e n,ne,nf,d⟩
def Inv.un(I:Inv X aa Z H s)(u:Un X.fs [] H H' s.heap h')(bx:jI X.prog X.w H' h'):Inv X aa Z H' { s with heap:=h',toks:=t'}:=by
 obtain⟨m,⟨o,es,ep,ho,r⟩,_⟩:=id I.loc;obtain⟨sl,hL⟩:=u.any ho I.free (by simp)
 exact I.step (g':=s.gens) (d':=s.drawn) (ch:=[]) (λ_ z=>nomatch z) (λb o _ hb _ e n=>u.keep b o e n hb (by simp)) (λb o _ hb _ e n=>u.slot b o e n hb (by simp)) (λb o _ e n=>u.free b o e n (by simp)) (λb o _ e=>u.there b o e (by simp)) u.mR u.lP u.mQ (λm' hm=>by
  obtain⟨o',wb,qJ,yV,r'⟩:=hm;rw[ho] at yV;cases yV;exact⟨_,wb,qJ,hL,r'⟩) bx I.bare
def Inv.call{g':Array GenState}{d':Drawn}(I:Inv X aa Z H s)(u:Un (lO X.stack) ch H H' s.heap h')(bx:jI X.prog X.w H' h')(hg:AllBare g')
  (mj:∀b∈ch,(b∈X.ex\/X.s₀.heap.objs.size<=b)/\b≠X.env.locals/\(∀x c,X.env.cells.lookup x=some c->c≠b)/\∀p∈X.pn++aa,p.1≠b) :
  Inv X aa Z H' { s with heap:=h',gens:=g',drawn:=d',toks:=t'}:=by
 obtain⟨m,⟨o,es,ep,ho,r⟩,_⟩:=id I.loc;obtain⟨sl,hL⟩:=u.any ho I.free λz=>(mj _ z).2.1 rfl
 exact I.step (ch:=ch) mj (λb o hL hb hc e n=>u.keep b o e n (λz=>(y0a.mp (I.l7 b z)).elim hL hb) hc) (λb o _ _ hc e n=>u.any e n hc) (λb o hc e n=>u.free b o e n hc) (λb o hc e=>u.there b o e hc) u.mR u.lP u.mQ (λm' hm=>by
  obtain⟨o',wb,qJ,yV,r'⟩:=hm;rw[ho] at yV;cases yV;exact⟨_,wb,qJ,hL,r'⟩) bx hg
def Inv.turned{it:ag}(I:Inv X aa Z H s)(k:∀b o,b≠it->s.heap.get? b=some o->h'.get? b=some o)(hn:H it=none)(hL:it≠X.env.locals)
  (h1:it∈X.ex\/X.s₀.heap.objs.size<=it) (h2:∀x c,X.env.cells.lookup x=some c->c≠it) (h3:∀p∈X.pn++aa,p.1≠it):Inv X aa Z H { s with heap:=h',toks:=t'}:=by
 have UC:∀b u,H b=some u->b≠it:=λb u e z=>by rw[z,hn] at e;cases e
 refine I.step (g':=s.gens) (d':=s.drawn) (ch:=[it]) (λb hb=>?_) (λb o _ _ hc e _=>k b o (λz=>hc (by simp[z])) e) (λb o _ _ hc e _=>⟨o.slots,k b o (λz=>hc (by simp[z])) e⟩) (λ_ _ _ _ n=>n)
  (λb o hc e=>⟨o,k b o (λz=>hc (by simp[z])) e⟩) (λ_ _ e=>e) (λ_ _ _ e=>e) (λb ps e=>⟨#[],by rw[e];simp⟩) (λm hm=>?_) (λb u e=>?_) I.bare
 .have e:b=it:=by simpa using hb
  subst e;exact⟨h1,hL,h2,h3⟩
 .obtain⟨o,es,ep,ho,r⟩:=hm;exact⟨o,es,ep,k _ o (Ne.symm hL) ho,r⟩
 .refine(I.bx b u e).oK (λc v hc q=>k c v ?_ q) (λ_ q=>q) λ_ _ q=>q
  rcases hc with z|z
  .rw[z];exact UC b u e
  .exact UC c _ z
def Inv.tok(I:Inv X aa Z H s)(t:Nat):Inv X aa Z H { s with toks:=t}:=I.un (h':=s.heap) (t':=t) Un.refl I.bx
theorem Inv.kept{t':Nat}(I:Inv X aa Z H s)(k:∀b u,s.heap.get? b=some u->h'.get? b=some u):Inv X aa Z H { s with heap:=h',toks:=t'}:=I.un (Un.kept k) (I.bx.kept k)
theorem Inv.laid{a:ag}{o:HO}{t':Nat}(I:Inv X aa Z H s)(k:∀b u,s.heap.get? b=some u->h'.get? b=some u)(hp:s.heap.objs.size<=a)(new:bC X.prog X.w (upd H a o) h' a o):
  Inv X aa Z (upd H a o) { s with heap:=h',toks:=t'}:=I.un (Un.laid k hp (I.bx.fresh hp)) (I.bx.laid k hp new)
theorem Inv.write{x e:ag}{o:HO}{t':Nat}(I:Inv X aa Z H s)(mu:Dg (H x))(he:e=x\/H e=some (.own x))(k:∀b u,b≠e->s.heap.get? b=some u->h'.get? b=some u)(CG:∃u,h'.get? e=some u)
  (new:bC X.prog X.w (upd H x o) h' x o):Inv X aa Z (upd H x o) { s with heap:=h',toks:=t'}:=I.un (Un.write mu he k CG) (I.bx.write mu he k CG new)
def Inv.kU{qu:List (ag×Obj)}(I:Inv X aa Z H s)(h:∀p∈qu,s.heap.get? p.1=some p.2/\H p.1=none/\p.1≠X.env.locals/\p.1∉X.fs/\∀v,p.2.data≠.cell v):Inv X qu Z H s:=
 ⟨I.ok,I.os,I.bare,I.base,I.loc,I.cell,I.free,I.eH,λp hp=>(jC.mp hp).elim (λz=>I.pin p (JQ _ z)) (h p),I.bx,I.len⟩
def Qd{N:List Str}(hN:N.Nodup){j:Nat}(a:N[i]?=some x)(b:N[j]?=some x):i=j:=by
 obtain⟨h1,e1⟩:=eY.mp a;obtain⟨h2,e2⟩:=eY.mp b;exact(Gv hN).mp (e1.trans e2.symm)
def Pn(I:Inv X aa Z H s)(hN:X.N.Nodup)(hi:X.N[i]?=some x)(hx:Loc X.env.scope x)(r:RelV v u)
  (h:∀s',Inv X aa (Z.set i (some v)) H s'->(∃a,Heap.SameBut a s.heap s'.heap/\(a=X.env.locals\/X.env.cells.lookup x=some a))->Q () s') (hf:X.fn x=true\/X.env.scope.names.lookup x=some .local := by first|exact .inl rfl|exact .inr rfl|assumption):wpAny M A (storeName X.env x u) Q E s:=by
 obtain⟨m,hn,hl⟩:=id I.loc;have Mo:(X.env.scope.kind == .class || (X.env.scope.kind == .module&&X.env.locals != X.env.globals))=false:=by rw[I.ok.kind];rfl
 have Uh:i<Z.length:=by rw[I.len];exact(eY.mp hi).1
 have Az:=I.Az;have tracked:∀{a:ag} {h':bP},(∃o,s.heap.get? a=some o/\H a=none)->Heap.SameBut a s.heap h'->jI X.prog X.w H h':=λ{a h'} ha hs b ob e=>by
  obtain⟨_,_,hfree⟩:=ha;refine(I.bx b ob e).oK (λc w' hc q=>(hs.2 c ?_).trans q) (λ_ q=>q) λ_ _ q=>q
  lia
 rcases hx with hk|hk
 .refine wpAny_storeName_local hk hn (λh' Ji hs=>?_) Mo
  obtain⟨oL,_,_,iP,_⟩:=id hn;refine h _ ⟨I.ok,I.os,I.bare,⟨λb o e n hb hx=>?_,λb o e n hb hx=>?_,I.base.free,λb o e hx=>?_,I.base.mR,I.base.lP,I.base.mQ⟩,⟨_,Ji,λj y v' e1 e2 e3=>?_⟩,λy c e=>?_,I.free,I.eH,λp hp=>?_,tracked ⟨oL,iP,I.free⟩ hs,by simpa using I.len⟩ ⟨_,hs,.inl rfl⟩
  .exact(hs.2 b (g_ (gE (cQ e) I.ok.above))).trans (I.base.keep b o e n hb hx)
  .obtain⟨sl,e1⟩:=I.base.slot b o e n hb hx;exact⟨sl,(hs.2 b (g_ (gE (cQ e) I.ok.above))).trans e1⟩
  .obtain⟨o',e1⟩:=I.base.there b o e hx;exact⟨o',(hs.2 b (g_ (gE (cQ e) I.ok.above))).trans e1⟩
  .by_cases hj:j=i
   .subst hj;rw[hi] at e1;cases e1;rw[wy Uh] at e2;cases e2;exact⟨u,r,.inl ⟨hk,by simp⟩⟩
   .rw[C0 (Ne.symm hj)] at e2;obtain⟨u',r',q⟩:=hl j y v' e1 e2 e3;refine⟨u',r',?_⟩;rcases q with⟨k,e⟩|⟨k,c,e,z⟩
    .refine .inl ⟨k,?_⟩;have:y≠x:=λe=>hj (Qd hN e1 (e ▸ hi))
     simp[this,e]
    .exact .inr ⟨k,c,e,z.sameBut hs (Az y c e)⟩
  .obtain⟨w',z⟩:=I.cell y c e;exact⟨w',z.sameBut hs (Az y c e)⟩
  .obtain⟨e,n,ne,nf,d⟩:=I.pin p hp;exact⟨(hs.2 p.1 ne).trans e,n,ne,nf,d⟩
 .have EX:X.fn x=true:=by
   rcases hf with z|z
   .exact z
   .rw[z] at hk;cases hk
  obtain⟨c,hc⟩:=I.ok.has x (.inl hk);obtain⟨w',z⟩:=I.cell x c hc;refine wpAny_storeName_cell I.ok.kind hk hc z (λh' qL hs=>?_)
  obtain⟨oc,xE,MA⟩:=id z;refine h { s with heap:=h'} ⟨I.ok,I.os,I.bare,⟨λb o e n hb hx=>?_,λb o e n hb hx=>?_,I.base.free,λb o e hx=>?_,I.base.mR,I.base.lP,I.base.mQ⟩,⟨m,hn.sameBut hs (Ne.symm (Az x c hc)),λj y v' e1 e2 e3=>?_⟩,λy c' e=>?_,I.free,I.eH,λp hp=>?_,tracked ⟨oc,xE,I.eH x c hc⟩ hs,by simpa using I.len⟩ ⟨c,hs,.inr hc⟩
  .exact(hs.2 b (g_ (gE (cQ e) (I.ok.Ay x c EX hc)))).trans (I.base.keep b o e n hb hx)
  .obtain⟨sl,e1⟩:=I.base.slot b o e n hb hx;exact⟨sl,(hs.2 b (g_ (gE (cQ e) (I.ok.Ay x c EX hc)))).trans e1⟩
  .obtain⟨o',e1⟩:=I.base.there b o e hx;exact⟨o',(hs.2 b (g_ (gE (cQ e) (I.ok.Ay x c EX hc)))).trans e1⟩
  .by_cases hj:j=i
   .subst hj;rw[hi] at e1;cases e1;rw[wy Uh] at e2;cases e2;exact⟨u,r,.inr ⟨.inl hk,c,hc,qL⟩⟩
   .rw[C0 (Ne.symm hj)] at e2;obtain⟨u',r',q⟩:=hl j y v' e1 e2 e3;refine⟨u',r',?_⟩;rcases q with q|⟨k,c',e,z'⟩
    .exact .inl q
    .refine .inr ⟨k,c',e,z'.sameBut hs ?_⟩;rintro rfl;exact hj (Qd hN e1 (I.ok.inj _ _ _ e hc ▸ hi))
  .by_cases Uc:c'=c
   .subst Uc;exact⟨_,qL⟩
   .obtain⟨w2,z2⟩:=I.cell y c' e;exact⟨w2,z2.sameBut hs Uc⟩
  .obtain⟨e,n,ne,nf,d⟩:=I.pin p hp;refine⟨(hs.2 p.1 ?_).trans e,n,ne,nf,d⟩;intro q;rw[q,xE] at e;have q':oc=p.2:=Option.some.inj e;exact d w' (by rw[<-q'];exact MA)
def Qe(I:Inv X aa Z H s)(hN:X.N.Nodup)(hi:X.N[i]?=some x)(hx:Loc X.env.scope x)(r:RelV v u)
  (h:∀s',Inv X aa (Z.set i (some v)) H s'->Q () s') (hf:X.fn x=true\/X.env.scope.names.lookup x=some .local := by first|exact .inl rfl|exact .inr rfl|assumption):wpAny M A (storeName X.env x u) Q E s:=
 Pn I hN hi hx r (λs' I' _=>h s' I') hf
def Inv.yI{s':av}(I:Inv X aa Z H s)(ho:s'.os=s.os)(u:Un (lO X.stack) ch H H' s.heap s'.heap)(bx:jI X.prog X.w H' s'.heap)(hg:AllBare s'.gens)
  (mj:∀b∈ch,(b∈X.ex\/X.s₀.heap.objs.size<=b)/\b≠X.env.locals/\(∀x c,X.env.cells.lookup x=some c->c≠b)/\∀p∈X.pn++aa,p.1≠b):Inv X aa Z H' s':=by
 obtain⟨h',g',d',t',o'⟩:=s';have e:o'=s.os:=ho;subst e;exact I.call (g':=g') (t':=t') (d':=d') u bx hg mj
end
abbrev XK:=ai->aj ag->Hp->Prop
abbrev St:=List (aj V)
abbrev VK:=V->Hp->Prop
abbrev TE:=St->Hp->VK->Prop
abbrev TT:=St->Hp->(Bool->Hp->Prop)->Prop
abbrev TA:=St->Hp->(List V->Hp->Prop)->Prop
set_option genInjectivity false in
structure Ends where
 nx:St->Hp->Prop
 rt:VK
 bk:St->Hp->Prop:=λ_ _=>False
 ct:St->Hp->Prop:=λ_ _=>False
abbrev TS:=Ends->St->Hp->Prop
def EP(X:Cx)(aa:List (ag×Obj))(Z:St)(Q:VK)(u:ai)(s':av):Prop:=∃v H',Inv X aa Z H' s'/\RelV v u/\Q v H'
def TP(X:Cx)(aa:List (ag×Obj))(Z:St)(Q:Bool->Hp->Prop)(b:Bool)(s':av):Prop:=∃H',Inv X aa Z H' s'/\Q b H'
def AP(X:Cx)(aa:List (ag×Obj))(Z:St)(Q:List V->Hp->Prop)(us:List ai)(s':av):Prop:=∃vs H',Inv X aa Z H' s'/\Vals vs us/\Q vs H'
def SP(X:Cx)(aa:List (ag×Obj))(D:Ends)(f:Flow)(s':av):Prop:=
 match f with
 |.next=>∃Z' H',Inv X aa Z' H' s'/\D.nx Z' H'
 |.brk=>∃Z' H',Inv X aa Z' H' s'/\D.bk Z' H'
 |.cont=>∃Z' H',Inv X aa Z' H' s'/\D.ct Z' H'
 |.ret u=>∃v Z' H',Inv X aa Z' H' s'/\RelV v u/\D.rt v H'
def PE(X:Cx)(e:Expr)(t:TE):Prop:=
 ∀(aa:List (ag×Obj)) (s:av) (Z:St) (H:Hp) (Q:VK),Inv X aa Z H s->t Z H Q->wpAny (model X.prog X.w) X.A (eval e X.env) (EP X aa Z Q) X.xe s
def PT(X:Cx)(e:Expr)(t:TT):Prop:=
 ∀(aa:List (ag×Obj)) (s:av) (Z:St) (H:Hp) (Q:Bool->Hp->Prop),Inv X aa Z H s->t Z H Q->wpAny (model X.prog X.w) X.A (isTrue e X.env (eval e X.env)) (TP X aa Z Q) X.xe s
def PW(X:Cx)(e:Expr)(t:TT):Prop:=
 ∀(whole:Sem ai) (aa:List (ag×Obj)) (s:av) (Z:St) (H:Hp) (Q:Bool->Hp->Prop),Inv X aa Z H s->t Z H Q->wpAny (model X.prog X.w) X.A (isTrue e X.env whole) (TP X aa Z Q) X.xe s
def PW.pt{X:Cx}{e:Expr}{t:TT}(h:PW X e t):PT X e t:=h _
def PA(X:Cx)(es:List Expr)(t:TA):Prop:=
 ∀(pos:Pos) (aa:List (ag×Obj)) (s:av) (Z:St) (H:Hp) (Q:List V->Hp->Prop),Inv X aa Z H s->t Z H Q->wpAny (model X.prog X.w) X.A (spliced (backTo pos (starEach es X.env))) (AP X aa Z Q) X.xe s
def PS(X:Cx)(st:Stmt)(t:TS):Prop:=
 ∀(aa:List (ag×Obj)) (s:av) (Z:St) (H:Hp) (D:Ends),Inv X aa Z H s->t D Z H->wpAny (model X.prog X.w) X.A (exec st X.env) (SP X aa D) X.xe s
def iO(X:Cx)(st:List Stmt)(t:TS):Prop:=
 ∀(aa:List (ag×Obj)) (s:av) (Z:St) (H:Hp) (D:Ends),Inv X aa Z H s->t D Z H->wpAny (model X.prog X.w) X.A (execs st X.env) (SP X aa D) X.xe s
def bI{α:Type}{t:Sem α}{Q Q':α->av->Prop}{s:av}(h:wpAny M A t Q E s)(hQ:∀a s,Q a s->Q' a s):wpAny M A t Q' E s:=wpAny_mono h hQ λ_ _ x=>x
section
variable{X:Cx}
def BA(i:Nat):TE:=λZ H Q=>∃v,Z[i]?=some (some v)/\Q v H
def tC(v:V):TE:=λ_ H Q=>Q v H
def Sm{i:Nat}{x:Str}{pos:Pos}(hN:X.N[i]?=some x)(hv:GZ X.env.scope x)(hd:(x == ("__debug__":Str))=false:=by decide)(tL:(x == ("__classdict__":Str))=false:=by decide):PE X (.Name x pos) (BA i):=by
 intro aa s Z H Q I h;obtain⟨v,e,h⟩:=h;obtain⟨m,hn,hl⟩:=I.loc;obtain⟨u,r,l⟩:=hl i x v hN e hv;have fin:EP X aa Z Q u s:=⟨v,H,I,r,h⟩;rcases l with⟨hk,hm⟩|⟨hk,c,hc,si⟩
 .exact wpAny_Name (wpAny_loadName_local I.ok.kind hk hn hm fin) hd
 .rcases hk with hk|hk
  .exact wpAny_Name (wpAny_loadName_cell I.ok.kind hk hc si fin) hd
  .exact wpAny_Name (wpAny_loadName_free I.ok.kind hk hc si fin tL) hd
def e3x{i j pos}:PE X (.Constant (.int i) j pos) (tC (.int i)):=λ_ _ _ H _ I h=>wpAny_Constant_int ⟨.int i,H,I.tok _,⟨_,rfl⟩,h⟩
def f0n{b j pos}:PE X (.Constant (.bool b) j pos) (tC (.bl b)):=λ_ _ _ H _ I h=>Constant_bool ⟨.bl b,H,I,rfl,h⟩
def e3y{j pos}:PE X (.Constant .none j pos) (tC .aH):=λ_ _ _ H _ I h=>Constant_none ⟨.aH,H,I,rfl,h⟩
def e3z{x j pos}:PE X (.Constant (.str x) j pos) (tC (.str x)):=λ_ _ _ H _ I h=>Calls.Constant_str ⟨.str x,H,I.tok _,⟨_,rfl⟩,h⟩
def Gl(X:Cx)(x:Str):Prop:=X.env.kindOf x=some .globalImplicit
def Cj{E:ai->av->Prop}{aa:List (ag×Obj)}{s:av}{Z:St}{H:Hp}{x:Str}{u:ai}{pos:Pos}{Q:ai->av->Prop}(I:Inv X aa Z H s)(hg:Gl X x)(hm:X.mg x=some u)(h:Q u s)
  (hd:(x == ("__debug__":Str))=false:=by decide):wpAny (model X.prog X.w) X.A (eval (.Name x pos) X.env) Q E s:=
 Calls.Name_function_global I.ok.kind hg (Calls.loadGlobal_global (by rw[I.ok.glob];exact I.mod.glob.keeps I.bk) hm h) hd
def yE{E:ai->av->Prop}{aa:List (ag×Obj)}{s:av}{Z:St}{H:Hp}{x:Str}{u:ai}{pos:Pos}{Q:ai->av->Prop}(I:Inv X aa Z H s)(hg:Gl X x)(hm:X.mg x=none)(hv:bootBuiltins x=some u)(h:Q u s)
  (hn:x≠"__name__":=by decide) (hd:(x == ("__debug__":Str))=false:=by decide):wpAny (model X.prog X.w) X.A (eval (.Name x pos) X.env) Q E s:=by
 obtain⟨mb,h1,h2⟩:=I.mod.blt;exact Calls.Name_function_global I.ok.kind hg (Calls.loadGlobal_builtin (by rw[I.ok.glob];exact I.mod.glob.keeps I.bk) hm (by rw[I.ok.blt];exact h1.keeps I.bk) ((h2 x hn).trans hv) h) hd
def d7n{x:Str}{v:V}{u:ai}{pos:Pos}(hg:Gl X x)(hm:X.mg x=none)(hv:bootBuiltins x=some u)(r:RelV v u)(hn:x≠"__name__":=by decide)(hd:(x == ("__debug__":Str))=false:=by decide):PE X (.Name x pos) (tC v):=
 λ_ _ _ H _ I h=>yE I hg hm hv ⟨v,H,I,r,h⟩ hn hd
variable{a b:Expr}{ta tb:TE}{pos:Pos}
def tB(t:TE):TT:=λZ H Q=>t Z H λx H1=>∃c,x=.bl c/\Q c H1
variable{tA Jx:TT}{rest:List Expr}
def NA(t u:TT):TT:=λZ H Q=>t Z H λc H1=>if c=true then u Z H1 Q else Q false H1
def tOr(t u:TT):TT:=λZ H Q=>t Z H λc H1=>if c=true then Q true H1 else u Z H1 Q
def NH(t:TT):TT:=λZ H Q=>t Z H λc H1=>Q (!c) H1
def d7o(ha:PT X a tA):PW X (.BoolOp .And [a] pos) tA:=by
 intro wh aa s Z H Q I h;refine isTrue_and (bI (ha aa s Z H Q I h) λc s1 e=>?_)
 cases c with
 |true=>exact isTrue_and_nil e
 |false=>exact e
def e4a(ha:PT X a tA):PW X (.BoolOp .Or [a] pos) tA:=by
 intro wh aa s Z H Q I h;refine isTrue_or (bI (ha aa s Z H Q I h) λc s1 e=>?_)
 cases c with
 |false=>exact isTrue_or_nil e
 |true=>exact e
def e4b(ha:PT X a tA)(hb:PW X (.BoolOp .And (b::rest) pos) Jx):PW X (.BoolOp .And (a::b::rest) pos) (NA tA Jx):=by
 intro wh aa s Z H Q I h;refine isTrue_and (bI (ha aa s Z H _ I h) λc s1 hh=>?_)
 obtain⟨H1,I1,q1⟩:=hh;cases c with
 |true=>exact hb wh aa s1 Z H1 Q I1 q1
 |false=>exact⟨H1,I1,q1⟩
def f0o(ha:PT X a tA)(hb:PW X (.BoolOp .Or (b::rest) pos) Jx):PW X (.BoolOp .Or (a::b::rest) pos) (tOr tA Jx):=by
 intro wh aa s Z H Q I h;refine isTrue_or (bI (ha aa s Z H _ I h) λc s1 hh=>?_)
 obtain⟨H1,I1,q1⟩:=hh;cases c with
 |true=>exact⟨H1,I1,q1⟩
 |false=>exact hb wh aa s1 Z H1 Q I1 q1
def e4c(ha:PT X a tA):PT X (.UnaryOp .Not a pos) (NH tA):=by
 intro aa s Z H Q I h;exact isTrue_not (ha aa s Z H (λc H1=>Q (!c) H1) I h)
def F_(ta tb:TE):TE:=λZ H Q=>ta Z H λx H1=>∃c,x=.bl c/\if c=true then tb Z H1 Q else Q (.bl false) H1
def Gg(ta:TE):TE:=λZ H Q=>ta Z H λx H1=>∃c,x=.bl c/\Q (.bl (!c)) H1
def Bl{op}{t:TE}(h:PE X a t):PE X (.BoolOp op [a] pos) t:=λaa s Z H Q I hw=>BoolOp_one (h aa s Z H Q I hw)
def e4d(ha:PE X a ta)(hb:PE X (.BoolOp .And (b::rest) pos) tb):PE X (.BoolOp .And (a::b::rest) pos) (F_ ta tb):=by
 intro aa s Z H Q I h;refine BoolOp_and (bI (ha aa s Z H _ I h) λv s1 hh=>?_)
 obtain⟨x,H1,I1,r1,q1⟩:=hh;obtain⟨c,rfl,q1⟩:=q1;cases r1;refine wpAny_truthy_bool ?_;cases c with
 |true=>exact hb aa s1 Z H1 Q I1 q1
 |false=>exact⟨.bl false,H1,I1,rfl,q1⟩
def e4e(ha:PE X a ta):PE X (.UnaryOp .Not a pos) (Gg ta):=by
 intro aa s Z H Q I h;refine UnaryOp_ (bI (ha aa s Z H _ I h) λv s1 hh=>?_)
 obtain⟨x,H1,I1,r1,q1⟩:=hh;obtain⟨c,rfl,q1⟩:=q1;cases r1;exact not_of (wpAny_truthy_bool ⟨.bl (!c),H1,I1,rfl,q1⟩)
def tIf(t:TT)(ta tb:TE):TE:=λZ H Q=>t Z H λc H1=>if c=true then ta Z H1 Q else tb Z H1 Q
def X8{c:Expr}(hc:PT X c tA)(ha:PE X a ta)(hb:PE X b tb):PE X (.IfExp c a b pos) (tIf tA ta tb):=by
 intro aa s Z H Q I h;refine wpAny_IfExp (bI (hc aa s Z H _ I h) λd s1 hh=>?_)
 obtain⟨H1,I1,q1⟩:=hh;cases d with
 |true=>exact ha aa s1 Z H1 Q I1 q1
 |false=>exact hb aa s1 Z H1 Q I1 q1
end
variable{x:Str}{u:ai}{aa:List (ag×Obj)}{Z:St}{H:Hp}{s:av}{c i e o tg:Expr}{tc:TT}{es:List Expr}{to ti te:TE}{P:c7}{w:cB}{K:aL}
def cS(K:aL)(H:Hp)(a:ag)(xs:List V):Prop:=
 Rd H a (.lst xs)\/
  ∃(o:Obj) (aG:Array ai) (n:Nat),K.lookup a=some o/\o.cls=.type "list"/\o.dict=none/\o.data=.seq aG n/\aG.size<=sizeLine/\Vals xs aG.toList
def iA(K:aL)(H:Hp)(a:ag)(xs:List V):Prop:=
 Rd H a (.tup xs)\/
  ∃(o:Obj) (aG:Array ai) (n:Nat),K.lookup a=some o/\o.cls=.type "tuple"/\o.data=.seq aG n/\aG.size<=sizeLine/\Vals xs aG.toList
noncomputable def KG:ai->aj V
 |.none=>some .aH
 |.bool b=>some (.bl b)
 |.int i _=>some (.int i)
 |.str x _=>some (.str x)
 |.bytes b _=>some (.yH b)
 |.float b _=>some (.yP b)
 |.ref a=>some (.ref a)
 |.type n=>some (.ty n)
 |_=>none
def RelV.abs{x:V}(r:RelV x u):KG u=some x:=by
 cases x with
 |aH=>cases r;rfl
 |bl _=>cases r;rfl
 |int _=>obtain⟨t,rfl⟩:=r;rfl
 |str _=>obtain⟨t,rfl⟩:=r;rfl
 |yH _=>obtain⟨t,rfl⟩:=r;rfl
 |yP _=>obtain⟨t,rfl⟩:=r;rfl
 |ref _=>cases r;rfl
 |ty _=>cases r;rfl
theorem RelV.inj{x y:V}{u:ai}(r:RelV x u)(q:RelV y u):x=y:=Option.some.inj (r.abs.symm.trans q.abs)
theorem Vals.inj{xs ys:List V}{us:List ai}(h:Vals xs us)(h':Vals ys us):xs=ys:=by
 induction h generalizing ys with
 |nil=>cases h';rfl
 |cons r t ih=>
  cases h' with
  |cons r' t'=>rw[r.inj r',ih t']
section
variable{X:Cx}{aa:List (ag×Obj)}{Z:St}{H:Hp}{s:av}{a:ag}{xs ys:List V}
def Inv.list(I:Inv X aa Z H s)(h:cS X.K H a xs):∃aG:List ai,Vals xs aG/\PlainL s.heap a aG.toArray/\xs.length<=sizeLine:=by
 rcases h with h|⟨o,aG,n,hk,hc,hd,hs,hz,r⟩
 .obtain⟨z,aG,n,r,e⟩:=h.ok I.bx;exact⟨aG,r,⟨_,n,e,rfl,rfl,rfl⟩,z⟩
 .refine⟨aG.toList,r,⟨o,n,I.kT a o hk,hc,hd,by simpa using hs⟩,?_⟩
  have e:=r.length
  simp_all
def Inv.tuple(I:Inv X aa Z H s)(h:iA X.K H a xs):∃aG:List ai,Vals xs aG/\IsTup s.heap a aG.toArray/\xs.length<=sizeLine:=by
 rcases h with h|⟨o,aG,n,hk,hc,hs,hz,r⟩
 .obtain⟨z,aG,r,p⟩:=h.ok I.bx;exact⟨aG,r,p,z⟩
 .refine⟨aG.toList,r,⟨o,I.kT a o hk,hc,n,by simpa using hs⟩,?_⟩
  have e:=r.length;simp only[JR] at e;lia
def Inv.l0(I:Inv X aa Z H s)(h:cS X.K H a xs)(h':cS X.K H a ys):xs=ys:=by
 obtain⟨aG,r,⟨o,n,e,_,_,d⟩,_⟩:=I.list h;obtain⟨its',r',⟨o',n',e',_,_,d'⟩,_⟩:=I.list h';rw[e] at e';cases e';rw[d] at d';injection d' with d1 _;have:aG=its':=by simpa using congrArg Array.toList d1
 subst this;exact r.inj r'
def Inv.nJ(I:Inv X aa Z H s)(h:iA X.K H a xs)(h':iA X.K H a ys):xs=ys:=by
 obtain⟨aG,r,⟨o,e,_,n,d⟩,_⟩:=I.tuple h;obtain⟨its',r',⟨o',e',_,n',d'⟩,_⟩:=I.tuple h';rw[e] at e';cases e';rw[d] at d';injection d' with d1 _;have:aG=its':=by simpa using congrArg Array.toList d1
 subst this;exact r.inj r'
end
section
variable{X:Cx}{aa:List (ag×Obj)}{Z:St}{H:Hp}{s:av}{E:ai->av->Prop}
end
section
variable{X:Cx}{st:Stmt}{rest:List Stmt}{t u:TS}{e:Expr}{te:TE}{pos:Pos}
def Gf:TS:=λD Z H=>D.nx Z H
def NJ(t u:TS):TS:=λD Z H=>t { D with nx:=u D} Z H
def sF:iO X [] Gf:=λ_ _ Z H _ I h=>wpAny_execs_nil ⟨Z,H,I,h⟩
def X9(h1:PS X st t)(h2:iO X rest u):iO X (st::rest) (NJ t u):=by
 intro aa s Z H D I h;refine wpAny_execs_cons (bI (h1 aa s Z H { D with nx:=u D} I h) λf s1 q=>?_)
 cases f with
 |next=>
  obtain⟨Z',H',I',q⟩:=q;exact h2 aa s1 Z' H' D I' q
 |ret v=>exact q
 |brk=>exact q
 |cont=>exact q
def Inv.quiet(I:Inv X aa Z H s):interactive X.env=false:=by simp[interactive,I.ok.kind]
def Ge(te:TE):TS:=λD Z H=>te Z H λ_ H1=>D.nx Z H1
def d7p(he:PE X e te)(hs:swapsWith e none pos.line X.env=pure false:=by rfl):PS X (.Expr e pos) (Ge te):=by
 intro aa s Z H D I h;exact wpAny_Expr_any (bI (he aa s Z H _ I h) λv s1 ⟨x,H1,I1,r1,q1⟩=>⟨Z,H1,I1,q1⟩) I.quiet hs
def NI(te:TE):TS:=λD Z H=>te Z H D.rt
def e4f(he:PE X e te):PS X (.Return (some e) pos) (NI te):=by
 intro aa s Z H D I h;exact wpAny_Return_some (bI (he aa s Z H _ I h) λv s1 ⟨x,H1,I1,r1,q1⟩=>⟨x,Z,H1,I1,r1,q1⟩)
def NF(c:TT)(t u:TS):TS:=λD Z H=>c Z H λb H1=>if b=true then t D Z H1 else u D Z H1
def f0p{a b:List Stmt}(hc:PT X c tc)(ha:iO X a t)(hb:iO X b u):PS X (.If c a b pos) (NF tc t u):=by
 intro aa s Z H D I h;refine wpAny_If (bI (hc aa s Z H _ I h) λd s1 hh=>?_)
 obtain⟨H1,I1,q1⟩:=hh;cases d with
 |true=>exact ha aa s1 Z H1 D I1 q1
 |false=>exact hb aa s1 Z H1 D I1 q1
end
abbrev TG:=V->St->Hp->(St->Hp->Prop)->Prop
abbrev vW:=List V->St->Hp->(St->Hp->Prop)->Prop
def PG(X:Cx)(target:Expr)(t:TG):Prop:=
 ∀(aa:List (ag×Obj)) (s:av) (Z:St) (H:Hp) (v:V) (u:ai) (Q:St->Hp->Prop),Inv X aa Z H s->RelV v u->t v Z H Q->
  wpAny (model X.prog X.w) X.A (assign target X.env u) (λ_ s'=>∃Z' H',Inv X aa Z' H' s'/\Q Z' H') X.xe s
def Di(X:Cx)(ts:List Expr)(t:vW):Prop:=
 ∀(aa:List (ag×Obj)) (s:av) (Z:St) (H:Hp) (vs:List V) (us:List ai) (Q:St->Hp->Prop),Inv X aa Z H s->Vals vs us->t vs Z H Q->
  wpAny (model X.prog X.w) X.A (assignInOrder ((assignEach ts X.env).map (·.2)) us) (λ_ s'=>∃Z' H',Inv X aa Z' H' s'/\Q Z' H') X.xe s
abbrev tu:=V->V->V->Hp->(Hp->Prop)->Prop
def wQ(X:Cx)(t:tu):Prop:=
 ∀(aa:List (ag×Obj)) (s:av) (Z:St) (H:Hp) (o i v:V) (ov iv u:ai) (Q:Hp->Prop),Inv X aa Z H s->RelV o ov->RelV i iv->RelV v u->t o i v H Q->
  wpAny (model X.prog X.w) X.A (setItem ov iv u) (λ_ s'=>∃H',Inv X aa Z H' s'/\Q H') X.xe s
abbrev GX:=V->V->Hp->VK->Prop
def GV(X:Cx)(op:Operator)(t:GX):Prop:=
 ∀(aa:List (ag×Obj)) (s:av) (Z:St) (H:Hp) (x y:V) (v u:ai) (Q:VK),Inv X aa Z H s->RelV x v->RelV y u->t x y H Q->
  wpAny (model X.prog X.w) X.A (inplaceOp op v u) (EP X aa Z Q) X.xe s
section
variable{X:Cx}{pos:Pos}
def r_(i:Nat):TG:=λv Z H Q=>Q (Z.set i (some v)) H
def d7q{i:Nat}(hN:X.N.Nodup)(hi:X.N[i]?=some x)(hx:Loc X.env.scope x)(hf:X.fn x=true\/X.env.scope.names.lookup x=some .local := by first|exact .inl rfl|exact .inr rfl|assumption):PG X (.Name x pos) (r_ i):=by
 intro aa s Z H v u Q I r h;exact wpAny_assign_Name (Qe I hN hi hx r (λs' I'=>⟨_,H,I',h⟩) hf)
def EI:vW:=λvs Z H Q=>vs=[]/\Q Z H
def yQ(t:TG)(u:vW):vW:=λvs Z H Q=>∃v r,vs=v::r/\t v Z H λZ' H'=>u r Z' H' Q
def xZ:Di X [] EI:=by
 intro aa s Z H vs us Q I r h;obtain⟨e,h⟩:=h;subst e;cases r;exact assignInOrder_nil ⟨Z,H,I,h⟩
def vy{t:TG}{u:vW}(h1:PG X e t)(h2:Di X es u)
  (hs:(assignEach (e::es) X.env).map (·.2)=assign e X.env::(assignEach es X.env).map (·.2):=by rfl):Di X (e::es) (yQ t u):=by
 intro aa s Z H vs us Q I r h;obtain⟨v,vr,e1,h⟩:=h;subst e1;cases r with
 |cons r rr=>
  rw[hs];refine assignInOrder_cons (bI (h1 aa s Z H _ _ _ I r h) λ_ s1 hh=>?_)
  obtain⟨Z1,H1,I1,q1⟩:=hh;exact h2 aa s1 Z1 H1 _ _ Q I1 rr q1
def AN(K:aL)(n:Nat)(t:vW):TG:=λv Z H Q=>∃a xs,v=.ref a/\iA K H a xs/\xs.length=n/\t xs Z H Q
def e4g{k:Nat}{t:vW}{n:Nat}(hc:X.calm=true)(h:Di X es t)
  (hn:(assignEach es X.env).length=n:=by rfl) (lV:(assignEach es X.env).findIdx? (·.1)=none:=by rfl):PG X (.Tuple es k pos) (AN X.K n t):=by
 intro aa s Z H v u Q I r hw;obtain⟨a,xs,e1,hq,hl,hw⟩:=hw;subst e1;cases r;obtain⟨aG,rv,ht,hz⟩:=I.tuple hq;refine assign_Tuple_tuple (I.ok.hd hc) ht (by simp[hn,<-hl,rv.length]) lV λh' hx=>?_
 have I1:Inv X aa Z H { s with heap:=h'}:=I.kept (t':=s.toks) λb o e=>hx b o (g_ (cQ e)) e
 exact h aa _ Z H xs _ Q I1 (by simpa using rv) hw
def Mb(to ti:TE)(t:tu):TG:=λv Z H Q=>to Z H λo H1=>ti Z H1 λi H2=>t o i v H2 λH3=>Q Z H3
def e4h{t:tu}(ho:PE X o to)(hi:PE X i ti)(hs:wQ X t)
  (ha:∀v,assign (.Subscript o i pos) X.env v=(do
   let ov <-holding [v] (eval o X.env)
   let iv <-holding [v,ov] (eval i X.env)
   standAt pos
   holding [v,ov,iv] (setItem ov iv v)
   release [v,ov,iv] []):=by intro _;rfl):PG X (.Subscript o i pos) (Mb to ti t):=by
 intro aa s Z H v u Q I r h;rw[ha];refine aA (mh (bI (ho aa s Z H _ I h) λov s1 hh=>?_))
 obtain⟨x,H1,I1,r1,q1⟩:=hh;refine aA (mh (bI (hi aa s1 Z H1 _ I1 q1) λiv s2 hh=>?_))
 obtain⟨y,H2,I2,r2,q2⟩:=hh;refine aA (wpAny_standAt (aA (mh (bI (hs aa s2 Z H2 x y v ov iv u _ I2 r1 r2 r q2) λ_ s3 hh=>?_))))
 obtain⟨H3,I3,q3⟩:=hh;exact wpAny_release ⟨Z,H3,I3,q3⟩
def Ga(te:TE)(g:TG):TS:=λD Z H=>te Z H λx H1=>g x Z H1 D.nx
def e4i{g:TG}(he:PE X e te)(hg:PG X tg g)(hs:swapsWithSole [tg] e pos.line X.env=pure false:=by rfl)(hw:swappedStores [tg] e X.env=pure none:=by rfl)
  (h1:(assignEach [tg] X.env).map (·.2)=[assign tg X.env]:=by rfl):PS X (.Assign [tg] e pos) (Ga te g):=by
 intro aa s Z H D I h;refine wpAny_Assign_stores (bI (he aa s Z H _ I h) λv s1 hh=>?_) hs hw
 obtain⟨x,H1,I1,r1,q1⟩:=hh;rw[h1];exact bI (hg aa s1 Z H1 x v _ I1 r1 q1) λ_ s2 q=>q
def e4j{i:Nat}{pos':Pos}(hN:X.N.Nodup)(hi:X.N[i]?=some x)(hx:Loc X.env.scope x)(he:PE X e te)(hs:swapsWith e (some (.Name x pos')) pos.line X.env=pure false:=by rfl)(hf:X.fn x=true\/X.env.scope.names.lookup x=some .local := by first|exact .inl rfl|exact .inr rfl|assumption):
  PS X (.Assign [.Name x pos'] e pos) (Ga te (r_ i)):=by
 intro aa s Z H D I h;refine wpAny_Assign_Name (bI (he aa s Z H _ I h) λv s1 hh=>?_) hs
 obtain⟨y,H1,I1,r1,q1⟩:=hh;exact Qe I1 hN hi hx r1 (λs2 I2=>⟨_,H1,I2,q1⟩) hf
def Gb(to ti te:TE)(ye:V->V->Hp->VK->Prop)(Jz:GX)(yi:tu):TS:=λD Z H=>to Z H λo H1=>ti Z H1 λi H2=>ye o i H2 λx H3=>te Z H3 λy H4=>Jz x y H4 λz H5=>yi o i z H5 λH6=>D.nx Z H6
def Dh(X:Cx)(t:V->V->Hp->VK->Prop):Prop:=
 ∀(aa:List (ag×Obj)) (s:av) (Z:St) (H:Hp) (o i:V) (ov iv:ai) (Q:VK),Inv X aa Z H s->RelV o ov->RelV i iv->t o i H Q->
  wpAny (model X.prog X.w) X.A (getItem ov iv) (EP X aa Z Q) X.xe s
def d7r{ye:V->V->Hp->VK->Prop}{Jz:GX}{yi:tu}{op:Operator}{fL:Pos}(ho:PE X o to)(hi:PE X i ti)(hg:Dh X ye)(he:PE X e te)(hp:GV X op Jz)(hs:wQ X yi)
  (ha:∀ov iv new,augStore i ov iv new=(do holding [new,ov,iv] (setItem ov iv new);release [new,ov,iv] [];pure .next):=by intros;rfl):PS X (.AugAssign (.Subscript o i fL) op e pos) (Gb to ti te ye Jz yi):=by
 intro aa s Z H D I h;refine wpAny_AugAssign_SubscriptAny (bI (ho aa s Z H _ I h) λov s1 hh=>?_) ha
 obtain⟨x1,H1,I1,r1,q1⟩:=hh;refine bI (hi aa s1 Z H1 _ I1 q1) λiv s2 hh=>?_
 obtain⟨x2,H2,I2,r2,q2⟩:=hh;refine bI (hg aa s2 Z H2 x1 x2 ov iv _ I2 r1 r2 q2) λold s3 hh=>?_
 obtain⟨x3,H3,I3,r3,q3⟩:=hh;refine bI (he aa s3 Z H3 _ I3 q3) λv s4 hh=>?_
 obtain⟨x4,H4,I4,r4,q4⟩:=hh;refine bI (hp aa s4 Z H4 x3 x4 old v _ I4 r3 r4 q4) λnew s5 hh=>?_
 obtain⟨x5,H5,I5,r5,q5⟩:=hh;exact bI (hs aa s5 Z H5 x1 x2 x5 ov iv new _ I5 r1 r2 r5 q5) λ_ s6 ⟨H6,I6,q6⟩=>⟨Z,H6,I6,q6⟩
def MK(f:Int->Int->Int):GX:=λx y H Q=>∃i j,x=.int i/\y=.int j/\Q (.int (f i j)) H
def A1:GV X .Add (MK λi j=>i+j):=by
 intro aa s Z H x y v u Q I r1 r2 h;obtain⟨i,j,e1,e2,q⟩:=h;subst e1;subst e2;obtain⟨t,rfl⟩:=r1;obtain⟨t',rfl⟩:=r2;exact iadd_int ⟨.int _,H,I.tok _,⟨_,rfl⟩,q⟩
end
section
variable{X:Cx}{pos:Pos}
def e4k(c:TT)(tb:TS):TS:=λD Z H=>∃W:Nat->St->Hp->Prop,(∃m,W m Z H)/\∀m Z H,W m Z H->
 c Z H λb H1=>if b=true then ∃N:St->Hp->Prop,(∀Z' H',N Z' H'->∃m',m'<m/\W m' Z' H')/\tb { D with nx:=N,ct:=N,bk:=D.nx} Z H1 else D.nx Z H1
def X_{body:List Stmt}{tb:TS}(hp:PassesOwn (model X.prog X.w) X.A X.env X.xe)(hc:PT X c tc)(hb:iO X body tb):PS X (.While c body [] pos) (e4k tc tb):=by
 intro aa s Z H D I h;obtain⟨W,⟨m0,w0⟩,turn⟩:=h;refine wpAny_While (codeAny_whileLoop (λn s'=>∃Z' H',Inv X aa Z' H' s'/\W n Z' H') ?_ m0 ⟨Z,H,I,w0⟩)
 rintro n s1 ⟨Z1,H1,I1,w1⟩;refine wpAny_passesOwn hp (bI (hc aa s1 Z1 H1 _ I1 (turn n Z1 H1 w1)) λb s2 hh=>?_)
 obtain⟨H2,I2,q2⟩:=hh;cases b with
 |true=>
  obtain⟨N,hN,q2⟩:=q2;rw[bK rfl];refine wpAny_passesOwn hp (bI (hb aa s2 Z1 H2 _ I2 q2) λf s3 q3=>?_)
  cases f with
  |next=>
   obtain⟨Z3,H3,I3,n3⟩:=q3;obtain⟨m',hm,w3⟩:=hN Z3 H3 n3;exact⟨m',hm,Z3,H3,I3,w3⟩
  |cont=>
   obtain⟨Z3,H3,I3,n3⟩:=q3;obtain⟨m',hm,w3⟩:=hN Z3 H3 n3;exact⟨m',hm,Z3,H3,I3,w3⟩
  |brk=>exact q3
  |ret v=>exact q3
 |false=>
  rw[bD vM];exact wpAny_execs_nil ⟨Z1,H2,I2,q2⟩
end
set_option genInjectivity false in
structure It where
 go:Nat->Hp->Prop
 vT:Nat->Hp->V->Hp->Prop
 stop:Nat->Hp->Prop
def jH(X:Cx)(aa:List (ag×Obj))(H:Hp)(b:ag):Prop:=
 H b=none/\b≠X.env.locals/\b∉X.fs/\(b∈X.ex\/X.s₀.heap.objs.size<=b)/\(∀x c,X.env.cells.lookup x=some c->c≠b)/\∀p∈X.pn++aa,p.1≠b
def Inv.mI{X:Cx}{H':Hp}{b:ag}(I:Inv X aa Z H s)(hb:s.heap.objs.size<=b)(hn:H' b=none):jH X aa H' b:=by
 refine⟨hn,zG (gE I.lt hb),I.Bc hb,.inr (kx I.sz hb),λx c e z=>?_,λp hp z=>?_⟩
 .obtain⟨v,q⟩:=I.cell x c e;exact cJ (gE q.lt (by rw[z];exact hb)) (kX _)
 .exact cJ (gE (cQ (I.pin p hp).1) (by rw[z];exact hb)) (kX _)
structure Turn (P:c7) (w:cB) (K:aL) (tg:Expr) (J:It) (fp:List ag) (it:ag) (tn:Nat->bP->Prop):Prop where
 mem:it∈fp
 obj:∀i h,tn i h->∀b∈fp,∃o,h.get? b=some o/\∀v,o.data≠.cell v
 keep:∀i h h',tn i h->(∀b∈fp,∀o,h.get? b=some o->h'.get? b=some o)->tn i h'
 item:∀(X:Cx),X.prog=P->X.w=w->X.K=K->X.calm=true->∀(i:Nat) (aa:List (ag×Obj)) (s:av) (Z:St) (H:Hp) (E:ai->av->Prop),Inv X aa Z H s->(∀b∈fp,jH X aa H b)->tn i s.heap->J.go i H->
  wpAny (model P w) X.A (pyNext (.ref it)) (λr s1=>∃u,r=some u/\ wpAny (model P w) X.A (letOwnedTupleGo tg (.ref it) u) (λ_ s2=>∃x H',Inv X aa Z H' s2/\RelV x u/\J.vT i H x H'/\tn (i+1) s2.heap/\∀b∈fp,H' b=none) E s1) E s
 done:∀(X:Cx),X.prog=P->X.w=w->X.K=K->X.calm=true->∀(i:Nat) (aa:List (ag×Obj)) (s:av) (Z:St) (H:Hp) (E:ai->av->Prop),Inv X aa Z H s->(∀b∈fp,jH X aa H b)->tn i s.heap->J.stop i H->
  wpAny (model P w) X.A (pyNext (.ref it)) (λr s1=>r=none/\Inv X aa Z H s1) E s
 self:∀(A:cR) (i:Nat) (s:av) (Q:ai->av->Prop) (E:ai->av->Prop),tn i s.heap->Q (.ref it) s->wpAny (model P w) A (pyIter (.ref it)) Q E s
abbrev TI:=St->Hp->(It->Hp->Prop)->Prop
def J3(X:Cx)(aa:List (ag×Obj))(Z:St)(tg:Expr)(R:It->Hp->Prop)(Jn:ai)(s2:av):Prop:=
 ∃(it:ag) (fp:List ag) (tn:Nat->bP->Prop) (J:It) (H':Hp),Jn=.ref it/\Inv X aa Z H' s2/\Turn X.prog X.w X.K tg J fp it tn/\tn 0 s2.heap/\(∀b∈fp,jH X aa H' b)/\R J H'
def PI(X:Cx)(tg iter:Expr)(wi:TI):Prop:=
 ∀(aa:List (ag×Obj)) (s:av) (Z:St) (H:Hp) (R:It->Hp->Prop),Inv X aa Z H s->wi Z H R->
  wpAny (model X.prog X.w) X.A (eval iter X.env) (λv s1=>wpAny (model X.prog X.w) X.A (pyIter v) (J3 X aa Z tg R) X.xe s1) X.xe s
def Av{M:Model}{A:cR}{E:ai->av->Prop}{it:ag}{o:Obj}{n:String}{vs:Array ai}{Q:Unit->av->Prop}(ho:s.heap.get? it=some o)(hc:o.cls=.type n)(hd:o.data=.fields vs)
  (hn:["enumerate","zip","dict_itemiterator","dict_reverseitemiterator","odict_iterator","itertools.zip_longest","itertools.pairwise"].contains n=false) (hQ:Q () s):wpAny M A (letOwnedTupleGo tg (.ref it) u) Q E s:=by
 unfold letOwnedTupleGo;cases tg <;> first
  |exact aX hQ
  |(cases u <;> first
    |exact aX hQ
    |(refine aA (wpAny_load ho ?_)
      rw[hc,hd];show wpAny M A (if(["enumerate","zip","dict_itemiterator","dict_reverseitemiterator","odict_iterator","itertools.zip_longest","itertools.pairwise"].contains n&&vs[0]? == some (rawInt _))=true then _ else _) Q E s
      rw[bD (by intro h;rw[hn,Bool.false_and] at h;cases h)]
      exact aX hQ))
def JW(K:aL)(a:ag):It:=
 ⟨λi H=>∃xs x,cS K H a xs/\xs[i]?=some x,λi H x H'=>H'=H/\∀xs,cS K H a xs->xs[i]?=some x,λi H=>∃xs,cS K H a xs/\xs.length<=i⟩
def JX(K:aL)(a:ag):It:=
 ⟨λi H=>∃xs x,iA K H a xs/\xs[i]?=some x,λi H x H'=>H'=H/\∀xs,iA K H a xs->xs[i]?=some x,λi H=>∃xs,iA K H a xs/\xs.length<=i⟩
def GR(lo:Int)(n:Nat):It:=⟨λi _=>i<n,λi H x H'=>H'=H/\x=.int (lo+i),λi _=>n<=i⟩
def WG(a it:ag):Turn P w K tg (JW K a) [it] it (λi h=>h.IsListIter it a i) where
 mem:=by simp
 obj:=λi h st b hb=>by
  have e:b=it:=by simpa using hb
  subst e;obtain⟨o,e,c,d⟩:=st;exact⟨o,e,λv z=>by rw[d] at z;cases z⟩
 keep:=λi h h' st k=>st.at λo e=>k it (by simp) o e
 item:=by
  intro X hP hw hK hc i aa s Z H E I hf st hg;subst hP hw hK;obtain⟨xs,x,hq,hx⟩:=hg;obtain⟨aG,rv,p,hz⟩:=I.list hq;obtain⟨u,hu,ru⟩:=rv.get hx;obtain⟨f0,f1,f2,f3,f4,f5⟩:=hf it (by simp)
  refine wpAny_pyNext_list_item st p.isList (x:=u) (by simpa using hu) λh' kr sb=>?_
  have I1:Inv X aa Z H { s with heap:=h'}:=I.turned (t':=s.toks) (λb o hb e=>(sb.2 b hb).trans e) f0 f1 f3 f4 f5
  obtain⟨o,e,c,d⟩:=id kr;exact⟨u,rfl,Av (s:={ s with heap:=h'}) e c d (by decide) ⟨x,H,I1,ru,⟨rfl,λys hy=>by rw[I.l0 hy hq];exact hx⟩,kr,λb hb=>(hf b hb).1⟩⟩
 done:=by
  intro X hP hw hK hc i aa s Z H E I hf st hg;subst hP hw hK;obtain⟨xs,hq,hx⟩:=hg;obtain⟨aG,rv,p,hz⟩:=I.list hq;obtain⟨f0,f1,f2,f3,f4,f5⟩:=hf it (by simp)
  have hl:=rv.length;exact wpAny_pyNext_list_end (I.ok.hd hc) st p.isList (by simp;lia) λh' eb=>⟨rfl,I.turned (t':=s.toks) (λb o hb e=>eb b o hb e) f0 f1 f3 f4 f5⟩
 self:=λ_ _ _ _ _ st h=>wpAny_pyIter_listiter st h
def V3(a it:ag):Turn P w K tg (JX K a) [it] it (λi h=>h.IsTupleIter it a i) where
 mem:=by simp
 obj:=λi h st b hb=>by
  have e:b=it:=by simpa using hb
  subst e;obtain⟨o,e,c,d⟩:=st;exact⟨o,e,λv z=>by rw[d] at z;cases z⟩
 keep:=λi h h' st k=>st.at λo e=>k it (by simp) o e
 item:=by
  intro X hP hw hK hc i aa s Z H E I hf st hg;subst hP hw hK;obtain⟨xs,x,hq,hx⟩:=hg;obtain⟨aG,rv,p,hz⟩:=I.tuple hq;obtain⟨u,hu,ru⟩:=rv.get hx;obtain⟨f0,f1,f2,f3,f4,f5⟩:=hf it (by simp)
  refine wpAny_pyNext_tuple_item st (show s.heap.IsTuple a aG.toArray from p) (x:=u) (by simpa using hu) λh' kr sb=>?_
  have I1:Inv X aa Z H { s with heap:=h'}:=I.turned (t':=s.toks) (λb o hb e=>(sb.2 b hb).trans e) f0 f1 f3 f4 f5
  obtain⟨o,e,c,d⟩:=id kr;exact⟨u,rfl,Av (s:={ s with heap:=h'}) e c d (by decide) ⟨x,H,I1,ru,⟨rfl,λys hy=>by rw[I.nJ hy hq];exact hx⟩,kr,λb hb=>(hf b hb).1⟩⟩
 done:=by
  intro X hP hw hK hc i aa s Z H E I hf st hg;subst hP hw hK;obtain⟨xs,hq,hx⟩:=hg;obtain⟨aG,rv,p,hz⟩:=I.tuple hq;obtain⟨f0,f1,f2,f3,f4,f5⟩:=hf it (by simp)
  have hl:=rv.length;exact wpAny_pyNext_tuple_end (I.ok.hd hc) st (show s.heap.IsTuple a aG.toArray from p) (by simp;lia) λh' eb=>⟨rfl,I.turned (t':=s.toks) (λb o hb e=>eb b o hb e) f0 f1 f3 f4 f5⟩
 self:=λ_ _ _ _ _ st h=>wpAny_pyIter_tupleiter st h
def V4(it:ag)(lo:Int)(n:Nat):Turn P w K tg (GR lo n) [it] it (λi h=>IsRangeIter h it (lo+(i:Nat)*1) ((n:Int) - (i:Nat)) 1) where
 mem:=by simp
 obj:=λi h st b hb=>by
  have e:b=it:=by simpa using hb
  subst e;exact⟨_,st,λv z=>by
   have z':Data.fields _=Data.cell v:=z;cases z'⟩
 keep:=λi h h' st k=>k it (by simp) _ st
 item:=by
  intro X hP hw hK hc i aa s Z H E I hf st hg;subst hP hw hK;obtain⟨f0,f1,f2,f3,f4,f5⟩:=hf it (by simp)
  have W:=Walks.range (prog:=X.prog) (w:=X.w) (I.ok.hd hc) it lo 1 n;refine W.item i s _ _ hg st λv h' tk hv kr kk=>?_
  obtain⟨t,rfl⟩:=hv;have I1:Inv X aa Z H { s with heap:=h',toks:=tk}:=I.turned (λb o hb e=>kk b o (by simpa using hb) e) f0 f1 f3 f4 f5
  refine⟨_,rfl,Av (s:={ s with heap:=h',toks:=tk}) (n:="range_iterator") kr rfl rfl (by decide) ⟨.int (lo+i),H,I1,⟨t,?_⟩,⟨rfl,rfl⟩,kr,λb hb=>(hf b hb).1⟩⟩
  rw[Int.mul_one]
 done:=by
  intro X hP hw hK hc i aa s Z H E I hf st hg;subst hP hw hK;obtain⟨f0,f1,f2,f3,f4,f5⟩:=hf it (by simp)
  exact wpAny_pyNext_range_end (I.ok.hd hc) st (by have:n<=i:=hg;lia) λh' eb=>⟨rfl,I.turned (t':=s.toks) (λb o hb e=>eb b o hb e) f0 f1 f3 f4 f5⟩
 self:=λ_ _ _ _ _ st h=>wpAny_pyIter_rangeiter st h
section
variable{X:Cx}{tg:Expr}
def y0(K:aL)(tl:TE):TI:=λZ H R=>tl Z H λx H1=>∃a,x=.ref a/\(∃xs,cS K H1 a xs)/\R (JW K a) H1
def Fc(K:aL)(tl:TE):TI:=λZ H R=>tl Z H λx H1=>∃a,x=.ref a/\(∃xs,iA K H1 a xs)/\R (JX K a) H1
def d7s{l:Expr}{tl:TE}(hl:PE X l tl):PI X tg l (y0 X.K tl):=by
 intro aa s Z H R I h;refine bI (hl aa s Z H _ I h) λv s1 hh=>?_
 obtain⟨x,H1,I1,r1,q1⟩:=hh;obtain⟨a,e,⟨xs,hq⟩,q⟩:=q1;subst e;cases r1;obtain⟨aG,rv,p,hz⟩:=I1.list hq;refine wpAny_pyIter_list p.isList ?_;refine⟨s1.heap.objs.size,[s1.heap.objs.size],_,_,H1,rfl,I1.kept (t':=s1.toks) λb o e=>dy _ e,WG a _,⟨_,jP _ rfl,rfl,rfl⟩,λb hb=>?_,q⟩
 have e:b=s1.heap.objs.size:=by simpa using hb
 subst e;exact I1.mI (bV _) (I1.bx.fresh (bV _))
def e4l{l:Expr}{tl:TE}(hl:PE X l tl):PI X tg l (Fc X.K tl):=by
 intro aa s Z H R I h;refine bI (hl aa s Z H _ I h) λv s1 hh=>?_
 obtain⟨x,H1,I1,r1,q1⟩:=hh;obtain⟨a,e,⟨xs,hq⟩,q⟩:=q1;subst e;cases r1;obtain⟨aG,rv,p,hz⟩:=I1.tuple hq;refine wpAny_pyIter_tuple (show s1.heap.IsTuple a aG.toArray from p) ?_;refine⟨s1.heap.objs.size,[s1.heap.objs.size],_,_,H1,rfl,I1.kept (t':=s1.toks) λb o e=>dy _ e,V3 a _,⟨_,jP _ rfl,rfl,rfl⟩,λb hb=>?_,q⟩
 have e:b=s1.heap.objs.size:=by simpa using hb
 subst e;exact I1.mI (bV _) (I1.bx.fresh (bV _))
def Ya{aa:List (ag×Obj)}{Z:St}{H:Hp}{s:av}{R:It->Hp->Prop}{E:ai->av->Prop}{lo hi:Int}{t u v:Tok}{tk:Nat}(I:Inv X aa Z H s)(h1:-(2^62)<=lo)(h2:lo<2^62)(h3:-(2^62)<=hi)(h4:hi<2^62)
  (q:R (GR lo (hi - lo).toNat) H):wpAny (model X.prog X.w) X.A (pyIter (.ref s.heap.objs.size)) (J3 X aa Z tg R) E { s with heap:=s.heap.push { cls:=.type "range",data:=.fields #[.int lo t,.int hi u,.int 1 v]},toks:=tk}:=by
 refine wpAny_pyIter_range (IsRange.new ..) (small_one h1 h2 h3 h4) ?_;have I1:Inv X aa Z H { s with heap:=s.heap.push { cls:=.type "range",data:=.fields #[.int lo t,.int hi u,.int 1 v]},toks:=tk}:=I.kept λb o e=>dy _ e
 refine⟨(s.heap.push { cls:=.type "range",data:=.fields #[.int lo t,.int hi u,.int 1 v]}).objs.size,[(s.heap.push { cls:=.type "range",data:=.fields #[.int lo t,.int hi u,.int 1 v]}).objs.size],_,_,H,rfl,I1.kept (t':=tk) λb o e=>dy _ e,V4 _ lo (hi - lo).toNat,?_,λb hb=>?_,q⟩
 .have e1:lo+((0:Nat):Int)*1=lo:=by simp
  have e2:(((hi - lo).toNat:Nat):Int) - ((0:Nat):Int)=Builtin.Range.rangeSize lo hi 1:=by rw[rangeSize_one];split <;> lia
  show IsRangeIter _ _ (lo+((0:Nat):Int)*1) ((((hi - lo).toNat:Nat):Int) - ((0:Nat):Int)) 1;rw[e1,e2];exact jP _ rfl
 .have e:b=(s.heap.push { cls:=.type "range",data:=.fields #[.int lo t,.int hi u,.int 1 v]}).objs.size:=by simpa using hb
  subst e;exact I1.mI (bV _) (I1.bx.fresh (bV _))
def y6(ta:TA):TI:=λZ H R=>ta Z H λvs H1=>∃j:Int,vs=[.int j] /\ -(2^62)<=j/\j<2^62/\R (GR 0 j.toNat) H1
def WH{a:Expr}{ta:TA}{p pos:Pos}(hg:Gl X "range")(hm:X.mg "range"=none)(ha:PA X [a] ta)(hs:starEach [a] X.env=[(false,eval a X.env)]:=by rfl):PI X tg (.Call (.Name "range" p) [a] [] pos) (y6 ta):=by
 intro aa s Z H R I h;refine Call_ (yE I hg hm boot_range (PyProof.Rows.callWith_type1 (bI (ha pos aa s Z H _ I h) λus s1 hh=>?_) hs rfl))
 obtain⟨vs,H1,I1,r1,q1⟩:=hh;obtain⟨j,e,q1,q2,q⟩:=q1;subst e;cases r1 with
 |cons r rr=>
  cases rr;obtain⟨t,rfl⟩:=r;exact call_range_1 (Ya I1 (by lia) (by lia) q1 q2 (by simpa using q))
def ND(wi:TI)(g:TG)(tb:TS):TS:=λD Z H=>wi Z H λJ H1=>∃W:Nat->Nat->St->Hp->Prop,(∃m,W 0 m Z H1)/\∀i m Z H,W i m Z H->
 (J.stop i H/\D.nx Z H)\/(J.go i H/\∃N:St->Hp->Prop,(∀Z' H',N Z' H'->∃m',m'<m/\W (i+1) m' Z' H')/\∀x H',J.vT i H x H'->g x Z H' λZ2 H2=>tb { D with nx:=N,ct:=N,bk:=D.nx} Z2 H2)
noncomputable def Ec(fp:List ag)(h:bP):List (ag×Obj):=fp.filterMap λb=>(h.get? b).map λo=>(b,o)
def Dx{fp:List ag}{h:bP}{b:ag}{o:Obj}(hb:b∈fp)(e:h.get? b=some o):(b,o)∈Ec fp h:=BF.mpr ⟨b,hb,by rw[e];rfl⟩
def WI{fp:List ag}{h:bP}{p:ag×Obj}(hp:p∈Ec fp h):p.1∈fp/\h.get? p.1=some p.2:=by
 obtain⟨b,hb,e⟩:=BF.mp hp;cases q:h.get? b with
 |none=>rw[q] at e;cases e
 |some o=>
  rw[q] at e;have e':(b,o)=p:=Option.some.inj e;subst e';exact⟨hb,q⟩
def Inv.pinned{aa:List (ag×Obj)}{Z:St}{H:Hp}{s:av}{fp:List ag}(I:Inv X aa Z H s)(hf:∀b∈fp,jH X aa H b)(ho:∀b∈fp,∃o,s.heap.get? b=some o/\∀v,o.data≠.cell v):Inv X (aa++Ec fp s.heap) Z H s:=
 I.kU λp hp=>(jC.mp hp).elim (λz=>I.pin p (rG _ z)) λz=>by
  obtain⟨hb,e⟩:=WI z;obtain⟨f0,f1,f2,_⟩:=hf p.1 hb;obtain⟨o,e',d⟩:=ho p.1 hb;rw[e] at e';cases e';exact⟨e,f0,f1,f2,d⟩
def Inv.eO{aa pl:List (ag×Obj)}{Z:St}{H:Hp}{s:av}(I:Inv X (aa++pl) Z H s):Inv X aa Z H s:=I.kU λp hp=>I.pin p (rG _ (JQ _ hp))
def Sn{iter:Expr}{body:List Stmt}{wi:TI}{g:TG}{tb:TS}{pos:Pos}(hp:PassesOwn (model X.prog X.w) X.A X.env X.xe)(hc:X.calm=true)(hi:PI X tg iter wi)(hg:PG X tg g)(hb:iO X body tb)
  (hs:∀x,foldedSetIterable iter X.env x=pure x:=by intro _;rfl):PS X (.For tg iter body [] pos) (ND wi g tb):=by
 intro aa s Z H D I h;refine wpAny_For (bI (hi aa s Z H _ I h) λv s1 h1=>bI h1 λJn s2 h2=>?_) hs
 obtain⟨it,fp,tn,J,H2,e,I2,T,t8,f2,W,⟨m0,w0⟩,turn⟩:=h2;subst e;have rE:∀{H':Hp},(∀b∈fp,H' b=none)->∀b∈fp,jH X aa H' b:=λhn b hb=>⟨hn b hb,(f2 b hb).2⟩
 refine codeAny_forLoop_any (λn s'=>∃i Z' H',Inv X aa Z' H' s'/\tn i s'.heap/\(∀b∈fp,H' b=none)/\W i n Z' H') ?_ m0 ⟨0,Z,H2,I2,t8,λb hb=>(f2 b hb).1,w0⟩
 rintro n s3 ⟨i,Z3,H3,I3,US,T4,w3⟩;rcases turn i n Z3 H3 w3 with⟨stop,qn⟩|⟨go,N,hN,step⟩
 .refine wpAny_passesOwn hp (bI (T.done X rfl rfl rfl hc i aa s3 Z3 H3 X.xe I3 (rE T4) US stop) λr s4 ⟨hr,I4⟩=>?_)
  subst hr;exact wpAny_execs_nil ⟨Z3,H3,I4,qn⟩
 .refine wpAny_passesOwn hp (bI (T.item X rfl rfl rfl hc i aa s3 Z3 H3 X.xe I3 (rE T4) US go) λr s4 ⟨u,hr,h4⟩=>?_)
  subst hr;refine wpAny_passesOwn hp (bI h4 λ_ s5 hh=>?_)
  obtain⟨x,H5,I5,r5,y5,oJ,L9⟩:=hh;have JT:=I5.pinned (rE L9) (T.obj _ _ oJ);refine wpAny_passesOwn hp (bI (hg _ s5 Z3 H5 x u _ JT r5 (step x H5 y5)) λ_ s6 hh=>?_)
  obtain⟨Z6,H6,I6,q6⟩:=hh;refine wpAny_passesOwn hp (bI (hb _ s6 Z6 H6 _ I6 q6) λf s7 q7=>?_)
  have again:∀{Z7:St} {H7:Hp},Inv X (aa++Ec fp s5.heap) Z7 H7 s7->N Z7 H7->∃m,m<n/\∃i Z' H',Inv X aa Z' H' s7/\tn i s7.heap/\(∀b∈fp,H' b=none)/\W i m Z' H':=λ{Z7 H7} I7 n7=>by
   obtain⟨m',hm,w7⟩:=hN Z7 H7 n7;refine⟨m',hm,i+1,Z7,H7,I7.eO,T.keep _ _ _ oJ λb hb o e=>(I7.pin (b,o) (rG _ (rG _ (Dx hb e)))).1,λb hb=>?_,w7⟩
   obtain⟨o,e,d⟩:=T.obj _ _ oJ b hb;exact(I7.pin (b,o) (rG _ (rG _ (Dx hb e)))).2.1
  cases f with
  |next=>obtain⟨Z7,H7,I7,n7⟩:=q7;exact again I7 n7
  |cont=>obtain⟨Z7,H7,I7,n7⟩:=q7;exact again I7 n7
  |brk=>obtain⟨Z7,H7,I7,q7⟩:=q7;exact⟨Z7,H7,I7.eO,q7⟩
  |ret v=>obtain⟨x7,Z7,H7,I7,r7,q7⟩:=q7;exact⟨x7,Z7,H7,I7.eO,r7,q7⟩
end
variable{aa:List (ag×Obj)}{s:av}{Z:St}{H:Hp}{f:ai->ai->Sem ai}{op:CmpOp}{g:Int->Int->Int}{x:V}{us:List ai}
abbrev R2:=V->V->Hp->VK->Prop
variable{r r':R2}
def dF(X:Cx)(f:ai->ai->Sem ai)(r:R2):Prop:=
 ∀(aa:List (ag×Obj)) (s:av) (Z:St) (H:Hp) (x y:V) (v u:ai) (Q:VK),Inv X aa Z H s->RelV x v->RelV y u->r x y H Q->
  wpAny (model X.prog X.w) X.A (f v u) (EP X aa Z Q) X.xe s
def GY(X:Cx)(f:ai->Sem ai)(r:V->Hp->VK->Prop):Prop:=
 ∀(aa:List (ag×Obj)) (s:av) (Z:St) (H:Hp) (x:V) (v:ai) (Q:VK),Inv X aa Z H s->RelV x v->r x H Q->
  wpAny (model X.prog X.w) X.A (f v) (EP X aa Z Q) X.xe s
def bR(X:Cx)(f:ai)(r:List V->Hp->VK->Prop):Prop:=
 ∀(aa:List (ag×Obj)) (s:av) (Z:St) (H:Hp) (xs:List V) (us:List ai) (Q:VK),Inv X aa Z H s->Vals xs us->r xs H Q->
  wpAny (model X.prog X.w) X.A (call f us) (EP X aa Z Q) X.xe s
def J4(X:Cx)(r:V->Hp->(Bool->Hp->Prop)->Prop):Prop:=
 ∀(aa:List (ag×Obj)) (s:av) (Z:St) (H:Hp) (x:V) (v:ai) (Q:Bool->Hp->Prop),Inv X aa Z H s->RelV x v->r x H Q->
  wpAny (model X.prog X.w) X.A (truthy v) (TP X aa Z Q) X.xe s
def Jy(r:R2)(ta tb:TE):TE:=λZ H Q=>ta Z H λx H1=>tb Z H1 λy H2=>r x y H2 Q
def tUn(r:V->Hp->VK->Prop)(ta:TE):TE:=λZ H Q=>ta Z H λx H1=>r x H1 Q
def rI(C:Int->Int->Prop)(g:Int->Int->V):R2:=λx y H Q=>∃i j,x=.int i/\y=.int j/\C i j/\Q (g i j) H
def sG(g:Int->Int->V):R2:=λx y H Q=>∃i j,x=.int i/\y=.int j/\Q (g i j) H
def rU(g:Int->V):V->Hp->VK->Prop:=λx H Q=>∃i,x=.int i/\Q (g i) H
section
variable{X:Cx}{a b c:Expr}{ta tb tc:TE}{pos:Pos}
def Aw(ha:PE X a ta)(hb:PE X b tb){R:V->V->Hp->Prop}(I:Inv X aa Z H s)
  (h:ta Z H λx H1=>tb Z H1 λy H2=>R x y H2) {Q:ai->av->Prop} 
  (hf:∀v u s2 x y H2,Inv X aa Z H2 s2->RelV x v->RelV y u->R x y H2->wpAny (model X.prog X.w) X.A (f v u) Q X.xe s2) :
  wpAny (model X.prog X.w) X.A (eval a X.env) (λv s₁=>wpAny (model X.prog X.w) X.A (eval b X.env) (λu s₂=>wpAny (model X.prog X.w) X.A (f v u) Q X.xe s₂) X.xe s₁) X.xe s:=by
 refine bI (ha aa s Z H _ I h) λv s1 hh=>?_
 obtain⟨x,H1,I1,r1,q1⟩:=hh;refine bI (hb aa s1 Z H1 _ I1 q1) λu s2 hh=>?_
 obtain⟨y,H2,I2,r2,q2⟩:=hh;exact hf v u s2 x y H2 I2 r1 r2 q2
def f0q{op:Operator}(ho:dF X (binaryOp op) r)(ha:PE X a ta)(hb:PE X b tb):PE X (.BinOp a op b pos) (Jy r ta tb):=by
 intro aa s Z H Q I h;exact wpAny_BinOp (Aw ha hb I h λv u s2 x y H2 I2 rx ry q=>ho aa s2 Z H2 x y v u Q I2 rx ry q)
def f0r{op:UnaryOp}{r:V->Hp->VK->Prop}(ho:GY X (unaryOp op) r)(ha:PE X a ta):PE X (.UnaryOp op a pos) (tUn r ta):=by
 intro aa s Z H Q I h;exact UnaryOp_ (bI (ha aa s Z H _ I h) λv s1 ⟨x,H1,I1,r1,q1⟩=>ho aa s1 Z H1 x v Q I1 r1 q1)
def Ju{C:Int->Int->Prop}
  (rule:∀(i j:Int) (t u:Tok) (s:av) (Q:ai->av->Prop) (E:ai->av->Prop),C i j->Q (.int (g i j) s.toks) { s with toks:=s.toks+1}->wpAny (model X.prog X.w) X.A (f (.int i t) (.int j u)) Q E s) :
  dF X f (rI C λi j=>.int (g i j)):=by
 intro aa s Z H x y v u Q I rx ry h;obtain⟨i,j,rfl,rfl,hc,q⟩:=h;obtain⟨t,rfl⟩:=rx;obtain⟨t',rfl⟩:=ry;exact rule i j t t' s _ _ hc ⟨.int (g i j),H,I.tok _,⟨_,rfl⟩,q⟩
def FA
  (rule:∀(i j:Int) (t u:Tok) (s:av) (Q:ai->av->Prop) (E:ai->av->Prop),Q (.int (g i j) s.toks) { s with toks:=s.toks+1}->wpAny (model X.prog X.w) X.A (f (.int i t) (.int j u)) Q E s) :
  dF X f (sG λi j=>.int (g i j)):=by
 intro aa s Z H x y v u Q I rx ry h;obtain⟨i,j,rfl,rfl,q⟩:=h;obtain⟨t,rfl⟩:=rx;obtain⟨t',rfl⟩:=ry;exact rule i j t t' s _ _ ⟨.int (g i j),H,I.tok _,⟨_,rfl⟩,q⟩
def Bg{g:Int->Int->Bool}
  (rule:∀(i j:Int) (t u:Tok) (s:av) (Q:ai->av->Prop) (E:ai->av->Prop),Q (.bool (g i j)) s->wpAny (model X.prog X.w) X.A (f (.int i t) (.int j u)) Q E s) :
  dF X f (sG λi j=>.bl (g i j)):=by
 intro aa s Z H x y v u Q I rx ry h;obtain⟨i,j,rfl,rfl,q⟩:=h;obtain⟨t,rfl⟩:=rx;obtain⟨t',rfl⟩:=ry;exact rule i j t t' s _ _ ⟨.bl (g i j),H,I,rfl,q⟩
def zN(i j:Int):Prop:=0<j/\j<1073741824
def zO(i j:Int):Prop:=0<=j/\j<=1000000/\i.natAbs<2^64
def wI(i j:Int):Prop:=(-(2^64)<i/\i<2^64)\/(-(2^64)<j/\j<2^64)
def wI.ok{i j:Int}(h:wI i j):IntMulOk i j:=by
 rcases h with⟨h1,h2⟩|⟨h1,h2⟩
 .exact .of_left (intBits_le_64 h1 h2)
 .exact .of_right (intBits_le_64 h1 h2)
def Bh:dF X (binaryOp .Add) (sG λi j=>.int (i+j)):=FA λ_ _ _ _ _ _ _ q=>add_int q
def e4m:dF X (binaryOp .Sub) (sG λi j=>.int (i - j)):=FA λ_ _ _ _ _ _ _ q=>sub_int q
def Bj:dF X (binaryOp .Mult) (rI wI λi j=>.int (i*j)):=Ju λ_ _ _ _ _ _ _ hc q=>mul_int q hc.ok
def d7t:dF X (binaryOp .FloorDiv) (rI zN λi j=>.int (i / j)):=Ju λi j _ _ _ _ _ hc q=>by
 have h1:(0:Int)<j:=hc.1;have h2:j<1073741824:=hc.2;exact floordiv_int (by lia) (by rw[Int.fdiv_eq_ediv_of_nonneg i (by lia)];exact q) (.inl (PyProof.noPylong_small (by lia)))
def e4n:dF X (binaryOp .Mod) (rI (λ_ j=>0<j) λi j=>.int (i%j)):=Ju λi j _ _ _ _ _ hc q=>by
 have h1:(0:Int)<j:=hc;exact mod_int' (by lia) (by rw[Int.fmod_eq_emod_of_nonneg i (by lia)];exact q)
def e4o:dF X (binaryOp .Pow) (rI zO λi j=>.int (i^j.toNat)):=Ju λ_ _ _ _ _ _ _ hc q=>pow_int_small hc.1 hc.2.1 hc.2.2 q
def unI{f:ai->Sem ai}{g:Int->Int}
  (rule:∀(i:Int) (t:Tok) (s:av) (Q:ai->av->Prop) (E:ai->av->Prop),Q (.int (g i) s.toks) { s with toks:=s.toks+1}->wpAny (model X.prog X.w) X.A (f (.int i t)) Q E s) :
  GY X f (rU λi=>.int (g i)):=by
 intro aa s Z H x v Q I rx h;obtain⟨i,rfl,q⟩:=h;obtain⟨t,rfl⟩:=rx;exact rule i t s _ _ ⟨.int (g i),H,I.tok _,⟨_,rfl⟩,q⟩
def e4p:GY X (unaryOp .USub) (rU λi=>.int (-i)):=unI λ_ _ _ _ _ q=>neg_int q
end
section
variable{X:Cx}{a b c:Expr}{ta tb tc:TE}{pos:Pos}
def xa{Q:VK}{k k':Bool}(I:Inv X aa Z H s)(q:Q (.bl k) H)(e:k=k'):EP X aa Z Q (.bool k') s:=by
 subst e;exact⟨.bl k,H,I,rfl,q⟩
def zr:dF X (compareOp .Lt) (sG λi j=>.bl (decide (i<j))):=Bg λ_ _ _ _ _ _ _ q=>lt_int q
def zq:dF X (compareOp .LtE) (sG λi j=>.bl (decide (i<=j))):=Bg λ_ _ _ _ _ _ _ q=>le_int q
def f0s:dF X (compareOp .Gt) (sG λi j=>.bl (decide (j<i))):=Bg λ_ _ _ _ _ _ _ q=>gt_int q
def WJ:dF X (compareOp .In) (λx y H Q=>∃i j,x=.str i/\y=.str j/\Q (.bl (!(Builtin.Str.occurrences j i 0 j.length 1).isEmpty)) H):=by
 intro aa s Z H x y v u Q I rx ry h;obtain⟨i,j,rfl,rfl,q⟩:=h;obtain⟨t,rfl⟩:=rx;obtain⟨t',rfl⟩:=ry;exact in_str (xa I q rfl)
def Bi:dF X (compareOp .Is) (λx y H Q=>y=.aH/\Q (.bl (decide (x=.aH))) H):=by
 intro aa s Z H x y v u Q I rx ry h;obtain⟨rfl,q⟩:=h;cases ry;refine is_none_gen (xa I q ?_);cases x <;> first
  |(cases rx;rfl)
  |(obtain⟨t,rfl⟩:=rx;rfl)
def xW:dF X (compareOp .IsNot) (λx y H Q=>y=.aH/\Q (.bl (!decide (x=.aH))) H):=by
 intro aa s Z H x y v u Q I rx ry h;obtain⟨rfl,q⟩:=h;cases ry;refine isnot_none_gen (xa I q ?_);cases x <;> first
  |(cases rx;rfl)
  |(obtain⟨t,rfl⟩:=rx;rfl)
def Vw:dF X (compareOp .NotIn) (λx y H Q=>∃i j,x=.str i/\y=.str j/\Q (.bl (!(!(Builtin.Str.occurrences j i 0 j.length 1).isEmpty))) H):=by
 intro aa s Z H x y v u Q I rx ry h;obtain⟨i,j,rfl,rfl,q⟩:=h;obtain⟨t,rfl⟩:=rx;obtain⟨t',rfl⟩:=ry;exact notIn_str (xa I q rfl)
def dF.or(h:dF X f r)(h':dF X f r'):dF X f (λx y H Q=>r x y H Q\/r' x y H Q):=by
 intro aa s Z H x y v u Q I rx ry q;rcases q with q|q
 .exact h aa s Z H x y v u Q I rx ry q
 .exact h' aa s Z H x y v u Q I rx ry q
def d7u(ho:dF X (compareOp op) r)(ha:PE X a ta)(hb:PE X b tb)(hm:behindInMarks op b=false):PE X (.Compare a [op] [b] pos) (Jy r ta tb):=by
 intro aa s Z H Q I h;exact wpAny_Compare1 (Aw ha hb I h λv u s2 x y H2 I2 rx ry q=>ho aa s2 Z H2 x y v u Q I2 rx ry q) hm
def vH(t:TE):TT:=λZ H Q=>t Z H λx H'=>∃k,x=.bl k/\Q k H'
def d7v(ho:dF X (compareOp op) r)(ha:PE X a ta)(hb:PE X b tb)(hm:behindInMarks op b=false):PT X (.Compare a [op] [b] pos) (vH (Jy r ta tb)):=by
 intro aa s Z H Q I h;refine wpAny_isTrue_Compare1 (bI (ha aa s Z H _ I h) λv s1 ⟨x,H1,I1,r1,q1⟩=>bI (hb aa s1 Z H1 _ I1 q1) λu s2 ⟨y,H2,I2,r2,q2⟩=> bI (ho aa s2 Z H2 x y v u _ I2 r1 r2 q2) λc s3 ⟨z,H3,I3,r3,k,e,q3⟩=>?_) hm
 subst e;cases r3;exact wpAny_truthy_bool ⟨H3,I3,q3⟩
def So(r r':R2)(ta tb tc:TE):TE:=λZ H Q=>ta Z H λx H1=>tb Z H1 λy H2=>r x y H2 λz H3=>∃k,z=.bl k/\
 (if k=true then tc Z H3 λw' H4=>r' y w' H4 Q else Q (.bl false) H3)
def Yi{Bf:CmpOp}(ho:dF X (compareOp op) r)(yV:dF X (compareOp Bf) r')(ha:PE X a ta)(hb:PE X b tb)(hc:PE X c tc)
  (hm:lastMarks [op,Bf] [b,c]=false:=by with_unfolding_all rfl):PT X (.Compare a [op,Bf] [b,c] pos) (vH (So r r' ta tb tc)):=by
 intro aa s Z H Q I h;refine isTrue_chain (bI (ha aa s Z H _ I h) λv s1 ⟨x,H1,I1,r1,q1⟩=>test_link (bI (hb aa s1 Z H1 _ I1 q1) λu s2 ⟨y,H2,I2,r2,q2⟩=> bI (ho aa s2 Z H2 x y v u _ I2 r1 r2 q2) λd s3 ⟨z,H3,I3,r3,k,e,q3⟩=>?_)) hm
 subst e;cases r3;refine wpAny_truthy_bool ?_;cases k with
 |false=>
  obtain⟨k',e',q'⟩:=q3;cases e';exact ite_ff ⟨H3,I3,q'⟩
 |true=>
  refine ite_tt (test_last (bI (hc aa s3 Z H3 _ I3 q3) λw' s4 ⟨z',H4,I4,r4,q4⟩=>bI (yV aa s4 Z H4 y z' u w' _ I4 r2 r4 q4) λd' s5 ⟨z2,H5,I5,r5,k2,e2,q5⟩=>?_))
  subst e2;cases r5;exact wpAny_truthy_bool ⟨H5,I5,q5⟩
def zW(K:aL)(x:V)(H:Hp)(k:Bool):Prop:=
 match x with
 |.aH=>k=false
 |.bl b=>k=b
 |.int i=>k=(i != 0)
 |.str y=>y.length<=sizeLine/\k=((y.length:Int) != 0)
 |.yH y=>y.size<=sizeLine/\k=((y.size:Int) != 0)
 |.ref p=>(∃xs,cS K H p xs/\k = !xs.isEmpty)\/(∃xs,iA K H p xs/\k = !xs.isEmpty)\/∃kvs,H p=some (.dK kvs)/\k = !kvs.isEmpty
 |_=>False
def V5{κ:Type}{kvs:List (κ×V)}{vs:List (κ×ai)}(r:KV kvs vs):(!vs.isEmpty) = !kvs.isEmpty:=by
 cases r <;> rfl
def O5{xs:List V}{aG:List ai}(r:Vals xs aG):(!aG.toArray.isEmpty) = !xs.isEmpty:=by
 cases r <;> simp
def Am:(sizeLine:Nat)<2^63:=by rw[sizeLine_eq];decide
def e4q:J4 X (λx H Q=>∃k,zW X.K x H k/\Q k H):=by
 intro aa s Z H x v Q I rx h;obtain⟨k,e,q⟩:=h;have hl:=Am;have hs:sizeLine=16777216:=sizeLine_eq;cases x with
 |aH=>
  cases rx;have e':k=false:=e;subst e';exact truthy_none ⟨H,I,q⟩
 |bl b=>
  cases rx;have e':k=b:=e;subst e';exact wpAny_truthy_bool ⟨H,I,q⟩
 |int i=>
  obtain⟨t,rfl⟩:=rx;have e':k=(i != 0):=e;subst e';exact PySem.P.truthy_int ⟨H,I,q⟩
 |str y=>
  obtain⟨t,rfl⟩:=rx;obtain⟨hy,e'⟩:y.length<=sizeLine/\k=((y.length:Int) != 0):=e;subst e';exact PySem.P.truthy_str (by lia) ⟨H,I.tok _,q⟩
 |yH y=>
  obtain⟨t,rfl⟩:=rx;obtain⟨hy,e'⟩:y.size<=sizeLine/\k=((y.size:Int) != 0):=e;subst e';exact PySem.W.truthy_bytes (by lia) ⟨H,I.tok _,q⟩
 |ref p=>
  cases rx;have e':(∃xs,cS X.K H p xs/\k = !xs.isEmpty)\/(∃xs,iA X.K H p xs/\k = !xs.isEmpty)\/∃kvs,H p=some (.dK kvs)/\k = !kvs.isEmpty:=e;rcases e' with⟨xs,hx,e'⟩|⟨xs,hx,e'⟩|⟨kvs,hx,e'⟩
  .subst e';obtain⟨aG,r,pl,hz⟩:=I.list hx;have hlen:=r.length;exact wpAny_truthy_list pl.isList (by simp only[fF];lia) ⟨H,I.tok _,by rw[O5 r];exact q⟩
  .subst e';obtain⟨aG,r,pl,hz⟩:=I.tuple hx;have hlen:=r.length;exact truthy_tuple pl (by simp only[fF];lia) ⟨H,I.tok _,by rw[O5 r];exact q⟩
  .subst e';obtain⟨hz,hS,vs,r,m⟩:kvs.length<=sizeLine/\(p == sysModules)=false/\∃vs,KV kvs vs/\s.heap.DictOf (Le X.prog X.w) p vs:=I.bx p _ hx;have hlen:kvs.length=vs.length:=Paired.length r;exact wpAny_truthy_dict hS m (by lia) ⟨H,I.tok _,by rw[V5 r];exact q⟩
 |_=>exact(show False from e).elim
def Yj(ha:PE X a ta)(he:∀whole,isTrue a X.env whole=(do let v <-whole;standAt a.pos;holding [v] (truthy v))):
  PT X a (λZ H Q=>ta Z H λx H'=>∃k,zW X.K x H' k/\Q k H'):=by
 intro aa s Z H Q I h;exact isTrue_plain (bI (ha aa s Z H _ I h) λv s1 ⟨x,H1,I1,r1,q1⟩=>e4q aa s1 Z H1 x v Q I1 r1 q1) (he _)
def rB:dF X (binaryOp .Add) (λx y H Q=>∃i j,x=.str i/\y=.str j/\i.length+j.length<=sizeLine/\Q (.str (i++j)) H):=by
 intro aa s Z H x y v u Q I rx ry h;obtain⟨i,j,rfl,rfl,hz,q⟩:=h;obtain⟨t,rfl⟩:=rx;obtain⟨t',rfl⟩:=ry;exact add_str (λt' tk=>⟨.str (i++j),H,I.tok _,⟨_,rfl⟩,q⟩) hz
def vals1(r:Vals [x] us):∃u,us=[u]/\RelV x u:=by
 cases r with
 |cons r1 r2=>cases r2;exact⟨_,rfl,r1⟩
def vals2{y:V}(r:Vals [x,y] us):∃u w',us=[u,w']/\RelV x u/\RelV y w':=by
 cases r with
 |cons r1 r2=>
  cases r2 with
  |cons r3 r4=>cases r4;exact⟨_,_,rfl,r1,r3⟩
end
variable{h:bP}{dx C:ag}{mA:Str->aj ai}{Q:ai->av->Prop}{v:V}{o:aj ai}{u:ai}{K:aL}{f:Str}
structure qY (h:bP) (x dx C:ag) (mA:Str->aj ai):Prop where
 obj:h.get? x=some (PySem.W.instObj C dx)
 ns:h.Ns1 dx mA
 ne:dx≠x
def WK(n:h.Ns1 dx mA):∃od,h.get? dx=some od/\∀name,PySem.W.lookIn name od=some (mA name):=by
 obtain⟨o,es,ep,ho,hd,hk,_,hm⟩:=n;refine⟨o,ho,λname=>?_⟩
 have e:=hm name;unfold nsFind findBy at e;rw[<-Array.find?_toList] at e;unfold PySem.W.lookIn;rw[hd];dsimp only;split
 .rename_i y q
  rw[q] at e;exact congrArg some e
 .rename_i q
  rw[q] at e;have a:es.toList.any (·.refKey)=false:=by
   rw[List.any_eq_false];intro y hy;obtain⟨z,t,Mv⟩:=hk y (N4.mp hy);simp[DictEntry.refKey,Mv]
  have a':¬es.toList.any (·.refKey)=true:=by rw[a];exact vM
  rw[bD a'];exact congrArg some e
theorem qY.look{x:ag}(I:qY h x dx C mA):∃od,PySem.W.InstAt h x (PySem.W.instObj C dx) C (some od)/\∀name,PySem.W.lookIn name od=some (mA name):=
 let ⟨od,ho,hl⟩:=WK I.ns
 ⟨od,⟨I.obj,rfl,rfl,ho⟩,hl⟩
section
variable{prog:c7}{w:cB}{A:cR}{E:ai->av->Prop}{s:av}{K:aL}{x dx C f:ag}{mA:Str->aj ai}{name:Str}{v:ai}
def d7w{expr:Bool}(X:K.In s.heap)(I:qY s.heap x dx C mA)(hg:PySem.W.plainGet K C name=true)(hh:PySem.W.hasDictIn K C=true)
  (ha:PySem.W.findIn K (.ref C) name=some none) (hv:mA name=some v) (MG:PySem.W.handedIn v=true) (h:Q v { s with toks:=s.toks+1}) :
  wpAny (model prog w) A (getAttr (.ref x) name expr) Q E s:=by
 obtain⟨od,J,hl⟩:=I.look;exact PySem.W.get_value X J (PySem.W.plainGet_of hg).1 (PySem.W.findObj_own hh ha rfl (by rw[hl,hv])) MG h
def Yk{pl:Sem Bool}{Q:ai×List ai->av->Prop}(X:K.In s.heap)(I:qY s.heap x dx C mA)(hg:PySem.W.plainGet K C name=true)
  (hf:PySem.W.findIn K (.ref C) name=some (some (.ref f))) (ht:PySem.W.isFn K (.ref f)=true) (hv:mA name=none) (h:Q (.ref f,[.ref x]) s) :
  wpAny (model prog w) A (getMethod (.ref x) name pl) Q E s:=by
 obtain⟨od,J,hl⟩:=I.look;exact PySem.W.method_fn X J (PySem.W.plainGet_of hg).1 (PySem.W.plainGet_of hg).2 hf (beq_iff_eq.mp ht) (by show(PySem.W.lookIn name od).map (·.isSome)=some false;rw[hl,hv];rfl) h
def d7x{ns:List Str}{Q:Unit->av->Prop}(X:K.In s.heap)(I:qY s.heap x dx C mA)
  (hs:PySem.W.findIn K (.ref C) "__setattr__"=some (some (.builtin "object.__setattr__"))) (hp:PySem.W.plainOver K C=true) (ht:PySem.W.takerIn K C name=some none) (hh:PySem.W.hasDictIn K C=true)
  (hw:PySem.Within mA ns) (hsz:ns.length<=sizeLine)
  (h:∀h',qY h' x dx C (λy=>if y=name then some v else mA y)->Heap.SameBut dx s.heap h'->Q () { s with heap:=h',toks:=s.toks+2}) :
  wpAny (model prog w) A (setAttr (.ref x) name v) Q E s:=by
 obtain⟨od,J,hl⟩:=I.look;refine PySem.W.set_plain X J hs (PySem.W.osa_open (s:={ s with toks:=s.toks+1}) (r:=none) X J hp ht λb=>?_)
 obtain⟨cd,hc,sk⟩:=PySem.W.any_some hh;have hx:s.heap.get? x=some ⟨.ref C,some dx,.plain,#[]⟩:=I.obj;refine aA (aX (aA (aA (wpAny_loadPart hx (aA (PySem.W.Looks.here (s:={ s with toks:=s.toks+1}) (PySem.W.looks_clsIn X hc) ?_))))));rw[sk];refine aX (a:=some dx) (aA (aX (aA ?_)));refine wpAny_nsSet1 (s:={ s with toks:=s.toks+1}) I.ns λh' AV A0=>?_
 obtain⟨oD,esD,epD,Mz,Mp,hcD⟩:=AV.count (PySem.Within.cons name v hw);refine aA (wpAny_lookBehind Mz (by rw[Mp];exact pastItsLine_dict (kx hcD (by rw[l_];lia))) ?_)
 exact aX (h _ ⟨(A0.2 _ (Ne.symm I.ne)).trans I.obj,AV,I.ne⟩ A0)
def Yl{R:Result->av->Prop}{vs:List ai}{kw:List (Str×ai)}(X:K.In s.heap)(hm:PySem.W.makesIn K C=true)
  (hi:PySem.W.findIn K (.ref C) "__init__"=some (some (.ref f))) (hf:PySem.W.typeIn K (.ref f)=some (.type "function"))
  (h:codeAny (model prog w) (A.under (.builtin "type.__call__" ⟨.ref C::vs,kw⟩)) (.call (.ref f) ⟨.ref (s.heap.objs.size+1)::vs,kw⟩) (PySem.W.InitBack (s.heap.objs.size+1) R) {s with heap:=(s.heap.push PySem.W.emptyDict).push (PySem.W.instObj C s.heap.objs.size)}) :
  codeAny (model prog w) A (.call (.ref C) ⟨vs,kw⟩) R s:=by
 obtain⟨hh,g,d,t,os⟩:=s;exact PySem.W.make_core (PySem.W.makes_of X hm) (PySem.W.looks_findIn X hi) (λself=>PySem.W.bind_fn X self hf) (.inl rfl) h
end
noncomputable def dI(f:Str)(v:V):List (Str×V)->List (Str×V)
 |[]=>[(f,v)]
 |(g,x)::r=>if g=f then(g,v)::r else(g,x)::dI f v r
theorem OV(f g:Str)(v:V):∀fs:List (Str×V),(dI f v fs).lookup g=if g=f then some v else fs.lookup g
 |[]=>by
  show List.lookup g [(f,v)]=_;by_cases h:g=f
  .have hb:(g == f)=true:=beq_iff_eq.mpr h;simp only[List.lookup,hb,bK h]
  .have hb:(g == f)=false:=vR.mpr h;simp only[List.lookup,hb,bD h]
 |(k,x)::r=>by
  have ih:=OV f g v r;rw[show dI f v ((k,x)::r)=(if k=f then(k,v)::r else(k,x)::dI f v r) from rfl]
  by_cases hk:k=f
  .rw[bK hk];by_cases h:g=k
   .have hb:(g == k)=true:=beq_iff_eq.mpr h;simp only[List.lookup,hb,bK (h.trans hk)]
   .have hb:(g == k)=false:=vR.mpr h;simp only[List.lookup,hb,bD (λe:g=f=>h (e.trans hk.symm))]
  .rw[bD hk];by_cases h:g=k
   .have hb:(g == k)=true:=beq_iff_eq.mpr h;simp only[List.lookup,hb,bD (λe:g=f=>hk (h.symm.trans e))]
   .have hb:(g == k)=false:=vR.mpr h;simp only[List.lookup,hb];exact ih
theorem KH(f:Str)(v:V):∀fs:List (Str×V),f∈(dI f v fs).map (·.1)/\∀g,g∈fs.map (·.1)->g∈(dI f v fs).map (·.1)
 |[]=>⟨by simp[dI],λg h=>by simp at h⟩
 |(k,x)::r=>by
  obtain⟨i1,i2⟩:=KH f v r;rw[show dI f v ((k,x)::r)=(if k=f then(k,v)::r else(k,x)::dI f v r) from rfl]
  by_cases hk:k=f
  .rw[bK hk];subst hk;exact⟨by simp,λg h=>by simpa using h⟩
  .rw[bD hk];refine⟨?_,λg h=>?_⟩
   .rw[cU];exact tW _ i1
   .rw[cU] at h ⊢;rcases y0a.mp h with e|e
    .exact y0a.mpr (.inl e)
    .exact tW _ (i2 g e)
theorem OW(f:Str)(v:V):∀fs:List (Str×V),(dI f v fs).length<=fs.length+1
 |[]=>by simp[dI]
 |(k,x)::r=>by
  have ih:=OW f v r;rw[show dI f v ((k,x)::r)=(if k=f then(k,v)::r else(k,x)::dI f v r) from rfl]
  by_cases hk:k=f
  .rw[bK hk,l_,l_];lia
  .rw[bD hk,l_,l_];lia
def iU.some_of(r:iU (some v) o):∃u,o=some u/\RelV v u:=by
 cases o with
 |none=>exact(show False from r).elim
 |some u=>exact⟨u,rfl,r⟩
def iU.none_of(r:iU none o):o=none:=by
 cases o with
 |none=>rfl
 |some u=>exact(show False from r).elim
def WL(r:RelV v u):PySem.W.handedIn u=true:=by
 cases v with
 |aH=>cases(show u=Value.none from r);rfl
 |bl b=>cases(show u=Value.bool b from r);rfl
 |int i=>obtain⟨t,e⟩:=(show ∃t,u=Value.int i t from r);cases e;rfl
 |str x=>obtain⟨t,e⟩:=(show ∃t,u=Value.str x t from r);cases e;rfl
 |yH b=>obtain⟨t,e⟩:=(show ∃t,u=Value.bytes b t from r);cases e;rfl
 |yP b=>obtain⟨t,e⟩:=(show ∃t,u=Value.float b t from r);cases e;rfl
 |ref a=>cases(show u=Value.ref a from r);rfl
 |ty n=>cases(show u=Value.type n from r);rfl
section
variable{P:c7}{w:cB}{H H':Hp}{h h':bP}{a C dx:ag}{fs CC:List (Str×V)}
def Lf(bx:jI P w H h)(e:H a=some (.ins C dx fs)):∃mA,qY h a dx C mA/\(∀f,iU (fs.lookup f) (mA f))/\PySem.Within mA (fs.map (·.1))/\fs.length<=1000/\H dx=some (.own a):=by
 obtain⟨d,z,ne,ob,mA,n,r,q⟩:=(show bC P w H h a (.ins C dx fs) from bx a _ e);exact⟨mA,⟨ob,n,ne⟩,r,q,z,d⟩
end
structure qQ (K:aL) (C:ag):Prop where
 pg:PySem.W.plainGet K C Str.empty=true
 hd:PySem.W.hasDictIn K C=true
 po:PySem.W.plainOver K C=true
 sa:PySem.W.findIn K (.ref C) "__setattr__"=some (some (.builtin "object.__setattr__"))
def qQ.get(c:qQ K C)(f:Str):PySem.W.plainGet K C f=true:=c.pg
def fY(K:aL)(C:ag)(f:Str):Prop:=PySem.W.findIn K (.ref C) f=some none
def fY.Gi(n:fY K C f):PySem.W.takerIn K C f=some none:=by
 unfold PySem.W.takerIn;rw[show PySem.W.findIn K (.ref C) f=some none from n];rfl
structure Con (K:aL) (C:ag) (f:Str) (v:V) (u:ai):Prop where
 at_:PySem.W.findIn K (.ref C) f=some (some u)
 rel:RelV v u
 get:PySem.W.specialIn K u "__get__"=some none
 cp:PySem.W.copiedNames.contains f=false
structure Meth (K:aL) (C:ag) (m:Str) (f:ag):Prop where
 at_:PySem.W.findIn K (.ref C) m=some (some (.ref f))
 fn:PySem.W.isFn K (.ref f)=true
 kp:PySem.W.keepIn K (.ref f)=true
section
variable{X:Cx}{aa:List (ag×Obj)}{Z:St}{H:Hp}{s:av}{a C dx:ag}{fs:List (Str×V)}{f:Str}{v:V}{A:cR}{E:ai->av->Prop}
def O6{b:Bool}(I:Inv X aa Z H s)(e:H a=some (.ins C dx fs))(c:qQ X.K C)(n:fY X.K C f)(l:fs.lookup f=some v)
  (h:∀u s',Inv X aa Z H s'->RelV v u->Q u s'):wpAny (model X.prog X.w) A (getAttr (.ref a) f b) Q E s:=by
 obtain⟨mA,O,r,_,_,_⟩:=Lf I.bx e;obtain⟨u,hu,ru⟩:=iU.some_of (v:=v) (o:=mA f) (by rw[<-l];exact r f)
 exact d7w I.kT O (c.get f) c.hd n hu (WL ru) (h u _ (I.tok _) ru)
def O7{m:Str}{g:ag}{pl:Sem Bool}{Q:ai×List ai->av->Prop}(I:Inv X aa Z H s)(e:H a=some (.ins C dx fs))(c:qQ X.K C)(k:Meth X.K C m g)(l:fs.lookup m=none)
  (h:Q (.ref g,[.ref a]) s):wpAny (model X.prog X.w) A (getMethod (.ref a) m pl) Q E s:=by
 obtain⟨mA,O,r,_,_,_⟩:=Lf I.bx e;have hn:mA m=none:=iU.none_of (by rw[<-l];exact r m)
 exact Yk I.kT O (c.get m) k.at_ k.fn hn h
def O8{y:V}{Q:Unit->av->Prop}(I:Inv X aa Z H s)(e:H a=some (.ins C dx fs))(c:qQ X.K C)(n:fY X.K C f)(hl:fs.length<1000)(ry:RelV y u)
  (h:∀s',Inv X aa Z (upd H a (.ins C dx (dI f y fs))) s'->Q () s'):wpAny (model X.prog X.w) A (setAttr (.ref a) f u) Q E s:=by
 obtain⟨mA,O,r,wi,_,ho⟩:=Lf I.bx e;have hz:(fs.map (·.1)).length<=sizeLine:=by rw[bj,sizeLine_eq];lia
 refine d7x I.kT O c.sa c.po n.Gi c.hd wi hz λh' O' sb=>h _ ?_
 have hd:∃o,h'.get? dx=some o:=let ⟨o,_,_,e',_⟩:=O'.ns;⟨o,e'⟩
 refine I.write (x:=a) (e:=dx) (by rw[e];exact vS) (.inr ho) (λb q hb z=>(sb.2 b hb).trans z) hd ?_
 refine⟨by rw[dc O.ne];exact ho,?_,O.ne,O'.obj,_,O'.ns,λg=>?_,λg hg=>?_⟩
 .have:=OW f y fs;lia
 .show iU ((dI f y fs).lookup g) (if g=f then some u else mA g)
  rw[OV];by_cases q:g=f
  .rw[bK q,bK q];exact ry
  .rw[bD q,bD q];exact r g
 .by_cases q:g=f
  .rw[q];exact(KH f y fs).1
  .refine(KH f y fs).2 g (wi g λz=>hg ?_)
   show(if g=f then some u else mA g)=none
   rw[bD q];exact z
def Inv.made(I:Inv X aa Z H s):Inv X aa Z (upd (upd H s.heap.objs.size (.own (s.heap.objs.size+1))) (s.heap.objs.size+1) (.ins C s.heap.objs.size []))
  {s with heap:=(s.heap.push PySem.W.emptyDict).push (PySem.W.instObj C s.heap.objs.size)}:=by
 have e1:(s.heap.push PySem.W.emptyDict).get? s.heap.objs.size=some PySem.W.emptyDict:=jP s.heap rfl;have e2:((s.heap.push PySem.W.emptyDict).push (PySem.W.instObj C s.heap.objs.size)).get? (s.heap.objs.size+1)=some (PySem.W.instObj C s.heap.objs.size):=by
  have:=jP (s.heap.push PySem.W.emptyDict) (o:=PySem.W.instObj C s.heap.objs.size) rfl
  rwa[Heap.size_push] at this
 have e3:(s.heap.push PySem.W.emptyDict).Ns s.heap.objs.size (λ_=>none):=⟨PySem.W.emptyDict,#[],_,e1,rfl,(λe he=>cJ he (by simp)),λ_=>rfl⟩
 have I1:=I.laid (a:=s.heap.objs.size) (o:=.own (s.heap.objs.size+1)) (h':=s.heap.push PySem.W.emptyDict) (t':=s.toks) (λb u q=>dy _ q) (bV _) ⟨_,e1⟩
 refine I1.laid (a:=s.heap.objs.size+1) (o:=.ins C s.heap.objs.size []) (t':=s.toks) (λb u q=>dy _ q) (Gw (Heap.size_push _ _)) ?_
 have ne:s.heap.objs.size≠s.heap.objs.size+1:=g_ (yq _);refine⟨by rw[dc ne,aK],nK _,ne,e2,λ_=>none,(Heap.Ns1.of_empty e3).at λo q=>dy _ q,λ_=>vS,λy hy=>cJ rfl hy⟩
def d7y{prog:c7}{w:cB}{env:Env}{e:Expr}{pos:Pos}{s:av}(hb:attributeBase e f env (eval e env)=eval e env)
  (h:wpAny (model prog w) A (eval e env) (λo s₁=>wpAny (model prog w) A (getAttr o f true) Q E s₁) E s):wpAny (model prog w) A (eval (.Attribute e f pos) env) Q E s:=
 Attribute_any_ h (by rw[arm_eval_Attribute,hb])
end
def NC(K:aL)(ta:TE)(f:Str):TE:=λZ H Q=>ta Z H λx H1=>∃a C dx fs v,x=.ref a/\H1 a=some (.ins C dx fs)/\qQ K C/\fY K C f/\fs.lookup f=some v/\Q v H1
def Np(K:aL)(ta tv:TE)(f:Str):TS:=λD Z H=>tv Z H λy H1=>ta Z H1 λx H2=>∃a C dx fs,x=.ref a/\H2 a=some (.ins C dx fs)/\qQ K C/\fY K C f/\fs.length<1000/\
 D.nx Z (upd H2 a (.ins C dx (dI f y fs)))
def zT(X:Cx)(op:Operator)(rd:V->V->Hp->VK->Prop):Prop:=
 ∀(aa:List (ag×Obj)) (s:av) (Z:St) (H:Hp) (x y:V) (u v:ai) (Q:VK),Inv X aa Z H s->RelV x u->RelV y v->rd x y H Q->wpAny (model X.prog X.w) X.A (inplaceOp op u v) (EP X aa Z Q) X.xe s
def d7z(K:aL)(ta tv:TE)(rd:V->V->Hp->VK->Prop)(f:Str):TS:=λD Z H=>ta Z H λx H1=>∃a C dx fs v,x=.ref a/\H1 a=some (.ins C dx fs)/\qQ K C/\fY K C f/\fs.lookup f=some v/\
 tv Z H1 λy H2=>rd v y H2 λz H3=>∃LU CC,H3 a=some (.ins C LU CC)/\CC.length<1000/\D.nx Z (upd H3 a (.ins C LU (dI f z CC)))
section
variable{X:Cx}{o e value:Expr}{f:Str}{pos pos' fL:Pos}{ta tv:TE}
def e4r(he:PE X e ta)(hb:attributeBase e f X.env (eval e X.env)=eval e X.env):PE X (.Attribute e f pos) (NC X.K ta f):=by
 intro aa s Z H Q I h;refine d7y hb (bI (he aa s Z H _ I h) λu s1 hh=>?_)
 obtain⟨x,H1,I1,rx,a,C,dx,fs,v,ex,ea,c,n,l,q⟩:=hh;subst ex;obtain rfl:u=Value.ref a:=rx;exact O6 I1 ea c n l λu' s2 I2 ru=>⟨v,H1,I2,ru,q⟩
def e4s(ha:PE X o ta)(hv:PE X value tv)(hs:swapsWith value (some (.Attribute o f pos')) pos.line X.env=pure false):PS X (.Assign [.Attribute o f pos'] value pos) (Np X.K ta tv f):=by
 intro aa s Z H D I h;refine plainObj_wpAny_Assign_Attribute (bI (hv aa s Z H _ I h) λu s1 ⟨y,H1,I1,ry,q⟩=>bI (ha aa s1 Z H1 _ I1 q) λov s2 ⟨x,H2,I2,rx,a,C,dx,fs,ex,ea,c,n,l,q2⟩=>?_) hs
 subst ex;obtain rfl:ov=Value.ref a:=rx;exact O8 I2 ea c n l ry λs3 I3=>⟨Z,_,I3,q2⟩
def WM{op:Operator}{rd:V->V->Hp->VK->Prop}(ha:PE X o ta)(hv:PE X value tv)(AZ:zT X op rd):PS X (.AugAssign (.Attribute o f fL) op value pos) (d7z X.K ta tv rd f):=by
 intro aa s Z H D I h;refine wpAny_AugAssign_AttributeAny (bI (ha aa s Z H _ I h) λov s1 hh=>?_)
 obtain⟨x,H1,I1,rx,a,C,dx,fs,v,ex,ea,c,n,l,q⟩:=hh;subst ex;obtain rfl:ov=Value.ref a:=rx;refine O6 I1 ea c n l λu s2 I2 ru=>bI (hv aa s2 Z H1 _ I2 q) λw3 s3 ⟨y,H2,I3,ry,q3⟩=>bI (AZ aa s3 Z H2 v y u w3 _ I3 ru ry q3) λw4 s4 ⟨z,H3,I4,rz,LU,CC,ea',l',q4⟩=>?_
 exact O8 I4 ea' c n l' rz λs5 I5=>⟨Z,_,I5,q4⟩
def Ni:V->V->Hp->VK->Prop:=λx y H Q=>∃i j,x=.int i/\y=.int j/\Q (.int (i+j)) H
def e4t:zT X .Add Ni:=by
 rintro aa s Z H x y u v Q I rx ry ⟨i,j,rfl,rfl,q⟩;obtain⟨t,rfl⟩:=(show ∃t,u=Value.int i t from rx);obtain⟨t',rfl⟩:=(show ∃t',v=Value.int j t' from ry);exact PyProof.Rows.iadd_int ⟨.int (i+j),H,I.tok _,⟨_,rfl⟩,q⟩
end
section
variable{X:Cx}{aa:List (ag×Obj)}{Z:St}{H:Hp}{s:av}{A:cR}{E:ai->av->Prop}{Q:ai->av->Prop}{c:ai}{b:Bool}
inductive lj (K:aL) (H:Hp):V->ai->Prop where
 |aH:lj K H .aH (.type "NoneType")
 |bl (x:Bool):lj K H (.bl x) (.type "bool")
 |int (i:Int):lj K H (.int i) (.type "int")
 |str (x:Str):lj K H (.str x) (.type "str")
 |yP (x:UInt64):lj K H (.yP x) (.type "float")
 |lst {a:ag} {xs:List V} (e:H a=some (.lst xs)):lj K H (.ref a) (.type "list")
 |Y {a:ag} {o:Obj} {xs:List V} (e:H a=some (.Y o (.lst xs))):lj K H (.ref a) (.type "list")
 |tup {a:ag} {xs:List V} (e:H a=some (.tup xs)):lj K H (.ref a) (.type "tuple")
 |dK {a:ag} {kvs:List (Key×V)} (e:H a=some (.dK kvs)):lj K H (.ref a) (.type "dict")
 |dT {a:ag} {kvs:List (List Key×V)} (e:H a=some (.dT kvs)):lj K H (.ref a) (.type "dict")
 |ins {a C dx:ag} {fs:List (Str×V)} (e:H a=some (.ins C dx fs)) (cl:qQ K C) (ha:PySem.W.findIn K (.ref C) "__class__"=some (some (.builtin "object.__class__")))
   (hn:PySem.W.specialIn K (.builtin "object.__class__") "__get__"=some (some (.builtin "getset_descriptor.__get__"))) (Uq:PySem.W.takesIn K (.builtin "object.__class__")=some true)
   (hm:PySem.W.mroIn K C (.type "object")=some true):lj K H (.ref a) (.ref C)
end
variable{k:Nat}{A:cR}{C f:ag}{us:List ai}{kw:List (Str×ai)}{P:c7}{w:cB}{K:aL}{mg:Str->aj ai}{base:bP}{outer:List Env}{s:av}{H:Hp}{Q:VK}{ps N:List Str}{aa:List (ag×Obj)}{Z:St}{vs:List V}{qual:Str}{scope:Scope}
structure cx (k:Nat) (A:cR):Prop where
 hd:A.handled=none
 dp:A.depth+3*k+5<recursionLimit
 un:A.units+16*k+200<cLine
def cx.mono{j:Nat}(r:cx k A)(h:j<=k):cx j A:=⟨r.hd,by have:=r.dp;lia,by have:=r.un;lia⟩
def cx.deeper{k:Nat}{A:cR}(r:cx (k+1) A)(env:Env):cx k (A.deeper env):=
 ⟨r.hd,by have:=r.dp;show A.depth+1+3*k+5<_;lia,by have:=r.un;show A.units+3+16*k+200<_;lia⟩
def V6:(A.under (.builtin "type.__call__" ⟨.ref C::us,kw⟩)).depth=A.depth+1:=by
 rfl
def V7:(A.under (.builtin "type.__call__" ⟨.ref C::us,kw⟩)).units=A.units+1:=by
 rfl
def cx.make(r:cx (k+1) A)(C:ag)(us:List ai)(kw:List (Str×ai)):cx k (A.under (.builtin "type.__call__" ⟨.ref C::us,kw⟩)):=
 ⟨r.hd,by have:=r.dp;rw[V6];lia,by have:=r.un;rw[V7];lia⟩
def cx.depth{k:Nat}{A:cR}(r:cx k A):A.depth<recursionLimit:=by have:=r.dp;lia
def cx.units{k:Nat}{A:cR}(r:cx k A):A.units+64<cLine:=by have:=r.un;lia
def yb:TA:=λ_ H Q=>Q [] H
def vF(ta:TE)(tr:TA):TA:=λZ H Q=>ta Z H λx H1=>tr Z H1 λxs H2=>Q (x::xs) H2
section
variable{X:Cx}{e:Expr}{es:List Expr}{te:TE}{t:TA}{pos:Pos}
def oA:PA X [] yb:=λ_ _ _ _ H Q I h=>Calls.spliced_nil ⟨[],H,I,.nil,h⟩
def H_(ha:PE X e te)(hr:PA X es t)(hs:starEach (e::es) X.env=(false,eval e X.env)::starEach es X.env:=by rfl):PA X (e::es) (vF te t):=by
 intro pos aa s Z H Q I h;rw[hs];show wpAny _ _ (spliced ((false,eval e X.env)::backTo pos (starEach es X.env))) _ _ s;refine Calls.spliced_cons (bI (ha aa s Z H _ I h) λu s1 hh=>?_)
 obtain⟨x,H1,I1,r1,q1⟩:=hh;exact bI (hr pos aa s1 Z H1 _ I1 q1) λus s2 ⟨xs,H2,I2,r2,q2⟩=>⟨x::xs,H2,I2,.cons r1 r2,q2⟩
def NK(t:TA):TE:=λZ H Q=>t Z H λxs H1=>xs.length<=sizeLine/\∀p,H1 p=none->Q (.ref p) (upd H1 p (.tup xs))
def NG(t:TA):TE:=λZ H Q=>t Z H λxs H1=>xs.length<=sizeLine/\∀p,H1 p=none->Q (.ref p) (upd H1 p (.lst xs))
def e4u{x1}(h:PA X es t):PE X (.Tuple es x1 pos) (NK t):=by
 intro aa s Z H Q I hq;refine wpAny_Tuple_spliced (bI (h pos aa s Z H _ I hq) λus s1 ⟨xs,H1,I1,r,z,q⟩=>⟨by rw[<-r.length];exact z,?_⟩)
 have hf:H1 s1.heap.objs.size=none:=I1.bx.fresh (bV _);refine⟨.ref s1.heap.objs.size,upd H1 s1.heap.objs.size (.tup xs),I1.laid (t':=s1.toks) (λb u e=>dy _ e) (bV _) ?_,rfl,q _ hf⟩
 exact⟨z,us,r,⟨_,jP _ rfl,rfl,_,rfl⟩⟩
def e4v(h:PA X es t):PE X (.List es pos) (NG t):=by
 intro aa s Z H Q I hq;refine wpAny_List_spliced (bI (h pos aa s Z H _ I hq) λus s1 ⟨xs,H1,I1,r,z,q⟩=>⟨by rw[<-r.length];exact z,?_⟩)
 have hf:H1 s1.heap.objs.size=none:=I1.bx.fresh (bV _);refine⟨.ref s1.heap.objs.size,upd H1 s1.heap.objs.size (.lst xs),I1.laid (t':=s1.toks) (λb u e=>dy _ e) (bV _) ?_,rfl,q _ hf⟩
 exact⟨z,us,0,r,jP _ rfl⟩
end
abbrev Sp:=List V->Hp->VK->XK->Prop
abbrev vU:=List Env->Hp->av->XK->ai->av->Prop
variable{CX:vU}
structure qR (P:c7) (w:cB) (K:aL) (mg:Str->aj ai) (base:bP) (A:cR) (outer:List Env) (s:av) (H:Hp):Prop where
 frames:A.frames=some outer
 mod:Mod K mg base
 bs:∀b o,base.get? b=some o->s.heap.get? b=some o/\H b=none
 uP:base.objs.size<=s.heap.objs.size
 jm:s.heap.FunFrames base outer
 xw:∀b∈lO outer,H b=none
 bx:jI P w H s.heap
 bare:AllBare s.gens
def CE(outer:List Env)(P:c7)(w:cB)(H:Hp)(s:av)(Q:VK)(u:ai)(s':av):Prop:=
 ∃v H',s'.os=s.os/\AllBare s'.gens/\Un (lO outer) [] H H' s.heap s'.heap/\jI P w H' s'.heap/\RelV v u/\Q v H'
def CR(CX:vU)(outer:List Env)(P:c7)(w:cB)(H:Hp)(s:av)(Q:VK)(E:XK)(r:Result)(s':av):Prop:=
 match r with
 |.ok (.ret u)=>CE outer P w H s Q u s'
 |.ok _=>False
 |.error e=>CX outer H s E e s'
structure dA (P:c7) (w:cB) (K:aL) (mg:Str->aj ai) (base:bP) (CX:vU) (k:Nat) (f:ag) (fd:bJ) (ps:List Str) (sp:Sp):Prop where
 len:∀vs H Q E,sp vs H Q E->vs.length=ps.length
 run:∀(A:cR) (outer:List Env) (s:av) (H:Hp) (args:Args) (us:List ai) (vs:List V) (Q:VK) (E:XK),cx k A->qR P w K mg base A outer s H->BindsTo s fd args (ps.zip us)->Vals vs us->sp vs H Q E->
  codeAny (model P w) A (.call (.ref f) args) (CR CX outer P w H s Q E) s
def qR.make(e:qR P w K mg base A outer s H)(C:ag)(us:List ai)(kw:List (Str×ai)):
  qR P w K mg base (A.under (.builtin "type.__call__" ⟨.ref C::us,kw⟩)) outer s H:=⟨by first|exact e.frames|(simpa[Around.under,Code.envs,Code.isFrame,pushEnvs] using e.frames),e.mod,e.bs,e.uP,e.jm,e.xw,e.bx,e.bare⟩
section
variable{X:Cx}{aa:List (ag×Obj)}{Z:St}{H:Hp}{s s':av}
def Inv.EE(I:Inv X aa Z H s):qR X.prog X.w X.K X.mg X.base X.A X.stack s H:=
 ⟨I.ok.frames,I.ok.mod,I.bs,kx I.ok.uP I.sz,I.stack,I.kW,I.bx,I.bare⟩
def Inv.after{u:ai}(I:Inv X aa Z H s)(h:CE X.stack X.prog X.w H s Q u s'):EP X aa Z Q u s':=by
 obtain⟨v,H',os,bare,un,bx,r,q⟩:=h;obtain⟨hh,g,d,t,os'⟩:=s';obtain rfl:os'=s.os:=os;exact⟨v,H',I.call (h':=hh) (g':=g) (d':=d) (t':=t) (ch:=[]) un bx bare (λb z=>cJ z (by simp)),r,q⟩
end
def Gd(sp:Sp)(mH:List V)(E:St->XK)(t:TA):TE:=λZ H Q=>t Z H λvs H1=>sp (vs++mH) H1 Q (E Z)
def vG(C:ag)(m:Str)(sp:Sp)(mH:List V)(E:St->XK)(ta:TE)(t:TA):TE:=λZ H Q=>ta Z H λx H1=>∃a dx fs,x=.ref a/\H1 a=some (.ins C dx fs)/\fs.lookup m=none/\
 t Z H1 λvs H2=>sp (x::(vs++mH)) H2 Q (E Z)
def zE(C:ag)(sp:Sp)(mH:List V)(E:St->XK)(t:TA):TE:=λZ H Q=>t Z H λvs H1=>∀x dx,H1 x=none->H1 dx=none->dx≠x->
 sp (.ref x::(vs++mH)) (upd (upd H1 dx (.own x)) x (.ins C dx [])) (λv H2=>v=.aH/\Q (.ref x) H2) (E Z)
def Binds(K:aL)(fd:bJ)(ps:List Str)(ds:List ai):Prop:=
 ∀(s:av) (us:List ai),K.In s.heap->(us++ds).length=ps.length->BindsTo s fd ⟨us,[]⟩ (ps.zip (us++ds))
def Binds.all{fd:bJ}(h:∀us:List ai,us.length=ps.length->bindArgs fd ⟨us,[]⟩=pure (ps.zip us)):Binds K fd ps []:=λs us _ hl=>by
 rw[kY] at hl ⊢;exact .of_eq (h us hl)
def An(CX:vU)(X:Cx)(E:St->XK):Prop:=∀(aa:List (ag×Obj)) (Z:St) (H:Hp) (s:av) (e:ai) (s':av),Inv X aa Z H s->CX X.stack H s (E Z) e s'->X.xe e s'
section
variable{X:Cx}{CX:vU}{k:Nat}{f C:ag}{fd:bJ}{ps:List Str}{sp:Sp}{mH:List V}{ds:List ai}{E:St->XK}{x m:Str}{p pos apos:Pos}{e o:Expr}{es:List Expr}{ta:TE}{t:TA}
def Lv(F:dA X.prog X.w X.K X.mg X.base CX k f fd ps sp)(hr:cx k X.A)(hb:Binds X.K fd ps ds)(hd:Vals mH ds)(hx:An CX X E)
  (I:Inv X aa Z H s) (r:Vals vs us) (h:sp (vs++mH) H Q (E Z)):wpAny (model X.prog X.w) X.A (call (.ref f) us) (EP X aa Z Q) X.xe s:=by
 have r2:Vals (vs++mH) (us++ds):=r.append hd;have hl:(us++ds).length=ps.length:=by rw[<-r2.length];exact F.len _ _ _ _ h
 refine wpAny_call (codeAny_mono (F.run X.A X.stack s H ⟨us,[]⟩ (us++ds) (vs++mH) Q (E Z) hr I.EE (hb s us I.kT hl) r2 h) λr s' hq=>?_)
 cases r with
 |error e=>exact hx aa Z H s e s' I hq
 |ok fl=>
  cases fl with
  |ret u=>exact I.after hq
  |next=>exact False.elim hq
  |brk=>exact False.elim hq
  |cont=>exact False.elim hq
def d8a(F:dA X.prog X.w X.K X.mg X.base CX k f fd ps sp)(hr:cx k X.A)(hg:Gl X x)(hm:X.mg x=some (.ref f))(hk:PySem.W.keepIn X.K (.ref f)=true)(hb:Binds X.K fd ps ds)(hd:Vals mH ds)(hx:An CX X E)
  (ha:PA X (e::es) t) (lT:(x == ("__debug__":Str))=false:=by decide) (he:starEach (e::es) X.env=(false,eval e X.env)::starEach es X.env:=by rfl) (kS:(backTo pos (starEach es X.env)).any (·.1)=false:=by rfl) :
  PE X (.Call (.Name x p) (e::es) [] pos) (Gd sp mH E t):=by
 intro aa s Z H Q I h;refine wpAny_Call_Name_kw (Cj I hg hm ?_ lT);refine PySem.W.callWith_K (h₀:=X.base) I.ok.mod.CM hk (bI (ha pos aa s Z H _ I h) λus s1 ⟨vs,H1,I1,r,q⟩=>⟨I1.kT,?_⟩) he kS
 exact Lv F hr hb hd hx I1 r q
def d8b{pl:Sem Bool}(he:PE X o ta)(c:qQ X.K C)(hm:Meth X.K C m f)(F:dA X.prog X.w X.K X.mg X.base CX k f fd ps sp)(hr:cx k X.A)(hb:Binds X.K fd ps ds)(hd:Vals mH ds)(hx:An CX X E)(ha:PA X (e::es) t)
  (lV:starEach (e::es) X.env=(false,eval e X.env)::starEach es X.env:=by rfl) (kS:(backTo pos (starEach es X.env)).any (·.1)=false:=by rfl)
  (ht:eval (.Call (.Attribute o m apos) (e::es) [] pos) X.env=(do
   let ov <-eval o X.env
   standAt apos.atName
   let (f,first) <-holding [ov] (getMethod ov m pl)
   callWith pos f first (backTo pos (starEach (e::es) X.env)) (backToKw pos (keywordEach [] X.env))):=by rfl) :
  PE X (.Call (.Attribute o m apos) (e::es) [] pos) (vG C m sp mH E ta t):=by
 intro aa s Z H Q I h;refine PySem.W.methodCall_KW (pl:=pl) (bI (he aa s Z H _ I h) λu s1 hh=>?_) ht
 obtain⟨x,H1,I1,rx,a,dx,fs,ex,ea,l,q⟩:=hh;subst ex;obtain rfl:u=Value.ref a:=rx;refine O7 I1 ea c hm l ?_;refine PySem.W.callWith_K (first:=[.ref a]) (h₀:=X.base) I.ok.mod.CM hm.kp (bI (ha pos aa s1 Z H1 _ I1 q) λus s2 ⟨vs,H2,I2,r,q2⟩=>⟨I2.kT,?_⟩) lV kS
 exact Lv (us:=.ref a::us) (vs:=.ref a::vs) F hr hb hd hx I2 (.cons rfl r) q2
def Ym{pl:Sem Bool}(he:PE X o ta)(c:qQ X.K C)(hm:Meth X.K C m f)(F:dA X.prog X.w X.K X.mg X.base CX k f fd ps sp)(hr:cx k X.A)(hb:Binds X.K fd ps ds)(hd:Vals mH ds)(hx:An CX X E)
  (ht:eval (.Call (.Attribute o m apos) [] [] pos) X.env=(do
   let ov <-eval o X.env
   standAt apos.atName
   let (f,first) <-holding [ov] (getMethod ov m pl)
   callWith pos f first (backTo pos (starEach [] X.env)) (backToKw pos (keywordEach [] X.env))):=by rfl) :
  PE X (.Call (.Attribute o m apos) [] [] pos) (vG C m sp mH E ta yb):=by
 intro aa s Z H Q I h;refine PySem.W.methodCall_KW (pl:=pl) (bI (he aa s Z H _ I h) λu s1 hh=>?_) ht
 obtain⟨x,H1,I1,rx,a,dx,fs,ex,ea,l,q⟩:=hh;subst ex;obtain rfl:u=Value.ref a:=rx;refine O7 I1 ea c hm l ?_;exact PySem.W.callWith_K0 (first:=[.ref a]) I1.kT hm.kp (Lv (us:=[.ref a]) (vs:=[.ref a]) F hr hb hd hx I1 (.cons rfl .nil) q)
structure Mk (K:aL) (C f:ag):Prop where
 makes:PySem.W.makesIn K C=true
 init:PySem.W.findIn K (.ref C) "__init__"=some (some (.ref f))
 fn:PySem.W.isFn K (.ref f)=true
 kp:PySem.W.keepIn K (.ref C)=true
def Yn(M:Mk X.K C f)(F:dA X.prog X.w X.K X.mg X.base CX k f fd ps sp)(hr:cx (k+1) X.A)(hb:Binds X.K fd ps ds)(hd:Vals mH ds)
  (hx:An CX X E) (I:Inv X aa Z H s) (r:Vals vs us)
  (h:∀x dx,H x=none->H dx=none->dx≠x->sp (.ref x::(vs++mH)) (upd (upd H dx (.own x)) x (.ins C dx [])) (λv H2=>v=.aH/\Q (.ref x) H2) (E Z)) :
  wpAny (model X.prog X.w) X.A (call (.ref C) us) (EP X aa Z Q) X.xe s:=by
 have hq:=h (s.heap.objs.size+1) s.heap.objs.size (I.bx.fresh (zH _)) (I.bx.fresh (bV _)) (g_ (yq _));have I2:=Inv.made (C:=C) I;have r2:Vals (V.ref (s.heap.objs.size+1)::(vs++mH)) (Value.ref (s.heap.objs.size+1)::(us++ds)):=.cons rfl (r.append hd);have hl:(Value.ref (s.heap.objs.size+1)::us++ds).length=ps.length:=by
  have e:=r2.length;rw[F.len _ _ _ _ hq] at e;exact e.symm
 refine wpAny_call (Yl (f:=f) I.kT M.makes M.init (beq_iff_eq.mp M.fn) (codeAny_mono (F.run _ X.stack _ _ ⟨Value.ref (s.heap.objs.size+1)::us,[]⟩ (Value.ref (s.heap.objs.size+1)::(us++ds)) _ _ (E Z) (hr.make C us []) (I2.EE.make C us []) (hb _ (Value.ref (s.heap.objs.size+1)::us) I2.kT hl) r2 hq) λr s' E6=>?_))
 cases r with
 |error e=>exact hx aa Z _ _ e s' I2 E6
 |ok fl=>
  cases fl with
  |ret u=>
   obtain⟨v,H',I3,rv,ev,q3⟩:=I2.after E6;subst ev;exact⟨rv,⟨V.ref (s.heap.objs.size+1),H',I3,rfl,q3⟩⟩
  |next=>exact False.elim E6
  |brk=>exact False.elim E6
  |cont=>exact False.elim E6
def d8c(M:Mk X.K C f)(F:dA X.prog X.w X.K X.mg X.base CX k f fd ps sp)(hr:cx (k+1) X.A)(hg:Gl X x)(hm:X.mg x=some (.ref C))(hb:Binds X.K fd ps ds)(hd:Vals mH ds)(hx:An CX X E)
  (ha:PA X (e::es) t) (lT:(x == ("__debug__":Str))=false:=by decide) (he:starEach (e::es) X.env=(false,eval e X.env)::starEach es X.env:=by rfl) (kS:(backTo pos (starEach es X.env)).any (·.1)=false:=by rfl) :
  PE X (.Call (.Name x p) (e::es) [] pos) (zE C sp mH E t):=by
 intro aa s Z H Q I h;refine wpAny_Call_Name_kw (Cj I hg hm ?_ lT);refine PySem.W.callWith_K (h₀:=X.base) I.ok.mod.CM M.kp (bI (ha pos aa s Z H _ I h) λus s1 ⟨vs,H1,I1,r,q⟩=>⟨I1.kT,?_⟩) he kS
 exact Yn M F hr hb hd hx I1 r q
end
section
variable{X:Cx}{CX:vU}{k:Nat}{f C:ag}{fd:bJ}{ps ks:List Str}{sp:Sp}{E:St->XK}{x m:Str}{p pos apos kpos:Pos}{e o:Expr}{es:List Expr}{kws:List Keyword}{te ta:TE}{t tk:TA}{nm:aj Str}
structure KBinds (K:aL) (fd:bJ) (ps ks:List Str) (g:List ai->List ai->List ai) (gV:List V->List V->List V):Prop where
 to:∀(s:av) (us ws:List ai),K.In s.heap->(g us ws).length=ps.length->BindsTo s fd ⟨us,ks.zip ws⟩ (ps.zip (g us ws))
 rel:∀{vs:List V} {us:List ai} {zs:List V} {ws:List ai},Vals vs us->Vals zs ws->Vals (gV vs zs) (g us ws)
variable{g:List ai->List ai->List ai}{gV:List V->List V->List V}
end
structure gG (N P:List Str) (sc:Scope):Prop where
 kind:sc.kind=.function
 co:sc.isCoroutine=false
 gen:sc.isGenerator=false
 nd:N.Nodup
 pre:N.take P.length=P
 par:∀x∈P,sc.names.lookup x=some .local \/ sc.names.lookup x=some .cell
 Bb:∀y∈sc.names,y.2≠.free
theorem Po{kindOf:Str->aj rJ}{x:Str}:∀{binds:List (Str×ai)} {m:Str->aj ai},(∀v,(x,v)∉binds)->bindL kindOf binds m x=m x
 |[],_,_=>rfl
 |(n,v)::r,m,h=>by
  unfold bindL;rw[Po λw hw=>h w (tW _ hw)]
  split
  .have:x≠n:=by rintro rfl;exact h v CZ
   simp[this]
  .rfl
theorem Pp{kindOf:Str->aj rJ}{x:Str}:∀{binds:List (Str×ai)} {m:Str->aj ai},(∀v,(x,v)∉binds)->bindC kindOf binds m x=m x
 |[],_,_=>rfl
 |(n,v)::r,m,h=>by
  unfold bindC;rw[Pp λw hw=>h w (tW _ hw)]
  split
  .rfl
  .have:x≠n:=by rintro rfl;exact h v CZ
   simp[this]
theorem Pq{kindOf:Str->aj rJ}{x:Str}{v:ai}:∀{P:List Str} {vs:List ai} {i:Nat} {m:Str->aj ai},P.Nodup->P[i]?=some x->vs[i]?=some v->kindOf x=some .local ->
  bindL kindOf (P.zip vs) m x=some v
 |[],_,_,_,_,h,_,_=>by simp at h
 |_::_,[],_,_,_,_,h,_=>by simp at h
 |p::P,w::vs,0,m,nd,h1,h2,hk=>by
  simp at h1 h2;subst h1;subst h2;show bindL kindOf ((p,w)::P.zip vs) m p=_;unfold bindL;rw[Po λv hv=>(t_.mp nd).1 (List.of_mem_zip hv).1,bK hk]
  simp
 |p::P,w::vs,i+1,m,nd,h1,h2,hk=>by
  show bindL kindOf ((p,w)::P.zip vs) m x=_;unfold bindL;exact Pq (i:=i) (t_.mp nd).2 (by simpa using h1) (by simpa using h2) hk
theorem Pu{kindOf:Str->aj rJ}{x:Str}{v:ai}:∀{P:List Str} {vs:List ai} {i:Nat} {m:Str->aj ai},P.Nodup->P[i]?=some x->vs[i]?=some v->kindOf x≠some .local ->
  bindC kindOf (P.zip vs) m x=some v
 |[],_,_,_,_,h,_,_=>by simp at h
 |_::_,[],_,_,_,_,h,_=>by simp at h
 |p::P,w::vs,0,m,nd,h1,h2,hk=>by
  simp at h1 h2;subst h1;subst h2;show bindC kindOf ((p,w)::P.zip vs) m p=_;unfold bindC;rw[Pp λv hv=>(t_.mp nd).1 (List.of_mem_zip hv).1,bD hk]
  simp
 |p::P,w::vs,i+1,m,nd,h1,h2,hk=>by
  show bindC kindOf ((p,w)::P.zip vs) m x=_;unfold bindC;exact Pu (i:=i) (t_.mp nd).2 (by simpa using h1) (by simpa using h2) hk
noncomputable def start(N:List Str)(vs:List V):St:=vs.map some++List.replicate (N.length - vs.length) none
noncomputable def mG(CX:vU)(P:c7)(w:cB)(K:aL)(mg:Str->aj ai)(base:bP)(N:List Str)(qual:Str)(scope:Scope)(f:ag)(cd:ai)(A:cR)(outer:List Env)(s:av)(H:Hp)(E:XK):Cx where
 prog:=P
 w:=w
 K:=K
 mg:=mg
 base:=base
 A:=A.deeper (envOfC qual scope s.heap.objs.size f cd)
 N:=N
 s₀:=s
 H₀:=H
 env:=envOfC qual scope s.heap.objs.size f cd
 outer:=outer
 stack:=envOfC qual scope s.heap.objs.size f cd::outer
 ex:=[]
 calm:=true
 fn:=λ_=>true
 pn:=[]
 xe:=λe s'=>wpAny (model P w) (A.deeper (envOfC qual scope s.heap.objs.size f cd)) (leaving (envOfC qual scope s.heap.objs.size f cd) e) (λ_ vD=>CX outer H s E e vD) (λe' vD=>CX outer H s E e' vD) s'
def Qf{sc:Scope}{n:Nat}{x:Str}(h:sc.names.lookup x=some .cell):∃c,(cellsFrom n sc.names []).lookup x=some c:=by
 have q:=PySem.W.cellsFrom_some sc.names n [] (.inl h);exact Option.isSome_iff_exists.mp q
def WN{cd:ai}{s1:av}{E:XK}
  (S:gG N ps scope) (hd:A.handled=none) (e0:qR P w K mg base A outer s H) (hl:vs.length=ps.length) (r:Vals vs us)
  (x:InCallC s s.heap.objs.size (bindL (envOfC qual scope s.heap.objs.size f cd).kindOf (ps.zip us) λ_=>none) (cellsFrom (s.heap.objs.size+1) scope.names []) (bindC (envOfC qual scope s.heap.objs.size f cd).kindOf (ps.zip us) λ_=>none) s1) :
  Inv (mG CX P w K mg base N qual scope f cd A outer s H E) [] (start N vs) H s1:=by
 have kS:ps.length<=N.length:=by have:=congrArg List.length S.pre;rw[zI] at this;lia
 obtain⟨h1,tk,rfl,hk⟩:=x.done;have Fv:∀b:ag,b∉(mG CX P w K mg base N qual scope f cd A outer s H E).ex:=λb z=>cJ (show b∈([]:List ag) from z) (by simp)
 refine⟨⟨e0.mod,S.kind,rfl,rfl,bV _,λy z c h1 h2=>?_,λy hy=>?_,λy c _ h=>?_,λ_=>hd,Around.frames_deeper e0.frames,.inr ⟨rfl,rfl⟩,λb z=>cJ z (Fv b),e0.bs,e0.uP,λb _ _=>Fv b,λb z=>cJ z (Fv b),e0.jm,e0.xw⟩,rfl,e0.bare,Un.kept hk,⟨_,x.toInCall.ns,λi y v h1 h2 h3=>?_⟩,λy c h=>⟨_,x.cell y c h⟩,e0.bx.fresh (bV _),λy c h=>?_,λp hp=>cJ (show p∈([]:List (ag×Obj)) from hp) (by simp),e0.bx.kept hk,?_⟩
 .exact name_of_addr x.apart (PySem.mem_of_lookup h1) (PySem.mem_of_lookup h2)
 .have hy:scope.names.lookup y=some .cell\/scope.names.lookup y=some .free:=hy;rcases hy with hy|hy
  .exact Qf hy
  .exact cJ rfl (S.Bb _ (PySem.mem_of_lookup hy))
 .exact N3 (x.above y c (PySem.mem_of_lookup h))
 .have hi:i<vs.length:=by
   unfold start at h2;by_cases hi:i<vs.length
   .exact hi
   .rw[ua (by simpa using hi)] at h2
    rw[N5] at h2;split at h2 <;> cases h2
  have ha:vs[i]?=some v:=by
   unfold start at h2;rw[vN (by simpa using hi),fU] at h2
   cases e:vs[i]? with
   |none=>rw[e] at h2;cases h2
   |some a=>rw[e] at h2;cases h2;rfl
  obtain⟨u,hu,rv⟩:=r.get ha;have hp:ps[i]?=some y:=by
   rw[<-S.pre,List.getElem?_take_of_lt (by lia)];exact h1
  have Uz:ps.Nodup:=by rw[<-S.pre];exact S.nd.sublist (List.take_sublist _ _)
  refine⟨u,rv,?_⟩;rcases S.par y (vO hp) with k|k
  .exact .inl ⟨k,Pq Uz hp hu k⟩
  .obtain⟨c,e⟩:=Qf (n:=s.heap.objs.size+1) k;refine .inr ⟨.inl k,c,e,?_⟩;have q:=x.cell y c e;rw[Pu Uz hp hu (by show scope.names.lookup y≠_;rw[k];decide)] at q
   exact q
 .exact e0.bx.fresh (N3 (x.above y c (PySem.mem_of_lookup h)))
 .unfold start;show _=N.length
  simp_all
def f0t{name:Str}{params:Arguments}{body:List Stmt}{dV kV doc pm eV ct oc:ai}{an od:aj ag}
  {wt:Array (aj ai)}  {sp:Sp} (lk:K.lookup f=some ⟨oc,od,.func (PySem.W.fnOf name qual params body scope dV kV doc pm an eV ct),wt⟩) (tL:PySem.W.codeIn K eV qual=true) (S:gG N ps scope)
  (len:∀vs H Q E,sp vs H Q E->vs.length=ps.length)
  (u9:∀(A:cR) (outer:List Env) (s:av) (H:Hp) (vs:List V) (Q:VK) (E:XK),cx k (A.deeper (envOfC qual scope s.heap.objs.size f eV))->sp vs H Q E-> ∃t,iO (mG CX P w K mg base N qual scope f eV A outer s H E) body t/\t { nx:=λ_ H'=>Q .aH H',rt:=Q} (start N vs) H) :
  dA P w K mg base CX (k+1) f (PySem.W.fnOf name qual params body scope dV kV doc pm an eV ct) ps sp:=by
 refine⟨len,λA outer s H args us vs Q E hr e0 hb r yW=>?_⟩
 have hl:=len _ _ _ _ yW;have KX:K.In s.heap:=e0.mod.CM.keeps λb o e=>(e0.bs b o e).1
 have lim:s.heap.NoLimit:=e0.mod.nolimit.keeps λb o e=>(e0.bs b o e).1
 have E1:∀y∈ps.zip us,scope.names.lookup y.1=some .local \/ (scope.names.lookup y.1=some .cell/\((cellsFrom (s.heap.objs.size+1) scope.names []).lookup y.1).isSome=true):=λ⟨n,v⟩ hy=>by
  rcases S.par n (List.of_mem_zip hy).1 with q|q
  .exact .inl q
  .exact .inr ⟨q,PySem.W.cellsFrom_some _ _ _ (.inl q)⟩
 refine codeAny_call_function hr.depth (KX _ _ lk) rfl S.co S.gen rfl (PySem.W.codeRec_of KX tL) (hb _ _ _ _ ?_);refine wpAny_newFunctionEnv_cells S.kind E1 λenv he s1 x=>?_
 subst he;refine⟨lim.keeps x.toInCall.keep,codeAny_func ?_⟩;obtain⟨t,ht,hq⟩:=u9 A outer s H vs Q E (hr.deeper _) yW;have I:Inv (mG CX P w K mg base N qual scope f eV A outer s H E) [] (start N vs) H s1:=WN S hr.hd e0 hl r x;refine wpAny_mono (ht [] s1 (start N vs) H _ I hq) (λfl s' hs=>?_) λe s' hs=>hs
 have fin:∀{Z':St} {H':Hp} {v:V} {u:ai},Inv (mG CX P w K mg base N qual scope f eV A outer s H E) [] Z' H' s'->RelV v u->Q v H'->CE outer P w H s Q u s':=
  λ{Z' H' v u} J rv q=>⟨v,H',J.os,J.bare,J.base,J.bx,rv,q⟩
 cases fl with
 |ret u=>
  obtain⟨v,Z',H',J,rv,q⟩:=hs;exact fin J rv q
 |next=>
  obtain⟨Z',H',J,q⟩:=hs;exact fin (v:=V.aH) (u:=Value.none) J rfl q
 |brk=>
  obtain⟨_,_,_,q⟩:=hs;exact False.elim q
 |cont=>
  obtain⟨_,_,_,q⟩:=hs;exact False.elim q
section
variable{X:Cx}{x:Str}{p pos:Pos}{e:Expr}{es:List Expr}{t:TA}{id T:String}{r:List V->Hp->VK->Prop}
def UU(r:List V->Hp->VK->Prop)(t:TA):TE:=λZ H Q=>t Z H λvs H1=>r vs H1 Q
def Yo(hc:bR X (.builtin id) r)(hg:Gl X x)(hm:X.mg x=none)(hv:bootBuiltins x=some (.builtin id))(ha:PA X (e::es) t)(hn:x≠"__name__":=by decide)(lT:(x == ("__debug__":Str))=false:=by decide)
  (he:starEach (e::es) X.env=(false,eval e X.env)::starEach es X.env:=by rfl) (kS:(backTo pos (starEach es X.env)).any (·.1)=false:=by rfl):PE X (.Call (.Name x p) (e::es) [] pos) (UU r t):=by
 intro aa s Z H Q I h;refine wpAny_Call_Name_kw (yE I hg hm hv ?_ hn lT);exact PyProof.Rows.callWith_builtin1 (bI (ha pos aa s Z H _ I h) λus s1 ⟨vs,H1,I1,r1,q1⟩=>hc aa s1 Z H1 vs us Q I1 r1 q1) he kS
def WO(hc:bR X (.type T) r)(hg:Gl X x)(hm:X.mg x=none)(hv:bootBuiltins x=some (.type T))(ha:PA X (e::es) t)(hn:x≠"__name__":=by decide)(lT:(x == ("__debug__":Str))=false:=by decide)
  (he:starEach (e::es) X.env=(false,eval e X.env)::starEach es X.env:=by rfl) (kS:(backTo pos (starEach es X.env)).any (·.1)=false:=by rfl):PE X (.Call (.Name x p) (e::es) [] pos) (UU r t):=by
 intro aa s Z H Q I h;refine wpAny_Call_Name_kw (yE I hg hm hv ?_ hn lT);exact PyProof.Rows.callWith_type1 (bI (ha pos aa s Z H _ I h) λus s1 ⟨vs,H1,I1,r1,q1⟩=>hc aa s1 Z H1 vs us Q I1 r1 q1) he kS
end
end L2
namespace HT
open PySem PyProof.Rows
section
open PySem.SeqAt
open PySem.AutoSeq1 (wpAny_loadPart')
open PySem.MeetsSeq PySem.MeetsSeq2 PySem.MeetsSeq3
end
variable{sl:ag}{vl vu:ai}{lo hi:aj Int}
section
variable{prog:c7}{w:cB}{A:cR}{E:ai->av->Prop}{s:av}
def cK(n d:Nat):aj Int->Nat
 |none=>d
 |some v=>if v<0 then(v+(n:Int)).toNat else min v.toNat n
def e4w(n d:Nat)(hd:d<=n)(o:aj Int):cK n d o<=n:=by
 cases o with
 |none=>exact hd
 |some v=>
  show(if v<0 then(v+(n:Int)).toNat else min v.toNat n)<=n
  by_cases hv:v<0
  .rw[bK hv];lia
  .rw[bD hv];exact Nat.min_le_right _ _
def Q9(v:Int)(n d:Nat):(if v<0 then max (v+(n:Int)) 0 else min v (n:Int))=((cK n d (some v):Nat):Int):=by
 show(if v<0 then max (v+(n:Int)) 0 else min v (n:Int))=(((if v<0 then(v+(n:Int)).toNat else min v.toNat n):Nat):Int)
 by_cases hv:v<0
 .simp only[bK hv];lia
 .simp only[bD hv];lia
def V8(lo hi:aj Int)(n:Nat):Builtin.Slice.sliceAdjust lo hi 1 (n:Int)=(((cK n 0 lo:Nat):Int),((cK n n hi:Nat):Int)):=by
 have h1:¬((1:Int)<0):=by lia
 unfold Builtin.Slice.sliceAdjust;simp only[h1,kP];refine Prod.ext ?_ ?_
 .cases lo with
  |none=>rfl
  |some v=>exact Q9 v n 0
 .cases hi with
  |none=>rfl
  |some v=>exact Q9 v n n
def V9(i j:Nat):Builtin.Slice.slicePlaces (i:Int) (j:Int) 1=j - i:=by
 unfold Builtin.Slice.slicePlaces;have h1:(1:Int) > 0:=by lia
 simp only[h1,sR,Int.ediv_one];split <;> lia
def O9{v:ai}{o:aj Int}{Q:aj Int->av->Prop}(p:IsPart v o)(h:Q o s):wpAny (model prog w) A (Builtin.Slice.slicePartIndex v) Q E s:=by
 cases p with
 |none=>exact slicePart_none h
 |int i t=>exact slicePart_int h
def U7{n:Nat}{Q:Int×Int×Nat->av->Prop}(hs:s.heap.IsSliceOf sl vl vu .none)(pl:IsPart vl lo)(pu:IsPart vu hi)
  (h:Q (((cK n 0 lo:Nat):Int),1,cK n n hi - cK n 0 lo) s):wpAny (model prog w) A (Builtin.Slice.sliceApplied (.ref sl) (pure (n:Int))) Q E s:=by
 obtain⟨os,E5,Jd,Je⟩:=id hs;unfold Builtin.Slice.sliceApplied Builtin.Slice.sliceFields;refine aA (aA (wpAny_field E5 Je (x:=vl) rfl (aA (wpAny_field E5 Je (x:=vu) rfl (aA (wpAny_field E5 Je (x:=.none) rfl (aX ?_)))))));refine aA (slicePart_none ?_);show wpAny _ _ (if((1:Int) == 0)=true then _ else _) _ _ s
 rw[bD (by decide)]
 refine aA (O9 pl (aA (O9 pu (aA (aX ?_)))));show wpAny _ _ (match Builtin.Slice.sliceAdjust lo hi 1 (n:Int) with|(lo,hi)=>pure (lo,(1:Int),Builtin.Slice.slicePlaces lo hi 1)) _ _ s
 rw[V8 lo hi n];show wpAny _ _ (pure (((cK n 0 lo:Nat):Int),(1:Int),Builtin.Slice.slicePlaces ((cK n 0 lo:Nat):Int) ((cK n n hi:Nat):Int) 1)) _ _ s;rw[V9];exact aX h
def Yp(xs:Array ai)(i k:Nat):((List.range k).filterMap λ(m:Nat)=>xs[((i:Int)+(m:Int)*1).toNat]?).toArray=((xs.toList.drop i).take k).toArray:=by
 have e:(λ(m:Nat)=>xs[((i:Int)+(m:Int)*1).toNat]?)=λm=>xs[i+m]?:=by
  funext m;have:((i:Int)+(m:Int)*1).toNat=i+m:=by lia
  rw[this]
 rw[e];have:=pick_run xs i k;rw[List.filterMap_map] at this;have e2:((λx=>xs[x]?)∘λx=>i+x)=λm=>xs[i+m]?:=rfl
 rw[e2] at this;rw[this]
def jq{t:ag}{items:Array ai}{Q:ai->av->Prop}(ht:IsTup s.heap t items)(hs:s.heap.IsSliceOf sl vl vu .none)(pl:IsPart vl lo)(pu:IsPart vu hi)
  (hw:¬(cK items.size 0 lo=0/\cK items.size items.size hi=items.size))
  (h:Q (.ref s.heap.objs.size) { s with heap:=s.heap.push { cls:=.type "tuple",data:=.seq ((items.toList.drop (cK items.size 0 lo)).take (cK items.size items.size hi - cK items.size 0 lo)).toArray}})
  (hsz:items.size<=sizeLine):wpAny (model prog w) A (getItem (.ref t) (.ref sl)) Q E s:=by
 have su:sizeOk (.seq ((items.toList.drop (cK items.size 0 lo)).take (cK items.size items.size hi - cK items.size 0 lo)).toArray):=by
  show((items.toList.drop (cK items.size 0 lo)).take (cK items.size items.size hi - cK items.size 0 lo)).toArray.size<=sizeLine;rw[fF,zI,C1,JR];lia
 have hj:cK items.size items.size hi<=items.size:=e4w _ _ (bV _) hi;obtain⟨os,E5,Jd,Je⟩:=id hs;have hTs:s.TypeIs (.ref sl) "slice":=⟨os,E5,Jd⟩;unfold getItem;try with_reducible refine mh ?_
 first|refine aA (aX ?_)|skip
 refine aA (wpAny_sequenceKey ht.typeIs (by decide) ?_)
 refine aA (wpAny_callSpecial?_slot (name:=Str.ofString "__getitem__") ht.typeIs PyProof.Rows.slot_tuple_getitem (wpAny_call_entry PyProof.Rows.slot_tuple_getitem ht.typeIs entry_tuple_getitem ?_ (args_tuple_getitem _ _)))
 show wpAny _ _ (Builtin.Tuple.tupleItemsOf (.ref t) >>= _) _ _ s;refine aA (tupleItemsOf_ ht ?_);refine aA (wpAny_typeOf hTs ?_);rw[bK (by decide)]
 refine aA (U7 hs pl pu ?_);have wj:¬((((cK items.size 0 lo:Nat):Int) == 0&&(1:Int) == 1&&(cK items.size items.size hi - cK items.size 0 lo) == items.size)=true):=by
  lia
 show wpAny _ _ (if(((cK items.size 0 lo:Nat):Int) == 0&&(1:Int) == 1&&(cK items.size items.size hi - cK items.size 0 lo) == items.size)=true then _ else _) _ _ s
 rw[bD wj,Yp];first
  |exact aA (m:=Builtin.Tuple.tupleExact _) (wpAny_newObj_type (aX ⟨_,rfl,aX h⟩) su)
  |exact aA (m:=Builtin.Tuple.tupleExact _) (wpAny_newObj_type (aA (aX (aX ⟨_,rfl,aX h⟩))) su)
  |exact aA (aA (m:=Builtin.Tuple.tupleExact _) (wpAny_newObj_type (aX (aX ⟨_,rfl,aX h⟩)) su))
  |exact aA (aA (m:=Builtin.Tuple.tupleExact _) (wpAny_newObj_type (aX ⟨_,rfl,aX h⟩) su))
end
end HT
namespace L2
open PySem PySem.Spec PyProof.Rows
variable{r:V->aj Int->aj Int->Hp->VK->Prop}
abbrev TO:=St->Hp->(aj Int->Hp->Prop)->Prop
def PO(X:Cx)(e:aj Expr)(t:TO):Prop:=
 ∀(aa:List (ag×Obj)) (s:av) (Z:St) (H:Hp) (Q:aj Int->Hp->Prop),Inv X aa Z H s->t Z H Q->
  wpAny (model X.prog X.w) X.A (evalPart e X.env) (λu s'=>∃o H',Inv X aa Z H' s'/\IsPart u o/\Q o H') X.xe s
def d8d:TO:=λ_ H Q=>Q none H
def Gh(t:TE):TO:=λZ H Q=>t Z H λx H1=>∃i,x=.int i/\Q (some i) H1
section
variable{X:Cx}{e:Expr}{te:TE}{lo hi:aj Expr}{tl th:TO}{pos p2:Pos}
def d8e:PO X none d8d:=by
 intro aa s Z H Q I h;rw[evalPart_none];exact aX ⟨none,H,I,.none,h⟩
def d8f(h:PE X e te):PO X (some e) (Gh te):=by
 intro aa s Z H Q I hw;rw[evalPart_some];refine bI (h aa s Z H _ I hw) λu s1 hh=>?_
 obtain⟨x,H1,I1,r1,q1⟩:=hh;obtain⟨i,rfl,q⟩:=q1;obtain⟨t,rfl⟩:=r1;exact⟨some i,H1,I1,.int i t,q⟩
def uG(X:Cx)(r:V->aj Int->aj Int->Hp->VK->Prop):Prop:=
 ∀(aa:List (ag×Obj)) (s:av) (Z:St) (H:Hp) (x:V) (v vl vu:ai) (lo hi:aj Int) (sl:ag) (Q:VK),Inv X aa Z H s->RelV x v->s.heap.IsSliceOf sl vl vu .none->IsPart vl lo->IsPart vu hi->r x lo hi H Q->
  ∃T id,typeLookup (.type T) "__getitem__"=pure (some (.builtin id))/\s.TypeIs v T/\wpAny (model X.prog X.w) X.A (getItem v (.ref sl)) (EP X aa Z Q) X.xe s
def uG.or{r':V->aj Int->aj Int->Hp->VK->Prop}(h:uG X r)(h':uG X r'):uG X (λx lo hi H Q=>r x lo hi H Q\/r' x lo hi H Q):=by
 intro aa s Z H x v vl vu lo hi sl Q I rx hs pl pu q;rcases q with q|q
 .exact h aa s Z H x v vl vu lo hi sl Q I rx hs pl pu q
 .exact h' aa s Z H x v vl vu lo hi sl Q I rx hs pl pu q
def tSl(r:V->aj Int->aj Int->Hp->VK->Prop)(te:TE)(tl th:TO):TE:=λZ H Q=>te Z H λx H1=>tl Z H1 λl H2=>th Z H2 λu H3=>r x l u H3 Q
def Yq(hr:uG X r)(he:PE X e te)(hl:PO X lo tl)(hu:PO X hi th):PE X (.Subscript e (.Slice lo hi none p2) pos) (tSl r te tl th):=by
 intro aa s Z H Q I h;refine Subscript_ (bI (he aa s Z H _ I h) λv s1 hh=>?_)
 obtain⟨x,H1,I1,r1,q1⟩:=hh;refine wpAny_Slice (bI (hl aa s1 Z H1 _ I1 q1) λvl s2 ⟨l,H2,I2,pl,q2⟩=>bI (hu aa s2 Z H2 _ I2 q2) λvu s3 ⟨u,H3,I3,pu,q3⟩=>?_)
 rw[evalPart_none];refine aX ?_;have I4:Inv X aa Z H3 { s3 with heap:=s3.heap.push { cls:=.type "slice",data:=.fields #[vl,vu,.none]}}:=I3.kept (t':=s3.toks) λb ob q=>dy _ q
 obtain⟨T,id,hT,ht,hg⟩:=hr aa { s3 with heap:=s3.heap.push { cls:=.type "slice",data:=.fields #[vl,vu,.none]}} Z H3 x v vl vu l u s3.heap.objs.size Q I4 r1 (Heap.IsSliceOf.new ..) pl pu q3;show wpAny (model X.prog X.w) X.A (subscriptTail e (.Slice lo hi none p2) v (.ref s3.heap.objs.size)) (EP X aa Z Q) X.xe { s3 with heap:=s3.heap.push { cls:=.type "slice",data:=.fields #[vl,vu,.none]}};exact tail_any (ops:=[.ref s3.heap.objs.size,v]) ht hT hg (by with_unfolding_all rfl)
noncomputable def pz(xs:List V)(lo hi:aj Int):List V:=(xs.drop (HT.cK xs.length 0 lo)).take (HT.cK xs.length xs.length hi - HT.cK xs.length 0 lo)
def OX(xs:List V)(lo hi:aj Int):(pz xs lo hi).length<=xs.length:=by
 unfold pz;rw[zI,C1];lia
def Bs(K:aL):V->aj Int->aj Int->Hp->VK->Prop:=λx lo hi H Q=>∃a xs,x=.ref a/\iA K H a xs/\
 ¬(HT.cK xs.length 0 lo=0/\HT.cK xs.length xs.length hi=xs.length)/\∀p,H p=none->Q (.ref p) (upd H p (.tup (pz xs lo hi)))
def e4x:uG X (Bs X.K):=by
 intro aa s Z H x v vl vu lo hi sl Q I rx hs pl pu h;obtain⟨a,xs,rfl,hx,hw,q⟩:=h;cases rx;obtain⟨aG,r,ht,hz⟩:=I.tuple hx;have hlen:aG.toArray.size=xs.length:=by rw[fF];exact r.length.symm
 refine⟨"tuple",_,PyProof.Rows.slot_tuple_getitem.lookup,ht.typeIs,?_⟩;refine HT.jq ht hs pl pu (by rw[hlen];exact hw) ?_ (by rw[hlen];exact hz)
 rw[hlen];refine⟨.ref s.heap.objs.size,_,I.laid (t':=s.toks) (o:=.tup (pz xs lo hi)) (λb ob q=>dy _ q) (bV _) ?_,rfl,q _ (I.bx.fresh (bV _))⟩
 exact⟨kx (OX xs lo hi) hz,_,(r.drop (HT.cK xs.length 0 lo)).take (HT.cK xs.length xs.length hi - HT.cK xs.length 0 lo),IsTup.new _ _⟩
end
variable{n j:Nat}{i:Int}{r:R2}{aa:List (ag×Obj)}{Z:St}{H:Hp}{s:av}
def xK(n:Nat)(i:Int):aj Nat:=if 0<=i then(if i<n then some i.toNat else none) else if -(n:Int)<=i then some (i+n).toNat else none
def dq{α:Type}(xs:List α)(i:Int):aj α:=(xK xs.length i).bind λj=>xs[j]?
def Q_(h:xK n i=some j):seqIndex? i n=some j/\j<n /\ -(n:Int)<=i/\i<n:=by
 unfold xK at h;by_cases h0:0<=i
 .rw[bK h0] at h;by_cases h1:i<n
  .rw[bK h1] at h;have e:i.toNat=j:=Option.some.inj h;exact⟨by rw[seqIndex_of h0 h1,e],by lia,by lia,h1⟩
  .rw[bD h1] at h;cases h
 .rw[bD h0] at h;by_cases h1:-(n:Int)<=i
  .rw[bK h1] at h;have e:(i+n).toNat=j:=Option.some.inj h;exact⟨by rw[seqIndex_neg (by lia) h1,e],by lia,h1,by lia⟩
  .rw[bD h1] at h;cases h
def Lg{α:Type}{xs:List α}{v:α}(h:dq xs i=some v):∃j,seqIndex? i xs.length=some j/\xs[j]?=some v/\j<xs.length /\ -(xs.length:Int)<=i/\i<xs.length:=by
 unfold dq at h;cases e:xK xs.length i with
 |none=>rw[e] at h;cases h
 |some j=>
  rw[e] at h;obtain⟨h1,h2,h3,h4⟩:=Q_ e;exact⟨j,h1,h,h2,h3,h4⟩
def uN{α:Type}{xs:List α}{v:α}(h:xs[j]?=some v):dq xs (j:Int)=some v:=by
 have hj:j<xs.length:=(eY.mp h).1;have e:xK xs.length (j:Int)=some j:=by
  unfold xK;rw[bK (by lia),bK (by lia)];simp
 unfold dq;rw[e];exact h
def Lh(b:Expr):Prop:=∀o i,subscripted b false o i=operate [o,i] (getItem o i)
def tq(X:Cx)(r:R2):Prop:=
 ∀(value slice:Expr) (aa:List (ag×Obj)) (s:av) (Z:St) (H:Hp) (x y:V) (v u:ai) (Q:VK),Inv X aa Z H s->RelV x v->RelV y u->r x y H Q->
  subscripted slice false v u=operate [v,u] (getItem v u)->wpAny (model X.prog X.w) X.A (subscriptTail value slice v u) (EP X aa Z Q) X.xe s
def J0(X:Cx)(id:String)(r:V->List V->Hp->VK->Prop):Prop:=
 ∀(aa:List (ag×Obj)) (s:av) (Z:St) (H:Hp) (x:V) (xs:List V) (v:ai) (us:List ai) (Q:VK),Inv X aa Z H s->RelV x v->Vals xs us->r x xs H Q->
  wpAny (model X.prog X.w) X.A (call (.builtin id) (v::us)) (EP X aa Z Q) X.xe s
section
variable{X:Cx}{a b:Expr}{ta tb:TE}{pos:Pos}
def tq.or{r':R2}(h:tq X r)(h':tq X r'):tq X (λx y H Q=>r x y H Q\/r' x y H Q):=by
 intro value slice aa s Z H x y v u Q I rx ry q hs;rcases q with q|q
 .exact h value slice aa s Z H x y v u Q I rx ry q hs
 .exact h' value slice aa s Z H x y v u Q I rx ry q hs
def f0u(hr:tq X r)(ha:PE X a ta)(hb:PE X b tb)(hs:Lh b):PE X (.Subscript a b pos) (Jy r ta tb):=by
 intro aa s Z H Q I h;exact Subscript_ (Aw ha hb I h λv u s2 x y H2 I2 rx ry q=>hr a b aa s2 Z H2 x y v u Q I2 rx ry q (hs _ _))
def Bp(K:aL):R2:=λx y H Q=>∃p xs i v,x=.ref p/\y=.int i/\cS K H p xs/\dq xs i=some v/\Q v H
def Bq(K:aL):R2:=λx y H Q=>∃p xs i v,x=.ref p/\y=.int i/\iA K H p xs/\dq xs i=some v/\Q v H
def FH:R2:=λx y H Q=>∃z i c,x=.str z/\y=.int i/\z.length<=sizeLine/\dq z.cps.toList i=some c/\Q (.str ⟨#[c]⟩) H
def d8g:tq X (Bp X.K):=by
 intro value slice aa s Z H x y v u Q I rx ry h hs;obtain⟨p,xs,i,z,rfl,rfl,hq,he,q⟩:=h;cases rx;obtain⟨t,rfl⟩:=ry;obtain⟨aG,r,pl,hz⟩:=I.list hq;obtain⟨j,h1,h2,h3,h4,h5⟩:=Lg he;obtain⟨w,ew,oH⟩:=r.get h2;have hl:=r.length;have hn:=Am;have fin:EP X aa Z Q w s:=⟨z,H,I,oH,q⟩;by_cases h0:0<=i
 .have hj:i.toNat=j:=by
   rw[seqIndex_of h0 h5] at h1;exact Option.some.inj h1
  exact item_listR pl.isList h0 (by lia) (by rw[hj];simpa using ew) fin hs
 .have hj:(i+(aG.toArray.size:Int)).toNat=j:=by
   rw[seqIndex_neg (by lia) h4] at h1
   rw[fF,<-hl];exact Option.some.inj h1
  exact subscriptTail_builtinR (x:=w) pl.isList.typeIs slot_list_getitem.lookup
   (wpAny_getItem_list_neg (Q:=λr s'=>r=w/\EP X aa Z Q r s') pl.isList (by lia) (by rw[fF] <;> lia) (by lia) (by rw[hj];simpa using ew) ⟨rfl,fin⟩) hs
def e4y:tq X (Bq X.K):=by
 intro value slice aa s Z H x y v u Q I rx ry h hs;obtain⟨p,xs,i,z,rfl,rfl,hq,he,q⟩:=h;cases rx;obtain⟨t,rfl⟩:=ry;obtain⟨aG,r,pl,hz⟩:=I.tuple hq;obtain⟨j,h1,h2,h3,h4,h5⟩:=Lg he;obtain⟨w,ew,oH⟩:=r.get h2;have hl:=r.length;have hn:=Am;have fin:EP X aa Z Q w s:=⟨z,H,I,oH,q⟩;exact subscriptTail_builtinR (x:=w) pl.typeIs slot_tuple_getitem.lookup
  (getItem_tuple (j:=j) (Q:=λr s'=>r=w/\EP X aa Z Q r s') pl (by lia) (by lia) (by rw[fF,<-hl];exact h1) (by simpa using ew) ⟨rfl,fin⟩) hs
def A3:tq X FH:=by
 intro value slice aa s Z H x y v u Q I rx ry h hs;obtain⟨z,i,c,rfl,rfl,hz,he,q⟩:=h;obtain⟨t,rfl⟩:=rx;obtain⟨t',rfl⟩:=ry;obtain⟨j,h1,h2,h3,h4,h5⟩:=Lg he;have hl:z.cps.toList.length=z.length:=by simp[Str.length]
 rw[hl] at h1 h4 h5;have hn:=Am;exact tail_any (typeIs_str s z t) slot_str_getitem.lookup (getItem_str (c:=c) (by
  lia) (by rw[h1];simpa using h2) ⟨.str ⟨#[c]⟩,H,I.tok _,⟨_,rfl⟩,q⟩) hs
def V_(aG:List ai)(n j:Nat)(u:ai):Obj.mapSeq (·.setIfInBounds j u) { cls:=.type "list",data:=.seq aG.toArray n}={ cls:=.type "list",data:=.seq (aG.set j u).toArray n}:=by
 simp[Obj.mapSeq]
def Inv.lst{aa:List (ag×Obj)}{Z:St}{H:Hp}{s:av}{p:ag}{xs:List V}(I:Inv X aa Z H s)(h:H p=some (.lst xs)):
  ∃(aG:List ai) (n:Nat),Vals xs aG/\s.heap.get? p=some { cls:=.type "list",data:=.seq aG.toArray n}/\xs.length<=sizeLine:=by
 obtain⟨z,aG,n,r,e⟩:=I.bx p _ h;exact⟨aG,n,r,e,z⟩
def Inv.A9{p:ag}{xs ys:List V}{aG its':List ai}{n':Nat}{f:Obj->Obj}(I:Inv X aa Z H s)(h:H p=some (.lst xs))
  (ho:s.heap.get? p=some { cls:=.type "list",data:=.seq aG.toArray n}) (hf:f { cls:=.type "list",data:=.seq aG.toArray n}={ cls:=.type "list",data:=.seq its'.toArray n'}) (r:Vals ys its') (hz:ys.length<=sizeLine) (t:Nat) :
  Inv X aa Z (upd H p (.lst ys)) { s with heap:=s.heap.update p f,toks:=t}:=by
 have e:(s.heap.update p f).get? p=some { cls:=.type "list",data:=.seq its'.toArray n'}:=by
  rw[ub f ho (by rw[hf] <;> rfl),hf]
 refine I.write (x:=p) (e:=p) (by rw[h];trivial) (.inl rfl) (λb u hb q=>(rH _ _ (Ne.symm hb)).trans q) ⟨_,e⟩ ?_
 exact⟨hz,its',n',r,e⟩
def zA:V->V->V->Hp->(Hp->Prop)->Prop:=λo i v H Q=>∃p xs k j,o=.ref p/\i=.int k/\H p=some (.lst xs)/\xK xs.length k=some j/\Q (upd H p (.lst (xs.set j v)))
def Yr:wQ X zA:=by
 intro aa s Z H o i v ov iv u Q I ro ri rv h;obtain⟨p,xs,k,j,rfl,rfl,hp,hj,q⟩:=h;cases ro;obtain⟨t,rfl⟩:=ri;obtain⟨aG,n,r,ho,hz⟩:=I.lst hp;obtain⟨h1,h2,h3,h4⟩:=Q_ hj;have hl:=r.length;have hn:=Am;have I':Inv X aa Z (upd H p (.lst (xs.set j v))) { s with heap:=s.heap.update p (Obj.mapSeq (·.setIfInBounds j u))}:=
  I.A9 hp ho (V_ aG n j u) (r.set rv j) (by rw[wz];exact hz) s.toks
 by_cases h0:0<=k
 .have hk:k.toNat=j:=by
   rw[seqIndex_of h0 h4] at h1;exact Option.some.inj h1
  exact PySem.W.ki_setAt ho h0 (by lia) (by rw[fF,<-hl];exact h4) (by rw[hk];exact⟨_,I',q⟩)
 .have hk:(k+(aG.toArray.size:Int)).toNat=j:=by
   rw[seqIndex_neg (by lia) h3] at h1
   rw[fF,<-hl];exact Option.some.inj h1
  exact PySem.W.ki_setBack ho (by lia) (by rw[fF,<-hl];exact h3) (by lia) (by rw[hk];exact⟨_,I',q⟩)
def Vx(lo hi:aj Int)(n:Nat):(sliceBounds lo hi none n).1=((HT.cK n 0 lo:Nat):Int)/\(sliceBounds lo hi none n).2.1=((HT.cK n n hi:Nat):Int)/\(sliceBounds lo hi none n).2.2=1:=by
 refine⟨?_,?_,rfl⟩
 .cases lo with
  |none=>simp[sliceBounds,HT.cK]
  |some i=>
   simp only[sliceBounds,HT.cK,Option.getD_none,show(1:Int) > 0 by decide,sR]
   by_cases h:i<0
   .simp only[h,sR] <;> lia
   .simp only[h,kP] <;> lia
 .cases hi with
  |none=>simp[sliceBounds,HT.cK]
  |some i=>
   simp only[sliceBounds,HT.cK,Option.getD_none,show(1:Int) > 0 by decide,sR]
   by_cases h:i<0
   .simp only[h,sR] <;> lia
   .simp only[h,kP] <;> lia
def Vm(aG:List ai)(lo hi:aj Int):slicePick aG.toArray lo hi none=((aG.drop (HT.cK aG.length 0 lo)).take (HT.cK aG.length aG.length hi - HT.cK aG.length 0 lo)).toArray:=by
 obtain⟨h1,h2,h3⟩:=Vx lo hi aG.toArray.size;unfold slicePick;rw[h1,h2,h3];simp only[sliceRange_one,pick_run,fF] <;> rfl
def Br(K:aL):V->aj Int->aj Int->Hp->VK->Prop:=λx lo hi H Q=>∃a xs,x=.ref a/\cS K H a xs/\∀p,H p=none->Q (.ref p) (upd H p (.lst (pz xs lo hi)))
def d8h:uG X (Br X.K):=by
 intro aa s Z H x v vl vu lo hi sl Q I rx hs pl pu h;obtain⟨a,xs,rfl,hx,q⟩:=h;cases rx;obtain⟨aG,r,ht,hz⟩:=I.list hx;have hlen:=r.length;refine⟨"list",_,slot_list_getitem.lookup,ht.isList.typeIs,?_⟩;refine wpAny_getItem_list_slice ht.isList hs pl pu .none (by simp) ?_ (by rw[fF] <;> lia)
 rw[Vm,<-hlen];refine⟨.ref s.heap.objs.size,_,I.laid (t':=s.toks) (o:=.lst (pz xs lo hi)) (λb ob q=>dy _ q) (bV _) ?_,rfl,q _ (I.bx.fresh (bV _))⟩
 exact⟨kx (OX xs lo hi) hz,_,0,(r.drop (HT.cK xs.length 0 lo)).take (HT.cK xs.length xs.length hi - HT.cK xs.length 0 lo),jP _ rfl⟩
def yO:V->Bool
 |.aH=>true
 |.bl _=>true
 |.int _=>true
 |.str _=>true
 |_=>false
noncomputable def eqV:V->V->Bool
 |.aH,.aH=>true
 |.bl a,.bl b=>a == b
 |.bl a,.int b=>(if a then 1 else 0) == b
 |.int a,.bl b=>a == (if b then 1 else 0)
 |.int a,.int b=>a == b
 |.str a,.str b=>a == b
 |_,_=>false
def Vy:bR X (.builtin "len") (λxs H Q=>∃p ys,xs=[.ref p]/\(cS X.K H p ys\/iA X.K H p ys)/\Q (.int ys.length) H):=by
 intro aa s Z H xs us Q I r h;obtain⟨p,ys,rfl,hq,q⟩:=h;obtain⟨u,rfl,rx⟩:=vals1 r;cases rx;have hn:=Am;rcases hq with hq|hq
 .obtain⟨aG,r',pl,hz⟩:=I.list hq;have hlen:=r'.length;exact Calls.call_len_list pl.isList (by simp only[fF] <;> lia) ⟨.int ys.length,H,I.tok _,⟨s.toks+1,by rw[fF,hlen]⟩,q⟩
 .obtain⟨aG,r',pl,hz⟩:=I.tuple hq;have hlen:=r'.length;exact len_tuple pl (by simp only[fF] <;> lia) ⟨.int ys.length,H,I.tok _,⟨s.toks+1,by rw[fF,hlen]⟩,q⟩
def n6:bR X (.builtin "len") (λxs H Q=>∃z,xs=[.str z]/\z.length<=sizeLine/\Q (.int z.length) H):=by
 intro aa s Z H xs us Q I r h;obtain⟨z,rfl,hz,q⟩:=h;obtain⟨u,rfl,t,rfl⟩:=vals1 r;have hn:=Am;exact len_str (by lia) ⟨.int z.length,H,I.tok _,⟨_,rfl⟩,q⟩
def bR.or{f:ai}{r r':List V->Hp->VK->Prop}(h:bR X f r)(h':bR X f r'):bR X f (λxs H Q=>r xs H Q\/r' xs H Q):=by
 intro aa s Z H xs us Q I rs q;rcases q with q|q
 .exact h aa s Z H xs us Q I rs q
 .exact h' aa s Z H xs us Q I rs q
def Vz:bR X (.type "list") (λxs H Q=>∃p ys,xs=[.ref p]/\(cS X.K H p ys\/iA X.K H p ys)/\∀l,H l=none->Q (.ref l) (upd H l (.lst ys))):=by
 intro aa s Z H xs us Q I r h;obtain⟨p,ys,rfl,hq,q⟩:=h;obtain⟨u,rfl,rx⟩:=vals1 r;cases rx;have fin:∀(aG:List ai),Vals ys aG->ys.length<=sizeLine->∀(h':bP) (c':Nat),(∀b o',s.heap.get? b=some o'->h'.get? b=some o')->
   h'.get? s.heap.objs.size=some { cls:=.type "list",dict:=none,data:=.seq aG.toArray c',slots:=#[]}->EP X aa Z Q (.ref s.heap.objs.size) { s with heap:=h'}:=λaG r' hz h' c' kp e=>
  ⟨.ref s.heap.objs.size,_,I.laid (t':=s.toks) kp (bV _) (show bC X.prog X.w _ h' _ (.lst ys) from⟨hz,aG,c',r',e⟩),rfl,q _ (I.bx.fresh (bV _))⟩
 rcases hq with hq|hq
 .obtain⟨aG,r',pl,hz⟩:=I.list hq;have hlen:=r'.length;obtain⟨o,ho,hc,n,hd⟩:=pl.isList;exact call_list_seq p (.inl rfl) ho hc hd (λh' c' kp e=>fin aG r' hz h' c' kp e) (by simp only[fF] <;> lia)
 .obtain⟨aG,r',pl,hz⟩:=I.tuple hq;have hlen:=r'.length;obtain⟨o,ho,hc,n,hd⟩:=pl;exact call_list_seq p (.inr rfl) ho hc hd (λh' c' kp e=>fin aG r' hz h' c' kp e) (by simp only[fF] <;> lia)
def JC(K:aL)(T:String)(x:V)(H:Hp):Prop:=match x with
 |.str _=>T="str"
 |.int _=>T="int"
 |.ref p=>(T="list"/\∃xs,cS K H p xs)\/(T="tuple"/\∃o,K.lookup p=some o/\o.cls=.type "tuple"/\o.dict=none)\/
   (T="dict"/\((∃kvs,H p=some (.dK kvs))\/(∃kvs,H p=some (.dT kvs))\/∃es ep,H p=some (.dG es ep)))\/(T="set"/\∃S n,H p=some (.set S n))
 |_=>False
def Sq{T:String}{x:V}{v:ai}(I:Inv X aa Z H s)(r:RelV x v)(ty:JC X.K T x H):
  s.TypeIs v T/\∀a,v=.ref a->∃ob,s.heap.get? a=some ob/\ob.dict=none:=by
 cases x with
 |str z=>
  obtain⟨t,rfl⟩:=r;cases(show T="str" from ty);exact⟨typeIs_str s z t,λ_ e=>nomatch e⟩
 |int i=>
  obtain⟨t,rfl⟩:=r;cases(show T="int" from ty);exact⟨typeIs_int s i t,λ_ e=>nomatch e⟩
 |ref p=>
  cases r;rcases ty with⟨rfl,xs,hq⟩|⟨rfl,o,hk,hc,hd⟩|⟨rfl,hk⟩|⟨rfl,S,n,hk⟩
  .obtain⟨aG,_,pl,_⟩:=I.list hq;refine⟨pl.isList.typeIs,λa e=>?_⟩
   cases e;obtain⟨o,n,e,c,hd,_⟩:=pl;exact⟨o,e,hd⟩
  .refine⟨⟨o,I.kT p o hk,hc⟩,λa e=>?_⟩
   cases e;exact⟨o,I.kT _ o hk,hd⟩
  .have z:∃o,s.heap.get? p=some o/\o.ExactDict:=by
    rcases hk with⟨kvs,hk⟩|⟨kvs,hk⟩|⟨es,ep,hk⟩
    .obtain⟨_,_,_,_,o,_,_,e,ex,_⟩:=I.bx p _ hk;exact⟨o,e,ex⟩
    .obtain⟨_,_,_,_,o,_,_,e,ex,_⟩:=I.bx p _ hk;exact⟨o,e,ex⟩
    .obtain⟨_,_,o,_,e,ex,_⟩:=I.bx p _ hk;exact⟨o,e,ex⟩
   obtain⟨o,e,ex⟩:=z;refine⟨⟨o,e,ex.1⟩,λa e2=>?_⟩
   cases e2;exact⟨o,e,ex.2.1⟩
  .obtain⟨o,_,_,_,e,ex,_⟩:=I.bx p _ hk;refine⟨⟨o,e,ex.1⟩,λa e2=>?_⟩
   cases e2;exact⟨o,e,ex.2.1⟩
 |_=>exact False.elim ty
def NB(K:aL)(T:String)(r:V->List V->Hp->VK->Prop)(to:TE)(t:TA):TE:=λZ H Q=>to Z H λx H1=>JC K T x H1/\t Z H1 λxs H2=>r x xs H2 Q
variable{o e:Expr}{es:List Expr}{to:TE}{t:TA}{name:Str}{apos bN:Pos}{T id:String}{r:V->List V->Hp->VK->Prop}
def TH(pa:PlainAttrs T)(slot:Slot T name id)(yX:typeOf (.builtin id)=pure (.type "method_descriptor"))(hm:J0 X id r)(ho:PE X o to)(ha:PA X (e::es) t)
  (eJ:attributeBase o name X.env (eval o X.env)=eval o X.env:=by rfl)
  (vb:((backTo bN (starEach (e::es) X.env)).all (λx => !x.1)&&(backToKw bN (keywordEach [] X.env)).all (λx=>x.1.isSome) && decide ((e::es).length+([]:List Keyword).length+(if([]:List Keyword).isEmpty then 0 else 1)<30))=true:=by rfl)
  (eK:(apos.endLine == bN.line)=true:=by rfl) (hs:starEach (e::es) X.env=(false,eval e X.env)::starEach es X.env:=by rfl) (lU:(backTo bN (starEach es X.env)).any (·.1)=false:=by rfl) :
  PE X (.Call (.Attribute o name apos) (e::es) [] bN) (NB X.K T r to t):=by
 intro aa s Z H Q I h;refine wpAny_Call_method_late eJ vb eK rfl (bI (ho aa s Z H _ I h) λv s1 hh=>?_)
 obtain⟨x,H1,I1,r1,ty,q1⟩:=hh;obtain⟨h1,h2⟩:=Sq I1 r1 ty;refine⟨T,id,pa,slot,yX,h1,h2,?_⟩;have hA:=ha bN aa s1 Z H1 _ I1 q1;rw[hs] at hA ⊢;refine Calls.callWith_builtin (by show(false || (backTo bN (starEach es X.env)).any (·.1))=false;rw[lU] <;> rfl) (Calls.evalArgs_plain ?_)
 exact bI hA λus s2 ⟨vs,H2,I2,r2,q2⟩=>hm aa s2 Z H2 x vs v us Q I2 r1 r2 q2
end
variable{x:V}{us aG:List ai}{t':Nat}
def BO(X:Cx)(id:String)(r:V->List V->Hp->VK->Prop):Prop:=
 ∀(aa:List (ag×Obj)) (s:av) (Z:St) (H:Hp) (x:V) (xs:List V) (v:ai) (us:List ai) (Q:VK),Inv X aa Z H s->RelV x v->Vals xs us->r x xs H Q->
  wpAny (model X.prog X.w) X.A (call (.builtin id) (v::us)) (EP X aa Z Q) X.xe s
def Vals.one(h:Vals [x] us):∃u,us=[u]/\RelV x u:=by
 cases h with
 |cons r t=>
  cases t;exact⟨_,rfl,r⟩
def Vals.two{y:V}(h:Vals [x,y] us):∃u v,us=[u,v]/\RelV x u/\RelV y v:=by
 cases h with
 |cons r t=>
  obtain⟨v,rfl,q⟩:=Vals.one t;exact⟨_,_,rfl,r,q⟩
section
variable{X:Cx}{aa:List (ag×Obj)}{Z:St}{H:Hp}{s:av}{l b:ag}{xs ys zs:List V}
def Inv.A7{its':List ai}{n:Nat}{f:Array ai->Array ai}(I:Inv X aa Z H s)(hH:H l=some (.lst xs))
  (e:s.heap.get? l=some { cls:=.type "list",data:=.seq aG.toArray n}) (hf:f aG.toArray=its'.toArray) (hv:Vals ys its') (hz:ys.length<=sizeLine) :
  Inv X aa Z (upd H l (.lst ys)) { s with heap:=s.heap.update l (Obj.mapSeq f),toks:=t'}:=by
 have q:=PySem.IsL.update e f;rw[hf] at q;refine I.write (x:=l) (e:=l) (by rw[hH];exact trivial) (.inl rfl) (λb' u hb hu=>(rH s.heap (Obj.mapSeq f) (Ne.symm hb)).trans hu) ⟨_,q⟩ ?_
 exact⟨hz,its',_,hv,q⟩
def Inv.MV(I:Inv X aa Z H s)(hv:Vals ys aG)(hz:ys.length<=sizeLine):
  Inv X aa Z (upd H s.heap.objs.size (.lst ys)) { s with heap:=s.heap.push { cls:=.type "list",data:=.seq aG.toArray},toks:=t'}:=
 I.laid (λ_ _ q=>dy _ q) (bV _) ⟨hz,aG,0,hv,jP _ rfl⟩
theorem Inv.fresh(I:Inv X aa Z H s):H s.heap.objs.size=none:=I.bx.fresh (bV _)
def Inv.A8(I:Inv X aa Z H s)(hH:H l=some (.lst xs)):xs.length<=sizeLine/\∃(aG:List ai) (n:Nat),Vals xs aG/\xs.length=aG.length/\s.heap.get? l=some { cls:=.type "list",data:=.seq aG.toArray n}:=by
 obtain⟨z,aG,n,r,e⟩:=I.bx l _ hH;exact⟨z,aG,n,r,r.length,e⟩
end
section
variable{X:Cx}
def Ra:V->List V->Hp->VK->Prop:=λx vs H Q=>∃l xs y,x=.ref l/\vs=[y]/\H l=some (.lst xs)/\xs.length<sizeLine/\Q .aH (upd H l (.lst (xs++[y])))
theorem WQ:BO X "list.append" Ra:=by
 intro aa s Z H x vs v us Q I rx rv h;obtain⟨l,xs,y,rfl,rfl,hH,hz,q⟩:=h;cases rx;obtain⟨u,rfl,ru⟩:=rv.one;obtain⟨z,aG,n,r,hl,e⟩:=I.A8 hH;refine call_meets F.slot_list_append ⟨_,e,rfl⟩ F.entry_list_append (F.args_list_append_2 _ _) (PySem.list_append l aG.toArray n u (by rw[fF];lia)) ⟨e,?_⟩
 refine⟨.aH,_,I.A7 (its':=aG++[u]) hH e (by simp) (r.append (.cons ru .nil)) ?_,rfl,q⟩
 rw[dz,wB];lia
end
section
variable{prog:c7}{w:cB}{A:cR}{E:ai->av->Prop}{s:av}
end
section
variable{X:Cx}
end
section
variable{κ:Type}[DecidableEq κ]
def iU.tO{o:aj V}{u:aj ai}(r:iU o u):o.isSome=u.isSome:=by
 cases o with
 |none=>cases u with
  |none=>rfl
  |some _=>exact(show False from r).elim
 |some _=>cases u with
  |none=>exact(show False from r).elim
  |some _=>rfl
end
variable{X:Cx}{pos:Pos}
section
variable{P:c7}{w:cB}{H:Hp}{h:bP}{a:ag}
end
section
variable{X:Cx}{aa:List (ag×Obj)}{Z:St}{H:Hp}{s:av}{a:ag}{y v:V}{u r:ai}{o:aj V}{A:cR}{E:ai->av->Prop}
def Inv.big(I:Inv X aa Z H s):sysModules<s.heap.objs.size:=by
 have h:mainGlobals<s.heap.objs.size:=(I.mod.glob.keeps I.bk).lt;exact Nat.lt_trans (by decide) h
def Li{h':bP}{t':Nat}{ob:HO}(I:Inv X aa Z H s)(mu:Dg (H a))(hs:Heap.SameBut a s.heap h')(he:∃q,h'.get? a=some q)(new:bC X.prog X.w (upd H a ob) h' a ob):
  Inv X aa Z (upd H a ob) { s with heap:=h',toks:=t'}:=
 I.write (x:=a) (e:=a) mu (.inl rfl) (λb q hb z=>(hs.2 b hb).trans z) he new
end
section
variable{X:Cx}{aa:List (ag×Obj)}{Z:St}{H:Hp}{s:av}{a:ag}{kvs:List (Key×V)}{k:Key}{u:ai}{A:cR}{E:ai->av->Prop}
end
section
variable{X:Cx}{o i e value:Expr}{pos pos' fL:Pos}{td ty tv:TE}
end
section
variable{X:Cx}{pos:Pos}
end
def Iv:List (TE×TE)->St->Hp->(List (V×V)->Hp->Prop)->Prop
 |[],_,H,Q=>Q [] H
 |(tk,tv)::r,Z,H,Q=>tk Z H λx H1=>tv Z H1 λy H2=>Iv r Z H2 λps H3=>Q ((x,y)::ps) H3
abbrev VV:List (V×V)->List (ai×ai)->Prop:=Paired λp q=>RelV p.1 q.1/\RelV p.2 q.2
def BP(X:Cx)(pos:Pos)(keys:List (aj Expr))(values:List Expr)(yg:List (TE×TE)):Prop:=
 ∀(aa:List (ag×Obj)) (s:av) (Z:St) (H:Hp) (Q:List (V×V)->Hp->Prop),Inv X aa Z H s->Iv yg Z H Q->
  wpAny (model X.prog X.w) X.A (evalPairs (pairTrees keys values X.env pos)) (λvs s'=>∃ps H',Inv X aa Z H' s'/\VV ps vs/\Q ps H') X.xe s
def x6:BP X pos [] [] []:=λaa s Z H Q I h=>pairTrees_nil_walk ⟨[],H,I,.nil,h⟩
def vA{k v:Expr}{ks:List (aj Expr)}{vs:List Expr}{tk tv:TE}{yg:List (TE×TE)}(hk:PE X k tk)(hv:PE X v tv)(hr:BP X pos ks vs yg):
  BP X pos (some k::ks) (v::vs) ((tk,tv)::yg):=λaa s Z H Q I h=>
 pairTrees_cons_walk (bI (hk aa s Z H _ I h) λu s1 ⟨x,H1,I1,rx,q1⟩=>bI (hv aa s1 Z H1 _ I1 q1) λw2 s2 ⟨y,H2,I2,ry,q2⟩=> bI (hr aa s2 Z H2 _ I2 q2) λws s3 ⟨ps,H3,I3,rel,q3⟩=>⟨(x,y)::ps,H3,I3,.cons ⟨rx,ry⟩ rel,q3⟩)
structure M1 (X:Cx) (o:Expr) (m:Str) (apos:Pos) (e:Expr) (bN:Pos):Prop where
 base:attributeBase o m X.env (eval o X.env)=eval o X.env
 few:((backTo bN (starEach [e] X.env)).all (λx => !x.1)&&(backToKw bN (keywordEach [] X.env)).all (λx=>x.1.isSome) && decide (([e]:List Expr).length+([]:List Keyword).length+(if([]:List Keyword).isEmpty then 0 else 1)<30))=true
 line:(apos.endLine == bN.line)=true
 trees:backTo bN (starEach [e] X.env)=[(false,eval e X.env)]
structure M2 (X:Cx) (o:Expr) (m:Str) (apos:Pos) (e f:Expr) (bN:Pos):Prop where
 base:attributeBase o m X.env (eval o X.env)=eval o X.env
 few:((backTo bN (starEach [e,f] X.env)).all (λx => !x.1)&&(backToKw bN (keywordEach [] X.env)).all (λx=>x.1.isSome) && decide (([e,f]:List Expr).length+([]:List Keyword).length+(if([]:List Keyword).isEmpty then 0 else 1)<30))=true
 line:(apos.endLine == bN.line)=true
 trees:backTo bN (starEach [e,f] X.env)=[(false,eval e X.env),(false,eval f X.env)]
section
variable{X:Cx}{aa:List (ag×Obj)}{Z:St}{H:Hp}{s:av}{a:ag}{y d:V}{u r:ai}{o:aj V}{A:cR}{E:ai->av->Prop}
end
section
variable{X:Cx}{o e f:Expr}{apos bN:Pos}{td ty tx:TE}
end
section
variable{X:Cx}{aa:List (ag×Obj)}{Z:St}{H:Hp}{s:av}{a:ag}{kvs:List (Key×V)}{A:cR}{E:ai->av->Prop}
end
section
variable{X:Cx}{aa:List (ag×Obj)}{Z:St}{H:Hp}{s:av}{a:ag}{y:V}{u:ai}{A:cR}{E:ai->av->Prop}
end
end L2
namespace Oo
open PySem PySem.W PySem.Calls PyProof.Rows
variable{P:Params}{h:bP}{l:OpenLaw}{n:Nat}
def Vc:∀(ns:List Int) (vs:List ai),WellAll P h vs (ns.map WData.int)->IntsAre vs ns:=by
 intro ns
 induction ns with
 |nil=>
  intro vs w;rw[Gy] at w;cases w;exact .nil
 |cons n ns ih=>
  intro vs w;rw[cU] at w;cases w with
  |cons a b=>
   cases a;exact .cons _ _ (ih _ b)
def WR(hn:l.most=some n){args:List WData}{vals:List ai}
  (xF:l.row.toRowW.claim.pre args=true) (Jk:WellAll P h vals args) :
  ∃a vs ns,vals=[Value.ref a]/\args=[WData.list (ns.map WData.int)]/\h.get? a=some { cls:=.type "list",data:=.seq vs.toArray}/\IntsAre vs ns/\ns.length<=n:=by
 have hsh:WShape.hasAll [] args [.list .int]=true:=(pre_splitW xF).1;have hc:l.pre.holds [] { args:=args}=true:=(pre_splitW xF).2;obtain⟨d,r,rfl,h1,h2⟩:=hasAllW_cons hsh;obtain rfl:=hasAllW_nil h2;obtain⟨xs,rfl,h3⟩:=hasW_list h1;obtain⟨ns,rfl⟩:=items_int h3;have hlen:ns.length<=n:=by
  unfold OpenLaw.pre at hc;have h4:(WTm.not (.lt (.lit (.int (n:Int))) (.len (.arg 0)))).holds [] { args:=[.list (ns.map .int)]}=true:=by
   have h4:=(holds_andW hc).1;rw[hn] at h4;exact h4
  have h5:=condW_of h4 (w_not (w_lt w_lit (w_len_list (w_arg rfl))))
  simp_all
 cases Jk with
 |cons w1 w2=>
  cases w2;cases w1 with
  |list ho kI=>exact⟨_,_,ns,rfl,rfl,ho,Vc ns _ kI,hlen⟩
def WS(l:OpenLaw)(args:List WData):l.row.toRowW.claim.post args (.bool true) args=true:=
 postW_of (r:=l.row.toRowW) (X:=(true == true))
  (show WShape.has [] (.bool true) .bool=true by first|rfl|decide|simp[WShape.has,WShape.arms,WShape.armsAll])
  (show(WTm.eq .res (.lit (.bool true))).value [] { args:=args,res:=some (.bool true),after:=args}=some (.bool (true == true)) from w_eq_bool (w_res rfl) w_lit) rfl
def ph{q:c7}{loose:List Str}{XP:(Str->aj ai)->bP->Prop}{YP:cB->bP->Prop}{d:DefRec}
  (hn:l.most=some n) (EV:d.params.defaults=[])
  (call:∀(w:cB) (s₀ s₁:av) (mg mb:Str->aj ai) (fa:ag) (o:Obj) (pm cd doc:ai) (a:ag) (vs:List ai) (ns:List Int),Ground q loose [] XP w s₀ mg mb s₁.heap->YP w s₁.heap-> s₁.heap.get? fa=some o->o.data=.func (docDef d.name d.params d.body d.scope pm cd doc)->s₁.heap.CodeRec cd d.name->mg d.name=some (.ref fa)-> s₁.heap.get? a=some { cls:=.type "list",data:=.seq vs.toArray}->IntsAre vs ns->ns.length<=n->s₁.gens=#[]-> codeAny (model l.prog w) callerA (.call (.ref fa) ⟨[.ref a],[]⟩) (λr s'=>r=.ok (.ret (.bool true))/\OldK s₁.heap s'.heap/\s'.os=s₁.os/\AllBare s'.gens) s₁) :
  WalkO q loose XP YP l.row.toRowW d [] (λf vs=>PySem.call f vs):=by
 intro w s₀ s₁ mg mb G Y fa o pm cd doc dV kV ho hd tL hD hmg hg args vals as xF hlay hrd Jk hlo;obtain rfl:dV=.none:=Dflts.none hD EV;obtain rfl:kV=.none:=Dflts.noKw hD;obtain⟨a,vs,ns,rfl,rfl,AY,hints,hlen⟩:=WR hn xF Jk;refine enter_call (codeAny_mono (call w s₀ s₁ mg mb fa o pm cd doc a vs ns G Y ho (fd_plain hd) tL hmg AY hints hlen hg) λr s' hq=>?_)
 obtain⟨rfl,h2,h3,h4⟩:=hq;exact⟨.inl ⟨.bool true,.bool true,[],rfl,λ_=>rfl,.bool true,WS l _,λ_=>⟨List.Pairwise.nil,λ_ hm=>(nomatch hm)⟩⟩,h2,h3,h4⟩
section
variable{prog:c7}{w:cB}{A:cR}{E:ai->av->Prop}{s:av}{K:fQ}
end
end Oo
namespace L2
open PySem PySem.Spec PyProof.Rows
theorem Pw:∀{vs:List ai} {ns:List Int},IntsAre vs ns->Vals (ns.map V.int) vs
 |_,_,.nil=>.nil
 |_,_,.cons n t h=>.cons ⟨t,rfl⟩ (Pw h)
def zU(H:Hp):Prop:=∀b,H b=none\/∃o xs,H b=some (.Y o (.lst xs))
def Ys{P:c7}{w:cB}{K:aL}{mg mb:Str->aj ai}{CX:vU}{k:Nat}{fa a:ag}{fd:bJ}{x:Str}{sp:Sp}{s₁:av}{vs:List ai}{ns:List Int}
  (KX:K.In s₁.heap) (Ul:s₁.heap.Ns mainGlobals mg) (hb:s₁.heap.Ns builtinsNs mb) (hbb:∀x:Str,x≠"__name__"->mb x=bootBuiltins x) (Mw:s₁.heap.NoLimit) (hg:s₁.gens=#[])
  (ha:s₁.heap.get? a=some { cls:=.type "list",data:=.seq vs.toArray}) (hi:IntsAre vs ns) (hl:ns.length<=sizeLine) (hr:cx k callerA)
  (F:∀base:bP,K.In base->base.Ns mainGlobals mg->dA P w K mg base CX k fa fd [x] sp) (ES:∀(s:av) (u:ai),BindsTo s fd ⟨[u],[]⟩ [(x,u)])
  (yW:∀H:Hp,zU H->cS K H a (ns.map V.int)->sp [.ref a] H (λv _=>v=.bl true) λ_ _ _=>False)
  (Md:∀H e s',CX [] H s₁ (λ_ _ _=>False) e s'->False) :
  codeAny (model P w) callerA (.call (.ref fa) ⟨[.ref a],[]⟩) (λr s'=>r=.ok (.ret (.bool true))/\OldK s₁.heap s'.heap/\s'.os=s₁.os/\AllBare s'.gens) s₁:=by
 have rv:=Pw hi;have MU:=hi.length;have core:∀H:Hp,zU H->cS K H a (ns.map V.int)->jI P w H s₁.heap->(∀b,H b≠none->b=a)->(H a≠none->K.lookup a=none)->
   codeAny (model P w) callerA (.call (.ref fa) ⟨[.ref a],[]⟩) (λr s'=>r=.ok (.ret (.bool true))/\OldK s₁.heap s'.heap/\s'.os=s₁.os/\AllBare s'.gens) s₁:=by
  intro H hO hS bx hA hK;have rT:∀{b:ag} {o:Obj},s₁.heap.get? b=some o->H b=none->(oh s₁.heap H).get? b=some o:=λe n=>X7 e n
  have Fv:∀{b:ag} {o:Obj} {es:Array DictEntry} {ep:Nat},s₁.heap.get? b=some o->o.data=.dict es ep->H b=none:=λ{b o es ep} e d=>by
   grind
  have Js:∀{b:ag} {m:Str->aj ai},s₁.heap.Ns b m->(oh s₁.heap H).Ns b m:=λ{b m} ⟨o,es,ep,e,d,r⟩=>⟨o,es,ep,rT e (Fv e d),d,r⟩
  have T8:K.In (oh s₁.heap H):=λb o e=>rT (KX b o e) (by
   grind)
  have hM:Mod K mg (oh s₁.heap H):=⟨T8,Js Ul,⟨mb,Js hb,hbb⟩,let ⟨mc,h1,h2⟩:=Mw;⟨mc,Js h1,h2⟩⟩
  have e0:qR P w K mg (oh s₁.heap H) callerA [] s₁ H:=⟨rfl,hM,λb o e=>d7l e,Gw (WE _ _),trivial,λb hb=>cJ (show b∈([]:List ag) from hb) (by simp),bx,.of_eq hg⟩
  refine codeAny_mono ((F _ T8 (Js Ul)).run callerA [] s₁ H ⟨[.ref a],[]⟩ [.ref a] [.ref a] _ _ hr e0 (ES s₁ (.ref a)) (.cons rfl .nil) (yW H hO hS)) λr s' h=>?_
  cases r with
  |error e=>exact(Md H e s' h).elim
  |ok fl=>
   cases fl with
   |next=>exact False.elim h
   |brk=>exact False.elim h
   |cont=>exact False.elim h
   |ret u=>
    obtain⟨v,H',os,bare,un,MB,r',q⟩:=h;have q':v=.bl true:=q;subst q';obtain rfl:u=Value.bool true:=r';refine⟨rfl,OldK.of_keep λb o e=>?_,os,bare⟩
    cases q:H b with
    |none=>exact un.keep b o e q (by intro z;exact cJ (show b∈([]:List ag) from z) (by simp)) (by simp)
    |some u=>
     rcases hO b with z|⟨ob,xs,z⟩
     .rw[q] at z;cases z
     .have z2:=un.lP b ob _ z;obtain⟨e1,_⟩:=bx b _ z;obtain⟨e2,_⟩:=MB b _ z2
      lia
 cases hk:K.lookup a with
 |some o=>
  have e:=KX a o hk;rw[ha] at e;cases e;refine core (λ_=>none) (λ_=>.inl rfl) (.inr ⟨_,vs.toArray,_,hk,rfl,rfl,rfl,by rw[fF,MU];exact hl,by simpa using rv⟩) (λb u z=>by have z':(none:aj HO)=some u:=z;cases z') (λb z=>cJ rfl z) λz=>cJ rfl z
 |none=>
  refine core (λb=>if b=a then some (.Y { cls:=.type "list",data:=.seq vs.toArray} (.lst (ns.map V.int))) else none) (λb=>?_) (.inl (.inr ⟨{ cls:=.type "list",data:=.seq vs.toArray},bK rfl⟩)) (λb u z=>?_) (λb z=>?_) λ_=>hk
  .by_cases hb:b=a
   .exact .inr ⟨_,_,bK hb⟩
   .exact .inl (bD hb)
  .by_cases hb:b=a
   .have z':=(bK hb).symm.trans z;cases z';subst hb;exact⟨ha,by rw[bj];exact hl,vs,_,rv,ha⟩
   .have z':=(bD hb).symm.trans z;cases z'
  .by_cases hb:b=a
   .exact hb
   .exact cJ (bD hb) z
def yo{l:PySem.W.OpenLaw}{n k:Nat}{q:c7}{loose:List Str}{XP:(Str->aj ai)->bP->Prop}{YP:cB->bP->Prop}{d:DefRec}{K:Params->aL}{CX:cB->vU}{sp:cB->Sp}{x:Str}
  (hn:l.most=some n) (AV:n<=sizeLine) (EV:d.params.defaults=[]) (hr:cx k callerA)
  (hY:∀(w:cB) (h:bP),YP w h->(K w.params).In h)
  (F:∀(w:cB) (mg:Str->aj ai) (fa:ag) (h:bP),(K w.params).In h->h.Ns mainGlobals mg->mg d.name=some (.ref fa)-> ∃fd:bJ,(∀(s:av) (u:ai),BindsTo s fd ⟨[u],[]⟩ [(x,u)])/\ ∀base:bP,(K w.params).In base->base.Ns mainGlobals mg->dA l.prog w (K w.params) mg base (CX w) k fa fd [x] (sp w))
  (yW:∀(w:cB) (H:Hp) (a:ag) (ns:List Int),ns.length<=n->zU H->cS (K w.params) H a (ns.map V.int)->sp w [.ref a] H (λv _=>v=.bl true) λ_ _ _=>False)
  (Md:∀(w:cB) (H:Hp) (s:av) (e:ai) (s':av),CX w [] H s (λ_ _ _=>False) e s'->False) :
  PySem.W.WalkO q loose XP YP l.row.toRowW d [] (λf vs=>PySem.call f vs):=by
 refine Oo.ph hn EV λw s₀ s₁ mg mb fa o pm cd doc a vs ns G Y ho hd tL hmg AY hints hlen hg=>?_
 have KX:=hY w _ Y;obtain⟨fd,hb,hF⟩:=F w mg fa _ KX G.T.g hmg;exact Ys KX G.T.g G.T.b G.T.builtins G.T.nolimit hg AY hints (kx hlen AV) hr hF hb (λH hO hS=>yW w H a ns hlen hO hS) λH e s'=>Md w H s₁ e s'
variable{x qual:Str}{st:Stmt}{f:ag}{H H':Hp}
noncomputable def kD(s:Stmt)(j:Nat):Stmt:=match s with
 |.ClassDef _ _ _ body _ _ _ _ _ _ _=>body.getD j (.Pass ⟨0,0,0,0⟩)
 |_=>.Pass ⟨0,0,0,0⟩
noncomputable def DX(s:Stmt):Arguments:=match s with
 |.FunctionDef _ a _ _ _ _ _ _ _ _=>a
 |_=>{ posonlyargs:=[],args:=[],vararg:=none,kwonlyargs:=[],kw_defaults:=[],kwarg:=none,defaults:=[]}
def yB(s:Stmt):List Stmt:=match s with
 |.FunctionDef _ _ b _ _ _ _ _ _ _=>b
 |_=>[]
noncomputable def qH(s:Stmt):Scope:=match s with
 |.FunctionDef _ _ _ _ _ _ sc _ _ _=>sc
 |_=>{ kind:=.function,names:=[],isGenerator:=false,isCoroutine:=false}
structure Fun (K:aL) (x qual:Str) (st:Stmt) (f:ag) (fd:bJ):Prop where
 ex:∃(oc:ai) (od:aj ag) (kV doc pm:ai) (an:aj ag) (eV ct:ai) (wt:Array (aj ai)),
  fd=PySem.W.fnOf x qual (DX st) (yB st) (qH st) .none kV doc pm an eV ct/\K.lookup f=some ⟨oc,od,.func fd,wt⟩/\PySem.W.codeIn K eV qual=true
 kp:PySem.W.keepIn K (.ref f)=true
section
variable{P:c7}{w:cB}{K:aL}{mg:Str->aj ai}{base:bP}
def Fun.binds{fd:bJ}{ps:List Str}(F:Fun K x qual st f fd)
  (h:∀(kV doc pm:ai) (an:aj ag) (eV ct:ai) (us:List ai),us.length=ps.length->bindArgs (PySem.W.fnOf x qual (DX st) (yB st) (qH st) .none kV doc pm an eV ct) ⟨us,[]⟩=pure (ps.zip us)):Binds K fd ps []:=by
 obtain⟨oc,od,kV,doc,pm,an,eV,ct,wt,rfl,lk,tL⟩:=F.ex;exact .all (h kV doc pm an eV ct)
def fun_mk{oc:ai}{od an:aj ag}{wt:Array (aj ai)}{kV doc pm eV ct:ai}(l:K.lookup f=some ⟨oc,od,.func (PySem.W.fnOf x qual (DX st) (yB st) (qH st) .none kV doc pm an eV ct),wt⟩)
  (c:PySem.W.codeIn K eV qual=true) (k:PySem.W.keepIn K (.ref f)=true):Fun K x qual st f (PySem.W.fnOf x qual (DX st) (yB st) (qH st) .none kV doc pm an eV ct):=⟨⟨oc,od,kV,doc,pm,an,eV,ct,wt,rfl,l,c⟩,k⟩
end
section
variable{X:Cx}
def pv(i:Nat){pos:Pos}(hN:X.N[i]?=some x:=by rfl)(hv:GZ X.env.scope x:=by first|exact Or.inl rfl|exact Or.inr (Or.inl rfl)|exact Or.inr (Or.inr rfl))(hd:(x == ("__debug__":Str))=false:=by decide)
  (tL:(x == ("__classdict__":Str))=false:=by decide):PE X (.Name x pos) (BA i):=Sm hN hv hd tL
end
def vh{A B:Prop}(h:B):if false=true then A else B:=by
 rw[bD vM];exact h
def vi{A B:Prop}(h:A):if true=true then A else B:=by
 rw[bK rfl];exact h
def az(H H':Hp):Prop:=∀b o,H b=some o->H' b=some o
def az.refl(H:Hp):az H H:=λ_ _ h=>h
def az.trans{H1 H2:Hp}(a:az H H1)(b:az H1 H2):az H H2:=λc o h=>b c o (a c o h)
def az.free(e:az H H'){l:ag}(h:H' l=Option.none):H l=Option.none:=by
 cases q:H l with
 |none=>rfl
 |some o=>
  rw[e l o q] at h;cases h
def az.seq{K:aL}{a:ag}{xs:List V}(e:az H H')(h:cS K H a xs):cS K H' a xs:=by
 rcases h with(h|⟨o,h⟩)|h
 .exact .inl (.inl (e _ _ h))
 .exact .inl (.inr ⟨o,e _ _ h⟩)
 .exact .inr h
section
variable{κ:Type}[DecidableEq κ]
end
end L2
set_option maxHeartbeats 4000000
namespace L2
open PySem PySem.Spec PyProof.Rows
variable{env:Env}{names:List (Str×rJ)}{x:Str}{c:ag}{scope:Scope}{X:Cx}
noncomputable def lz(env:Env)(names:List (Str×rJ)):List (Str×ag):=((names.filter λy=>y.2 == .free).reverse).map λy=>(y.1,(env.cells.lookup y.1).getD 0)
theorem OY{g:Str->ag}{x:Str}:∀{l:List (Str×rJ)},(∃k,(x,k)∈l)->(l.map λy=>(y.1,g y.1)).lookup x=some (g x)
 |[],h=>by obtain⟨k,h⟩:=h;cases h
 |(n,k)::r,h=>by
  show List.lookup x ((n,g n)::_)=_;cases hx:x == n with
  |true=>
   simp_all
  |false=>
   simp only[List.lookup_cons,hx];refine OY (l:=r) ?_
   simp_all
theorem Oy{g:Str->ag}{x:Str}{c:ag}:∀{l:List (Str×rJ)},(l.map λy=>(y.1,g y.1)).lookup x=some c->c=g x/\∃k,(x,k)∈l
 |[],h=>by cases h
 |(n,k)::r,h=>by
  have h:List.lookup x ((n,g n)::(r.map λy=>(y.1,g y.1)))=some c:=h
  cases hx:x == n with
  |true=>
   simp_all
  |false=>
   simp only[List.lookup_cons,hx] at h;obtain⟨e,k',hk⟩:=Oy h;exact⟨e,k',tW _ hk⟩
def Qg(h:(x,NameKind.free)∈names)(hc:env.cells.lookup x=some c):(lz env names).lookup x=some c:=by
 have:=OY (g:=λn=>(env.cells.lookup n).getD 0) (x:=x) (l:=(names.filter λy=>y.2 == .free).reverse) ⟨.free,by simp[h]⟩
 unfold lz;rw[this,hc];rfl
def Lj(hf:∀y∈names,y.2=.free->∃c,env.cells.lookup y.1=some c)(h:(lz env names).lookup x=some c):env.cells.lookup x=some c:=by
 obtain⟨e,k,hk⟩:=Oy (g:=λn=>(env.cells.lookup n).getD 0) h
 grind
theorem Ko{env:Env}:∀(names:List (Str×rJ)) (cs:List (Str×ag)),(∀y∈names,y.2=.free->∃c,env.cells.lookup y.1=some c)->
  (forIn names cs (λ(x:Str×rJ) (r:List (Str×ag))=>if(x.2 == NameKind.free)=true then(do let a <-cellOf env x.1;pure (ForInStep.yield ((x.1,a)::r))) else(pure (ForInStep.yield r):Sem (ForInStep (List (Str×ag)))))) =
   pure (lz env names++cs)
 |[],cs,_=>by rw[List.forIn_nil];rfl
 |(n,k)::r,cs,h=>by
  rw[List.forIn_cons];cases hk:k == NameKind.free with
  |true=>
   obtain⟨c,hc⟩:=h (n,k) CZ (by simpa using hk)
   have qL:env.cells.lookup n=some c:=hc;have e:cellOf env n=pure c:=by unfold cellOf;rw[qL]
   simp only[hk,sR,e,pure_bind];rw[Ko r _ λy hy=>h y (tW _ hy)]
   congr 1
   unfold lz
   simp_all
  |false=>
   simp only[hk,uc,kP,pure_bind];rw[Ko r _ λy hy=>h y (tW _ hy)]
   congr 1
   unfold lz;rw[zJ];simp[hk]
def Ou(h:∀y∈scope.names,y.2=.free->∃c,env.cells.lookup y.1=some c):closureFor scope env=pure (lz env scope.names):=by
 have:=Ko (env:=env) scope.names [] h;rw[kY] at this;unfold closureFor;show(forIn scope.names [] _ >>= λr=>pure r)=_
 rw[bind_pure];exact this
theorem OK{env:Env}:∀{names:List (Str×rJ)} {x:Str},names.lookup x=some .free->
  (names.map λ(n,k)=>if(k == NameKind.free&&env.scope.kind == .function&&env.kindOf n == some .cell) then(n,NameKind.cell) else(n,k)).lookup x=some .cell\/
  (names.map λ(n,k)=>if(k == NameKind.free&&env.scope.kind == .function&&env.kindOf n == some .cell) then(n,NameKind.cell) else(n,k)).lookup x=some .free
 |[],_,h=>by simp at h
 |(n,k)::r,x,h=>by
  have ih:=@OK env r x
  grind
theorem Kp{env:Env}:∀{names:List (Str×rJ)} {x:Str} {q:rJ},(q=.cell\/q=.free)->(∀y∈names,y.2≠.cell)->
  (names.map λ(n,k)=>if(k == NameKind.free&&env.scope.kind == .function&&env.kindOf n == some .cell) then(n,NameKind.cell) else(n,k)).lookup x=some q->(x,NameKind.free)∈names
 |[],_,_,_,_,h=>by simp at h
 |(n,k)::r,x,q,hq,hn,h=>by
  have ih:=@Kp env r x q hq λy hy=>hn y (tW _ hy)
  grind
def fG(X:Cx)(scope:Scope)(M:List Str)(C:ag)(s:av)(H:Hp)(fp:List ag):Cx:=
 {X with N:=M,s₀:=s,H₀:=H,env:=compEnvC scope (lz X.env scope.names) C X.env,outer:=X.stack,ex:=fp,fn:=λ_=>false,pn:=[],xe:=λ_ _=>False}
noncomputable def lu(k:Nat)(c8:List Nat)(Z:St):St:=List.replicate k none++c8.map λi=>(Z[i]?).join
def uE(X:Cx)(ifs:List Expr)(t:TT):Prop:=
 ∀(aa:List (ag×Obj)) (s:av) (Z:St) (H:Hp) (Q:Bool->Hp->Prop),Inv X aa Z H s->t Z H Q->
  wpAny (model X.prog X.w) X.A (forIn ifs true λc r=>if r=true then do let ok <-isTrue c X.env (eval c X.env);pure (ForInStep.yield ok) else pure (ForInStep.yield r)) (TP X aa Z Q) X.xe s
def NM:TT:=λ_ H Q=>Q true H
def d8i:uE X [] NM:=λ_ _ Z H _ I h=>wpAny_tests_nil ⟨H,I,h⟩
def d8j{c:Expr}{t:TT}(hc:PT X c t):uE X [c] t:=λaa s Z H Q I h=>wpAny_tests_one (hc aa s Z H Q I h)
def U6{prog:c7}{w:cB}{A:cR}{R:Result->av->Prop}{s:av}{elt target iter:Expr}{ifs:List Expr}{pos:Pos}{it aP:ai}(I:Nat->av->Prop)
  (turn:∀n s,I n s->wpAny (model prog w) A (pyNext it) (λr s₁=>match r with
   |none=>R (.ok .next) s₁
   |some v=>wpAny (model prog w) A (letOwnedTupleGo target it v) (λ_ s₀=>wpAny (model prog w) A (assign target env v) (λ_ s₂=>
     wpAny (model prog w) A (forIn ifs true λc r=>if r=true then do let ok <-isTrue c env (eval c env);pure (ForInStep.yield ok) else pure (ForInStep.yield r)) (λok s₃=>
      if ok=true then wpAny (model prog w) A (eval elt env) (λx s₄=>
       wpAny (model prog w) A (call (.builtin "list.append") [aP,x]) (λ_ s₅=>∃m,m<n/\I m s₅) (λ_ _=>False) s₄) (λ_ _=>False) s₃
      else ∃m,m<n/\I m s₃) (λ_ _=>False) s₂) (λ_ _=>False) s₀) (λ_ _=>False) s₁) (λ_ _=>False) s)
  (n:Nat) (h:I n s) :
  codeAny (model prog w) A (.compLoop (.ListComp elt [⟨target,iter,ifs,0⟩] scope pos) 0 it aP env) R s:=by
 refine codeAny_loop rfl I (λn s hI=>?_) n h
 show wpAny _ A ((compTurn (.ListComp elt [⟨target,iter,ifs,0⟩] scope pos) 0 it aP env).onRaise (λx=>do noteFrame x env;theTreesLotGoes x)) _ _ s
 refine wpAny_noted ?_;rw[compTurn_list];refine aA (wpAny_standAt (aA (wpAny_mono (turn n s hI) (λr s₁ h₁=>?_) λ_ _ h'=>h'.elim)))
 cases r with
 |none=>exact aX h₁
 |some v=>
  refine aA (wpAny_mono h₁ (λ_ s₀ h₀=>?_) λ_ _ h'=>h'.elim)
  refine aA (wpAny_mono h₀ (λ_ s₂ h₂=>aA (wpAny_mono h₂ (λok s₃ h₃=>?_) λ_ _ h'=>h'.elim)) λ_ _ h'=>h'.elim)
  cases ok with
  |false=>exact aX ⟨rfl,h₃⟩
  |true=>
   exact aA (aA (wpAny_mono h₃ (λx s₄ h₄=>aA (wpAny_mono h₄ (λ_ s₅ h₅=>aX (aX ⟨rfl,h₅⟩)) λ_ _ h'=>h'.elim)) λ_ _ h'=>h'.elim))
variable{H:Hp}{s:av}{fp:List ag}{wi:TI}
def Inv.Gk{X:Cx}{aa:List (ag×Obj)}{Z:St}{a:ag}{o:HO}(I:Inv X aa Z H s)(hn:H a=none)(hy:X.s₀.heap.objs.size<=a)(hL:a≠X.env.locals)(hC:∀x c,X.env.cells.lookup x=some c->c≠a)
  (hP:∀p∈X.pn++aa,p.1≠a) (new:bC X.prog X.w (upd H a o) s.heap a o):Inv X aa Z (upd H a o) s:=by
 refine⟨I.ok,I.os,I.bare,⟨I.base.keep,I.base.slot,λb ob e n hx=>?_,I.base.there,λb xs e=>?_,λb ob u e=>?_,λb ps e=>?_⟩,I.loc,I.cell,?_,λx c e=>?_,λp hp=>?_,λb u e=>?_,I.len⟩
 .rw[dc (g_ (gE (cQ e) hy))];exact I.base.free b ob e n hx
 .have z:=I.base.mR b xs e;rw[dc (vY z hn)];exact z
 .have z:=I.base.lP b ob u e;rw[dc (vY z hn)];exact z
 .obtain⟨m,z⟩:=I.base.mQ b ps e
  grind [dc]
 .rw[dc (Ne.symm hL)];exact I.free
 .rw[dc (hC x c e)];exact I.eH x c e
 .obtain⟨e,n,r⟩:=I.pin p hp;exact⟨e,by rw[dc (hP p hp)];exact n,r⟩
 .by_cases hb:b=a
  .grind [aK]
  .rw[dc hb] at e;exact(I.bx b u e).oK (λc v _ q=>q) (λc q=>by rw[dc (vY q hn)];exact q) λc xs q=>by rw[dc (vY q hn)];exact q
def rK(J:It)(g:TG)(tt:TT)(te:TE)(τ₀:St)(H1:Hp)(Fin:List V->Hp->Prop):Prop:=
 ∃(n:Nat) (W:Nat->St->List V->Hp->Prop),W 0 τ₀ [] H1/\∀i τ aP H,i<=n->W i τ aP H->
  (J.stop i H/\Fin aP H)\/(i<n/\J.go i H/\∀x H',J.vT i H x H'->g x τ H' λτ2 H2=>tt τ2 H2 λb H3=>if b=true then te τ2 H3 λv H4=>aP.length<sizeLine/\W (i+1) τ2 (aP++[v]) H4 else W (i+1) τ2 aP H3)
structure dU (X:Cx) (scope:Scope) (M:List Str) (k:Nat) (c8:List Nat):Prop where
 kind:scope.kind=.function
 cell:∀y∈scope.names,y.2≠.cell
 free:∀y∈scope.names,y.2=.free->X.env.kindOf y.1=some .cell\/X.env.kindOf y.1=some .free
 names:∀y∈scope.names,y.2=.local -> scope.names.lookup y.1=some .local
 len:M.length=k+c8.length
 LO:∀(j i:Nat) (x:Str),c8[j]?=some i->M[k+j]?=some x->X.N[i]?=some x/\scope.names.lookup x=some .free
section
variable{X:Cx}{aa:List (ag×Obj)}{Z:St}{tg elt iter:Expr}{ifs:List Expr}{scope:Scope}{pos:Pos}{M:List Str}{k:Nat}{c8:List Nat}{g:TG}{tt:TT}{te:TE}
def Inv.jt(I:Inv X aa Z H s)(ok:dU X scope M k c8):∀y∈scope.names,y.2=.free->∃c,X.env.cells.lookup y.1=some c:=λy hy e=>I.ok.has y.1 (ok.free y hy e)
def Inv.block{s4:av}{C D:ag}{oD:Obj}{m:Str->aj ai}(I:Inv X aa Z H s)(ok:dU X scope M k c8)(f2:∀b∈fp,jH X aa H b)(Jf:∀b∈fp,∃o,s.heap.get? b=some o/\∀v,o.data≠.cell v)
  (hC:s.heap.objs.size<=C) (EO:D≠C) (hD:s.heap.objs.size<=D) (old:∀b o,s.heap.get? b=some o->s4.heap.get? b=some o) (os:s4.os=s.os) (gens:s4.gens=s.gens)
  (ns:s4.heap.Ns C m) (Mz:s4.heap.get? D=some oD) (Mp:∀v,oD.data≠.cell v):Inv (fG X scope M C s H fp) [(D,oD)] (lu k c8 Z) H s4:=by
 have hf:=I.jt ok;have fr:∀a,s.heap.objs.size<=a->H a=none:=λa ha=>I.bx.fresh ha
 have nfs:∀b∈lO X.stack,b<s.heap.objs.size:=λb hb=>by
  rcases y0a.mp (I.l7 b hb) with e|e
  .rw[e];exact I.lt
  .exact Nat.lt_of_not_le λz=>I.Bc z e
 have cl:∀x c,(lz X.env scope.names).lookup x=some c->X.env.cells.lookup x=some c:=λx c e=>Lj hf e
 refine⟨⟨I.ok.mod,ok.kind,I.ok.glob,I.ok.blt,hC,λx y c e1 e2=>I.ok.inj x y c (cl x c e1) (cl y c e2),λx hx=>?_,λx c e _=>?_,I.ok.hd,I.ok.frames,.inl rfl,λb hb=>?_,I.bs,kx I.ok.uP I.sz,λb o e hb=>?_,λb hb z=>?_,I.stack,I.kW⟩,os,by rw[gens];exact I.bare,Un.kept old,⟨m,ns,λi x v h1 h2 h3=>?_⟩,λx c e=>?_,fr C hC,λx c e=>I.eH x c (cl x c e),λp hp=>?_,I.bx.kept old,?_⟩
 .have hx:(relabel scope X.env).names.lookup x=some .cell\/(relabel scope X.env).names.lookup x=some .free:=hx;have hm:(x,NameKind.free)∈scope.names:=by
   rcases hx with h|h
   .exact Kp (env:=X.env) (.inl rfl) ok.cell h
   .exact Kp (env:=X.env) (.inr rfl) ok.cell h
  obtain⟨c,hc⟩:=hf _ hm rfl;exact⟨c,Qg hm hc⟩
 .cases e
 .obtain⟨f0,f1,f2,f3,f4,f5⟩:=f2 b hb;obtain⟨ob,eb,_⟩:=Jf b hb;exact⟨g_ (gE (cQ eb) hC),λx c e=>f4 x c (cl x c e)⟩
 .obtain⟨f0,f1,f2,f3,f4,f5⟩:=f2 b hb;rcases f3 with q|q
  .exact I.ok.rA b o e q
  .exact cJ (gE (cQ e) (kx I.ok.uP q)) (kX _)
 .obtain⟨f0,f1,f2,f3,f4,f5⟩:=f2 b hb;rcases y0a.mp (I.l7 b z) with q|q
  .exact f1 q
  .exact f2 q
 .unfold lu at h2;have hk:¬i<k:=λq=>by
   rw[vN (by simpa using q),N5] at h2
   split at h2 <;> cases h2
  rw[ua (by simpa using hk),sQ,fU] at h2
  cases e:c8[i - k]? with
  |none=>rw[e] at h2;cases h2
  |some j=>
   rw[e] at h2;have EM:(Z[j]?).join=some v:=Option.some.inj h2;have hj:Z[j]?=some (some v):=by
    cases q:Z[j]? with
    |none=>rw[q] at EM;cases EM
    |some z=>rw[q] at EM;simp at EM;rw[EM]
   have AU:k+(i - k)=i:=by lia
   obtain⟨hN,vc⟩:=ok.LO (i - k) j x e (by rw[AU];exact h1)
   have hm:(x,NameKind.free)∈scope.names:=PySem.mem_of_lookup vc;have hkx:=ok.free _ hm rfl;obtain⟨mX,hnX,hlX⟩:=I.loc;obtain⟨u,ru,lk⟩:=hlX j x v hN hj (by rcases hkx with q|q;exact .inr (.inl q);exact .inr (.inr q))
   refine⟨u,ru,.inr ⟨OK (env:=X.env) vc,?_⟩⟩;rcases lk with⟨q,_⟩|⟨_,c,hc,si⟩
   .lia
   .exact⟨c,Qg hm hc,si.keeps old⟩
 .obtain⟨v,z⟩:=I.cell x c (cl x c e);exact⟨v,z.keeps old⟩
 .have e:p=(D,oD):=by simpa[fG] using hp
  subst e;exact⟨Mz,fr D hD,EO,λz=>cJ (gE (nfs D z) hD) (kX _),Mp⟩
 .unfold lu;rw[dz,sQ,bj];exact ok.len.symm
def Px{H2:Hp}{s2:av}{J:It}{it:ag}{tn:Nat->bP->Prop}{RR:ai->ag->Result->av->Prop}{E:ai->av->Prop}{Fin:List V->Hp->Prop}(I2:Inv X aa Z H2 s2)(hc:X.calm=true)(ok:dU X scope M k c8)
  (T:Turn X.prog X.w X.K tg J fp it tn) (t8:tn 0 s2.heap) (f2:∀b∈fp,jH X aa H2 b)
  (hg:∀C s H fp,PG (fG X scope M C s H fp) tg g) (ht:∀C s H fp,uE (fG X scope M C s H fp) ifs tt) (he:∀C s H fp,PE (fG X scope M C s H fp) elt te)
  (hW:rK J g tt te (lu k c8 Z) H2 Fin)
  (hRR:∀D C s' H' aP,Inv X aa Z (upd H' D (.lst aP)) s'->jH X aa (upd H' D (.lst aP)) C->(∃m,s'.heap.Ns C m)->H' D=none->Fin aP H'->RR (.ref D) C (.ok .next) s') :
  wpAny (model X.prog X.w) X.A (newList []) (λaP s₃=>wpAny (model X.prog X.w) X.A (newFunctionEnv scope X.env.globals (lz X.env scope.names) [] X.env.qual none .none (some X.env)) (λEu s₄=> codeAny (model X.prog X.w) X.A (.compStart (.ListComp elt [⟨tg,iter,ifs,0⟩] scope pos) 0 (.ref it) aP { Eu with scope:=relabel scope X.env}) (RR aP Eu.locals) s₄) E s₃) E s2:=by
 refine wpAny_newObj_type (wpAny_newFunctionEnv ok.cell (by intro y hy;simp at hy) (λh₁ hns₁ hsb₁=>?_) ok.kind)
 dsimp only at hns₁ hsb₁ ⊢;generalize Mf:s2.heap.push { cls:=.type "list",dict:=none,data:=.seq ([]:List ai).toArray}=H3 at hns₁ hsb₁ ⊢;have Me:H3.objs.size=s2.heap.objs.size+1:=by rw[<-Mf,Heap.size_push]
 have EO:s2.heap.objs.size≠H3.objs.size:=by rw[Me];exact g_ (yq _)
 have below:∀b,b<s2.heap.objs.size->b≠H3.objs.size/\b≠s2.heap.objs.size:=λb hb=>⟨by rw[Me];exact g_ (BG hb),g_ hb⟩
 have old:∀b o,s2.heap.get? b=some o->h₁.get? b=some o:=λb o e=>hsb₁.extBut b o (below b (cQ e)).1 (dy _ (Mf ▸ dy _ e))
 have xy:h₁.get? s2.heap.objs.size=some { cls:=.type "list",data:=.seq ([]:List ai).toArray 0}:=hsb₁.extBut _ _ EO (dy _ (Mf ▸ jP _ rfl));have Jf:=T.obj 0 _ t8;have xx:s2.heap.objs.size<=H3.objs.size:=by rw[Me];exact zH _
 obtain⟨N,W,w0,turn⟩:=hW;have UR:tn 0 h₁:=T.keep _ _ _ t8 λb _ o e=>old b o e
 have loop:∀s₃:av,s₃={ s2 with heap:=h₁,toks:=s2.toks+([]:List (Str×ai)).length}->
   codeAny (model X.prog X.w) X.A (.compLoop (.ListComp elt [⟨tg,iter,ifs,0⟩] scope pos) 0 (.ref it) (.ref s2.heap.objs.size) (compEnvC scope (lz X.env scope.names) H3.objs.size X.env))
    (RR (.ref s2.heap.objs.size) H3.objs.size) s₃:=by
  rintro s₃ rfl;have I3:Inv (fG X scope M H3.objs.size s2 H2 fp) [(s2.heap.objs.size,{ cls:=.type "list",data:=.seq ([]:List ai).toArray 0})] (lu k c8 Z) H2 { s2 with heap:=h₁,toks:=s2.toks+([]:List (Str×ai)).length}:=
   I2.block ok f2 Jf xx EO (bV _) old rfl rfl hns₁ xy (λv z=>by cases z)
  have L7:∀b∈fp,b≠H3.objs.size/\b≠s2.heap.objs.size:=λb hb=>let ⟨o,e,_⟩:=Jf b hb;below b (cQ e)
  have rE:∀{H':Hp} {oD:Obj},(∀b∈fp,H' b=none)->∀b∈fp,jH (fG X scope M H3.objs.size s2 H2 fp) [(s2.heap.objs.size,oD)] H' b:=λ{H' oD} hn b hb=>by
   obtain⟨f0,f1,f2,f3,f4,f5⟩:=f2 b hb;refine⟨hn b hb,(L7 b hb).1,λz=>?_,.inl hb,λx c e=>f4 x c (Lj (I2.jt ok) e),λp hp z=>?_⟩
   .rcases y0a.mp (I2.l7 b z) with q|q
    .exact f1 q
    .exact f2 q
   .have e:p=(s2.heap.objs.size,oD):=by simpa[fG] using hp
    subst e;exact(L7 b hb).2 z.symm
  refine U6 (λn s'=>∃(i:Nat) (τ:St) (aP:List V) (us:List ai) (c:Nat) (H':Hp),Vals aP us/\aP.length<=sizeLine/\ Inv (fG X scope M H3.objs.size s2 H2 fp) [(s2.heap.objs.size,{ cls:=.type "list",data:=.seq us.toArray c})] τ H' s'/\tn i s'.heap/\(∀b∈fp,H' b=none)/\n=N - i/\i<=N/\W i τ aP H') ?_ N
   ⟨0,lu k c8 Z,[],[],0,H2,.nil,nK _,I3,UR,λb hb=>(f2 b hb).1,rfl,nK _,w0⟩
  rintro n s3 ⟨i,τ,aP,us,c,H',rv,hlen,I,st,fr,rfl,hiN,w⟩;have pinD:=(I.pin (s2.heap.objs.size,{ cls:=.type "list",data:=.seq us.toArray c}) (by simp[fG]))
  rcases turn i τ aP H' hiN w with⟨stop,qn⟩|⟨om,go,step⟩
  .refine bI (T.done (fG X scope M H3.objs.size s2 H2 fp) rfl rfl rfl hc i _ s3 τ H' (λ_ _=>False) I (rE fr) st stop) λr s4 ⟨hr,I4⟩=>?_
   subst hr;have vz:=(I4.pin (s2.heap.objs.size,{ cls:=.type "list",data:=.seq us.toArray c}) (by simp[fG]))
   have mj:∀b∈fp,(b∈X.ex\/X.s₀.heap.objs.size<=b)/\b≠X.env.locals/\(∀x c,X.env.cells.lookup x=some c->c≠b)/\∀p∈X.pn++aa,p.1≠b:=λb hb=>by
    obtain⟨f0,f1,f2,f3,f4,f5⟩:=f2 b hb;exact⟨f3,f1,f4,f5⟩
   have J1:Inv X aa Z H' s4:=I2.yI (ch:=fp) I4.os I4.base I4.bx I4.bare mj;have young:X.s₀.heap.objs.size<=s2.heap.objs.size:=I2.sz;have apart:∀a,s2.heap.objs.size<=a->a≠X.env.locals/\(∀x c,X.env.cells.lookup x=some c->c≠a)/\∀p∈X.pn++aa,p.1≠a:=λa ha=>
    ⟨zG (gE I2.lt ha),λx c e z=>by
     obtain⟨v,q⟩:=I2.cell x c e;exact cJ (gE q.lt (by rw[z];exact ha)) (kX _),λp hp z=>cJ (gE (cQ (I2.pin p hp).1) (by rw[z];exact ha)) (kX _)⟩
   have aD:=apart _ (bV _);have aC:=apart _ xx;have J2:Inv X aa Z (upd H' s2.heap.objs.size (.lst aP)) s4:=J1.Gk vz.2.1 young aD.1 aD.2.1 aD.2.2 ⟨hlen,us,c,rv,vz.1⟩;obtain⟨m,hn,_⟩:=I4.loc;have hCn:H' H3.objs.size=none:=I4.free;refine hRR _ _ s4 H' aP J2 ⟨?_,aC.1,I2.Bc xx,.inr (kx young xx),aC.2.1,aC.2.2⟩ ⟨m,hn⟩ vz.2.1 qn;rw[dc (Ne.symm EO)];exact hCn
  .refine bI (T.item (fG X scope M H3.objs.size s2 H2 fp) rfl rfl rfl hc i _ s3 τ H' (λ_ _=>False) I (rE fr) st go) λr s4 ⟨u,hr,h4⟩=>?_
   subst hr;refine bI h4 λ_ s5 hh=>?_
   obtain⟨x,H5,I5,r5,y5,oJ,L9⟩:=hh;have JT:=I5.pinned (rE L9) (T.obj _ _ oJ);refine bI (hg _ _ _ _ _ s5 τ H5 x u _ JT r5 (step x H5 y5)) λ_ s6 hh=>?_
   obtain⟨τ6,H6,I6,q6⟩:=hh;refine bI (ht _ _ _ _ _ s6 τ6 H6 _ I6 q6) λb s7 hh=>?_
   obtain⟨H7,I7,q7⟩:=hh;have vj:∀{s':av} {τ':St} {Hn:Hp},Inv (fG X scope M H3.objs.size s2 H2 fp) ([(s2.heap.objs.size,{ cls:=.type "list",data:=.seq us.toArray c})]++Ec fp s5.heap) τ' Hn s'->tn (i+1) s'.heap/\∀b∈fp,Hn b=none:=λ{s' τ' Hn} I'=>by
    refine⟨T.keep _ _ _ oJ λb hb o e=>(I'.pin (b,o) (rG _ (rG _ (Dx hb e)))).1,λb hb=>?_⟩
    obtain⟨o,e,d⟩:=T.obj _ _ oJ b hb;exact(I'.pin (b,o) (rG _ (rG _ (Dx hb e)))).2.1
   cases b with
   |false=>
    rw[bD vM] at q7;show ∃m,m<N - i/\_;obtain⟨st7,fr7⟩:=vj I7;exact⟨N - (i+1),by lia,i+1,τ6,aP,us,c,H7,rv,hlen,I7.eO,st7,fr7,rfl,om,q7⟩
   |true=>
    rw[bK rfl] at q7;show wpAny _ _ (eval elt _) _ _ s7;refine bI (he _ _ _ _ _ s7 τ6 H7 _ I7 q7) λv s8 hh=>?_
    obtain⟨y,H8,I8,r8,hl8,w8⟩:=hh;obtain⟨st8,fr8⟩:=vj I8;have sE:=(I8.pin (s2.heap.objs.size,{ cls:=.type "list",data:=.seq us.toArray c}) (by simp[fG]))
    have hul:=rv.length;refine append_at (hsz:=by show us.toArray.size<=sizeLine;rw[fF,<-hul];exact hlen) sE.1 λh9 UK e9=>?_
    have e9':h9.get? s2.heap.objs.size=some { cls:=.type "list",data:=.seq (us++[v]).toArray (c+1)}:=by rw[e9,List.push_toArray]
    have U4:=I8.eO;have Mg:s2.heap.objs.size≠(fG X scope M H3.objs.size s2 H2 fp).env.locals:=sE.2.2.1;have nx:∀(b:ag),H8 b≠none->b≠s2.heap.objs.size:=λb hb z=>hb (by rw[z];exact sE.2.1)
    refine⟨N - (i+1),by lia,i+1,τ6,aP++[y],us++[v],c+1,H8,rv.append (.cons r8 .nil),by rw[dz,wB];exact hl8,?_,?_,fr8,rfl,om,w8⟩
    .have I9:Inv (fG X scope M H3.objs.size s2 H2 fp) [] τ6 H8 s8:=U4.kU (λp hp=>cJ hp (by simp))
     have U3:Inv (fG X scope M H3.objs.size s2 H2 fp) [] τ6 H8 { s8 with heap:=h9}:=I9.turned (t':=s8.toks) (λb o hb e=>(UK.2 b hb).trans e) sE.2.1 Mg (.inr (bV _))
      (λx cc e z=>by
       obtain⟨v',q⟩:=I2.cell x cc (Lj (I2.jt ok) e);exact cJ (gE q.lt (by rw[z];exact bV _)) (kX _)) (λp hp=>cJ hp (by simp[fG]))
     refine U3.kU λp hp=>?_
     simp_all
    .exact T.keep _ _ _ st8 λb hb o e=>UK.extBut b o (L7 b hb).2 e
 exact codeAny_compStart_list (loop _ rfl) (T.self _ 0 _ _ _ UR (loop _ rfl))
def zD(wi:TI)(g:TG)(tt:TT)(te:TE)(k:Nat)(c8:List Nat):TE:=λZ H Q=>wi Z H λJ H1=>rK J g tt te (lu k c8 Z) H1 λaP H'=>∀l,H' l=none->Q (.ref l) (upd H' l (.lst aP))
def d8k(hc:X.calm=true)(ok:dU X scope M k c8)(hi:PI X tg iter wi)
  (hg:∀C s H fp,PG (fG X scope M C s H fp) tg g) (ht:∀C s H fp,uE (fG X scope M C s H fp) ifs tt) (he:∀C s H fp,PE (fG X scope M C s H fp) elt te)
  (hs:∀x,foldedSetIterable iter X.env x=pure x:=by intro _;rfl):PE X (.ListComp elt [⟨tg,iter,ifs,0⟩] scope pos) (zD wi g tt te k c8):=by
 intro aa s Z H Q I h;rw[eval_ListComp];refine wpAny_comprehension_free (use:=none) rfl hs (Ou (I.jt ok)) ok.kind ok.names (bI (hi aa s Z H _ I h) λv s1 h1=>bI h1 λJn s2 h2=>?_)
 obtain⟨it,fp,tn,J,H2,e,I2,T,t8,f2,hW⟩:=h2;subst e;refine Px (RR:=λaP C=>compPost (model X.prog X.w) X.A X.xe none (EP X aa Z Q) aP C) I2 hc ok T t8 f2 hg ht he hW ?_
 intro D C s' H' aP I' fC ⟨m,hn⟩ hD hq;refine⟨m,hn,λh' sb=>?_⟩
 obtain⟨f0,f1,f2,f3,f4,f5⟩:=fC;exact⟨.ref D,_,I'.turned (t':=s'.toks) (λb o hb e=>(sb.2 b hb).trans e) f0 f1 f3 f4 f5,rfl,hq D hD⟩
def FO(wi:TI)(g:TG)(tt:TT)(te:TE)(k:Nat)(c8:List Nat)(i:Nat):TS:=λD Z H=>zD wi g tt te k c8 Z H λv H'=>D.nx (Z.set i (some v)) H'
def d8l{i:Nat}{x:Str}{px qz:Pos}(hc:X.calm=true)(ok:dU X scope M k c8)(hN:X.N.Nodup)(AU:X.N[i]?=some x)(hx:Loc X.env.scope x)(hi:PI X tg iter wi)
  (hg:∀C s H fp,PG (fG X scope M C s H fp) tg g) (ht:∀C s H fp,uE (fG X scope M C s H fp) ifs tt) (he:∀C s H fp,PE (fG X scope M C s H fp) elt te)
  (E7:swapsWith (.ListComp elt [⟨tg,iter,ifs,0⟩] scope pos) (some (.Name x px)) qz.line X.env=pure true)
  (hs:∀x,foldedSetIterable iter X.env x=pure x:=by intro _;rfl) (hf:X.fn x=true\/X.env.scope.names.lookup x=some .local := by first|exact .inl rfl|exact .inr rfl|assumption) :
  PS X (.Assign [.Name x px] (.ListComp elt [⟨tg,iter,ifs,0⟩] scope pos) qz) (FO wi g tt te k c8 i):=by
 intro aa s Z H D I h;rw[exec_Assign_Name_used _ _ _ _ E7];refine aA (wpAny_standAt (aA ?_));show wpAny _ X.A (do let _ <-comprehension (.ListComp elt [⟨tg,iter,ifs,0⟩] scope pos) scope X.env _ (newList []) false (eval iter X.env) (some (assign (.Name x px) X.env))) _ _ s
 refine aA (wpAny_mono (wpAny_comprehension_free (use:=some (assign (.Name x px) X.env)) (Q:=λ_ s'=>SP X aa D .next s') rfl hs (Ou (I.jt ok)) ok.kind ok.names (bI (hi aa s Z H _ I h) λv s1 h1=>bI h1 λJn s2 h2=>?_)) (λ_ s' hq=>aX (aX hq)) λ_ _ e=>e)
 obtain⟨it,fp,tn,J,H2,e,I2,T,t8,f2,hW⟩:=h2;subst e;refine Px (RR:=λaP C=>compPost (model X.prog X.w) X.A X.xe (some (assign (.Name x px) X.env)) (λ_ s'=>SP X aa D .next s') aP C) I2 hc ok T t8 f2 hg ht he hW ?_
 intro D' C s' H' aP I' fC ⟨m,hn⟩ hD hq;obtain⟨f0,f1,f2,f3,f4,f5⟩:=fC;show wpAny _ X.A (assign (.Name x px) X.env (.ref D')) _ _ _;refine wpAny_assign_Name (Pn I' hN AU hx (v:=.ref D') rfl (λvD U0 hh=>?_) hf)
 obtain⟨a,sb,ha⟩:=hh;have hCa:C≠a:=by
  rcases ha with e|e
  .rw[e];exact f1
  .exact λz=>f4 _ _ e z.symm
 refine⟨m,hn.sameBut sb hCa,λh' sb'=>⟨_,_,U0.turned (t':=vD.toks) (λb o hb e=>(sb'.2 b hb).trans e) f0 f1 f3 f4 f5,hq D' hD⟩⟩
end
variable{w:cB}{tg:Expr}{X:Cx}
def kF(c:Nat):Str:=⟨#[c]⟩
def GU(x:Str):It:=⟨λi _=>i<x.cps.size,λi H v H'=>H'=H/\∃c,x.cps[i]?=some c/\v=.str (kF c),λi _=>x.cps.size<=i⟩
def Yt{P:c7}{K:aL}(it:ag)(x:Str)(t:Tok)(ty:String)(yX:ty="str_ascii_iterator"\/ty="str_iterator"):Turn P w K tg (GU x) [it] it (λi h=>h.IsStrIter it ty x t i) where
 mem:=by simp
 obj:=λi h st b hb=>by
  have e:b=it:=by simpa using hb
  subst e;obtain⟨o,e,c,d⟩:=st
  simp_all
 keep:=λi h h' st k=>by
  obtain⟨o,e,c,d⟩:=st;exact⟨o,k it (by simp) o e,c,d⟩
 item:=by
  intro X hP hw hK hc i aa s Z H E I hf st hg;subst hP hw hK;have hi:i<x.cps.size:=hg;obtain⟨f0,f1,f2,f3,f4,f5⟩:=hf it (by simp)
  have fin:∀h',h'.IsStrIter it ty x t (i+1)->Heap.SameBut it s.heap h'->∃u,some (Value.str ⟨#[x.cps[i]]⟩ s.toks)=some u/\
    wpAny (model X.prog X.w) X.A (letOwnedTupleGo tg (.ref it) u) (λ_ s2=>∃y H',Inv X aa Z H' s2/\RelV y u/\(GU x).vT i H y H'/\s2.heap.IsStrIter it ty x t (i+1)/\∀b∈[it],H' b=none) E { s with heap:=h',toks:=s.toks+1}:=λh' kr sb=>by
   have I1:Inv X aa Z H { s with heap:=h',toks:=s.toks+1}:=I.turned (λb o hb e=>(sb.2 b hb).trans e) f0 f1 f3 f4 f5
   obtain⟨o,e,c,d⟩:=id kr;refine⟨_,rfl,Av (s:={ s with heap:=h',toks:=s.toks+1}) e c d (by rcases yX with z|z <;> subst z <;> decide) ⟨.str (kF x.cps[i]),H,I1,⟨_,rfl⟩,⟨rfl,_,by simp[hi],rfl⟩,kr,λb hb=>(hf b hb).1⟩⟩
  rcases yX with z|z
  .subst z;exact wpAny_pyNext_ascii_item st (c:=x.cps[i]) (by simp[hi]) fin
  .subst z;exact wpAny_pyNext_wide_item st (c:=x.cps[i]) (by simp[hi]) fin
 done:=by
  intro X hP hw hK hc i aa s Z H E I hf st hg;subst hP hw hK;have hi:x.cps.size<=i:=hg;obtain⟨f0,f1,f2,f3,f4,f5⟩:=hf it (by simp)
  rcases yX with z|z
  .subst z;exact wpAny_pyNext_ascii_end (I.ok.hd hc) st (by simp;lia) λh' eb=>⟨rfl,I.turned (t':=s.toks) (λb o hb e=>eb b o hb e) f0 f1 f3 f4 f5⟩
  .subst z;exact wpAny_pyNext_wide_end (I.ok.hd hc) st (by simp;lia) λh' eb=>⟨rfl,I.turned (t':=s.toks) (λb o hb e=>eb b o hb e) f0 f1 f3 f4 f5⟩
 self:=λ_ _ _ _ _ st h=>by
  grind [PySem.wpAny_pyIter_striter_ascii,PySem.wpAny_pyIter_striter_wide]
def Fb(tl:TE):TI:=λZ H R=>tl Z H λx H1=>∃z,x=.str z/\R (GU z) H1
def e5a{l:Expr}{tl:TE}(hl:PE X l tl):PI X tg l (Fb tl):=by
 intro aa s Z H R I h;refine bI (hl aa s Z H _ I h) λv s1 hh=>?_
 obtain⟨x,H1,I1,r1,q1⟩:=hh;obtain⟨z,e,q⟩:=q1;subst e;obtain⟨t,rfl⟩:=r1;have key:∀ty:String,ty="str_ascii_iterator"\/ty="str_iterator"->J3 X aa Z tg R (.ref s1.heap.objs.size) { s1 with heap:=s1.heap.push { cls:=.type ty,data:=.fields #[.str z t,.int 0 0]}}:=λty yX=>by
  refine⟨s1.heap.objs.size,[s1.heap.objs.size],_,_,H1,rfl,I1.kept (t':=s1.toks) λb o e=>dy _ e,Yt _ z t ty yX,⟨_,jP _ (by rcases yX with e|e <;> subst e <;> rfl),rfl,rfl⟩,λb hb=>?_,q⟩
  have e:b=s1.heap.objs.size:=by simpa using hb
  subst e;exact I1.mI (bV _) (I1.bx.fresh (bV _))
 cases ha:z.cps.all (· < 128)
 .exact wpAny_pyIter_wide ha (key _ (.inr rfl))
 .exact wpAny_pyIter_ascii ha (key _ (.inl rfl))
def gH(names outer:List (Str×rJ))(N M:List Str)(k:Nat)(c8:List Nat):Bool:=
 names.all (λy=>y.2 != .cell)&&(names.all (λy=>y.2 != .free || (outer.lookup y.1 == some .cell || outer.lookup y.1 == some .free))&&(names.all (λy=>y.2 != .local || names.lookup y.1 == some .local) && (M.length == k+c8.length&&(List.range c8.length).all (λj=>match c8[j]?,M[k+j]? with|some i,some x=>N[i]? == some x&&names.lookup x == some .free|_,_=>true))))
def dU.of{scope:Scope}{M:List Str}{k:Nat}{c8:List Nat}(outer:List (Str×rJ))(N:List Str)(h:gH scope.names outer N M k c8=true)(ho:X.env.scope.names=outer:=by rfl)(hN:X.N=N:=by rfl)(hk:scope.kind=.function:=by rfl):dU X scope M k c8:=by
 unfold gH at h;simp only[kO,oO,Bool.or_eq_true,bne_iff_ne,ne_eq,beq_iff_eq] at h;obtain⟨h1,h2,h3,h4,h5⟩:=h;refine⟨hk,h1,λy hy e=>?_,λy hy e=>?_,h4,λj i x e1 e2=>?_⟩
 .rcases h2 y hy with z|z
  .exact cJ e z
  .show X.env.scope.names.lookup y.1=_\/X.env.scope.names.lookup y.1=_;rw[ho];exact z
 .rcases h3 y hy with z|z
  .exact cJ e z
  .exact z
 .have hj:j<c8.length:=(eY.mp e1).1;have:=h5 j (tV.mpr hj);rw[e1,e2] at this;simp only[kO,beq_iff_eq] at this;rw[hN];exact this
section
variable{X:Cx}
def e5b:dF X (compareOp .Is) (λx y H Q=>∃a b,x=.bl a/\y=.bl b/\Q (.bl (a == b)) H):=by
 intro aa s Z H x y v u Q I rx ry h;obtain⟨a,b,rfl,rfl,q⟩:=h;cases rx;cases ry;exact is_bool (xa I q rfl)
def d8m:dF X (compareOp .IsNot) (λx y H Q=>∃a b,x=.bl a/\y=.bl b/\Q (.bl (a != b)) H):=by
 intro aa s Z H x y v u Q I rx ry h;obtain⟨a,b,rfl,rfl,q⟩:=h;cases rx;cases ry;exact isnot_bool (xa I q rfl)
def Ed(K:aL)(H:Hp):V->String->Prop
 |.aH,n=>n="NoneType"
 |.bl _,n=>n="bool"
 |.int _,n=>n="int"
 |.str _,n=>n="str"
 |.ref a,n=>(n="list"/\∃xs,cS K H a xs)\/(n="tuple"/\∃xs,iA K H a xs)
 |_,_=>False
def tP(k T:String):Bool:=k == T || (k == "bool" && T == "int")
def Yu:bR X (.builtin "isinstance") (λxs H Q=>∃x k T,xs=[x,.ty T]/\Ed X.K H x k/\(T="int"\/T="str"\/T="bool"\/T="list"\/T="tuple")/\Q (.bl (tP k T)) H):=by
 intro aa s Z H xs us Q I r h;obtain⟨x,k,T,rfl,hk,hT,q⟩:=h;obtain⟨u,w',rfl,rx,ry⟩:=vals2 r;cases ry;have fin:∀b,b=tP k T->EP X aa Z Q (.bool b) s:=λb e=>xa I q e.symm
 have dr:∀b,b=tP k T->EP X aa Z Q (.bool b) { s with toks:=s.toks+1}:=λb e=>xa (I.tok _) q e.symm
 cases x with
 |aH=>
  cases rx;have hk:k="NoneType":=hk;subst hk;rcases hT with rfl|rfl|rfl|rfl|rfl
  .exact IsiPair.NoneType_int (dr _ (by decide))
  .exact IsiPair.NoneType_str (dr _ (by decide))
  .exact IsiPair.NoneType_bool (dr _ (by decide))
  .exact IsiPair.NoneType_list (dr _ (by decide))
  .exact IsiPair.NoneType_tuple (dr _ (by decide))
 |bl b=>
  cases rx;have hk:k="bool":=hk;subst hk;rcases hT with rfl|rfl|rfl|rfl|rfl
  .exact IsiPair.bool_int (fin _ (by decide))
  .exact IsiPair.bool_str (dr _ (by decide))
  .exact IsiPair.bool_bool (fin _ (by decide))
  .exact IsiPair.bool_list (dr _ (by decide))
  .exact IsiPair.bool_tuple (dr _ (by decide))
 |int i=>
  obtain⟨t,rfl⟩:=rx;have hk:k="int":=hk;subst hk;rcases hT with rfl|rfl|rfl|rfl|rfl
  .exact IsiPair.int_int (fin _ (by decide))
  .exact IsiPair.int_str (dr _ (by decide))
  .exact IsiPair.int_bool (dr _ (by decide))
  .exact IsiPair.int_list (dr _ (by decide))
  .exact IsiPair.int_tuple (dr _ (by decide))
 |str z=>
  obtain⟨t,rfl⟩:=rx;have hk:k="str":=hk;subst hk;rcases hT with rfl|rfl|rfl|rfl|rfl
  .exact IsiPair.str_int (dr _ (by decide))
  .exact IsiPair.str_str (fin _ (by decide))
  .exact IsiPair.str_bool (dr _ (by decide))
  .exact IsiPair.str_list (dr _ (by decide))
  .exact IsiPair.str_tuple (dr _ (by decide))
 |ref a=>
  cases rx;rcases hk with⟨hk,ys,hs⟩|⟨hk,ys,hs⟩
  .subst hk;obtain⟨aG,_,⟨o,n,e,hc,_⟩,_⟩:=I.list hs;rcases hT with rfl|rfl|rfl|rfl|rfl
   .exact IsiPair.list_int e hc (dr _ (by decide))
   .exact IsiPair.list_str e hc (dr _ (by decide))
   .exact IsiPair.list_bool e hc (dr _ (by decide))
   .exact IsiPair.list_list e hc (fin _ (by decide))
   .exact IsiPair.list_tuple e hc (dr _ (by decide))
  .subst hk;obtain⟨aG,_,⟨o,e,hc,_⟩,_⟩:=I.tuple hs;rcases hT with rfl|rfl|rfl|rfl|rfl
   .exact IsiPair.tuple_int e hc (dr _ (by decide))
   .exact IsiPair.tuple_str e hc (dr _ (by decide))
   .exact IsiPair.tuple_bool e hc (dr _ (by decide))
   .exact IsiPair.tuple_list e hc (dr _ (by decide))
   .exact IsiPair.tuple_tuple e hc (fin _ (by decide))
 |yH _=>exact False.elim hk
 |yP _=>exact False.elim hk
 |ty _=>exact False.elim hk
def f0v{x:Str}{n:String}{pos:Pos}(hg:Gl X x)(hm:X.mg x=none)(hv:bootBuiltins x=some (.type n))(hn:x≠"__name__":=by decide)(hd:(x == ("__debug__":Str))=false:=by decide):PE X (.Name x pos) (tC (.ty n)):=
 d7n hg hm hv rfl hn hd
def VN{prog:c7}{A:cR}(aG:List ai)(bs:List Bool)(hv:Vals (bs.map V.bl) aG):TruthOf prog w A (λi v=>aG.toArray[i]?=some v) (λi=>bs.getD i false):=by
 intro i v s Q E hP hQ;have T_:aG[i]?=some v:=by simpa using hP
 have hl:=hv.length;rw[bj] at hl;have hi:i<aG.length:=(eY.mp T_).1;have hb:(bs.map V.bl)[i]?=some (.bl bs[i]):=by simp[show i<bs.length by lia]
 obtain⟨u,hu,ru⟩:=hv.get hb;rw[T_] at hu;cases hu;cases ru;have e:bs.getD i false=bs[i]:=by simp[show i<bs.length by lia]
 have Ua:Q (bs.getD i false) s:=hQ;rw[e] at Ua;exact wpAny_truthy_bool Ua
def WT(bs:List Bool):(List.range bs.length).all (λi=>bs.getD i false)=bs.all id:=by
 rw[Gz,oO,oO];constructor
 .intro h b hb;obtain⟨i,hi,e⟩:=List.mem_iff_getElem.mp hb
  simp_all
 .intro h i hi;have hi:=tV.mp hi;have:=h bs[i] (C2 hi);simp[hi];exact this
def WU(hc:X.calm=true):bR X (.builtin "all") (λxs H Q=>∃(a:ag) (bs:List Bool),xs=[.ref a]/\cS X.K H a (bs.map V.bl)/\Q (.bl (bs.all id)) H):=by
 intro aa s Z H xs us Q I r h;obtain⟨a,bs,rfl,hs,q⟩:=h;obtain⟨u,rfl,ru⟩:=vals1 r;cases ru;obtain⟨aG,rv,p,hz⟩:=I.list hs;have hl:=rv.length;rw[bj] at hl;refine call_all_walk (wpAny_pyIter_list p.isList ?_);have fD:a≠s.heap.objs.size:=by obtain⟨o,n,e,_⟩:=p;exact g_ (cQ e)
 refine⟨s.heap.objs.size,_,_,aG.toArray.size,_,_,λi=>bs.getD i false,rfl,Walks.list (A:=X.A.in1) (show X.A.in1.handled=none from I.ok.hd hc) _ a fD aG.toArray,⟨⟨_,jP _ rfl,rfl,rfl⟩,?_⟩,VN aG bs rv,λh' tk hk=>?_⟩
 .exact p.isList.at λo e=>dy _ e
 .have e1:aG.toArray.size=bs.length:=by rw[fF,<-hl]
  refine⟨.bl (bs.all id),H,I.kept (h':=h') (t':=tk) (λb o e=>hk b o (λz=>cJ (gE (cQ e) (Gw (qE.mp z).symm)) (kX _)) (dy _ e)),?_,q⟩
  show Value.bool _=Value.bool _;rw[e1,WT]
end
structure aS (K:aL) (mg:Str->aj ai) (x:Str) (st:Stmt) (f:ag) (fd:bJ) (ps:List Str):Prop where
 fn:Fun K x x st f fd
 mg:mg x=some (.ref f)
 bd:Binds K fd ps []
section
variable{X:Cx}{k:Nat}{f:ag}{fd:bJ}{ps:List Str}{sp:Sp}{x:Str}{p pos:Pos}{e:Expr}{es:List Expr}{t:TA}{st:Stmt}
end
section
variable{X:Cx}{a b:Expr}{rest:List Expr}{pos:Pos}{ta tb:TE}{tA tB:TT}
end
def az.put{H H':Hp}{a:ag}{o:HO}(s:az H H')(h:H' a=none):az H (upd H' a o):=λb u e=>by
 have z:=s b u e;rw[dc (vY z h)];exact z
def uL{H:Hp}{a:ag}{o:HO}(h:H a=none):az H (upd H a o):=(az.refl H).put h
def Yv{α:Type}{xs:List α}{k:Int}(d:α)(h0:0<=k)(hk:k<xs.length):dq xs k=some (xs.getD k.toNat d):=by
 have Mt:k.toNat<xs.length:=by lia
 have e:xs[k.toNat]?=some (xs.getD k.toNat d):=by simp[Mt]
 have z:=uN e
 rwa[show((k.toNat:Nat):Int)=k by lia] at z
def rV:bootBuiltins "list"=some (.type "list"):=by decide +kernel
section
variable{X:Cx}
noncomputable def tN(xs:List V)(k:Nat)(y:V):List V:=xs.take k++y::xs.drop k
def VO(xs:List V)(k:Nat)(y:V):(tN xs k y).length=xs.length+1:=by
 grind [tN]
def Rb:V->List V->Hp->VK->Prop:=λx vs H Q=>∃l xs i y,x=.ref l/\vs=[.int i,y]/\H l=some (.lst xs)/\0<=i/\i<2^62/\xs.length<sizeLine/\Q .aH (upd H l (.lst (tN xs i.toNat y)))
theorem WV:BO X "list.insert" Rb:=by
 intro aa s Z H x vs v us Q I rx rv h;obtain⟨l,xs,i,y,rfl,rfl,hH,h0,hi,hz,q⟩:=h;cases rx;obtain⟨u,u',rfl,⟨t,rfl⟩,ru⟩:=rv.two;obtain⟨z,aG,n,r,hl,e⟩:=I.A8 hH;have Mq:¬(!Builtin.List.listFitsIndex i)=true:=by
  grind [PySem.Builtin.List.listFitsIndex]
 refine call_meets F.slot_list_insert ⟨_,e,rfl⟩ F.entry_list_insert (F.args_list_insert_3 _ _ _) (PySem.AutoSeq1.list_insert_list_int_val_1 l aG.toArray n i t u' Mq (by rw[fF];lia)) ⟨e,?_⟩
 refine⟨.aH,_,I.A7 (its':=aG.take i.toNat++u'::aG.drop i.toNat) hH e ?_ ((r.take i.toNat).append (.cons ru (r.drop i.toNat))) ?_,rfl,q⟩
 .have h1:¬i<0:=by lia
  simp only[h1,kP];apply Array.ext';simp only[Array.toList_append,Array.toList_push,Array.toList_extract,fF];rw[List.extract_eq_drop_take,List.extract_eq_drop_take];have e1:min i.toNat aG.length - 0=min i.toNat aG.length:=by lia
  rw[e1];simp only[List.drop_zero];have e2:aG.take (min i.toNat aG.length)=aG.take i.toNat:=by rw[List.take_eq_take_iff];lia
  rw[e2];by_cases hc:i.toNat<=aG.length
  .rw[Nat.min_eq_left hc,GC (l:=List.drop i.toNat aG) (by rw[C1];lia)]
   simp
  .have hc:aG.length<=i.toNat:=by lia
   rw[Nat.min_eq_right hc,JE (bV _),JE hc];simp
 .show(tN xs i.toNat y).length<=sizeLine;rw[VO];lia
def JU(a c:Int)(n:Nat):It:=⟨λi _=>i<n,λi H x H'=>H'=H/\x=.int (a+i*c),λi _=>n<=i⟩
def VP{P:c7}{w:cB}{K:aL}{tg:Expr}(it:ag)(a c:Int)(n:Nat):Turn P w K tg (JU a c n) [it] it (λi h=>IsRangeIter h it (a+(i:Nat)*c) ((n:Int) - (i:Nat)) c) where
 mem:=by simp
 obj:=λi h st b hb=>by
  simp_all
 keep:=λi h h' st k=>k it (by simp) _ st
 item:=by
  intro X hP hw hK hc i aa s Z H E I hf st hg;subst hP hw hK;obtain⟨f0,f1,f2,f3,f4,f5⟩:=hf it (by simp)
  have W:=Walks.range (prog:=X.prog) (w:=X.w) (I.ok.hd hc) it a c n;refine W.item i s _ _ hg st λv h' tk hv kr kk=>?_
  obtain⟨t,rfl⟩:=hv;have I1:Inv X aa Z H { s with heap:=h',toks:=tk}:=I.turned (λb o hb e=>kk b o (by simpa using hb) e) f0 f1 f3 f4 f5
  exact⟨_,rfl,Av (s:={ s with heap:=h',toks:=tk}) (n:="range_iterator") kr rfl rfl (by decide) ⟨.int (a+i*c),H,I1,⟨t,rfl⟩,⟨rfl,rfl⟩,kr,λb hb=>(hf b hb).1⟩⟩
 done:=by
  intro X hP hw hK hc i aa s Z H E I hf st hg;subst hP hw hK;obtain⟨f0,f1,f2,f3,f4,f5⟩:=hf it (by simp)
  exact wpAny_pyNext_range_end (I.ok.hd hc) st (by have:n<=i:=hg;lia) λh' eb=>⟨rfl,I.turned (t':=s.toks) (λb o hb e=>eb b o hb e) f0 f1 f3 f4 f5⟩
 self:=λ_ _ _ _ _ st h=>wpAny_pyIter_rangeiter st h
def FL:V->aj Int->aj Int->Hp->VK->Prop:=λx lo hi H Q=>∃z,x=.str z/\z.length<=sizeLine/\Q (.str (Txt.slice z lo hi)) H
theorem Bw:uG X FL:=by
 intro aa s Z H x v vl vu lo hi sl Q I rx hs pl pu h;obtain⟨z,rfl,hz,q⟩:=h;obtain⟨t,rfl⟩:=rx;refine⟨"str",_,F.slot_str_getitem.lookup,typeIs_str _ _ _,?_⟩;have fin:∀t' k,EP X aa Z Q (.str (Txt.slice z lo hi) t') { s with toks:=k}:=λt' k=>⟨.str _,H,I.tok _,⟨_,rfl⟩,q⟩
 cases pl with
 |none=>
  cases pu with
  |none=>exact wpAny_getItem_str_slice (l:=none) (u:=none) (st:=none) hs rfl (post_val_or_str ⟨kx (Txt.slice_le z _ _) hz,fin⟩)
  |int j tj=>exact wpAny_getItem_str_slice (l:=none) (u:=some (j,tj)) (st:=none) hs rfl (post_val_or_str ⟨kx (Txt.slice_le z _ _) hz,fin⟩)
 |int i ti=>
  cases pu with
  |none=>exact wpAny_getItem_str_slice (l:=some (i,ti)) (u:=none) (st:=none) hs rfl (post_val_or_str ⟨kx (Txt.slice_le z _ _) hz,fin⟩)
  |int j tj=>exact wpAny_getItem_str_slice (l:=some (i,ti)) (u:=some (j,tj)) (st:=none) hs rfl (post_val_or_str ⟨kx (Txt.slice_le z _ _) hz,fin⟩)
def V':dF X (binaryOp .Mult) (λx y H Q=>∃z n,x=.str z/\y=.int n/\MulOk z n/\Q (.str (Txt.mul z n)) H):=by
 intro aa s Z H x y v u Q I rx ry h;obtain⟨z,n,rfl,rfl,hm,q⟩:=h;obtain⟨t,rfl⟩:=rx;obtain⟨t',rfl⟩:=ry;exact SB.mul hm λt' k=>⟨.str _,H,I.tok _,⟨_,rfl⟩,q⟩
end
inductive zQ (K:aL) (H:Hp):Nat->V->V->Bool->Prop
 |flat {d:Nat} {x y:V}:yO x=true->yO y=true->zQ K H d x y (eqV x y)
 |same {d:Nat} {a:ag}:zQ K H d (.ref a) (.ref a) true
 |lst {d:Nat} {a b:ag} {xs ys:List V} {e:Nat->Bool}:a≠b->cS K H a xs->cS K H b ys->xs.length=ys.length->(∀(i:Nat) x y,xs[i]?=some x->ys[i]?=some y->zQ K H d x y (e i))->zQ K H (d+1) (.ref a) (.ref b) ((List.range xs.length).all e)
 |lstN {d:Nat} {a b:ag} {xs ys:List V}:a≠b->cS K H a xs->cS K H b ys->xs.length≠ys.length->zQ K H (d+1) (.ref a) (.ref b) false
 |tup {d:Nat} {a b:ag} {xs ys:List V} {e:Nat->Bool}:a≠b->iA K H a xs->iA K H b ys->(∀(i:Nat) x y,xs[i]?=some x->ys[i]?=some y->zQ K H d x y (e i))->zQ K H (d+1) (.ref a) (.ref b) ((List.range (min xs.length ys.length)).all e&&xs.length == ys.length)
section
variable{X:Cx}{aa:List (ag×Obj)}{Z:St}{H:Hp}{s:av}
def Vals.at{xs:List V}{us:List ai}(r:Vals xs us){j:Nat}(h:j<us.toArray.size):∃x,xs[j]?=some x/\RelV x us.toArray[j]:=by
 have hl:=r.length;have h':j<us.length:=by simpa using h
 have hx:xs[j]?=some xs[j]:=by simp[show j<xs.length by lia]
 obtain⟨u,hu,ru⟩:=r.get hx
 simp_all
end
section
variable{X:Cx}
def Yw(K:aL)(hK:X.K=K:=by rfl):tq X (Bp K):=hK ▸ d8g
def d8n(K:aL)(hK:X.K=K:=by rfl):tq X (Bq K):=hK ▸ e4y
def Vn(K:aL)(hK:X.K=K:=by rfl):bR X (.builtin "len") (λxs H Q=>∃p ys,xs=[.ref p]/\(cS K H p ys\/iA K H p ys)/\Q (.int ys.length) H):=hK ▸ Vy
def Yx(K:aL)(hK:X.K=K:=by rfl):uG X (Br K):=hK ▸ d8h
def d8o(K:aL)(hK:X.K=K:=by rfl):uG X (Bs K):=hK ▸ e4x
def WW(K:aL)(hK:X.K=K:=by rfl):bR X (.builtin "isinstance") (λxs H Q=>∃x k T,xs=[x,.ty T]/\Ed K H x k/\(T="int"\/T="str"\/T="bool"\/T="list"\/T="tuple")/\Q (.bl (tP k T)) H):=hK ▸ Yu
def Vo(K:aL)(hK:X.K=K:=by rfl):bR X (.type "list") (λxs H Q=>∃p ys,xs=[.ref p]/\(cS K H p ys\/iA K H p ys)/\∀l,H l=none->Q (.ref l) (upd H l (.lst ys))):=hK ▸ Vz
end
end L2
set_option autoImplicit false
namespace L2
open PySem PySem.Spec PyProof.Rows
theorem Hy{α β:Type}{R:α->β->Prop}:∀{l:List α} {m:List β} (i:Nat) {b:β},Paired R l m->m[i]?=some b->∃a,l[i]?=some a/\R a b
 |_,_,_,_,.nil,e=>by simp at e
 |_,_,0,_,.cons r _,e=>by simp at e;subst e;exact⟨_,rfl,r⟩
 |_,_,i+1,_,.cons _ t,e=>by
  obtain⟨a,h1,h2⟩:=Hy i t (by simpa using e)
  simp_all
theorem DF{α β:Type}{R:α->β->Prop}:∀{l:List α} {m:List β} (i:Nat) {a:α},Paired R l m->l[i]?=some a->∃b,m[i]?=some b/\R a b
 |_,_,_,_,.nil,e=>by simp at e
 |_,_,0,_,.cons r _,e=>by simp at e;subst e;exact⟨_,rfl,r⟩
 |_,_,i+1,_,.cons _ t,e=>by
  obtain⟨a,h1,h2⟩:=DF i t (by simpa using e)
  simp_all
inductive D where
 |aH|bl (b:Bool)|int (i:Int)|str (x:Str)|ty (n:String)|ref (n:Nat)
 |lst (xs:List D)|tup (xs:List D)|aw (kvs:List (TK×D))
mutual
def TK.d:TK->D
 |.inl i=>.int i
 |.inr x=>.str x
 |.tp l=>.tup (TK.dl l)
 |.aH=>.aH
def TK.dl:List TK->List D
 |[]=>[]
 |k::l=>TK.d k::TK.dl l
end
noncomputable def yF:D->aj V
 |.aH=>some .aH
 |.bl b=>some (.bl b)
 |.int i=>some (.int i)
 |.str x=>some (.str x)
 |.ty n=>some (.ty n)
 |_=>none
structure Kn where
 F:Hp
 A:List ag
 T:List ag
inductive ah (K:aL) (k:Kn):List V->List D->Prop
 |nil:ah K k [] []
 |flat {v:V} {d:D} {vs:List V} {ds:List D}:yF d=some v->ah K k vs ds->ah K k (v::vs) (d::ds)
 |ref {n:Nat} {a:ag} {vs:List V} {ds:List D}:k.A[n]?=some a->ah K k vs ds->ah K k (.ref a::vs) (.ref n::ds)
 |lst {a:ag} {ws vs:List V} {es ds:List D}:cS K k.F a ws->ah K k ws es->ah K k vs ds->ah K k (.ref a::vs) (.lst es::ds)
 |tup {a:ag} {ws vs:List V} {es ds:List D}:iA K k.F a ws->ah K k ws es->ah K k vs ds->ah K k (.ref a::vs) (.tup es::ds)
 |aw {a:ag} {kvs:List (TK×V×V)} {es:List (TK×D)} {ep:Nat} {vs:List V} {ds:List D}:k.F a=some (.dG kvs ep)->kvs.map (·.1)=es.map (·.1)->ah K k (kvs.map (·.2.1)) (es.map (·.1.d))->ah K k (kvs.map (·.2.2)) (es.map (·.2))->ah K k vs ds->ah K k (.ref a::vs) (.aw es::ds)
def az.rd{H H':Hp}{a:ag}{u:HO}(e:az H H')(h:Rd H a u):Rd H' a u:=by
 rcases h with h|⟨o,h⟩
 .exact .inl (e _ _ h)
 .exact .inr ⟨o,e _ _ h⟩
def az.By{K:aL}{H H':Hp}{a:ag}{xs:List V}(e:az H H')(h:iA K H a xs):iA K H' a xs:=h.imp e.rd id
def az.Nz{K:aL}{H H':Hp}{a:ag}{xs:List V}(e:az H H')(h:cS K H a xs):cS K H' a xs:=h.imp e.rd id
structure Kn.le (k k':Kn):Prop where
 f:az k.F k'.F
 a:k.A <+: k'.A
def Iw{α:Type}{l l':List α}{n:Nat}{x:α}(h:l <+: l')(e:l[n]?=some x):l'[n]?=some x:=by
 obtain⟨t,rfl⟩:=h;rw[vN (eY.mp e).1];exact e
section
variable{K:aL}{k k':Kn}{v:V}{vs ws:List V}{d:D}{ds es:List D}
def ah.mono(s:k.le k')(h:ah K k vs ds):ah K k' vs ds:=by
 induction h with
 |nil=>exact .nil
 |flat e _ ih=>exact .flat e ih
 |ref e _ ih=>exact .ref (Iw s.a e) ih
 |lst e _ _ i1 i2=>exact .lst (s.f.Nz e) i1 i2
 |tup e _ _ i1 i2=>exact .tup (s.f.By e) i1 i2
 |aw e q _ _ _ i0 i1 i2=>exact .aw (s.f _ _ e) q i0 i1 i2
def ah.length(h:ah K k vs ds):vs.length=ds.length:=by
 induction h with
 |nil=>rfl
 |flat _ _ ih=>exact congrArg _ ih
 |ref _ _ ih=>exact congrArg _ ih
 |lst _ _ _ _ ih=>exact congrArg _ ih
 |tup _ _ _ _ ih=>exact congrArg _ ih
 |aw _ _ _ _ _ _ _ ih=>exact congrArg _ ih
def ah.inv(h:ah K k (v::vs) (d::ds)):ah K k [v] [d]/\ah K k vs ds:=by
 cases h with
 |flat e t=>exact⟨.flat e .nil,t⟩
 |ref e t=>exact⟨.ref e .nil,t⟩
 |lst e i t=>exact⟨.lst e i .nil,t⟩
 |tup e i t=>exact⟨.tup e i .nil,t⟩
 |aw e q j i t=>exact⟨.aw e q j i .nil,t⟩
def ah.cons(h:ah K k [v] [d])(t:ah K k vs ds):ah K k (v::vs) (d::ds):=by
 cases h with
 |flat e _=>exact .flat e t
 |ref e _=>exact .ref e t
 |lst e i _=>exact .lst e i t
 |tup e i _=>exact .tup e i t
 |aw e q j i _=>exact .aw e q j i t
def ah.ck(h:ah K k vs (d::ds)):∃w us,vs=w::us/\ah K k [w] [d]/\ah K k us ds:=by
 cases vs with
 |nil=>have:=h.length;cases this
 |cons w us=>exact⟨w,us,rfl,h.inv⟩
def ah.gA(h:ah K k vs []):vs=[]:=List.eq_nil_of_length_eq_zero h.length
def ah.get{i:Nat}(h:ah K k vs ds)(e:ds[i]?=some d):∃v,vs[i]?=some v/\ah K k [v] [d]:=by
 induction ds generalizing vs i with
 |nil=>cases e
 |cons x ds ih=>
  obtain⟨w,us,rfl,h1,h2⟩:=h.ck;cases i with
  |zero=>cases e;exact⟨w,rfl,h1⟩
  |succ i=>exact ih (vs:=us) (i:=i) h2 e
def ah.append(h:ah K k vs ds)(t:ah K k ws es):ah K k (vs++ws) (ds++es):=by
 induction ds generalizing vs with
 |nil=>rw[h.gA];exact t
 |cons x ds ih=>
  obtain⟨w,us,rfl,h1,h2⟩:=h.ck;exact .cons h1 (ih h2)
def ah.take(n:Nat)(h:ah K k vs ds):ah K k (vs.take n) (ds.take n):=by
 induction n generalizing vs ds with
 |zero=>exact .nil
 |succ n ih=>
  cases ds with
  |nil=>rw[h.gA];exact .nil
  |cons x ds=>
   obtain⟨w,us,rfl,h1,h2⟩:=h.ck;exact .cons h1 (ih h2)
def ah.drop(n:Nat)(h:ah K k vs ds):ah K k (vs.drop n) (ds.drop n):=by
 induction n generalizing vs ds with
 |zero=>exact h
 |succ n ih=>
  cases ds with
  |nil=>rw[h.gA];exact .nil
  |cons x ds=>
   obtain⟨w,us,rfl,h1,h2⟩:=h.ck;exact ih h2
def Yy(ns:List Int):ah K k (ns.map V.int) (ns.map D.int):=by
 induction ns with
 |nil=>exact .nil
 |cons n ns ih=>exact .flat rfl ih
def ah.bc{u:V}(h:ah K k [v] [d])(e:yF d=some u):v=u:=by
 cases h with
 |flat q _=>rw[e] at q;exact(Option.some.inj q).symm
 |_=>cases e
def ah.isRef{n:Nat}(h:ah K k [v] [.ref n]):∃a,v=.ref a/\k.A[n]?=some a:=by
 cases h with
 |flat q _=>cases q
 |ref e _=>exact⟨_,rfl,e⟩
def ah.y9(h:ah K k [v] [.lst es]):∃a ws,v=.ref a/\cS K k.F a ws/\ah K k ws es:=by
 cases h with
 |flat q _=>cases q
 |lst e i _=>exact⟨_,_,rfl,e,i⟩
def ah.isTup(h:ah K k [v] [.tup es]):∃a ws,v=.ref a/\iA K k.F a ws/\ah K k ws es:=by
 cases h with
 |flat q _=>cases q
 |tup e i _=>exact⟨_,_,rfl,e,i⟩
def ah.y8{kvs:List (TK×D)}(h:ah K k [v] [.aw kvs]):∃a es ep,v=.ref a/\k.F a=some (.dG es ep)/\es.map (·.1)=kvs.map (·.1)/\ah K k (es.map (·.2.1)) (kvs.map (·.1.d))/\ah K k (es.map (·.2.2)) (kvs.map (·.2)):=by
 cases h with
 |flat q _=>cases q
 |aw e q j i _=>exact⟨_,_,_,rfl,e,q,j,i⟩
end
end L2
set_option autoImplicit false
namespace L2
open PySem PySem.Spec PyProof.Rows
inductive Bx where
 |lst (xs:List D)|aw (kvs:List (TK×D))
noncomputable def Bx.d:Bx->D
 |.lst xs=>.lst xs
 |.aw kvs=>.aw kvs
inductive Cell where
 |o (c:Bx)|z (c:Bx)|ins (C:ag) (fs:List (Str×D))
structure aU where
 s:List Cell
 r:List Cell
inductive Val where
 |d (x:D)|c (n:Nat)
abbrev Gm:=List (aj Val)
inductive Rv where
 |v (x:Val)|o (c:Bx)
inductive Rs (α:Type) where
 |ok (a:α) (S:aU)|ex (C:ag) (l:aj Int) (S:aU)
abbrev Gx(α:Type):=Gm->aU->aj (Rs α)
def bd{α β:Type}(x:aj (Rs α))(f:α->aU->aj (Rs β)):aj (Rs β):=match x with
 |none=>none
 |some (.ok a S)=>f a S
 |some (.ex C l S)=>some (.ex C l S)
noncomputable def xO:Nat->HO->Bool
 |0,_=>false
 |1,.dG _ _=>true
 |1,_=>false
 |_,_=>true
def dD(K:aL)(k:Kn)(H:Hp)(a:ag):Bx->Prop
 |.lst xs=>∃ws,H a=some (.lst ws)/\ah K k ws xs
 |.aw kvs=>∃es ep,H a=some (.dG es ep)/\es.map (·.1)=kvs.map (·.1)/\ah K k (es.map (·.2.1)) (kvs.map (·.1.d))/\ah K k (es.map (·.2.2)) (kvs.map (·.2))
def bo(K:aL)(k:Kn)(H:Hp)(a:ag):Cell->Prop
 |.o c=>k.F a=none/\dD K k H a c
 |.z c=>k.F a≠none/\ah K k [.ref a] [c.d]
 |.ins C fs=>k.F a=none/\∃dx gs,H a=some (.ins C dx gs)/\gs.map (·.1)=fs.map (·.1)/\ah K k (gs.map (·.2)) (fs.map (·.2))
structure Lay (K:aL) (k:Kn) (H:Hp) (as:List ag) (cs:List Cell):Prop where
 ln:as.length=cs.length
 at':∀(n:Nat) (a:ag) (c:Cell),as[n]?=some a->cs[n]?=some c->bo K k H a c
structure b_ (K:aL) (k:Kn) (H:Hp) (S:aU):Prop where
 le:az k.F H
 nd:(k.A++k.T).Nodup
 r:Lay K k H k.A S.r
 s:Lay K k H k.T S.s
structure Up (q:Nat) (k:Kn) (H:Hp) (k':Kn) (H':Hp):Prop where
 f:az k.F k'.F
 a:k.A <+: k'.A
 t:k.T <+: k'.T
 h:∀a o,xO q o=true->H a=some o->H' a=some o
def cZ(K:aL)(k:Kn)(x:V):Val->Prop
 |.d y=>ah K k [x] [y]
 |.c n=>∃a,x=.ref a/\k.T[n]?=some a
structure hV (K:aL) (k:Kn) (Z:St) (U:Gm):Prop where
 ln:Z.length=U.length
 at':∀(i:Nat) (v:Val),U[i]?=some (some v)->∃x,Z[i]?=some (some x)/\cZ K k x v
def q8(K:aL)(k:Kn)(H:Hp)(x:V):Rv->Prop
 |.v y=>cZ K k x y
 |.o c=>∃a,x=.ref a/\k.F a=none/\a∉k.A++k.T/\dD K k H a c
section
variable{q:Nat}{K:aL}{k k' Uv:Kn}{F' H H' Dd:Hp}{S S':aU}{Z:St}{U:Gm}{n:Nat}{a:ag}{as:List ag}{cs:List Cell}{c:Cell}{b:Bx}
theorem Kn.le.refl:k.le k:=⟨az.refl _,mS _⟩
def Up.le(u:Up q k H k' H'):k.le k':=⟨u.f,u.a⟩
theorem Up.refl:Up q k H k H:=⟨az.refl _,mS _,mS _,λ_ _ _ h=>h⟩
theorem Up.trans(x:Up q k H k' H')(y:Up q k' H' Uv Dd):Up q k H Uv Dd:=⟨x.f.trans y.f,x.a.trans y.a,x.t.trans y.t,λa o z h=>y.h a o z (x.h a o z h)⟩
def Up.of{F':Hp}(s:az k.F F')(t:az H H'):Up q k H ⟨F',k.A,k.T⟩ H':=⟨s,mS _,mS _,λa o _ h=>t a o h⟩
def cZ.up{x:V}{v:Val}(h:cZ K k x v)(u:Up q k H k' H'):cZ K k' x v:=by
 cases v with
 |d y=>exact ah.mono u.le h
 |c n=>obtain⟨a,e,z⟩:=h;exact⟨a,e,Iw u.t z⟩
theorem yu.up{xs:List V}{vs:List Val}(h:Paired (cZ K k) xs vs)(u:Up q k H k' H'):Paired (cZ K k') xs vs:=Paired.Fo h λ_ _ r=>r.up u
theorem hV.up(h:hV K k Z U)(u:Up q k H k' H'):hV K k' Z U:=⟨h.ln,λi v e=>let ⟨x,z,r⟩:=h.at' i v e;⟨x,z,r.up u⟩⟩
def dD.keep(h:dD K k H a b)(s:k.le k')(e:∀o,H a=some o->H' a=some o):dD K k' H' a b:=by
 cases b with
 |lst xs=>obtain⟨ws,z,r⟩:=h;exact⟨ws,e _ z,r.mono s⟩
 |aw kvs=>obtain⟨es,ep,z,q,r,t⟩:=h;exact⟨es,ep,e _ z,q,r.mono s,t.mono s⟩
theorem bo.keep(h:bo K k H a c)(s:k.le k')(e:∀o,H a=some o->H' a=some o)(fr:k.F a=none->k'.F a=none):bo K k' H' a c:=by
 cases c with
 |o b=>exact⟨fr h.1,h.2.keep s e⟩
 |z b=>exact⟨λz=>h.1 (s.f.free z),h.2.mono s⟩
 |ins C fs=>obtain⟨h0,dx,gs,h1,h2,h3⟩:=h;exact⟨fr h0,dx,gs,e _ h1,h2,h3.mono s⟩
def dD.there(h:dD K k H a b):H a≠none:=λz=>by
 cases b with
 |lst xs=>obtain⟨_,e,_⟩:=h;rw[e] at z;cases z
 |aw kvs=>obtain⟨_,_,e,_⟩:=h;rw[e] at z;cases z
theorem bo.there(h:bo K k H a c)(le:az k.F H):H a≠none:=by
 cases c with
 |o b=>exact h.2.there
 |z b=>exact λz=>h.1 (le.free z)
 |ins C fs=>obtain⟨_,dx,gs,h1,_⟩:=h;rw[h1];exact λz=>nomatch z
def Lay.get(h:Lay K k H as cs)(e:as[n]?=some a):∃c,cs[n]?=some c/\bo K k H a c:=by
 have hn:n<cs.length:=h.ln ▸ (eY.mp e).1;exact⟨_,iN hn,h.at' n a _ e (iN hn)⟩
def Lay.keep(h:Lay K k H as cs)(f:∀a∈as,∀c,bo K k H a c->bo K k' H' a c):Lay K k' H' as cs:=⟨h.ln,λn a c e1 e2=>f a (vO e1) c (h.at' n a c e1 e2)⟩
def Rc{α:Type}{l:List α}{x y:α}(e:(l++[x])[n]?=some y):l[n]?=some y\/(n=l.length/\y=x):=by
 by_cases h:n<l.length
 .rw[vN h] at e;exact .inl e
 .have h1:=Nat.le_of_not_lt h;rw[ua h1] at e;have h2:n - l.length=0:=Nat.lt_one_iff.mp (eY.mp e).1;rw[h2] at e;cases e;exact .inr ⟨by lia,rfl⟩
def Ia{α:Type}{l:List α}{x:α}:(l++[x])[l.length]?=some x:=by rw[ua (bV _),N6];rfl
def Lay.push(h:Lay K k H as cs)(hc:bo K k H a c):Lay K k H (as++[a]) (cs++[c]):=by
 refine⟨by rw[dz,dz,h.ln];rfl,λn b d e1 e2=>?_⟩
 rcases Rc e1 with e1|⟨z,rfl⟩ <;> rcases Rc e2 with e2|⟨y,rfl⟩
 .exact h.at' n b d e1 e2
 .exact cJ (eY.mp e1).1 (by rw[y,h.ln];exact kX _)
 .exact cJ (eY.mp e2).1 (by rw[z,h.ln];exact kX _)
 .exact hc
def KU{α:Type}{l:List α}{i j:Nat}{x:α}(nd:l.Nodup)(e1:l[i]?=some x)(e2:l[j]?=some x):i=j:=by
 obtain⟨h1,z1⟩:=eY.mp e1;obtain⟨h2,z2⟩:=eY.mp e2;exact(Gv nd).mp (z1.trans z2.symm)
def Lay.set(h:Lay K k H as cs)(nd:as.Nodup)(ha:as[n]?=some a)(hc:bo K k' H' a c)(f:∀b∈as,b≠a->∀c,bo K k H b c->bo K k' H' b c):Lay K k' H' as (cs.set n c):=by
 refine⟨by rw[wz];exact h.ln,λj b d e1 e2=>?_⟩
 by_cases e0:n=j
 .subst e0;rw[wy (h.ln ▸ (eY.mp ha).1)] at e2;cases e2;cases ha.symm.trans e1;exact hc
 .rw[C0 e0] at e2;exact f b (vO e1) (λz=>e0 (KU nd ha (z ▸ e1))) d (h.at' j b d e1 e2)
def Lay.take(h:Lay K k H as cs)(m:Nat):Lay K k H (as.take m) (cs.take m):=by
 refine⟨by rw[zI,zI,h.ln],λj b d e1 e2=>?_⟩
 rw[List.getElem?_take] at e1 e2;split at e1
 .rename_i hj
  rw[bK hj] at e2;exact h.at' j b d e1 e2
 .cases e1
theorem Lay.there(h:Lay K k H as cs)(le:az k.F H):∀a∈as,H a≠none:=λa m=>by
 obtain⟨n,e⟩:=BH.mp m;obtain⟨c,_,hc⟩:=h.get e;exact hc.there le
theorem b_.there(h:b_ K k H S):∀a∈k.A++k.T,H a≠none:=λa m=>(jC.mp m).elim (h.r.there h.le a) (h.s.there h.le a)
def b_.fresh(h:b_ K k H S)(e:H a=none):k.F a=none/\a∉k.A++k.T:=⟨h.le.free e,λm=>h.there a m e⟩
def b_.new(h:b_ K k H S)(s1:az k.F F')(s2:∀a∈k.A++k.T,∀o,H a=some o->H' a=some o)(s3:az F' H')(fr:∀p∈k.A++k.T,k.F p=none->F' p=none):b_ K ⟨F',k.A,k.T⟩ H' S:=
 have go:∀a∈k.A++k.T,∀c,bo K k H a c->bo K ⟨F',k.A,k.T⟩ H' a c:=λa m _ q=>q.keep ⟨s1,mS _⟩ (s2 a m) (fr a m)
 ⟨s3,h.nd,h.r.keep λa m=>go a (JQ _ m),h.s.keep λa m=>go a (rG _ m)⟩
def bo.le(h:bo K k H a c)(s:k.le k')(e:k.F=k'.F):bo K k' H a c:=h.keep s (λ_ z=>z) λz=>by rw[<-e];exact z
def KW{α:Type}{l:List α}{x:α}:l <+: l++[x]:=List.prefix_append _ _
def e5c{α:Type}{l m:List α}{x:α}(h:(l++m).Nodup)(n:x∉l++m):((l++[x])++m).Nodup:=by
 rw[qF];exact(List.perm_middle (l₁:=l) (l₂:=m) (a:=x)).nodup_iff.mpr (t_.mpr ⟨n,h⟩)
def b_.pushS(h:b_ K k H S)(hF:k.F a=none)(hn:a∉k.A++k.T)(hb:dD K k H a b):b_ K ⟨k.F,k.A,k.T++[a]⟩ H ⟨S.s++[.o b],S.r⟩/\∀q,Up q k H ⟨k.F,k.A,k.T++[a]⟩ H:=by
 have go:k.le ⟨k.F,k.A,k.T++[a]⟩:=⟨az.refl _,mS _⟩;refine⟨⟨h.le,?_,h.r.keep λ_ _ _ z=>z.le go rfl,(h.s.push (c:=.o b) ⟨hF,hb⟩).keep λ_ _ _ z=>z.le go rfl⟩,λq=>⟨az.refl _,mS _,KW,λ_ _ _ z=>z⟩⟩
 rw[<-qF];exact oV.mpr ⟨h.nd,by simp,λx m y m' e=>hn (by rw[qE.mp m'] at e;exact e ▸ m)⟩
def b_.zt(h:b_ K k H S)(hn:a∉k.A++k.T)(hc:bo K k H a c):b_ K ⟨k.F,k.A++[a],k.T⟩ H ⟨S.s,S.r++[c]⟩/\∀q,Up q k H ⟨k.F,k.A++[a],k.T⟩ H:=by
 have go:k.le ⟨k.F,k.A++[a],k.T⟩:=⟨az.refl _,KW⟩;exact⟨⟨h.le,e5c h.nd hn,(h.r.push hc).keep λ_ _ _ z=>z.le go rfl,h.s.keep λ_ _ _ z=>z.le go rfl⟩,λq=>⟨az.refl _,KW,mS _,λ_ _ _ z=>z⟩⟩
def mU(H H':Hp)(a:ag):Prop:=∀b,b≠a->H' b=H b
def DM{o:HO}:mU H (upd H a o) a:=λ_ z=>dc z
def b_.chg(h:b_ K k H S)(ho:mU H H' a)(hF:k.F a=none)(hq:∀o,H a=some o->xO q o=false):az k.F H'/\Up q k H k H'/\∀b,b≠a->∀c,bo K k H b c->bo K k H' b c:=
 ⟨λb o e=>by rw[ho b λz=>by rw[z,hF] at e;cases e];exact h.le b o e,⟨az.refl _,mS _,mS _,λb o e z=>by
  by_cases y:b=a
  .simp_all
  .rw[ho b y];exact z⟩,λb y c z=>z.keep .refl (λo e=>by rw[ho b y];exact e) id⟩
def b_.FT(h:b_ K k H S)(ha:k.A[n]?=some a)(ho:mU H H' a)(hF:k.F a=none)(hq:∀o,H a=some o->xO q o=false)(hc:bo K k H' a c):b_ K k H' ⟨S.s,S.r.set n c⟩/\Up q k H k H':=by
 obtain⟨h1,h2,h3⟩:=h.chg ho hF hq;obtain⟨n1,n2,n3⟩:=oV.mp h.nd;exact⟨⟨h1,h.nd,h.r.set n1 ha hc λb _=>h3 b,h.s.keep λb m=>h3 b λz=>n3 a (vO ha) b m z.symm⟩,h2⟩
def b_.Nt(h:b_ K k H S)(ha:k.T[n]?=some a)(ho:mU H H' a)(hF:k.F a=none)(hq:∀o,H a=some o->xO q o=false)(hc:bo K k H' a c):b_ K k H' ⟨S.s.set n c,S.r⟩/\Up q k H k H':=by
 obtain⟨h1,h2,h3⟩:=h.chg ho hF hq;obtain⟨n1,n2,n3⟩:=oV.mp h.nd;exact⟨⟨h1,h.nd,h.r.keep λb m=>h3 b λz=>n3 b m a (vO ha) z,h.s.set n2 ha hc λb _=>h3 b⟩,h2⟩
def dD.Y(h:dD K k H a b)(le:az k.F H)(hF:k.F a=none):∃o,H a=some o/\az k.F (upd k.F a o)/\az (upd k.F a o) H/\ah K ⟨upd k.F a o,k.A,k.T⟩ [.ref a] [b.d]:=by
 have sm:∀o,az k.F (upd k.F a o):=λo=>uL hF
 have sh:∀o,H a=some o->az (upd k.F a o) H:=λo e p u q=>by
  by_cases z:p=a
  .grind [aK]
  .rw[dc z] at q;exact le p u q
 cases b with
 |lst xs=>
  obtain⟨ws,e,r⟩:=h;exact⟨_,e,sm _,sh _ e,.lst (.inl (.inl aK)) (r.mono ⟨sm _,mS _⟩) .nil⟩
 |aw kvs=>
  obtain⟨es,ep,e,q,r,t⟩:=h;exact⟨_,e,sm _,sh _ e,.aw aK q (r.mono ⟨sm _,mS _⟩) (t.mono ⟨sm _,mS _⟩) .nil⟩
def b_.L_(h:b_ K k H S)(hF:k.F a=none)(hn:a∉k.A++k.T)(hb:dD K k H a b):∃F',b_ K ⟨F',k.A,k.T⟩ H S/\(∀q,Up q k H ⟨F',k.A,k.T⟩ H)/\ah K ⟨F',k.A,k.T⟩ [.ref a] [b.d]:=by
 obtain⟨o,e,s1,s2,rp⟩:=hb.Y h.le hF;exact⟨_,h.new s1 (λ_ _ _ z=>z) s2 λp m z=>by rw[dc (show p≠a from λy=>hn (y ▸ m))];exact z,λq=>.of s1 (az.refl _),rp⟩
def b_.Ma(h:b_ K k H S)(ha:k.T[n]?=some a)(hc:S.s[n]?=some (.o b)):∃F',b_ K ⟨F',k.A,k.T⟩ H ⟨S.s.set n (.z b),S.r⟩/\(∀q,Up q k H ⟨F',k.A,k.T⟩ H)/\ah K ⟨F',k.A,k.T⟩ [.ref a] [b.d]:=by
 obtain⟨hF,hb⟩:=h.s.at' n a _ ha hc;obtain⟨o,e,s1,s2,rp⟩:=hb.Y h.le hF;obtain⟨n1,n2,n3⟩:=oV.mp h.nd;have go:∀p,p≠a->∀c,bo K k H p c->bo K ⟨upd k.F a o,k.A,k.T⟩ H p c:=λp y c z=>z.keep ⟨s1,mS _⟩ (λ_ z=>z) λz=>(dc y).trans z
 exact⟨_,⟨s2,h.nd,h.r.keep λp m=>go p λz=>n3 p m a (vO ha) z,h.s.set n2 ha (c:=.z b) ⟨λz=>(nomatch aK.symm.trans z),rp⟩ λp _=>go p⟩,λq=>.of s1 (az.refl _),rp⟩
theorem b_.take(h:b_ K k H S)(m:Nat):b_ K ⟨k.F,k.A,k.T.take m⟩ H ⟨S.s.take m,S.r⟩:=
 have go:k.le ⟨k.F,k.A,k.T.take m⟩:=⟨az.refl _,mS _⟩
 ⟨h.le,h.nd.sublist ((List.Sublist.refl _).append (List.take_sublist _ _)),h.r.keep λ_ _ _ z=>z.le go rfl,(h.s.take m).keep λ_ _ _ z=>z.le go rfl⟩
def Qh{α:Type}{l l':List α}{m:Nat}(h:l <+: l')(hm:l.length<=m):l <+: l'.take m:=by
 grind
def Up.take(u:Up q k H k' H'){m:Nat}(h:k.T.length<=m):Up q k H ⟨k'.F,k'.A,k'.T.take m⟩ H':=⟨u.f,u.a,Qh u.t h,u.h⟩
end
end L2
set_option autoImplicit false
namespace L2
open PySem PySem.Spec PyProof.Rows
variable{X:Cx}{e:Expr}{t:TE}{t':TT}{v x:V}{k:Kn}{S:aU}{r:R2}{Q:List V->Hp->Prop}{vs:List Val}{ds:List D}{o:List D->aj Rv}
def PE.mono{t':TE}(h:PE X e t)(m:∀Z H Q,t' Z H Q->t Z H Q):PE X e t':=λaa s Z H Q I q=>h aa s Z H Q I (m _ _ _ q)
def PT.mono{t:TT}(h:PT X e t)(m:∀Z H Q,t' Z H Q->t Z H Q):PT X e t':=λaa s Z H Q I q=>h aa s Z H Q I (m _ _ _ q)
def PW.mono{t:TT}(h:PW X e t)(m:∀Z H Q,t' Z H Q->t Z H Q):PW X e t':=λwh aa s Z H Q I q=>h wh aa s Z H Q I (m _ _ _ q)
def PA.mono{e:List Expr}{t t':TA}(h:PA X e t)(m:∀Z H Q,t' Z H Q->t Z H Q):PA X e t':=λpos aa s Z H Q I q=>h pos aa s Z H Q I (m _ _ _ q)
def PS.mono{e:Stmt}{t t':TS}(h:PS X e t)(m:∀D Z H,t' D Z H->t D Z H):PS X e t':=λaa s Z H D I q=>h aa s Z H D I (m _ _ _ q)
def iO.mono{e:List Stmt}{t t':TS}(h:iO X e t)(m:∀D Z H,t' D Z H->t D Z H):iO X e t':=λaa s Z H D I q=>h aa s Z H D I (m _ _ _ q)
abbrev XW:=ag->aj ag->St->Hp->Prop
def C9(F:Hp)(dx:aj ag):aj Int->Prop
 |none=>dx=none
 |some n=>∃d,dx=some d/\F d=some (.xd [("line",.int n)])
abbrev Rp(α β:Type):=Kn->Hp->β->α->Prop
section
variable{α β α' β':Type}(R:Rp α β){R':Rp α' β'}(K:aL)(W:XW)(q:Nat){Z:St}{H H':Hp}{k k':Kn}{U:Gm}{S:aU}{Q:β->Hp->Prop}{Q':β'->Hp->Prop}
def gR(Z:St)(k:Kn)(H:Hp)(Q:β->Hp->Prop):Rs α->Prop
 |.ok a S=>∀b k' H',Up q k H k' H'->b_ K k' H' S->R k' H' b a->Q b H'
 |.ex C l S=>∀dx k' H',Up q k H k' H'->b_ K k' H' S->C9 k'.F dx l->W C dx Z H'
def tX(g:Gx α):St->Hp->(β->Hp->Prop)->Prop:=λZ H Q=>∃k U S res,b_ K k H S/\hV K k Z U/\g U S=some res/\gR R K W q Z k H Q res
variable{R K W q}
def gR.up{res:Rs α}(w:gR R K W q Z k H Q res)(u:Up q k H k' H'):gR R K W q Z k' H' Q res:=by
 cases res with
 |ok a S=>exact λb k2 H2 u2 k r=>w b k2 H2 (u.trans u2) k r
 |ex C l S=>exact λdx k2 H2 u2 k r=>w dx k2 H2 (u.trans u2) k r
def Cr{x:aj (Rs α)}{f:α->aU->aj (Rs α')}{res:Rs α'}(e:bd x f=some res):(∃a S,x=some (.ok a S)/\f a S=some res)\/∃C l S,x=some (.ex C l S)/\res=.ex C l S:=by
 unfold bd at e;split at e
 .cases e
 .exact .inl ⟨_,_,rfl,e⟩
 .cases e;exact .inr ⟨_,_,_,rfl,rfl⟩
def tX.bd{g:Gx α}{f:α->aU->aj (Rs α')}{res:Rs α'}(ok:b_ K k H S)(gk:hV K k Z U)(e:bd (g U S) f=some res)(w:gR R' K W q Z k H Q' res)
  (h:∀a S1 b k1 H1,b_ K k1 H1 S1->hV K k1 Z U->R k1 H1 b a->f a S1=some res->gR R' K W q Z k1 H1 Q' res->Up q k H k1 H1->Q b H1):tX R K W q g Z H Q:=by
 rcases Cr e with⟨a,S1,e1,e2⟩|⟨C,l,S1,e1,rfl⟩
 .exact⟨k,U,S,_,ok,gk,e1,λb k' H' u gM r=>h a S1 b k' H' gM (gk.up u) r e2 (w.up u) u⟩
 .exact⟨k,U,S,_,ok,gk,e1,w⟩
def gR.now{a:α}{b:β}(w:gR R K W q Z k H Q (.ok a S))(ok:b_ K k H S)(r:R k H b a):Q b H:=w b k H .refl ok r
def ra{g:Gx α}{Q₂:β->Hp->Prop}(h:tX R K W q g Z H Q)(m:∀b H,Q b H->Q₂ b H):tX R K W q g Z H Q₂:=by
 obtain⟨k,U,S,res,ok,gk,e,w⟩:=h;refine⟨k,U,S,res,ok,gk,e,?_⟩;cases res with
 |ok a S=>exact λb k2 H2 u k r=>m _ _ (w b k2 H2 u k r)
 |ex C l S=>exact w
end
abbrev RE(K:aL):Rp Rv V:=λk H x r=>q8 K k H x r
abbrev RA(K:aL):Rp (List Val) (List V):=λk _ xs vs=>Paired (cZ K k) xs vs
abbrev RB:Rp Bool Bool:=λ_ _ b a=>b=a
abbrev GE:=Gx Rv
variable{g f:GE}
abbrev GA:=Gx (List Val)
variable{h:GA}
abbrev GT:=Gx Bool
abbrev tE(K:aL)(W:XW)(q:Nat)(g:GE):TE:=tX (RE K) K W q g
abbrev g9(K:aL)(W:XW)(q:Nat)(g:GA):TA:=tX (RA K) K W q g
abbrev tT(K:aL)(W:XW)(q:Nat)(g:GT):TT:=tX RB K W q g
noncomputable def gC(d:D):GE:=λ_ S=>some (.ok (.v (.d d)) S)
noncomputable def u7(i:Nat):GE:=λU S=>((U[i]?).join).map λv=>.ok (.v v) S
def Py{α:Type}{x:aj (aj α)}{v:α}(h:x.join=some v):x=some (some v):=by
 cases x with
 |none=>cases h
 |some y=>exact congrArg some h
noncomputable def oM:Rv->Val
 |.v x=>x
 |.o c=>.d c.d
noncomputable def hpR(S:aU):Rv->Rs Rv
 |.o c=>.ok (.v (.d (.ref S.r.length))) ⟨S.s,S.r++[.o c]⟩
 |r=>.ok r S
def kj(g:GE):GE:=λU S=>bd (g U S) λr S1=>some (hpR S1 r)
noncomputable def gN:GA:=λ_ S=>some (.ok [] S)
def pe(g:GE)(h:GA):GA:=λU S=>bd (g U S) λr S1=>bd (h U S1) λvs S2=>some (.ok (oM r::vs) S2)
section
variable{X:Cx}{K:aL}{W:XW}{q:Nat}{e a b:Expr}{es:List Expr}{n8 fb fc:GE}{fs:GA}{ft fu:GT}{pos:Pos}{Z:St}{H:Hp}
def AB{d:D}(h:PE X e (tC v))(hf:yF d=some v:=by rfl):PE X e (tE K W q (gC d)):=h.mono λZ H Q t=>by
 obtain⟨k,U,S,res,ok,gk,e,w⟩:=t;cases e;exact w.now ok (show ah K k [v] [d] from .flat hf .nil)
def e5d{i:Nat}(h:PE X e (BA i)):PE X e (tE K W q (u7 i)):=h.mono λZ H Q t=>by
 obtain⟨k,U,S,res,ok,gk,e,w⟩:=t;obtain⟨v,q,rfl⟩:=c_.mp e;obtain⟨x,hx,r⟩:=gk.at' i v (Py q);exact⟨x,hx,w.now ok (show q8 K k H x (.v v) from r)⟩
def t6{r:Rv}(ok:b_ K k H S)(h:q8 K k H x r):∃k',(∀q,Up q k H k' H)/\b_ K k' H S/\cZ K k' x (oM r):=by
 cases r with
 |v y=>exact⟨k,λ_=>.refl,ok,h⟩
 |o c=>
  obtain⟨p,rfl,hF,hi,hc⟩:=h;obtain⟨F',gM,u,rp⟩:=ok.L_ hF hi hc;exact⟨_,u,gM,rp⟩
def xq(h:PE X e (tE K W q n8)):PE X e (tE K W q (kj n8)):=h.mono λZ H Q t=>by
 obtain⟨k,U,S,res,ok,gk,e,w⟩:=t;refine tX.bd ok gk e w λr S1 x k1 H1 bH g1 r1 e1 w1 _=>?_
 cases r with
 |v y=>cases e1;exact w1.now bH r1
 |o c=>
  cases e1;obtain⟨p,rfl,hF,hi,hc⟩:=r1;obtain⟨cO,u⟩:=bH.zt hi (c:=.o c) ⟨hF,hc⟩;exact w1 _ _ _ (u q) cO (show ah K _ [.ref p] [.ref S1.r.length] from .ref (by rw[<-bH.r.ln];exact Ia) .nil)
def w6(t:g9 K W q (pe g h) Z H Q):tE K W q g Z H λx H1=>g9 K W q h Z H1 λxs H2=>Q (x::xs) H2:=by
 obtain⟨k,U,S,res,ok,gk,e,w⟩:=t;refine tX.bd ok gk e w λr S1 x k1 H1 bH g1 r1 e1 w1 _=>?_
 obtain⟨k2,u2,cO,r2⟩:=t6 bH r1;refine tX.bd cO (g1.up (u2 q)) e1 (w1.up (u2 q)) λvs S3 xs k3 H3 kJ g3 r3 e3 w3 u3=>?_
 cases e3;exact w3.now kJ (.cons (r2.up u3) r3)
def Cs(t:g9 K W q gN Z H Q):Q [] H:=by
 obtain⟨k,U,S,res,ok,gk,e,w⟩:=t;cases e;exact w.now ok .nil
def AD:PA X [] (g9 K W q gN):=oA.mono λZ H Q t=>Cs t
def d8q(ha:PE X e (tE K W q g))(hr:PA X es (g9 K W q h))(hs:starEach (e::es) X.env=(false,eval e X.env)::starEach es X.env):PA X (e::es) (g9 K W q (pe g h)):=(H_ ha hr hs).mono λZ H Q t=>w6 t
def Top(K:aL)(k:Kn)(H:Hp)(x:V)(d:D):Prop:=ah K k [x] [d]\/∃p c,x=.ref p/\d=Bx.d c/\dD K k H p c
noncomputable def Cell.nG:Cell->aj D
 |.o c=>some c.d
 |.z c=>some c.d
 |.ins _ _=>none
def nG(S:aU):Val->aj D
 |.d (.ref n)=>(S.r[n]?).bind Cell.nG
 |.d x=>some x
 |.c n=>(S.s[n]?).bind Cell.nG
def x9(S:aU):List Val->aj (List D)
 |[]=>some []
 |v::vs=>(nG S v).bind λd=>(x9 S vs).map λds=>d::ds
def Qi{x:ag}{c:Cell}{d:D}(h:bo K k H x c)(e:c.nG=some d):Top K k H (.ref x) d:=by
 cases c with
 |o b=>cases e;exact .inr ⟨x,b,rfl,rfl,h.2⟩
 |z b=>cases e;exact .inl h.2
 |ins _ _=>cases e
def Iy{v:Val}{d:D}(ok:b_ K k H S)(h:cZ K k x v)(e:nG S v=some d):Top K k H x d:=by
 cases v with
 |d y=>
  cases y with
  |ref n=>
   obtain⟨p,rfl,h1⟩:=ah.isRef h;obtain⟨c,h2,e⟩:=cy.mp e;exact Qi (ok.r.at' n p c h1 h2) e
  |_=>cases e;exact .inl h
 |c n=>
  obtain⟨p,rfl,h1⟩:=h;obtain⟨c,h2,e⟩:=cy.mp e;exact Qi (ok.s.at' n p c h1 h2) e
def Rf{xs:List V}(ok:b_ K k H S)(h:Paired (cZ K k) xs vs)(e:x9 S vs=some ds):Paired (Top K k H) xs ds:=by
 induction h generalizing ds with
 |nil=>cases e;exact .nil
 |cons r _ ih=>
  obtain⟨d,e1,e⟩:=cy.mp e;obtain⟨es,e2,rfl⟩:=c_.mp e;exact .cons (Iy ok r e1) (ih e2)
def U5(K:aL)(k':Kn)(H H':Hp)(x:V):Rv->Prop
 |.v (.d y)=>ah K k' [x] [y]
 |.o c=>∃p,x=.ref p/\H p=none/\k'.F p=none/\dD K k' H' p c
 |_=>False
def mD(K:aL)(k:Kn)(H:Hp)(r:Rv)(Q:VK):Prop:=∀x F' H',az k.F F'->az H H'->az F' H'->(∀p,H p≠none->k.F p=none->F' p=none)->U5 K ⟨F',k.A,k.T⟩ H H' x r->Q x H'
def bY(K:aL)(r:List V->Hp->VK->Prop)(o:List D->aj Rv):Prop:=∀k H xs ds y Q,az k.F H->Paired (Top K k H) xs ds->o ds=some y->mD K k H y Q->r xs H Q
def gO(o:List D->aj Rv)(g:GA):GE:=λU S=>bd (g U S) λvs S1=>(x9 S1 vs).bind λds=>(o ds).map λr=>.ok r S1
def mD.fin{y:Rv}{Q:VK}(ok:b_ K k H S)(w:gR (RE K) K W q Z k H Q (.ok y S)):mD K k H y Q:=λx F' H' s1 s2 s3 fr nw=>by
 refine w x ⟨F',k.A,k.T⟩ H' (.of s1 s2) (ok.new s1 (λp _ o z=>s2 p o z) s3 λp m=>fr p (ok.there p m)) ?_
 cases y with
 |v z=>
  cases z with
  |d z=>exact nw
  |_=>exact nw.elim
 |o c=>obtain⟨p,e4,e5,e6,e7⟩:=nw;exact⟨p,e4,e6,(ok.fresh e5).2,e7⟩
def xh{r:List V->Hp->VK->Prop}(bx:bY K r o){g:GA}{Q:VK}(t:tE K W q (gO o g) Z H Q):g9 K W q g Z H λxs H1=>r xs H1 Q:=by
 obtain⟨k,U,S,res,ok,gk,e,w⟩:=t;refine tX.bd ok gk e w λvs S1 xs k1 H1 bH g1 r1 e1 w1 _=>?_
 obtain⟨ds,e2,e1⟩:=cy.mp e1;obtain⟨y,e3,rfl⟩:=c_.mp e1;exact bx k1 H1 xs ds y Q bH.le (Rf bH r1 e2) e3 (.fin bH w1)
section
variable{k:Kn}{x:V}{Q:VK}
def mD.rep{y:D}(h:mD K k H (.v (.d y)) Q)(le:az k.F H)(r:ah K k [v] [y]):Q v H:=h v k.F H (az.refl _) (az.refl _) le (λ_ _ z=>z) r
theorem mD.flat{y:D}{v:V}(h:mD K k H (.v (.d y)) Q)(le:az k.F H)(e:yF y=some v):Q v H:=h.rep le (.flat e .nil)
def mD.lst{ds:List D}{ws:List V}(h:mD K k H (.o (.lst ds)) Q)(le:az k.F H)(r:ah K k ws ds){l:ag}(hn:H l=none):Q (.ref l) (upd H l (.lst ws)):=
 h _ k.F _ (az.refl _) (uL hn) (le.put hn) (λ_ _ z=>z) ⟨l,rfl,hn,le.free hn,ws,aK,r⟩
def mD.aw{kvs:List (TK×D)}{es:List (TK×V×V)}{ep:Nat}(h:mD K k H (.o (.aw kvs)) Q)(le:az k.F H)(q:es.map (·.1)=kvs.map (·.1))(r:ah K k (es.map (·.2.1)) (kvs.map (·.1.d)))(t:ah K k (es.map (·.2.2)) (kvs.map (·.2))){l:ag}(hn:H l=none):Q (.ref l) (upd H l (.dG es ep)):=
 h _ k.F _ (az.refl _) (uL hn) (le.put hn) (λ_ _ z=>z) ⟨l,rfl,hn,le.free hn,es,ep,aK,q,r,t⟩
theorem mD.tup{ds:List D}{ws:List V}(h:mD K k H (.v (.d (.tup ds))) Q)(le:az k.F H)(r:ah K k ws ds){l:ag}(hn:H l=none):Q (.ref l) (upd H l (.tup ws)):=by
 have hF:=le.free hn;refine h _ (upd k.F l (.tup ws)) _ (uL hF) (uL hn) (λb u z=>?_) (λp z1 z2=>by rw[dc (show p≠l from λz=>z1 (z ▸ hn))];exact z2) (show ah K ⟨upd k.F l (.tup ws),k.A,k.T⟩ [.ref l] [.tup ds] from .tup (.inl (.inl aK)) (r.mono ⟨uL hF,mS _⟩) .nil)
 by_cases q:b=l
 .grind [aK]
 .rw[dc q] at z ⊢;exact le b u z
noncomputable abbrev Kn.all(k:Kn)(H:Hp):Kn:=⟨H,k.A,k.T⟩
def ah.all{vs:List V}{ds:List D}(h:ah K k vs ds)(le:az k.F H):ah K (k.all H) vs ds:=h.mono ⟨le,mS _⟩
def Top.rep{d:D}(h:Top K k H x d)(le:az k.F H):ah K (k.all H) [x] [d]:=by
 rcases h with h|⟨p,c,rfl,rfl,h⟩
 .exact h.all le
 .cases c with
  |lst xs=>obtain⟨ws,e,r⟩:=h;exact .lst (.inl (.inl e)) (r.all le) .nil
  |aw kvs=>obtain⟨es,ep,e,q,r,t⟩:=h;exact .aw e q (r.all le) (t.all le) .nil
def Top.flat{d:D}(h:Top K k H x d)(e:yF d=some v):x=v:=by
 rcases h with h|⟨p,c,rfl,rfl,h⟩
 .exact h.bc e
 .cases c <;> cases e
def Top.lst{ds:List D}(h:Top K k H x (.lst ds))(le:az k.F H):∃p ws,x=.ref p/\cS K H p ws/\ah K k ws ds:=by
 rcases h with h|⟨p,c,rfl,e,h⟩
 .obtain⟨p,ws,rfl,q,r⟩:=h.y9;exact⟨p,ws,rfl,le.Nz q,r⟩
 .cases c <;> cases e;obtain⟨ws,e,r⟩:=h;exact⟨p,ws,rfl,.inl (.inl e),r⟩
def Top.tup{ds:List D}(h:Top K k H x (.tup ds))(le:az k.F H):∃p ws,x=.ref p/\iA K H p ws/\ah K k ws ds:=by
 rcases h with h|⟨p,c,rfl,e,h⟩
 .obtain⟨p,ws,rfl,q,r⟩:=h.isTup;exact⟨p,ws,rfl,le.By q,r⟩
 .cases c <;> cases e
def Top.aw{kvs:List (TK×D)}(h:Top K k H x (.aw kvs))(le:az k.F H):∃p es ep,x=.ref p/\H p=some (.dG es ep)/\es.map (·.1)=kvs.map (·.1)/\ah K k (es.map (·.2.1)) (kvs.map (·.1.d))/\ah K k (es.map (·.2.2)) (kvs.map (·.2)):=by
 rcases h with h|⟨p,c,rfl,e,h⟩
 .obtain⟨p,es,ep,rfl,q,r⟩:=h.y8;exact⟨p,es,ep,rfl,le _ _ q,r⟩
 .cases c <;> cases e;obtain⟨es,ep,h⟩:=h;exact⟨p,es,ep,rfl,h⟩
end
def oE(r:R2):List V->Hp->VK->Prop:=λxs H Q=>∃x y,xs=[x,y]/\r x y H Q
def Nh(r:V->Hp->VK->Prop):List V->Hp->VK->Prop:=λxs H Q=>∃x,xs=[x]/\r x H Q
abbrev aZ(f:GE):GA:=pe f gN
abbrev bQ(f g:GE):GA:=pe f (pe g gN)
def IV{r:V->V->Hp->Prop}(h:g9 K W q (bQ f g) Z H λxs H1=>∃x y,xs=[x,y]/\r x y H1):tE K W q f Z H λx H1=>tE K W q g Z H1 λy H2=>r x y H2:=
 ra (w6 h) λx H1 t=>ra (w6 t) λy H2 t=>by
  obtain⟨x',y',e,q⟩:=Cs t;cases e;exact q
def L5{r:V->Hp->Prop}(h:g9 K W q (aZ f) Z H λxs H1=>∃x,xs=[x]/\r x H1):tE K W q f Z H r:=
 ra (w6 h) λx H1 t=>by
  obtain⟨x',e,q⟩:=Cs t;cases e;exact q
def f0x{op:Operator}(ho:dF X (binaryOp op) r)(ok:bY K (oE r) o)(ha:PE X a (tE K W q n8))(hb:PE X b (tE K W q fb)):PE X (.BinOp a op b pos) (tE K W q (gO o (bQ n8 fb))):=(f0q ho ha hb).mono λ_ _ _ t=>IV (xh ok t)
def f0y{op:UnaryOp}{r:V->Hp->VK->Prop}(ho:GY X (unaryOp op) r)(ok:bY K (Nh r) o)(ha:PE X a (tE K W q n8)):PE X (.UnaryOp op a pos) (tE K W q (gO o (aZ n8))):=(f0r ho ha).mono λ_ _ _ t=>L5 (xh ok t)
def e5e{op:CmpOp}(ho:dF X (compareOp op) r)(ok:bY K (oE r) o)(ha:PE X a (tE K W q n8))(hb:PE X b (tE K W q fb))(hm:behindInMarks op b=false):PE X (.Compare a [op] [b] pos) (tE K W q (gO o (bQ n8 fb))):=(d7u ho ha hb hm).mono λ_ _ _ t=>IV (xh ok t)
def f0z(ho:tq X r)(ok:bY K (oE r) o)(ha:PE X a (tE K W q n8))(hb:PE X b (tE K W q fb))(hs:Lh b):PE X (.Subscript a b pos) (tE K W q (gO o (bQ n8 fb))):=(f0u ho ha hb hs).mono λ_ _ _ t=>IV (xh ok t)
end
noncomputable def Rv.bool:Rv->aj Bool
 |.v (.d (.bl b))=>some b
 |_=>none
def Rv.xl{r:Rv}{b:Bool}(h:r.bool=some b):r=.v (.d (.bl b)):=by
 unfold Rv.bool at h;split at h
 .cases h;rfl
 .cases h
noncomputable def BE:D->aj Bool
 |.aH=>some false
 |.bl b=>some b
 |.int i=>some (i != 0)
 |.str y=>if y.length<=1000000 then some ((y.length:Int) != 0) else none
 |.lst xs=>some (!xs.isEmpty)
 |.tup xs=>some (!xs.isEmpty)
 |_=>none
noncomputable def gB(g:GE):GT:=λU S=>bd (g U S) λr S1=>r.bool.map λb=>.ok b S1
def cb(g:GE):GT:=λU S=>bd (g U S) λr S1=>((nG S1 (oM r)).bind BE).map λb=>.ok b S1
noncomputable def cF(g:GT):GT:=λU S=>bd (g U S) λb S1=>some (.ok (!b) S1)
noncomputable def EK(c g h:GT):GT:=λU S=>bd (c U S) λb S1=>if b=true then g U S1 else h U S1
noncomputable def jB(b:Bool):GT:=λ_ S=>some (.ok b S)
def cM(g h:GT):GT:=EK g h (jB false)
def kH(g h:GT):GT:=EK g (jB true) h
noncomputable def yS(c:GT)(g h:GE):GE:=λU S=>bd (c U S) λb S1=>if b=true then g U S1 else h U S1
def uZ(g h:GE):GE:=yS (gB g) h (gC (.bl false))
def EJ(g:GE):GE:=λU S=>bd (gB g U S) λb S1=>some (.ok (.v (.d (.bl (!b)))) S1)
section
variable{X:Cx}{K:aL}{W:XW}{q:Nat}{e a b:Expr}{es rest:List Expr}{f g h:GE}{fs:GA}{ft fu:GT}{pos:Pos}{Z:St}{H:Hp}
def L6{Q:Bool->Hp->Prop}(t:tT K W q (gB f) Z H Q):tE K W q f Z H λx H1=>∃k,x=.bl k/\Q k H1:=by
 obtain⟨k,U,S,res,ok,gk,e,w⟩:=t;refine tX.bd ok gk e w λr S1 x k1 H1 bH g1 r1 e1 w1 _=>?_
 obtain⟨b,e2,rfl⟩:=c_.mp e1;cases Rv.xl e2;exact⟨b,(show ah K k1 [x] [.bl b] from r1).bc rfl,w1.now bH rfl⟩
def d8r{d:D}{b:Bool}(le:az k.F H)(h:Top K k H x d)(e:BE d=some b):zW K x H b:=by
 cases d with
 |aH=>cases h.flat rfl;cases e;rfl
 |bl b=>cases h.flat rfl;cases e;rfl
 |int i=>cases h.flat rfl;cases e;rfl
 |str y=>
  cases h.flat rfl;unfold BE at e;dsimp only at e;split at e
  .cases e;exact⟨kx (by assumption) (by decide),rfl⟩
  lia
 |lst xs=>
  cases e;obtain⟨p,ws,rfl,h1,h2⟩:=h.lst le;refine .inl ⟨ws,h1,?_⟩;have:=h2.length
  grind
 |tup xs=>
  cases e;obtain⟨p,ws,rfl,h1,h2⟩:=h.tup le;refine .inr (.inl ⟨ws,h1,?_⟩);have:=h2.length
  grind
 |_=>cases e
def e5f(hK:X.K=K)(he:PE X a (tE K W q f))(ht:∀whole,isTrue a X.env whole=(do let v <-whole;standAt a.pos;holding [v] (truthy v))):PT X a (tT K W q (cb f)):=(Yj he ht).mono λZ H Q t=>by
 obtain⟨k,U,S,res,ok,gk,e,w⟩:=t;refine tX.bd ok gk e w λr S1 x k1 H1 bH g1 r1 e1 w1 _=>?_
 obtain⟨b,e2,rfl⟩:=c_.mp e1;obtain⟨d,e3,e4⟩:=cy.mp e2;obtain⟨k2,u2,cO,r2⟩:=t6 bH r1;rw[hK];exact⟨b,d8r cO.le (Iy cO r2 e3) e4,(w1.up (u2 q)).now cO rfl⟩
def T3(h:PT X a (vH t))(m:∀Z H Q,tE K W q f Z H Q->t Z H Q):PT X a (tT K W q (gB f)):=h.mono λZ H Q q=>m Z H _ (L6 q)
def AK(h:PT X a (tT K W q ft)):PT X (.UnaryOp .Not a pos) (tT K W q (cF ft)):=(e4c h).mono λZ H Q t=>by
 obtain⟨k,U,S,res,ok,gk,e,w⟩:=t;refine tX.bd ok gk e w λb S1 x k1 H1 bH g1 r1 e1 w1 _=>?_
 cases e1;cases r1;exact w1.now bH rfl
def IM{β' α':Type}{R':Rp α' β'}{gx gy:Gx α'}{Q':β'->Hp->Prop}(t:tX R' K W q (λU S=>bd (ft U S) λb S1=>if b=true then gx U S1 else gy U S1) Z H Q'):tT K W q ft Z H λb H1=>if b=true then tX R' K W q gx Z H1 Q' else tX R' K W q gy Z H1 Q':=by
 obtain⟨k,U,S,res,ok,gk,e,w⟩:=t;refine tX.bd ok gk e w λb S1 x k1 H1 bH g1 r1 e1 w1 _=>?_
 cases r1;cases b with
 |true=>exact vi ⟨k1,U,S1,res,bH,g1,e1,w1⟩
 |false=>exact vh ⟨k1,U,S1,res,bH,g1,e1,w1⟩
def Et{α β:Type}{R:Rp α β}{c:α}{b:β}{Q:β->Hp->Prop}(t:tX R K W q (λ_ S=>some (.ok c S)) Z H Q)(r:∀k H,R k H b c):Q b H:=by
 obtain⟨k,U,S,res,ok,gk,e,w⟩:=t;cases e;exact w.now ok (r k H)
def Lk{c:Bool}{p p' q q':Prop}(h:if c=true then p else q)(h1:p->p')(h2:q->q'):if c=true then p' else q':=by
 lia
def AL(ha:PT X a (tT K W q ft))(hb:PW X (.BoolOp .And (b::rest) pos) (tT K W q fu)):PW X (.BoolOp .And (a::b::rest) pos) (tT K W q (cM ft fu)):=(e4b ha hb).mono λZ H Q t=>
 ra (IM t) λc H1 z=>Lk z id λz=>Et z λ_ _=>rfl
def EC(ha:PT X a (tT K W q ft))(hb:PW X (.BoolOp .Or (b::rest) pos) (tT K W q fu)):PW X (.BoolOp .Or (a::b::rest) pos) (tT K W q (kH ft fu)):=(f0o ha hb).mono λZ H Q t=>
 ra (IM t) λc H1 z=>Lk z (λz=>Et z λ_ _=>rfl) id
def AE(ha:PE X a (tE K W q f))(hb:PE X (.BoolOp .And (b::rest) pos) (tE K W q g)):PE X (.BoolOp .And (a::b::rest) pos) (tE K W q (uZ f g)):=(e4d ha hb).mono λZ H Q t=>
 ra (L6 (IM t)) λx H1 ⟨c,e,z⟩=>⟨c,e,Lk z id λz=>Et z λ_ _=>ah.flat rfl .nil⟩
def AG(ha:PE X a (tE K W q f)):PE X (.UnaryOp .Not a pos) (tE K W q (EJ f)):=(e4e ha).mono λZ H Q t=>L6 (by
 obtain⟨k,U,S,res,ok,gk,e,w⟩:=t;refine tX.bd ok gk e w λb S1 x k1 H1 bH g1 r1 e1 w1 _=>?_
 cases e1;cases r1;exact w1.now bH (show ah K k1 [_] [_] from .flat rfl .nil))
def Ez{c:Expr}(hc:PT X c (tT K W q ft))(ha:PE X a (tE K W q f))(hb:PE X b (tE K W q g)):PE X (.IfExp c a b pos) (tE K W q (yS ft f g)):=(X8 hc ha hb).mono λZ H Q t=>IM t
end
noncomputable def rm(S:aU):Val->aj (D×aU)
 |.d x=>some (x,S)
 |.c n=>(S.s[n]?).bind λc=>match c with
  |.o b=>some (b.d,⟨S.s.set n (.z b),S.r⟩)
  |.z b=>some (b.d,S)
  |.ins _ _=>none
def tK:List Val->aU->aj (List D×aU)
 |[],S=>some ([],S)
 |v::vs,S=>(rm S v).bind λp=>(tK vs p.2).map λq=>(p.1::q.1,q.2)
section
variable{K:aL}{k:Kn}{H:Hp}{S S':aU}
def Ib{v:Val}{d:D}(ok:b_ K k H S)(h:cZ K k x v)(e:rm S v=some (d,S')):∃k',(∀q,Up q k H k' H)/\b_ K k' H S'/\ah K k' [x] [d]:=by
 cases v with
 |d y=>cases e;exact⟨k,λ_=>.refl,ok,h⟩
 |c n=>
  obtain⟨p,rfl,hp⟩:=h;obtain⟨c,h1,e⟩:=cy.mp e;cases c with
  |o b=>
   cases e;obtain⟨F',gM,u,rp⟩:=ok.Ma hp h1;exact⟨_,u,gM,rp⟩
  |z b=>cases e;exact⟨k,λ_=>.refl,ok,(ok.s.at' n p _ hp h1).2⟩
  |ins C fs=>cases e
def Ic{xs:List V}(ok:b_ K k H S)(h:Paired (cZ K k) xs vs)(e:tK vs S=some (ds,S')):∃k',(∀q,Up q k H k' H)/\b_ K k' H S'/\ah K k' xs ds:=by
 induction vs generalizing xs ds k S with
 |nil=>cases e;cases h;exact⟨k,λ_=>.refl,ok,.nil⟩
 |cons v vs ih=>
  cases h with
  |cons r t=>
   obtain⟨⟨v1,S1⟩,e1,e⟩:=cy.mp e;obtain⟨⟨vs2,S2⟩,e2,e⟩:=c_.mp e;cases e;obtain⟨k1,u1,bH,r1⟩:=Ib ok r e1;obtain⟨k2,u2,cO,r2⟩:=ih bH (yu.up t (u1 0)) e2;exact⟨k2,λb=>(u1 b).trans (u2 b),cO,.cons (r1.mono (u2 0).le) r2⟩
end
noncomputable def Nr(t:Bool)(p:List D×aU):Rs Rv:=.ok (if t=true then .v (.d (.tup p.1)) else .o (.lst p.1)) p.2
def aW(t:Bool)(g:GA):GE:=λU S=>bd (g U S) λvs S1=>if vs.length<=1000000 then(tK vs S1).map (Nr t) else none
section
variable{X:Cx}{K:aL}{W:XW}{q:Nat}{es:List Expr}{fs:GA}{pos:Pos}{Z:St}{H:Hp}
def ml{n:Nat}(h:n<=1000000):n<=sizeLine:=kx h (by decide)
def Sr{t:Bool}{Q:VK}(h:tE K W q (aW t fs) Z H Q):g9 K W q fs Z H λxs H1=>xs.length<=sizeLine/\∀p,H1 p=none->Q (.ref p) (upd H1 p (if t=true then .tup xs else .lst xs)):=by
 obtain⟨k,U,S,res,ok,gk,e,w⟩:=h;refine tX.bd ok gk e w λvs S1 xs k1 H1 bH g1 r1 e1 w1 _=>?_
 split at e1
 .rename_i hl
  refine⟨by rw[Paired.length r1];exact ml hl,λp hp=>?_⟩
  obtain⟨⟨ds,S2⟩,e2,e3⟩:=c_.mp e1;obtain⟨k2,u2,cO,r2⟩:=Ic bH r1 e2;have w2:=w1.up (u2 q);cases e3;cases t with
  |false=>exact mD.lst (.fin cO w2) cO.le r2 hp
  |true=>exact mD.tup (.fin cO w2) cO.le r2 hp
 .cases e1
def AH{x1}(h:PA X es (g9 K W q fs)):PE X (.Tuple es x1 pos) (tE K W q (aW true fs)):=(e4u h).mono λZ H Q t=>Sr t
def AF(h:PA X es (g9 K W q fs)):PE X (.List es pos) (tE K W q (aW false fs)):=(e4v h).mono λZ H Q t=>Sr t
end
variable{base:bP}{env:Env}{outer:List Env}{L e C:ag}{dx:aj ag}{n:Nat}{H:Hp}{Q:Unit->av->Prop}
structure fX (fs ch:List ag) (h h':bP):Prop where
 keep:∀b o,b∉fs->b∉ch->h.get? b=some o->h'.get? b=some o
 slot:∀b o,b∈fs->b∉ch->h.get? b=some o->∃sl,h'.get? b=some { o with slots:=sl}
def iT(n:Nat)(h:bP)(H:Hp)(e C:ag)(dx:aj ag):Prop:=n<=e/\H e=none/\∃oe vs,h.get? e=some oe/\oe.cls=.ref C/\oe.dict=dx/\oe.data=.fields vs/\1<vs.size/\
 (vs[1]?=some .none\/∃T oT ts,vs[1]?=some (.ref T)/\n<=T/\H T=none/\T≠e/\h.get? T=some oT/\oT.data=.fields ts/\ts[3]?=some .none)
def WX(f:Array ai->Array ai)(o:Obj):(Obj.mapFields f o).dict=o.dict:=by obtain⟨c,d,dt,sl⟩:=o;cases dt <;> rfl
section
variable{M:Model}{A:cR}{E:ai->av->Prop}{s:av}
def Rg{oe:Obj}{vs:Array ai}{head:ai}{had:Bool}
  (vc:A.frames=some (env::outer)) (hl:s.heap.FunFrames base (env::outer)) (hf:env.frame=some L) (he:s.heap.get? e=some oe) (hc:oe.cls=.ref C) (hx:oe.dict=dx) (hd:oe.data=.fields vs) (hsz:1<vs.size) (hn:n<=s.heap.objs.size) (fD:n<=e) (wd:H e=none) (hH:∀a,s.heap.objs.size<=a->H a=none)
  (h:∀h',fX (lO (env::outer)) [e] s.heap h'->iT n h' H e C dx->Q () { s with heap:=h'}) :
  wpAny M A (do let a <-frameOf env;let pl <-entryPlaceOf L had;let b <-EntryCells.newEntry head a .none (rawInt L) .none pl;setField (.ref e) 1 b) (λ_ s'=>wpAny M A (setFlight (.ref e) none) Q E s') E s:=by
 have ene:e∉lO (env::outer):=λm=>by
  obtain⟨_,o,ho,My⟩:=hl.mem m
  simp_all
 refine aA (wpAny_frameOf_fun vc hl hf λh1 so=>aA (wpAny_entryPlaceOf λpl kS=>?_))
 unfold EntryCells.newEntry newFields;refine aA (wpAny_newObj_type ?_ (kS.sizeOk5 _ _ _ _ _));generalize eN:({ cls:=.type "traceback",dict:=none,data:=.fields ([head,.ref L,.none,rawInt L,.none]++(if pl.isEmpty then List.replicate 6 Value.none else pl)).toArray}:Obj)=oN
 have e1:h1.get? e=some oe:=(so.2.1 e ene).trans he;have e2:(h1.push oN).get? e=some oe:=dy _ e1;have nT:h1.objs.size≠e:=zG (cQ e1);have fN:oN.data=.fields ([head,.ref L,.none,rawInt L,.none]++(if pl.isEmpty then List.replicate 6 Value.none else pl)).toArray:=by rw[<-eN]
 have lN:3<([head,.ref L,.none,rawInt L,.none]++(if pl.isEmpty then List.replicate 6 Value.none else pl)).toArray.size:=by simp only[fF,dz,l_,C3];lia
 have dE:=Obj.data_mapFields hd (·.setIfInBounds 1 (Value.ref h1.objs.size))
 have e3:=ub (Obj.mapFields (·.setIfInBounds 1 (Value.ref h1.objs.size))) e2 (Obj.isFreed_of_fields dE)
 have t3:((h1.push oN).update e (Obj.mapFields (·.setIfInBounds 1 (Value.ref h1.objs.size)))).get? h1.objs.size=some oN:=(rH _ _ (Ne.symm nT)).trans (jP h1 (Obj.isFreed_of_fields fN))
 have dT:=Obj.data_mapFields fN (·.setIfInBounds 3 ((none:aj ag).elim Value.none λf=>rawInt f))
 refine wpAny_setField e2 hd hsz ?_;unfold setFlight;refine aA (wpAny_field e3 dE (x:=.ref h1.objs.size) (by simp[hsz]) ?_)
 rw[bK (show(Value.ref h1.objs.size != Value.none)=true by simp)]
 refine wpAny_setField t3 fN lN (h _ ⟨λb o hb qL g=>?_,λb o hb qL g=>?_⟩ ⟨fD,wd,_,_,(rH _ _ nT).trans e3,(Obj.cls_mapFields _ _).trans hc,(WX _ _).trans hx,dE,by simpa using hsz,.inr ⟨h1.objs.size,_,_,by simp[hsz],by rw[so.1];exact hn,hH _ (by rw[so.1];exact bV _),nT,ub _ t3 (Obj.isFreed_of_fields dT),dT,by simp[Array.getElem?_setIfInBounds,lN]⟩⟩)
 .have be:b≠e:=λz=>qL (by simp[z])
  have b1:h1.get? b=some o:=(so.2.1 b hb).trans g;rw[rH _ _ (zG (cQ b1)),rH _ _ (Ne.symm be)];exact dy _ b1
 .have be:b≠e:=λz=>qL (by simp[z])
  obtain⟨sl,b1⟩:=so.2.2 b o g;refine⟨sl,?_⟩;rw[rH _ _ (zG (cQ b1)),rH _ _ (Ne.symm be)];exact dy _ b1
def Ss
  (vc:A.frames=some (env::outer)) (hl:s.heap.FunFrames base (env::outer)) (hf:env.frame=some L) (hn:n<=s.heap.objs.size) (hH:∀a,s.heap.objs.size<=a->H a=none) (fl:iT n s.heap H e C dx)
  (h:∀h' ch,(∀b∈ch,n<=b/\H b=none)->fX (lO (env::outer)) ch s.heap h'->iT n h' H e C dx->Q () { s with heap:=h'}):wpAny M A (noteFrame (.ref e) env) (λ_ s'=>wpAny M A (setFlight (.ref e) none) Q E s') E s:=by
 obtain⟨fD,wd,oe,vs,he,hc,hx,hd,hsz,h1⟩:=fl;unfold noteFrame;simp only[hf];rcases h1 with h1|⟨T,oT,ts,h1,Jj,IZ,I_,hT,EU,h3⟩
 .refine aA (wpAny_field he hd h1 ?_);rw[bD (by decide)]
  exact Rg vc hl hf he hc hx hd hsz hn fD wd hH λh' l f=>h h' [e] (λb m=>by cases qE.1 m;exact⟨fD,wd⟩) l f
 .refine aA (wpAny_field he hd h1 ?_);rw[bK (show(Value.ref T != Value.none)=true by simp)]
  refine aA (wpAny_field hT EU h3 ?_);rw[bD (show ¬(Value.none == rawInt L)=true by simp[rawInt])]
  refine aA (wpAny_setField hT EU (C4.mp h3).1 ?_);have ot:∀b,b≠T->(s.heap.update T (Obj.mapFields (·.setIfInBounds 3 Value.none))).get? b=s.heap.get? b:=λb z=>rH _ _ (Ne.symm z)
  have nr:∀b o,s.heap.get? b=some o->(∀vs,o.data≠.fields vs)->b≠T:=λb o hb My z=>by
   simp_all
  refine Rg (s:={ s with heap:=s.heap.update T (Obj.mapFields (·.setIfInBounds 3 Value.none))}) vc (hl.of_keeps λb o hb My=>⟨o,(ot b (nr b o hb My)).trans hb,rfl⟩) hf ((ot e (Ne.symm I_)).trans he) hc hx hd hsz (by simpa[Heap.size_after_update] using hn) fD wd (λa z=>hH a (by simpa[Heap.size_after_update] using z)) λh' l f=>h h' [e,T] (λb m=>?_) ⟨λb o hb qL g=>?_,λb o hb qL g=>?_⟩ f
  .simp only[y0a,y1q,or_false] at m;rcases m with rfl|rfl
   .exact⟨fD,wd⟩
   .exact⟨Jj,IZ⟩
  .simp only[y0a,y1q,or_false,not_or] at qL;exact l.keep b o hb (by simp[qL.1]) ((ot b qL.2).trans g)
  .simp only[y0a,y1q,or_false,not_or] at qL;exact l.slot b o hb (by simp[qL.1]) ((ot b qL.2).trans g)
def d8s
  (vc:A.frames=some (env::outer)) (hl:s.heap.FunFrames base (env::outer)) (hf:env.frame=some L) (hn:n<=s.heap.objs.size) (hH:∀a,s.heap.objs.size<=a->H a=none) (fl:iT n s.heap H e C dx)
  (h:∀h' ch,(∀b∈ch,n<=b/\H b=none)->fX (lO (env::outer)) ch s.heap h'->iT n h' H e C dx->Q () { s with heap:=h'}):wpAny M A (leaving env (.ref e)) Q E s:=by
 unfold leaving;exact aA (Ss vc hl hf hn hH fl h)
end
variable{n:Nat}{h h':bP}{H:Hp}{e C:ag}{dx:aj ag}{X:Cx}{ch:List ag}{x:Str}{k:Kn}{Q:VK}
structure GQ (P:c7) (w:cB) (outer:List Env) (H:Hp) (s:av) (H':Hp) (s':av) (e C:ag) (dx:aj ag):Prop where
 os:s'.os=s.os
 bare:AllBare s'.gens
 un:Un (lO outer) [] H H' s.heap s'.heap
 bx:jI P w H' s'.heap
 IW:iT s.heap.objs.size s'.heap H' e C dx
def nN(P:c7)(w:cB):vU:=λouter H s E e s'=>∃a C dx H',e=.ref a/\GQ P w outer H s H' s' a C dx/\E (.ref C) dx H'
def d_(X:Cx)(W:XW):Prop:=∀(aa:List (ag×Obj)) (Z:St) (H:Hp) (s:av) (H':Hp) (s':av) (e C:ag) (dx:aj ag),Inv X aa Z H s->GQ X.prog X.w X.stack H s H' s' e C dx->W C dx Z H'->X.xe (.ref e) s'
def iT.mono{n':Nat}(f:iT n h H e C dx)(l:n'<=n):iT n' h H e C dx:=by
 obtain⟨a,b,oe,vs,c1,c2,c3,c4,c5,c6⟩:=f;refine⟨kx l a,b,oe,vs,c1,c2,c3,c4,c5,?_⟩;rcases c6 with c6|⟨T,oT,ts,d1,d2,d3⟩
 .exact .inl c6
 .exact .inr ⟨T,oT,ts,d1,kx l d2,d3⟩
def iT.lt(f:iT n h H e C dx):n<=h.objs.size:=by
 obtain⟨a,b,oe,vs,c1,_⟩:=f;exact N3 (N7 a (cQ c1))
def GQ.inv{aa:List (ag×Obj)}{Z:St}{H':Hp}{s s':av}(c:GQ X.prog X.w X.stack H s H' s' e C dx)(I:Inv X aa Z H s):Inv X aa Z H' s':=
 I.yI (ch:=[]) c.os c.un c.bx c.bare λ_ z=>nomatch z
def fX.bx{P:c7}{w:cB}{fs:List ag}(l:fX fs ch h h')(k:jI P w H h)(hf:∀b∈fs,H b=none)(hc:∀b∈ch,H b=none):jI P w H h':=λb o q=>
 (k b o q).oK (λc u z g=>l.keep c u (λm=>by
  simp_all) (λm=>by
  simp_all) g) (λ_ z=>z) λ_ _ z=>z
def fX.any{fs:List ag}(l:fX fs ch h h'){b:ag}{o:Obj}(g:h.get? b=some o)(hc:b∉ch):∃sl,h'.get? b=some { o with slots:=sl}:=by
 by_cases m:b∈fs
 .exact l.slot b o m hc g
 .exact⟨o.slots,l.keep b o m hc g⟩
def WF(E:XK):XW:=λC dx _ H'=>E (.ref C) dx H'
section
variable{P:c7}{w:cB}{K:aL}{mg:Str->aj ai}{base:bP}{N:List Str}{qual:Str}{scope:Scope}{f:ag}{cd:ai}{A:cR}{outer:List Env}{s₀:av}{H₀:Hp}{E:XK}
def xX:d_ (mG (nN P w) P w K mg base N qual scope f cd A outer s₀ H₀ E) (WF E):=by
 intro aa Z H s H' s' e C dx I c q;have I':=c.inv I;have vc:(A.deeper (envOfC qual scope s₀.heap.objs.size f cd)).frames=some (envOfC qual scope s₀.heap.objs.size f cd::outer):=I.ok.frames;have sz:s₀.heap.objs.size<=s.heap.objs.size:=I.sz;refine d8s (base:=base) (L:=s₀.heap.objs.size) vc I'.stack rfl c.IW.lt (λa z=>I'.bx.fresh z) c.IW λh' ch mj lx fl=>⟨e,C,dx,H',rfl,⟨I'.os,I'.bare,?_,lx.bx I'.bx I'.kW λb m=>(mj b m).2,fl.mono sz⟩,q⟩
 have xQ:∀b o,s₀.heap.get? b=some o->b∉ch:=λb o g m=>cJ (gE (cQ g) (kx sz (mj b m).1)) (kX _)
 have nL:∀b o,s₀.heap.get? b=some o->b∉lO outer->b∉lO (envOfC qual scope s₀.heap.objs.size f cd::outer):=λb o g z m=>by
  rcases y0a.mp (show b∈s₀.heap.objs.size::lO outer from m) with m|m
  .exact cJ (m ▸ cQ g) (kX _)
  .exact z m
 have B:Un (lO outer) [] H₀ H' s₀.heap s'.heap:=I'.base;refine⟨λb o g n hb hx=>lx.keep b o (nL b o g hb) (xQ b o g) (B.keep b o g n hb hx),λb o g n hb hx=>?_,B.free,λb o g hx=>?_,B.mR,B.lP,B.mQ⟩
 .obtain⟨sl,g1⟩:=B.slot b o g n hb hx;obtain⟨FU,g2⟩:=lx.any g1 (xQ b o g);exact⟨FU,g2⟩
 .obtain⟨o',g1⟩:=B.there b o g hx;obtain⟨sl,g2⟩:=lx.any g1 (xQ b o g);exact⟨_,g2⟩
def FC:PassesOwn (model P w) (A.deeper (envOfC qual scope s₀.heap.objs.size f cd)) (envOfC qual scope s₀.heap.objs.size f cd) (mG (nN P w) P w K mg base N qual scope f cd A outer s₀ H₀ E).xe:=PassesOwn.leaving
end
def EW(W:XW):St->XK:=λZ c dx H'=>∃C,c=.ref C/\W C dx Z H'
def sC{W:XW}(h:d_ X W):An (nN X.prog X.w) X (EW W):=λaa Z H s e s' I ⟨a,C,dx,H',he,c,C',hc,q⟩=>by
 cases hc;subst he;exact h aa Z H s H' s' a C dx I c q
abbrev GM:=List Val->aU->aj (Rs Rv)
def uI(K:aL)(q n:Nat)(m:GM):Sp:=λxs H Q E=>xs.length=n/\∃k vs S res,b_ K k H S/\Paired (cZ K k) xs vs/\m vs S=some res/\gR (RE K) K (WF E) q [] k H Q res
def hZ(m:GM)(n:Nat):Prop:=∀vs S res,m vs S=some res->vs.length=n
noncomputable def aq(m:GM)(g:GA):GE:=λU S=>bd (g U S) m
noncomputable def Rv.ref:Rv->aj Nat
 |.v (.d (.ref n))=>some n
 |_=>none
def Cell.kl(C:ag)(m:Str):Cell->Bool
 |.ins C' fs=>C' == C&&(fs.lookup m).isNone
 |_=>false
noncomputable def aV(C:ag)(x:Str)(m:GM)(f:GE)(g:GA):GE:=λU S=>bd (f U S) λr S1=>r.ref.bind λn=>if(S1.r[n]?).any (Cell.kl C x)=true then bd (g U S1) λvs S2=>m (.d (.ref n)::vs) S2 else none
noncomputable def Rv.y_:Rv->Bool
 |.v (.d .aH)=>true
 |_=>false
noncomputable def u0(C:ag)(m:GM)(g:GA):GE:=λU S=>bd (g U S) λvs S1=>bd (m (.d (.ref S1.r.length)::vs) ⟨S1.s,S1.r++[.ins C []]⟩) λr S2=>if r.y_=true then some (.ok (.v (.d (.ref S1.r.length))) S2) else none
def any_some{α:Type}{x:aj α}{p:α->Bool}(h:x.any p=true):∃c,x=some c/\p c=true:=by
 cases x with
 |none=>cases h
 |some c=>exact⟨c,rfl,h⟩
def Rv.oF{r:Rv}(h:r.ref=some n):r=.v (.d (.ref n)):=by
 unfold Rv.ref at h;split at h
 .cases h;rfl
 .cases h
def WY{fs:List (Str×D)}{gs:List (Str×V)}(h:gs.map (·.1)=fs.map (·.1))(e:fs.lookup x=none):gs.lookup x=none:=by
 induction fs generalizing gs with
 |nil=>cases gs with
  |nil=>rfl
  |cons _ _=>cases h
 |cons p fs ih=>
  obtain⟨y,d⟩:=p;cases gs with
  |nil=>cases h
  |cons r gs=>
   grind
section
variable{X:Cx}{K:aL}{W:XW}{Z:St}{H:Hp}{q n:Nat}{m:GM}{g:GA}{f:GE}
def gR.wf{res:Rs Rv}(w:gR (RE K) K W q Z k H Q res):gR (RE K) K (WF (EW W Z)) q [] k H Q res:=by
 cases res with
 |ok a S=>exact w
 |ex C l S=>exact λdx k' H' u k r=>⟨C,rfl,w dx k' H' u k r⟩
def d8t(hm:hZ m n)(t:tE K W q (aq m g) Z H Q):g9 K W q g Z H λxs H1=>uI K q n m (xs++[]) H1 Q (EW W Z):=by
 obtain⟨k,U,S,res,ok,gk,e,w⟩:=t;refine tX.bd ok gk e w λvs S1 xs k1 H1 bH g1 r1 e1 w1 _=>?_
 rw[kY];exact⟨(Paired.length r1).trans (hm _ _ _ e1),k1,vs,S1,res,bH,r1,e1,w1.wf⟩
def Ee{S:aU}{fs:List (Str×D)}{x:V}(ok:b_ K k H S)(r:ah K k [x] [.ref n])(hn:S.r[n]?=some (.ins C fs)):∃a dx gs,x=.ref a/\k.A[n]?=some a/\k.F a=none/\H a=some (.ins C dx gs)/\gs.map (·.1)=fs.map (·.1)/\ah K k (gs.map (·.2)) (fs.map (·.2)):=by
 obtain⟨a,rfl,h1⟩:=r.isRef;obtain⟨h0,dx,gs,h2,h3,h4⟩:=ok.r.at' n a _ h1 hn;exact⟨a,dx,gs,rfl,h1,h0,h2,h3,h4⟩
def Rh(hm:hZ m n)(t:tE K W q (aV C x m f g) Z H Q):vG C x (uI K q n m) [] (EW W) (tE K W q f) (g9 K W q g) Z H Q:=by
 obtain⟨k,U,S,res,ok,gk,e,w⟩:=t;refine tX.bd ok gk e w λr S1 y k1 H1 bH g1 r1 e1 w1 _=>?_
 obtain⟨j,e2,e3⟩:=cy.mp e1;clear e1;cases Rv.oF e2;split at e3
 .rename_i hi
  obtain⟨c,h1,h2⟩:=any_some hi;cases c with
  |ins C' fs=>
   obtain⟨h3,h4⟩:=C5.mp h2;cases(beq_iff_eq.mp h3);obtain⟨a,dx,gs,q1,q2,q3,q4,q5,q6⟩:=Ee bH r1 h1;refine⟨a,dx,gs,q1,q4,WY q5 (Option.isNone_iff_eq_none.mp h4),?_⟩;refine tX.bd bH g1 e3 w1 λvs S2 xs k2 H2 cO g2 r2 e2 w2 u2=>?_
   rw[kY];have r3:Paired (cZ K k2) (y::xs) (.d (.ref j)::vs):=.cons (cZ.up (v:=.d (.ref j)) r1 u2) r2;exact⟨(Paired.length r3).trans (hm _ _ _ e2),k2,_,S2,res,cO,r3,e2,w2.wf⟩
  |_=>cases h2
 .cases e3
def d8u(hm:hZ m n)(t:tE K W q (u0 C m g) Z H Q):zE C (uI K q n m) [] (EW W) (g9 K W q g) Z H Q:=by
 obtain⟨k,U,S,res,ok,gk,e,w⟩:=t;refine tX.bd ok gk e w λvs S1 xs k1 H1 bH g1 r1 e1 w1 _=>?_
 intro x dx hx hdx ne;rw[kY];have sm:az H1 (upd (upd H1 dx (.own x)) x (.ins C dx [])):=(uL hdx).put (by rw[dc (Ne.symm ne)];exact hx)
 obtain⟨fx,nx⟩:=bH.fresh hx;have cO:b_ K k1 _ S1:=bH.new (az.refl _) (λa _ o z=>sm a o z) (bH.le.trans sm) λ_ _ z=>z
 obtain⟨kJ,u3⟩:=cO.zt nx (c:=.ins C []) ⟨fx,dx,[],aK,rfl,.nil⟩;have h3:ah K ⟨k1.F,k1.A++[x],k1.T⟩ [.ref x] [.ref S1.r.length]:=.ref (by rw[<-bH.r.ln];exact Ia) .nil
 have u4:Up q k1 H1 ⟨k1.F,k1.A++[x],k1.T⟩ (upd (upd H1 dx (.own x)) x (.ins C dx [])):=(Up.of (az.refl _) sm).trans (u3 q);have r3:Paired (cZ K ⟨k1.F,k1.A++[x],k1.T⟩) (.ref x::xs) (.d (.ref S1.r.length)::vs):=.cons h3 (yu.up r1 u4);rcases Cr e1 with⟨r,S2,e2,e1⟩|⟨C',l,S2,e2,rfl⟩
 .refine⟨(Paired.length r3).trans (hm _ _ _ e2),_,_,_,_,kJ,r3,e2,λv k' H' u gM r'=>?_⟩
  split at e1
  .rename_i hr
   cases e1;unfold Rv.y_ at hr;split at hr
   .exact⟨(show ah K k' [v] [.aH] from r').bc rfl,w1 (.ref x) k' H' (u4.trans u) gM (ah.mono u.le h3)⟩
   lia
  .cases e1
 .exact⟨(Paired.length r3).trans (hm _ _ _ e2),_,_,_,_,kJ,r3,e2,λex k' H' u gM r'=>⟨C',rfl,w1 ex k' H' (u4.trans u) gM r'⟩⟩
end
end L2
set_option autoImplicit false
namespace L2
open PySem PySem.Spec PyProof.Rows
variable{p i:Nat}{P:St->Hp->Prop}{H:Hp}{Z:St}{ts:vW}
inductive Fr where
 |nx (U:Gm) (S:aU)|bk (U:Gm) (S:aU)|ct (U:Gm) (S:aU)|rt (r:Rv) (S:aU)|ex (C:ag) (l:aj Int) (U:Gm) (S:aU)
abbrev GS:=Gm->aU->aj Fr
section
variable(K:aL)(W:XW)(q:Nat){D:Ends}{k k':Kn}{H H':Hp}{Z:St}{U:Gm}{S:aU}{fr:Fr}
def bX(k:Kn)(H:Hp)(P:St->Hp->Prop)(U:Gm)(S:aU):Prop:=∀Z' k' H',Up q k H k' H'->b_ K k' H' S->hV K k' Z' U->P Z' H'
def Done(D:Ends)(k:Kn)(H:Hp):Fr->Prop
 |.nx U S=>bX K q k H D.nx U S
 |.bk U S=>bX K q k H D.bk U S
 |.ct U S=>bX K q k H D.ct U S
 |.rt r S=>∀v k' H',Up q k H k' H'->b_ K k' H' S->q8 K k' H' v r->D.rt v H'
 |.ex C l U S=>∀dx Z' k' H',Up q k H k' H'->b_ K k' H' S->hV K k' Z' U->C9 k'.F dx l->W C dx Z' H'
def tS(f:GS):TS:=λD Z H=>∃k U S fr,b_ K k H S/\hV K k Z U/\f U S=some fr/\Done K W q D k H fr
variable{K W q}
def KY{q:Nat}{o:HO}(h:p<=q)(e:xO p o=true):xO q o=true:=by
 match p,q with
 |0,_=>cases e
 |1,0=>lia
 |1,1=>exact e
 |1,n+2=>rfl
 |n+2,0=>lia
 |n+2,1=>lia
 |n+2,m+2=>rfl
def Up.weak(u:Up q k H k' H')(h:p<=q):Up p k H k' H':=⟨u.f,u.a,u.t,λa o z e=>u.h a o (KY h z) e⟩
def bX.up(w:bX K q k H P U S)(u:Up q k H k' H'):bX K q k' H' P U S:=λZ' k2 H2 u2 ok g=>w Z' k2 H2 (u.trans u2) ok g
def bX.now(w:bX K q k H P U S)(ok:b_ K k H S)(g:hV K k Z U):P Z H:=w Z k H .refl ok g
theorem Done.up(w:Done K W q D k H fr)(u:Up q k H k' H'):Done K W q D k' H' fr:=by
 cases fr with
 |nx U S=>exact bX.up w u
 |bk U S=>exact bX.up w u
 |ct U S=>exact bX.up w u
 |rt r S=>exact λv k2 H2 u2 k r=>w v k2 H2 (u.trans u2) k r
 |ex C l U S=>exact λdx Z' k2 H2 u2 k g r=>w dx Z' k2 H2 (u.trans u2) k g r
theorem Done.weak{p:Nat}(w:Done K W q D k H fr)(h:q<=p):Done K W p D k H fr:=by
 cases fr with
 |nx U S=>exact λZ' k2 H2 u=>w Z' k2 H2 (u.weak h)
 |bk U S=>exact λZ' k2 H2 u=>w Z' k2 H2 (u.weak h)
 |ct U S=>exact λZ' k2 H2 u=>w Z' k2 H2 (u.weak h)
 |rt r S=>exact λv k2 H2 u=>w v k2 H2 (u.weak h)
 |ex C l U S=>exact λdx Z' k2 H2 u=>w dx Z' k2 H2 (u.weak h)
def mi{α:Type}(U:Gm)(x:aj (Rs α))(f:α->aU->aj Fr):aj Fr:=match x with
 |none=>none
 |some (.ok a S)=>f a S
 |some (.ex C l S)=>some (.ex C l U S)
def tS.Ep{α β:Type}{R:Rp α β}{g:Gx α}{f:α->aU->aj Fr}{Q:β->Hp->Prop}(ok:b_ K k H S)(gk:hV K k Z U)(e:mi U (g U S) f=some fr)(w:Done K W q D k H fr)
  (h:∀a S1 b k1 H1,b_ K k1 H1 S1->hV K k1 Z U->R k1 H1 b a->f a S1=some fr->Done K W q D k1 H1 fr->Up q k H k1 H1->Q b H1):tX R K W q g Z H Q:=by
 unfold mi at e;split at e
 .cases e
 .rename_i a S1 e1
  exact⟨k,U,S,_,ok,gk,e1,λb k' H' u gM r=>h a S1 b k' H' gM (gk.up u) r e (w.up u) u⟩
 .rename_i C l S1 e1
  cases e;exact⟨k,U,S,_,ok,gk,e1,λdx k' H' u gM r=>w dx Z k' H' u gM (gk.up u) r⟩
def tS.bd{α β:Type}{R:Rp α β}{g:Gx α}{f:α->aU->aj Fr}{Q:β->Hp->Prop}(ok:b_ K k H S)(gk:hV K k Z U)(e:mi U (g U S) f=some fr)(w:Done K W q D k H fr)
  (h:∀a S1 b k1 H1,b_ K k1 H1 S1->hV K k1 Z U->R k1 H1 b a->f a S1=some fr->Done K W q D k1 H1 fr->Q b H1):tX R K W q g Z H Q:=tS.Ep ok gk e w λa S1 b k1 H1 h1 h2 h3 h4 h5 _=>h a S1 b k1 H1 h1 h2 h3 h4 h5
end
def lS:GS:=λU S=>some (.nx U S)
noncomputable def eQ(f g:GS):GS:=λU S=>(f U S).bind λr=>match r with
 |.nx U S=>g U S
 |r=>some r
noncomputable def ax(g:GE):GS:=λU S=>mi U (g U S) λr S1=>some (.rt r S1)
noncomputable def fJ(c:GT)(f g:GS):GS:=λU S=>mi U (c U S) λb S1=>if b=true then f U S1 else g U S1
noncomputable def cV(g:GE):GS:=λU S=>mi U (g U S) λ_ S1=>some (.nx U S1)
def asg(mu:Bool)(S:aU):Rv->Val×aU
 |.o c=>if mu=true then(.c S.s.length,⟨S.s++[.o c],S.r⟩) else(.d c.d,S)
 |.v x=>(x,S)
def ar(i:Nat)(mu:Bool)(g:GE):GS:=λU S=>mi U (g U S) λr S1=>if i<U.length then some (.nx (U.set i (some (asg mu S1 r).1)) (asg mu S1 r).2) else none
section
variable{X:Cx}{K:aL}{W:XW}{q:Nat}{st:Stmt}{rest sa sb:List Stmt}{e c:Expr}{f g:GS}{n8:GE}{ft:GT}{pos:Pos}
def AI:iO X [] (tS K W q lS):=sF.mono λD Z H t=>by
 obtain⟨k,U,S,fr,ok,gk,e,w⟩:=t;cases e;exact bX.now w ok gk
def xu(h1:PS X st (tS K W q f))(h2:iO X rest (tS K W q g)):iO X (st::rest) (tS K W q (eQ f g)):=(X9 h1 h2).mono λD Z H t=>by
 obtain⟨k,U,S,fr,ok,gk,e,w⟩:=t;obtain⟨r,e1,e⟩:=cy.mp e;refine⟨k,U,S,r,ok,gk,e1,?_⟩;cases r with
 |nx U1 S1=>exact λZ' k' H' u gM g'=>⟨k',U1,S1,fr,gM,g',e,w.up u⟩
 |bk U1 S1=>cases e;exact w
 |ct U1 S1=>cases e;exact w
 |rt r S1=>cases e;exact w
 |ex C l U1 S1=>cases e;exact w
def AJ(h:PE X e (tE K W q n8)):PS X (.Return (some e) pos) (tS K W q (ax n8)):=(e4f h).mono λD Z H t=>by
 obtain⟨k,U,S,fr,ok,gk,e,w⟩:=t;refine tS.bd ok gk e w λr S1 v k1 H1 bH g1 r1 e1 w1=>?_
 cases e1;exact w1 v k1 H1 .refl bH r1
def EA(hc:PT X c (tT K W q ft))(ha:iO X sa (tS K W q f))(hb:iO X sb (tS K W q g)):PS X (.If c sa sb pos) (tS K W q (fJ ft f g)):=(f0p hc ha hb).mono λD Z H t=>by
 obtain⟨k,U,S,fr,ok,gk,e,w⟩:=t;refine tS.bd ok gk e w λb S1 v k1 H1 bH g1 r1 e1 w1=>?_
 cases r1;cases b with
 |true=>exact vi ⟨k1,U,S1,fr,bH,g1,e1,w1⟩
 |false=>exact vh ⟨k1,U,S1,fr,bH,g1,e1,w1⟩
def d8v(he:PE X e (tE K W q n8))(hs:swapsWith e none pos.line X.env=pure false):PS X (.Expr e pos) (tS K W q (cV n8)):=(d7p he hs).mono λD Z H t=>by
 obtain⟨k,U,S,fr,ok,gk,e,w⟩:=t;refine tS.bd ok gk e w λr S1 v k1 H1 bH g1 r1 e1 w1=>?_
 cases e1;exact bX.now w1 bH g1
def e5g{mu:Bool}{k:Kn}{S:aU}{x:V}{r:Rv}(ok:b_ K k H S)(h:q8 K k H x r):∃k',(∀q,Up q k H k' H)/\b_ K k' H (asg mu S r).2/\cZ K k' x (asg mu S r).1:=by
 cases r with
 |v y=>exact t6 ok h
 |o c=>
  cases mu with
  |false=>exact t6 (r:=.o c) ok h
  |true=>
   obtain⟨p,rfl,hF,hi,hc⟩:=h;obtain⟨bH,u⟩:=ok.pushS hF hi hc;exact⟨_,u,bH,p,rfl,by rw[<-ok.s.ln];exact Ia⟩
def hV.set{k:Kn}{Z:St}{U:Gm}{i:Nat}{x:V}{v:Val}(g:hV K k Z U)(r:cZ K k x v)(hi:i<U.length):hV K k (Z.set i (some x)) (U.set i (some v)):=by
 refine⟨by rw[wz,wz,g.ln],λj w e=>?_⟩
 by_cases z:i=j
 .subst z;rw[wy hi] at e;cases e;exact⟨x,wy (g.ln ▸ hi),r⟩
 .rw[C0 z] at e ⊢;exact g.at' j w e
def Su{mu:Bool}{D:Ends}(t:tS K W q (ar i mu n8) D Z H):tE K W q n8 Z H λv H1=>D.nx (Z.set i (some v)) H1:=by
 obtain⟨k,U,S,fr,ok,gk,e,w⟩:=t;refine tS.bd ok gk e w λr S1 v k1 H1 bH g1 r1 e1 w1=>?_
 split at e1
 .cases e1;obtain⟨k2,u,cO,r2⟩:=e5g (mu:=mu) bH r1;exact bX.now (bX.up w1 (u q)) cO ((g1.up (u q)).set r2 (by assumption))
 .cases e1
def e5h{mu:Bool}{x:Str}{pos':Pos}(hN:X.N.Nodup)(hi:X.N[i]?=some x)(hx:Loc X.env.scope x)(he:PE X e (tE K W q n8))(hs:swapsWith e (some (.Name x pos')) pos.line X.env=pure false)(hf:X.fn x=true\/X.env.scope.names.lookup x=some .local):
  PS X (.Assign [.Name x pos'] e pos) (tS K W q (ar i mu n8)):=(e4j hN hi hx he hs hf).mono λD Z H t=>Su t
def cX(c:GT)(f:GS):Nat->GS
 |0=>λ_ _=>none
 |n+1=>λU S=>mi U (c U S) λb S1=>if b=true then(f U S1).bind λr=>match r with
   |.nx U2 S2=>cX c f n U2 S2
   |.ct U2 S2=>cX c f n U2 S2
   |.bk U2 S2=>some (.nx U2 S2)
   |r=>some r
  else some (.nx U S1)
def uT(n:Nat)(hp:PassesOwn (model X.prog X.w) X.A X.env X.xe)(hc:PT X c (tT K W q ft))(hb:iO X sa (tS K W q f)):PS X (.While c sa [] pos) (tS K W q (cX ft f n)):=(X_ hp hc hb).mono λD Z H t=>by
 obtain⟨k,U,S,fr,ok,gk,e,w⟩:=t;refine⟨λn Z H=>∃k U S,b_ K k H S/\hV K k Z U/\cX ft f n U S=some fr/\Done K W q D k H fr,⟨n,k,U,S,ok,gk,e,w⟩,?_⟩
 clear ok gk e w;rintro n Z H ⟨k,U,S,ok,gk,e,w⟩;cases n with
 |zero=>cases e
 |succ n=>
  refine tS.bd ok gk e w λb S1 v k1 H1 bH g1 r1 e1 w1=>?_
  cases r1;cases b with
  |false=>cases e1;exact vh (bX.now w1 bH g1)
  |true=>
   refine vi ⟨λZ' H'=>∃k U S,b_ K k H' S/\hV K k Z' U/\cX ft f n U S=some fr/\Done K W q D k H' fr,λZ' H' h=>⟨n,yq _,h⟩,?_⟩
   obtain⟨r,e2,e3⟩:=cy.mp (show((f U S1).bind _)=some fr from e1);refine⟨k1,U,S1,r,bH,g1,e2,?_⟩;cases r with
   |nx U2 S2=>exact λZ' k' H' u gM g'=>⟨k',U2,S2,gM,g',e3,w1.up u⟩
   |ct U2 S2=>exact λZ' k' H' u gM g'=>⟨k',U2,S2,gM,g',e3,w1.up u⟩
   |bk U2 S2=>cases e3;exact w1
   |rt r S2=>cases e3;exact w1
   |ex C l U2 S2=>cases e3;exact w1
end
abbrev GG:=D->Gm->aj Gm
variable{gs:List GG}
noncomputable def ae(i:Nat):GG:=λd U=>if i<U.length then some (U.set i (some (.d d))) else none
noncomputable def sf:List GG->List D->Gm->aj Gm
 |[],[],U=>some U
 |g::gs,d::ds,U=>(g d U).bind λU1=>sf gs ds U1
 |_,_,_=>none
def aY(gs:List GG):GG:=λd U=>match d with
 |.tup ds=>sf gs ds U
 |_=>none
section
variable{K:aL}
def lh(K:aL)(t:TG)(g:GG):Prop:=
 ∀(k:Kn) (H:Hp) (Z:St) (U U1:Gm) (x:V) (d:D) (Q:St->Hp->Prop),az k.F H->hV K k Z U->ah K k [x] [d]->g d U=some U1->(∀Z',hV K k Z' U1->Q Z' H)->t x Z H Q
def rN(K:aL)(t:vW)(gs:List GG):Prop:=
 ∀(k:Kn) (H:Hp) (Z:St) (U U1:Gm) (xs:List V) (ds:List D) (Q:St->Hp->Prop),az k.F H->hV K k Z U->ah K k xs ds->sf gs ds U=some U1->(∀Z',hV K k Z' U1->Q Z' H)->t xs Z H Q
def yd:lh K (r_ i) (ae i):=by
 intro k H Z U U1 x v Q le gk r e w;unfold ae at e;split at e
 .cases e;exact w _ (gk.set (v:=.d v) r (by assumption))
 .cases e
def yf:rN K EI []:=by
 intro k H Z U U1 xs vs Q le gk r e w;cases vs with
 |nil=>cases e;exact⟨r.gA,w Z gk⟩
 |cons _ _=>cases e
def vI{t:TG}{g:GG}(h1:lh K t g)(h2:rN K ts gs):rN K (yQ t ts) (g::gs):=by
 intro k H Z U U1 xs vs Q le gk r e w;cases vs with
 |nil=>cases e
 |cons d ds=>
  obtain⟨U2,e1,e2⟩:=cy.mp e;obtain⟨x,xs,rfl,r1,r2⟩:=r.ck;exact⟨_,_,rfl,h1 k H Z U U2 _ _ _ le gk r1 e1 λZ1 g1=>h2 k H Z1 U2 U1 _ _ Q le g1 r2 e2 w⟩
def WZ:∀{gs:List GG} {vs:List D} {U U1:Gm},sf gs vs U=some U1->vs.length=gs.length:=by
 intro gs
 induction gs with
 |nil=>intro vs U U1 e;cases vs with
  |nil=>rfl
  |cons _ _=>cases e
 |cons g gs ih=>intro vs U U1 e;cases vs with
  |nil=>cases e
  |cons v vs=>obtain⟨U2,_,e2⟩:=cy.mp e;exact congrArg (·+1) (ih e2)
def BC{n:Nat}(h:rN K ts gs)(hn:n=gs.length):lh K (AN K n ts) (aY gs):=by
 intro k H Z U U1 x d Q le gk r e w;cases d with
 |tup es=>
  obtain⟨a,ws,rfl,sq,rp⟩:=r.isTup;exact⟨a,ws,rfl,le.By sq,by rw[hn,<-WZ e,rp.length],h k H Z U U1 _ _ Q le gk rp e w⟩
 |_=>cases e
end
def gD(g:GE):Gx D:=λU S=>bd (g U S) λr S1=>(rm S1 (oM r)).map λp=>.ok p.1 p.2
abbrev RD(K:aL):Rp D V:=λk _ x d=>ah K k [x] [d]
section
variable{X:Cx}{K:aL}{W:XW}{q:Nat}{g:GE}{gg:GG}{t:TG}{e tg:Expr}{pos:Pos}
def NL{Q:VK}(t:tX (RD K) K W q (gD g) Z H Q):tE K W q g Z H Q:=by
 obtain⟨k,U,S,res,ok,gk,e,w⟩:=t;refine tX.bd ok gk e w λr S1 x k1 H1 bH g1 r1 e1 w1 _=>?_
 obtain⟨p,e2,rfl⟩:=c_.mp e1;obtain⟨k2,u2,cO,r2⟩:=t6 bH r1;obtain⟨k3,u3,kJ,r3⟩:=Ib cO r2 e2;exact((w1.up (u2 q)).up (u3 q)).now kJ r3
end
variable{N:List Str}{n p:Nat}{m:GS}
def aU.cut(S:aU)(b:Nat):aU:=⟨S.s.take b,S.r⟩
def Eo:Cell->aj Rv
 |.o x=>some (.o x)
 |.z x=>some (.v (.d x.d))
 |_=>none
def back(b:Nat)(S:aU):Rv->aj Rv
 |.v (.c n)=>if n<b then some (.v (.c n)) else(S.s[n]?).bind Eo
 |r=>some r
def leave(b:Nat):Fr->aj (Rs Rv)
 |.nx _ S=>some (.ok (.v (.d .aH)) (S.cut b))
 |.rt r S=>(back b S r).map λr'=>.ok r' (S.cut b)
 |.ex C l _ S=>some (.ex C l (S.cut b))
 |_=>none
def runM(p n:Nat)(m:GS):GM:=λvs S=>if vs.length=p then(m (vs.map some++List.replicate (n - vs.length) none) S).bind (leave S.s.length) else none
section
variable{K:aL}{k k':Kn}{H H':Hp}{S:aU}{q b:Nat}
def d8w{v:V}{r r':Rv}(ok:b_ K k H S)(h:q8 K k H v r)(e:back b S r=some r'):q8 K ⟨k.F,k.A,k.T.take b⟩ H v r':=by
 have go:k.le ⟨k.F,k.A,k.T.take b⟩:=⟨az.refl _,mS _⟩;cases r with
 |o c=>
  cases e;obtain⟨a,e1,e2,e3,e4⟩:=h;exact⟨a,e1,e2,λm=>e3 ((jC.mp m).elim (JQ _) λm=>rG _ (List.mem_of_mem_take m)),e4.keep go λ_ z=>z⟩
 |v x=>
  cases x with
  |d y=>cases e;exact ah.mono go h
  |c n=>
   obtain⟨a,e1,e2⟩:=h;unfold back at e;dsimp only at e;split at e
   .rename_i hn
    cases e;exact⟨a,e1,by rw[List.getElem?_take,bK hn];exact e2⟩
   .rename_i hn
    obtain⟨c,h1,h2⟩:=cy.mp e;have h3:=ok.s.at' n a c e2 h1;cases c with
    |ins _ _=>cases h2
    |z x=>cases h2;rw[e1];exact ah.mono go h3.2
    |o x=>
     cases h2;obtain⟨n1,n2,n3⟩:=oV.mp ok.nd;refine⟨a,e1,h3.1,λm=>?_,h3.2.keep go λ_ z=>z⟩
     rcases jC.mp m with m|m
     .exact n3 a m a (vO e2) rfl
     .obtain⟨j,hj⟩:=BH.mp m;rw[List.getElem?_take] at hj;split at hj
      .rename_i Jg
       have:=KU n2 hj e2;lia
      .cases hj
def W4{xs:List V}{vs:List Val}(h:Paired (cZ K k) xs vs)(hn:N.length=n):hV K k (start N xs) (vs.map some++List.replicate (n - vs.length) none):=by
 have hl:=Paired.length h;refine⟨by unfold start;simp[hl,hn],λi v e=>?_⟩
 by_cases hi:i<vs.length
 .rw[vN (by rw[bj];exact hi),fU] at e
  obtain⟨w,e1,e2⟩:=c_.mp e;cases e2;obtain⟨x,h1,h2⟩:=Hy i h e1;refine⟨x,?_,h2⟩;unfold start;rw[vN (by rw[bj,hl];exact hi),fU,h1]
  rfl
 .rw[ua (by rw[bj];lia),N5] at e
  split at e <;> cases e
end
section
variable{P:c7}{w:cB}{K:aL}{mg:Str->aj ai}{base:bP}
def Sv{x qual:Str}{st:Stmt}{f:ag}{fd:bJ}{ps:List Str}{k q:Nat}(F:Fun K x qual st f fd)(S:gG N ps (qH st))(hp:ps.length=p)(hn:N.length=n)
  (u9:∀(eV:ai) (A:cR) (outer:List Env) (s:av) (H:Hp) (E:XK),cx k (A.deeper (envOfC qual (qH st) s.heap.objs.size f eV))->iO (mG (nN P w) P w K mg base N qual (qH st) f eV A outer s H E) (yB st) (tS K (WF E) q m)) :
  dA P w K mg base (nN P w) (k+1) f fd ps (uI K q p (runM p n m)):=by
 obtain⟨oc,od,kV,doc,pm,an,eV,ct,wt,rfl,lk,tL⟩:=F.ex;refine f0t lk tL S (λvs H Q E h=>h.1.trans hp.symm) λA outer s H xs Q E hr yW=>⟨_,u9 eV A outer s H E hr,?_⟩
 obtain⟨hl,k,vs,S,res,ok,rp,e,w⟩:=yW;unfold runM at e;split at e
 .obtain⟨fr,e1,e2⟩:=cy.mp e;refine⟨k,_,S,fr,ok,W4 rp hn,e1,?_⟩;have lb:k.T.length<=S.s.length:=Gw ok.s.ln;cases fr with
  |nx U S'=>
   cases e2;exact λZ' k' H' u gM g'=>w .aH _ H' (u.take lb) (gM.take _) (show ah K _ [.aH] [.aH] from .flat rfl .nil)
  |bk U S'=>cases e2
  |ct U S'=>cases e2
  |rt r S'=>
   obtain⟨r',e3,rfl⟩:=c_.mp e2;exact λv k' H' u gM r1=>w v _ H' (u.take lb) (gM.take _) (d8w gM r1 e3)
  |ex C l U S'=>
   cases e2;exact λdx Z' k' H' u gM g' el=>w dx _ H' (u.take lb) (gM.take _) el
 .cases e
def nI:hZ (runM p n m) p:=λvs S res e=>by
 grind [runM]
end
section
variable{prog:c7}{w:cB}{A:cR}{E:ai->av->Prop}{h:bP}{g:Array GenState}{d:Drawn}{t:Nat}{os:OsState}
variable{nm q:Str}{C N:ag}{bs bm Ax:List ai}{hdct:Bool}{sn:List Str}{sub:List ai}{ab:Bool}{col:aj Bool}{dd:aj ag}{k0 k1 k2 k3 k5:aj ai}{B Bn newId UB oo Ut:String}{Qr:List ai}
def Gj(Fn:ExcBaseFacts Bn newId Ut Qr)(IY:Ax.contains (.type Bn)=true)(F:ExcBaseFacts B UB oo Ax)(T:OwnTail h Ax bm){mN:Str->aj ai}{rest:List ai}{Q:Fin->av->Prop}
  (hC:h.get? C=some (excClassObj nm q C N bs bm hdct sn sub ab col dd k0 k1 k2 k3 k5 newId)) (hn:h.Ns N mN) (ve:rest.length<=sizeLine)
  (hq:∀i,i=(mN "__init__").getD (.builtin oo)->wpAny (model prog w) A (bindSpecial i (.ref (h.objs.size+1))) (λp s'=>wpAny (model prog w) A (call p.1 (p.2++rest)) (λr vD=>r=.none/\Q (.done (.ret (.ref (h.objs.size+1)))) vD) E s') E ⟨((h.push { cls:=.type "tuple",data:=.seq rest.toArray}).push { cls:=.ref C,data:=.fields #[.ref h.objs.size,.none,.none,.none,.bool false,.none]}),g,d,t,os⟩) :
  wpAny (model prog w) A (Builtin.«type.__call__» ⟨.ref C::rest,[]⟩) Q E ⟨h,g,d,t,os⟩:=by
 repeat (first|with_reducible refine wpAny_loadPart_at hC ?_|with_reducible refine wpAny_madeBy_exc hC ?_|wp_step)
 refine codeAny_call_builtin_code (Code.quiet_builtin _ Fn.quiet) (wpAny_check_new_subU Fn IY T hC (codeAny_exc_new_subU Fn IY F T hC ?_ ve));show wpAny _ _ _ _ _ _;have st:∀b o,h.get? b=some o->((h.push { cls:=.type "tuple",data:=.seq rest.toArray}).push { cls:=.ref C,data:=.fields #[.ref h.objs.size,.none,.none,.none,.bool false,.none]}).get? b=some o:=λb o e=>dy _ (dy _ e)
 have hC₁:=st _ _ hC;have AS:((h.push { cls:=.type "tuple",data:=.seq rest.toArray}).push { cls:=.ref C,data:=.fields #[.ref h.objs.size,.none,.none,.none,.bool false,.none]}).get? (h.objs.size+1)=some { cls:=.ref C,data:=.fields #[.ref h.objs.size,.none,.none,.none,.bool false,.none]}:=by heap_get
 have hcC:(Value.ref C::bm).contains (.ref C)=true:=by simp
 unfold isInstance
 repeat (first|with_reducible refine wpAny_loadPart_at AS ?_|(with_reducible refine wpAny_isSubtype_exc hC₁ ?_;rw[hcC])|wp_step)
 show wpAny _ _ (typeLookup (.ref C) _) _ _ _;refine wpAny_typeLookup_tail hC₁ (hn.keeps st) (T.keeps st) F.mroIs F.init.lookup ?_;cases hv:mN "__init__" with
 |none=>
  refine mh (aA (wpAny_mono (hq _ (by rw[hv];rfl)) (λp s' z=>aA (wpAny_mono z (λr vD y=>?_) λ_ _ y=>y)) λ_ _ y=>y))
  obtain⟨rfl,y⟩:=y
  wp_walk
  exact y
 |some v=>
  refine mh (aA (wpAny_mono (hq _ (by rw[hv];rfl)) (λp s' z=>aA (wpAny_mono z (λr vD y=>?_) λ_ _ y=>y)) λ_ _ y=>y))
  obtain⟨rfl,y⟩:=y
  wp_walk
  exact y
def Yz(Fn:ExcBaseFacts Bn newId Ut Qr)(IY:Ax.contains (.type Bn)=true)(F:ExcBaseFacts B UB oo Ax)(T:OwnTail h Ax bm){mN:Str->aj ai}{rest:List ai}{Q:ai->av->Prop}
  (hC:h.get? C=some (excClassObj nm q C N bs bm hdct sn sub ab col dd k0 k1 k2 k3 k5 newId)) (hn:h.Ns N mN) (ve:rest.length<=sizeLine)
  (hq:∀i,i=(mN "__init__").getD (.builtin oo)->wpAny (model prog w) (A.under (.builtin "type.__call__" ⟨.ref C::rest,[]⟩)) (bindSpecial i (.ref (h.objs.size+1))) (λp s'=>wpAny (model prog w) (A.under (.builtin "type.__call__" ⟨.ref C::rest,[]⟩)) (call p.1 (p.2++rest)) (λr vD=>r=.none/\Q (.ref (h.objs.size+1)) vD) E s') E ⟨((h.push { cls:=.type "tuple",data:=.seq rest.toArray}).push { cls:=.ref C,data:=.fields #[.ref h.objs.size,.none,.none,.none,.bool false,.none]}),g,d,t,os⟩) :
  wpAny (model prog w) A (call (.ref C) rest) Q E ⟨h,g,d,t,os⟩:=by
 have f1:=tc_lookup;have f2:=tc_bind (.ref C);have hT:(⟨h,g,d,t,os⟩:av).TypeIs (.ref C) "type":=⟨_,hC,rfl⟩;refine wpAny_call (codeAny_of_tree (show wpAny _ _ (callAny (.ref C) _) _ _ _ from ?_))
 repeat (any_goals (first|assumption|with_reducible refine wpAny_loadPart_at hC ?_|wp_step))
 exact⟨rfl,codeAny_call_builtin_at (Code.quiet_builtin _ (by decide +kernel)) entry_typeCall (wpAny_check_type_call_sub hC (Gj Fn IY F T hC hn ve λi e=>hq i e))⟩
end
end L2
namespace L2
open PySem PySem.Spec PySem.W PySem.Calls PyProof.Rows
noncomputable def uV(C t:ag)(d:aj ag):Obj:={ cls:=.ref C,dict:=d,data:=.fields #[.ref t,.none,.none,.none,.bool false,.none]}
section
variable{prog:c7}{w:cB}{A:cR}{E:ai->av->Prop}{h:bP}{g:Array GenState}{d:Drawn}{tt:Nat}{os:OsState}{x t:ag}
variable{nm q:Str}{C N:ag}{bs bm Ax:List ai}{hdct:Bool}{sn:List Str}{sub:List ai}{ab:Bool}{col:aj Bool}{dd:aj ag}{k0 k1 k2 k3 k5:aj ai}{newId:String}
def Gu{u:ai}{Q:ai->av->Prop}(T:OwnTail h [.type "ValueError",.type "Exception",.type "BaseException",.type "object"] bm)(hC:h.get? C=some (excClassObj nm q C N bs bm hdct sn sub ab col dd k0 k1 k2 k3 k5 newId))(hx:h.get? x=some (uV C t none))
  (hq:∀h',h'.get? x=some (uV C h.objs.size none)->(∀b o,b≠x->h.get? b=some o->h'.get? b=some o)->Q .none ⟨h',g,d,tt,os⟩) :
  wpAny (model prog w) A (call (.builtin "ValueError.__init__") [.ref x,u]) Q E ⟨h,g,d,tt,os⟩:=by
 have FB:=F.excBase_ValueError;have wk:h.get? x=some { cls:=.ref C,data:=.fields #[.ref t,.none,.none,.none,.bool false,.none]}:=hx;refine wpAny_call (codeAny_call_builtin FB.init.plain FB.initEntry (wpAny_check_init_subU FB T hC wk rfl ?_))
 wp_walk
 refine hq _ ?_ λb o n e=>?_
 .rw[ub _ (dy _ wk) rfl];rfl
 .rw[rH _ _ (Ne.symm n)];exact dy _ e
end
noncomputable abbrev tI:List ai:=[.type "ValueError",.type "Exception",.type "BaseException",.type "object"]
def fW(K:fQ)(C:ag)(bm:List ai)(Jm:aj ai):Prop:=∃nm q N bs sn sub ab col dd k0 k1 k2 k3 k5 on CQ es ep CS,
 K.lookup C=some (excClassObj nm q C N bs bm true sn sub ab col dd k0 k1 k2 k3 k5 "ValueError.__new__")/\K.lookup N=some ⟨on,CQ,.dict es ep,CS⟩/\StrKeys es/\nsFind es "__init__"=Jm
section
variable{K:fQ}{C C' B0 a:ag}{bm Lu:List ai}{i i':aj ai}{l:aj Int}
theorem fW.cls(G:fW K C bm i):∃cd,clsIn K C=some cd/\cd.mro=.ref C::bm/\cd.hasDict=true/\typeIn K (.ref C)=some (.type "type"):=by
 obtain⟨nm,q,N,bs,sn,sub,ab,col,dd,k0,k1,k2,k3,k5,on,CQ,es,ep,CS,g1,g2,g3,g4⟩:=G;exact⟨_,by unfold clsIn;rw[g1],rfl,rfl,by show(K.lookup C).map (·.cls)=_;rw[g1];rfl⟩
def fW.sub(G:fW K C bm i)(b:ai):subIn K (.ref C) b=some ((Value.ref C::bm).contains b):=by
 obtain⟨cd,c1,c2,c3,c4⟩:=G.cls;show mroIn K C b=_;unfold mroIn;rw[c1,C6,c2];rfl
def fW.T2{C C':ag}{bm Lu:List ai}{i i':aj ai}(G:fW K C bm i)(G':fW K C' Lu i')(h:(Value.ref C'::Lu).contains (.type "BaseException")=true):exmOne K (.ref C) (.ref C')=some ((Value.ref C::bm).contains (.ref C')):=by
 obtain⟨cd,c1,c2,c3,c4⟩:=G'.cls;unfold exmOne;rw[G'.sub,h,bK (by decide)]
 unfold kitCls;dsimp only;rw[bK (by rw[c1,c4];rfl)]
 exact G.sub _
end
section
variable{X:Cx}{aa:List (ag×Obj)}{Z:St}{H:Hp}{s:av}{C B0:ag}{R:ai->av->Prop}
def YA{u:ai}(G:fW X.K C (.ref B0::tI) none)(G0:fW X.K B0 tI none)(I:Inv X aa Z H s)(h:∀h' t,(∀b o,s.heap.get? b=some o->h'.get? b=some o)->h'.get? (s.heap.objs.size+1)=some (uV C t none)->R (.ref (s.heap.objs.size+1)) { s with heap:=h'}):
  wpAny (model X.prog X.w) X.A (call (.ref C) [u]) R X.xe s:=by
 obtain⟨hh,g,d,tt,os⟩:=s;have KX:X.K.In hh:=I.kT;obtain⟨nm,q,N,bs,sn,sub,ab,col,dd,k0,k1,k2,k3,k5,on,CQ,es,ep,CS,g1,g2,g3,g4⟩:=G;obtain⟨nm',q',N',bs',sn',sub',ab',col',dd',k0',k1',k2',k3',k5',on',odn',wb,qJ,sln',g1',g2',g3',g4'⟩:=G0;have FB:=F.excBase_ValueError;have T:OwnTail hh tI (.ref B0::tI):=.own (KX _ _ g1') (mA:=λn=>nsFind wb n) ⟨_,_,_,KX _ _ g2',rfl,g3',λ_=>rfl⟩ g4' .base
 refine Yz FB rfl FB T (KX _ _ g1) (mN:=λn=>nsFind es n) ⟨_,_,_,KX _ _ g2,rfl,g3,λ_=>rfl⟩ (by rw[sizeLine_eq];exact(by decide:1<=16777216)) λi ei=>?_
 rw[g4] at ei;subst ei;have st:∀b o,hh.get? b=some o->((hh.push { cls:=.type "tuple",data:=.seq [u].toArray}).push { cls:=.ref C,data:=.fields #[.ref hh.objs.size,.none,.none,.none,.bool false,.none]}).get? b=some o:=λb o e=>dy _ (dy _ e)
 have AS:((hh.push { cls:=.type "tuple",data:=.seq [u].toArray}).push { cls:=.ref C,data:=.fields #[.ref hh.objs.size,.none,.none,.none,.bool false,.none]}).get? (hh.objs.size+1)=some (uV C hh.objs.size none):=by unfold uV;heap_get
 refine wpAny_of_eq (FB.init.bind _) (Gu (T.keeps st) (st _ _ (KX _ _ g1)) AS λh' e1 e2=>?_)
 exact⟨rfl,h h' _ (λb o z=>e2 b o (g_ (BG (cQ z))) (st b o z)) e1⟩
end
noncomputable abbrev Cx.dh(X:Cx)(pn:List (ag×Obj))(E:ai->av->Prop):Cx:={ X with pn:=pn,xe:=E}
noncomputable abbrev Cx.dw(X:Cx)(e:ai):Cx:={ X with A:=X.A.mark (some e),calm:=false,xe:=λ_ _=>False}
structure Dj (X:Cx) (aa:List (ag×Obj)) (n:Nat):Prop where
 s:X.s₀.heap.objs.size<=n
 l:X.env.locals<n
 c:∀x c,X.env.cells.lookup x=some c->c<n
 p:∀q∈X.pn++aa,q.1<n
section
variable{X:Cx}{aa qu:List (ag×Obj)}{pn:List (ag×Obj)}{Z:St}{H:Hp}{s:av}{E:ai->av->Prop}{n:Nat}{ch:List ag}{h':bP}
def Cx.Ok.dh(ok:X.Ok):(X.dh pn E).Ok:=⟨ok.mod,ok.kind,ok.glob,ok.blt,ok.above,ok.inj,ok.has,ok.Ay,ok.hd,ok.frames,ok.CT,ok.IU,ok.bs,ok.uP,ok.rA,ok.tJ,ok.jm,ok.xw⟩
def Cx.Ok.dY(ok:(X.dh pn E).Ok):X.Ok:=⟨ok.mod,ok.kind,ok.glob,ok.blt,ok.above,ok.inj,ok.has,ok.Ay,ok.hd,ok.frames,ok.CT,ok.IU,ok.bs,ok.uP,ok.rA,ok.tJ,ok.jm,ok.xw⟩
theorem Inv.dh(I:Inv X aa Z H s):Inv (X.dh (X.pn++aa) E) [] Z H s:=⟨I.ok.dh,I.os,I.bare,I.base,I.loc,I.cell,I.free,I.eH,λp hp=>I.pin p (by rw[kY] at hp;exact hp),I.bx,I.len⟩
theorem Inv.dY(I:Inv (X.dh (X.pn++aa) E) qu Z H s):Inv X aa Z H s:=⟨I.ok.dY,I.os,I.bare,I.base,I.loc,I.cell,I.free,I.eH,λp hp=>I.pin p (JQ _ hp),I.bx,I.len⟩
def Inv.dw{e:ai}(I:Inv X aa Z H s):Inv (X.dw e) aa Z H s:=
 ⟨⟨I.ok.mod,I.ok.kind,I.ok.glob,I.ok.blt,I.ok.above,I.ok.inj,I.ok.has,I.ok.Ay,λz=>(nomatch z),I.ok.frames,I.ok.CT,I.ok.IU,I.ok.bs,I.ok.uP,I.ok.rA,I.ok.tJ,I.ok.jm,I.ok.xw⟩,I.os,I.bare,I.base,I.loc,I.cell,I.free,I.eH,I.pin,I.bx,I.len⟩
def Inv.eM{e:ai}(I:Inv (X.dw e) aa Z H s)(hd:X.calm=true->X.A.handled=none):Inv X aa Z H s:=
 ⟨⟨I.ok.mod,I.ok.kind,I.ok.glob,I.ok.blt,I.ok.above,I.ok.inj,I.ok.has,I.ok.Ay,hd,I.ok.frames,I.ok.CT,I.ok.IU,I.ok.bs,I.ok.uP,I.ok.rA,I.ok.tJ,I.ok.jm,I.ok.xw⟩,I.os,I.bare,I.base,I.loc,I.cell,I.free,I.eH,I.pin,I.bx,I.len⟩
def Inv.UZ(I:Inv X aa Z H s):Dj X aa s.heap.objs.size:=⟨I.sz,I.lt,λx c e=>by obtain⟨v,o,ho,_⟩:=I.cell x c e;exact cQ ho,λq hq=>cQ (I.pin q hq).1⟩
def Dj.far(y:Dj X aa n){b:ag}(h:n<=b):(b∈X.ex\/X.s₀.heap.objs.size<=b)/\b≠X.env.locals/\(∀x c,X.env.cells.lookup x=some c->c≠b)/\∀p∈X.pn++aa,p.1≠b:=
 ⟨.inr (kx y.s h),λz=>cJ (gE y.l h) (z ▸ kX _),λx c e z=>cJ (gE (y.c x c e) h) (z ▸ kX _),λp hp z=>cJ (gE (y.p p hp) h) (z ▸ kX _)⟩
def fX.un{fs:List ag}{h:bP}(l:fX fs ch h h'):Un fs ch H H h h':=
 ⟨λb o g _ hb hx=>l.keep b o hb hx g,λb o g _ hb hx=>l.slot b o hb hx g,λ_ _ _ n _=>n,λb o g hx=>let ⟨_,g2⟩:=l.any g hx;⟨_,g2⟩,λ_ _ q=>q,λ_ _ _ q=>q,λ_ ps q=>⟨#[],by rw[q];simp⟩⟩
def Inv.left{t':Nat}(I:Inv X aa Z H s)(y:Dj X aa n)(l:fX (lO X.stack) ch s.heap h')(mj:∀b∈ch,n<=b/\H b=none):Inv X aa Z H { s with heap:=h',toks:=t'}:=
 I.call (g':=s.gens) (d':=s.drawn) (ch:=ch) l.un (l.bx I.bx I.kW λb m=>(mj b m).2) I.bare λb m=>y.far (mj b m).1
def YB{M:Model}{A:cR}{e C:ag}{dx:aj ag}{Q:Unit->av->Prop}(fl:iT n s.heap H e C dx)(h:∀h' ch,(∀b∈ch,n<=b/\H b=none)->fX (lO X.stack) ch s.heap h'->iT n h' H e C dx->Q () { s with heap:=h'}):wpAny M A (setFlight (.ref e) none) Q E s:=by
 obtain⟨fD,wd,oe,vs,he,hc,hx,hd,hsz,h1⟩:=fl;unfold setFlight;rcases h1 with h1|⟨T,oT,ts,h1,Jj,IZ,I_,hT,EU,h3⟩
 .refine aA (wpAny_field he hd h1 ?_);rw[bD (by decide)]
  exact aX (h s.heap [] (λ_ z=>nomatch z) ⟨λ_ _ _ _ g=>g,λ_ o _ _ g=>⟨o.slots,g⟩⟩ ⟨fD,wd,oe,vs,he,hc,hx,hd,hsz,.inl h1⟩)
 .refine aA (wpAny_field he hd h1 ?_);rw[bK (show(Value.ref T != Value.none)=true by simp)]
  have l3:3<ts.size:=(C4.mp h3).1;have dT:=Obj.data_mapFields EU (·.setIfInBounds 3 ((none:aj ag).elim Value.none λf=>rawInt f))
  refine wpAny_setField hT EU l3 (h _ [T] (λb m=>by cases qE.1 m;exact⟨Jj,IZ⟩) ⟨λb o _ hb g=>(rH _ _ (by simpa using Ne.symm (by simpa using hb:b≠T))).trans g,λb o _ hb g=>⟨o.slots,(rH _ _ (by simpa using Ne.symm (by simpa using hb:b≠T))).trans g⟩⟩ ⟨fD,wd,oe,vs,(rH _ _ I_).trans he,hc,hx,hd,hsz,.inr ⟨T,_,_,h1,Jj,IZ,I_,ub _ hT (Obj.isFreed_of_fields dT),dT,by simp[Array.getElem?_setIfInBounds,l3]⟩⟩)
end
end L2
namespace L2
open PySem PySem.Spec PyProof.Rows
variable{P:c7}{w:cB}{K:aL}{tg l:Expr}{X:Cx}{ta:TA}{p pos:Pos}{Q:aj ai->av->Prop}{n t' x1:Nat}{ob:Obj}{L:List ag}{elts:List Expr}{it:ag}
def uD(K:aL)(a:ag)(n:Nat):It:=
 ⟨λi H=>i<n/\∃xs,cS K H a xs/\xs.length=n,λi H x H'=>H'=H/\∀xs,cS K H a xs->xs[n - 1 - i]?=some x,λi H=>n<=i⟩
def YC(a it:ag)(n:Nat):Turn P w K tg (uD K a n) [it] it (λi h=>i<=n/\h.IsRevIter it a ((n:Int) - 1 - i)) where
 mem:=by simp
 obj:=λi h st b hb=>by
  have e:b=it:=by simpa using hb
  subst e;obtain⟨_,o,e,c,d⟩:=st
  simp_all
 keep:=λi h h' st k=>⟨st.1,st.2.at λo e=>k it (by simp) o e⟩
 item:=by
  intro X hP hw hK hc i aa s Z H E I hf st hg;subst hP hw hK;obtain⟨hi,xs,hq,hx⟩:=hg;obtain⟨aG,rv,p,hz⟩:=I.list hq;have wk:xs[n - 1 - i]?=some xs[n - 1 - i]:=iN (by lia)
  obtain⟨u,hu,ru⟩:=rv.get wk;obtain⟨f0,f1,f2,f3,f4,f5⟩:=hf it (by simp)
  have t8:s.heap.IsRevIter it a (((n - 1 - i:Nat):Int)):=by
   lia
  refine wpAny_pyNext_rev_item t8 p.isList (x:=u) (by simpa using hu) λh' kr sb=>?_
  have I1:Inv X aa Z H { s with heap:=h'}:=I.turned (t':=s.toks) (λb o hb e=>(sb.2 b hb).trans e) f0 f1 f3 f4 f5
  obtain⟨o,e,c,d⟩:=id kr;refine⟨u,rfl,Av (s:={ s with heap:=h'}) e c d (by decide) ⟨_,H,I1,ru,⟨rfl,λys hy=>by rw[I.l0 hy hq];exact wk⟩,⟨by lia,?_⟩,λb hb=>(hf b hb).1⟩⟩
  grind
 done:=by
  intro X hP hw hK hc i aa s Z H E I hf st hg;subst hP hw hK;obtain⟨f0,f1,f2,f3,f4,f5⟩:=hf it (by simp)
  have hg:n<=i:=hg;have t8:s.heap.IsRevIter it a (-1):=by
   grind
  exact wpAny_pyNext_rev_end (I.ok.hd hc) t8 λh' eb=>⟨rfl,I.turned (t':=s.toks) (λb o hb e=>eb b o hb e) f0 f1 f3 f4 f5⟩
 self:=λ_ _ _ _ _ st h=>wpAny_pyIter_revIter st.2 h
def E'(K:aL)(ta:TA):TI:=λZ H R=>ta Z H λvs H1=>∃a xs,vs=[.ref a]/\cS K H1 a xs/\R (uD K a xs.length) H1
def e5i(hg:Gl X "reversed")(hm:X.mg "reversed"=none)(ha:PA X [l] ta)(hs:starEach [l] X.env=[(false,eval l X.env)]:=by rfl):PI X tg (.Call (.Name "reversed" p) [l] [] pos) (E' X.K ta):=by
 intro aa s Z H R I h;refine Call_ (yE I hg hm boot_reversed (PyProof.Rows.callWith_type1 (bI (ha pos aa s Z H _ I h) λus s1 hh=>?_) hs rfl))
 obtain⟨vs,H1,I1,r1,q1⟩:=hh;obtain⟨a,xs,e,hq,q⟩:=q1;subst e;cases r1 with
 |cons r rr=>
  cases rr;cases r;obtain⟨aG,rv,pl,hz⟩:=I1.list hq;have hl:=rv.length;refine call_reversed_list pl.isList ?_;have st:(s1.heap.push (revObj a ((aG.toArray.size:Int) - 1))).IsRevIter s1.heap.objs.size a ((aG.toArray.size:Int) - 1):=⟨_,jP _ rfl,rfl,rfl⟩;refine wpAny_pyIter_revIter st ?_;refine⟨s1.heap.objs.size,[s1.heap.objs.size],_,_,H1,rfl,I1.kept (t':=s1.toks) λb o e=>dy _ e,YC a _ xs.length,⟨nK _,?_⟩,λb hb=>?_,q⟩
  .simp_all
  .have e:b=s1.heap.objs.size:=by simpa using hb
   subst e;exact I1.mI (bV _) (I1.bx.fresh (bV _))
section
variable{X:Cx}{aa:List (ag×Obj)}{Z:St}{H:Hp}{A:cR}{E:ai->av->Prop}{s:av}{d it:ag}{es:List (TK×V×V)}{ep i:Nat}
theorem Qj{Q:ai->av->Prop}(I:Inv X aa Z H s)(hd:H d=some (.dG es ep))
  (hQ:Q (.ref s.heap.objs.size) { s with heap:=s.heap.push { cls:=.type "dict_keyiterator",data:=.fields #[.ref d,.int 0 0,.int es.length 0,.int ep 0]}}):wpAny (model X.prog X.w) A (pyIter (.ref d)) Q E s:=by
 obtain⟨_,z,ob,xs,g1,g5,g2,g3,g4⟩:=(show bC X.prog X.w H s.heap d (.dG es ep) from I.bx d _ hd);have hT:s.TypeIs (.ref d) "dict":=⟨ob,g1,g5.1⟩;have hl:xs.size=es.length:=by have:=Paired.length g3;simpa using this.symm
 refine wpAny_pyIter_slot hT F.slot_dict_iter (wpAny_call_entry F.slot_dict_iter hT F.entry_dict_iter ?_ (F.args_dict_iter_1 _));unfold Builtin.«dict.__iter__»;refine aA ?_;unfold Builtin.Dict.dictSlotNone;refine aA (wpAny_notOrdered_dict hT (show wpAny _ _ (pure (Value.ref d)) _ _ s from aX (show wpAny _ _ (Builtin.Dict.showsAll d >>= _) _ _ s from ?_)));unfold Builtin.Dict.showsAll;rw[bD (by rw[z];exact vM)]
 refine aA (aX (aA (wpAny_dictEntries g1 g2 (aA (wpAny_dictEpoch g1 g2 ?_)))));refine aA (wpAny_newObj_type (aX ⟨_,rfl,"dict_keyiterator",_,⟨_,jP _ rfl,rfl⟩,F.slot_dict_keyiterator_next.lookup,?_⟩));simpa[rawInt,hl] using hQ
theorem O_{xs:Array DictEntry}(g1:s.heap.get? d=some ob)(g2:ob.data=.dict xs ep)(hl:xs.size=n)(hit:s.heap.IsKeyIter it d i n ep)(lt':i<xs.size)
  (hQ:∀h',h'.IsKeyIter it d (i+1) n ep->Heap.SameBut it s.heap h'->Q (some xs[i].key) { s with heap:=h'}):wpAny (model P w) A (pyNext (.ref it)) Q E s:=by
 obtain⟨o,k1,k2,k3⟩:=id hit;unfold pyNext;refine aA (wpAny_attempt (wpAny_callSpecial?_slot (name:=Str.ofString "__next__") hit.typeIs F.slot_dict_keyiterator_next (wpAny_call_entry F.slot_dict_keyiterator_next hit.typeIs F.entry_dict_keyiterator_next (aA (aX (aA (aA ?_)))) (F.args_dict_keyiterator_next_1 _))))
 (first|refine aA (wpAny_typeNameOfWhole_keyiter hit.typeIs (aX ?_))|refine aA (wpAny_typeNameOf_keyiter hit.typeIs (aX ?_)));refine aA (wpAny_fieldsOf k1 k3 ?_)
 have Bk:Builtin.Dict_items.ownsTuple "dict_keyiterator"=false:=by decide
 simp only[Bk,uc,kP]
 (show wpAny _ _ (if(Value.ref d == Value.none)=true then _ else _) _ _ s);rw[bD (show ¬((Value.ref d == Value.none)=true) from vM)]
 refine aA (aX (aA (wpAny_dictEntries g1 g2 ?_)));rw[bD (by rw[hl];simp)]
 refine aA (aX (aA (wpAny_dictEpoch g1 g2 ?_)));rw[bD (by simp)]
 refine aX ?_;simp only[show ¬((i:Int)<0) from by lia,kP,JF,wC lt']
 refine aA ?_
 (first|refine aA (wpAny_typeNameOfWhole_keyiter hit.typeIs (aX ?_))|refine aA (wpAny_typeNameOf_keyiter hit.typeIs (aX ?_)));refine aA (wpAny_isOneOf_keyiter hit.typeIs ?_)
 (show wpAny _ _ (setField (.ref it) 1 (rawInt ((i:Int)+1)) >>= _) _ _ s);refine aA (wpAny_setField k1 k3 (by simp) ?_)
 have E0:(s.heap.update it (Obj.mapFields (·.setIfInBounds 1 (rawInt ((i:Int)+1))))).IsKeyIter it d (i+1) n ep:=
  ⟨_,ub _ k1 (Obj.isFreed_of_fields (Obj.data_mapFields k3 _)),(Obj.cls_mapFields ..).trans k2,by rw[Obj.data_mapFields k3];simp[rawInt]⟩
 refine aA (mh (aA (wpAny_isOneOf_keyiter (s:={ s with heap:=s.heap.update it (Obj.mapFields (·.setIfInBounds 1 (rawInt ((i:Int)+1))))}) E0.typeIs ?_)))
 show wpAny _ _ (pure xs[i].key) _ _ _;exact aX (aX ⟨_,rfl,aX (hQ _ E0 (Heap.SameBut.update ..))⟩)
def Wa(I:Inv X aa Z H s)(hd:H d=some (.dG es ep))(hit:s.heap.IsKeyIter it d i es.length ep){e:TK×V×V}(hx:es[i]?=some e)
  (hQ:∀key h',RelV e.2.1 key->h'.IsKeyIter it d (i+1) es.length ep->Heap.SameBut it s.heap h'->Q (some key) { s with heap:=h'}):wpAny (model X.prog X.w) A (pyNext (.ref it)) Q E s:=by
 obtain⟨_,z,ob,xs,g1,g5,g2,g3,g4⟩:=(show bC X.prog X.w H s.heap d (.dG es ep) from I.bx d _ hd);have hl:xs.size=es.length:=by have:=Paired.length g3;simpa using this.symm
 obtain⟨x,x1,x2⟩:=DF i g3 hx;have lt':i<xs.size:=by
  grind
 have ex:xs[i]=x:=by
  have:xs[i]?=some x:=by rw[<-zK];exact x1
  rw[wC lt'] at this;exact Option.some.inj this
 exact O_ g1 g2 hl hit lt' λh' CL sb=>hQ _ h' (by rw[ex];exact x2.2.1) CL sb
theorem Pz{xs:Array DictEntry}(hh:A.handled=none)(g1:s.heap.get? d=some ob)(g2:ob.data=.dict xs ep)(hl:xs.size=n)(hit:s.heap.IsKeyIter it d i n ep)(hx:n<=i)
  (hQ:∀h',Heap.ExtBut it s.heap h'->Q none { s with heap:=h'}):wpAny (model P w) A (pyNext (.ref it)) Q E s:=by
 obtain⟨o,k1,k2,k3⟩:=id hit;unfold pyNext;refine aA (wpAny_attempt (wpAny_callSpecial?_slot (name:=Str.ofString "__next__") hit.typeIs F.slot_dict_keyiterator_next (wpAny_call_entry F.slot_dict_keyiterator_next hit.typeIs F.entry_dict_keyiterator_next (aA (aX (aA (aA ?_)))) (F.args_dict_keyiterator_next_1 _))))
 (first|refine aA (wpAny_typeNameOfWhole_keyiter hit.typeIs (aX ?_))|refine aA (wpAny_typeNameOf_keyiter hit.typeIs (aX ?_)));refine aA (wpAny_fieldsOf k1 k3 ?_)
 have Bk:Builtin.Dict_items.ownsTuple "dict_keyiterator"=false:=by decide
 simp only[Bk,uc,kP]
 (show wpAny _ _ (if(Value.ref d == Value.none)=true then _ else _) _ _ s);rw[bD (show ¬((Value.ref d == Value.none)=true) from vM)]
 refine aA (aX (aA (wpAny_dictEntries g1 g2 ?_)));rw[bD (by rw[hl];simp)]
 refine aA (aX (aA (wpAny_dictEpoch g1 g2 ?_)));rw[bD (by simp)]
 refine aX ?_;have hge:xs.size<=i:=by lia
 simp only[show ¬((i:Int)<0) from by lia,kP,JF,Array.getElem?_eq_none hge]
 refine aA ?_
 (first|refine aA (wpAny_typeNameOfWhole_keyiter hit.typeIs (aX ?_))|refine aA (wpAny_typeNameOf_keyiter hit.typeIs (aX ?_)));(show wpAny _ _ (setField (.ref it) 0 .none >>= _) _ _ s);refine aA (wpAny_setField k1 k3 (by simp) ?_)
 (show wpAny _ _ (newExc (.type "StopIteration") [] >>= _) _ _ _);refine aA ?_
 simp only[newExc,newTuple];refine aA (wpAny_newObj_type (aA (m:=firstArgMember _ _) (wpAny_of_eq (a:=Value.none) (by first|rfl|(simp only[firstArgMember];rfl)) (wpAny_newObj_type ?_ (by size_fits)))) (by size_fits))
 simp only[raiseNew];refine aA (wpAny_handled ?_);rw[show A.in1.handled=none from hh]
 (refine aA (aX (wpAny_throw ?_)));refine aA (wpAny_isInstance (T:="StopIteration") (b:=true) ⟨_,jP _ rfl,rfl⟩ isSubtype_stop ?_)
 exact aX (hQ _ (((Heap.SameBut.update ..).extBut.push _).push _))
def W5(hh:A.handled=none)(I:Inv X aa Z H s)(hd:H d=some (.dG es ep))(hit:s.heap.IsKeyIter it d i es.length ep)(hx:es.length<=i)
  (hQ:∀h',Heap.ExtBut it s.heap h'->Q none { s with heap:=h'}):wpAny (model X.prog X.w) A (pyNext (.ref it)) Q E s:=by
 obtain⟨_,z,ob,xs,g1,g5,g2,g3,g4⟩:=(show bC X.prog X.w H s.heap d (.dG es ep) from I.bx d _ hd);exact Pz hh g1 g2 (by have:=Paired.length g3;simpa using this.symm) hit hx hQ
end
def JV(a:ag)(n ep:Nat):It:=
 ⟨λi H=>∃es,H a=some (.dG es ep)/\es.length=n/\i<n,λi H x H'=>H'=H/\∀es,H a=some (.dG es ep)->∃e,es[i]?=some e/\e.2.1=x,λi H=>∃es,H a=some (.dG es ep)/\es.length=n/\n<=i⟩
def W6(a it:ag)(n ep:Nat):Turn P w K tg (JV a n ep) [it] it (λi h=>h.IsKeyIter it a i n ep) where
 mem:=by simp
 obj:=λi h st b hb=>by
  have e:b=it:=by simpa using hb
  subst e;obtain⟨o,e,c,d⟩:=st
  simp_all
 keep:=λi h h' st k=>st.at λo e=>k it (by simp) o e
 item:=by
  intro X hP hw hK hc i aa s Z H E I hf st hg;subst hP hw hK;obtain⟨es,hd,hl,hi⟩:=hg;subst hl;obtain⟨f0,f1,f2,f3,f4,f5⟩:=hf it (by simp)
  refine Wa I hd st (e:=es[i]) (iN hi) λkey h' rk kr sb=>?_
  have I1:Inv X aa Z H { s with heap:=h'}:=I.turned (t':=s.toks) (λb o hb e=>(sb.2 b hb).trans e) f0 f1 f3 f4 f5
  obtain⟨o,e,c,d⟩:=id kr;refine⟨key,rfl,Av (s:={ s with heap:=h'}) e c d (by decide) ⟨es[i].2.1,H,I1,rk,⟨rfl,λys hy=>?_⟩,kr,λb hb=>(hf b hb).1⟩⟩
  simp_all
 done:=by
  intro X hP hw hK hc i aa s Z H E I hf st hg;subst hP hw hK;obtain⟨es,hd,hl,hi⟩:=hg;subst hl;obtain⟨f0,f1,f2,f3,f4,f5⟩:=hf it (by simp)
  exact W5 (I.ok.hd hc) I hd st hi λh' eb=>⟨rfl,I.turned (t':=s.toks) (λb o hb e=>eb b o hb e) f0 f1 f3 f4 f5⟩
 self:=λ_ _ _ _ _ st h=>wpAny_pyIter_keyiter st h
def yY(tl:TE):TI:=λZ H R=>tl Z H λx H1=>∃a es ep,x=.ref a/\H1 a=some (.dG es ep)/\R (JV a es.length ep) H1
def d8x{tl:TE}(hl:PE X l tl):PI X tg l (yY tl):=by
 intro aa s Z H R I h;refine bI (hl aa s Z H _ I h) λv s1 hh=>?_
 obtain⟨x,H1,I1,r1,q1⟩:=hh;obtain⟨a,es,ep,e,hd,q⟩:=q1;subst e;cases r1;refine Qj I1 hd ?_;refine⟨s1.heap.objs.size,[s1.heap.objs.size],_,_,H1,rfl,I1.kept (t':=s1.toks) λb o e=>dy _ e,W6 a _ _ _,⟨_,jP _ rfl,rfl,rfl⟩,λb hb=>?_,q⟩
 have e:b=s1.heap.objs.size:=by simpa using hb
 subst e;exact I1.mI (bV _) (I1.bx.fresh (bV _))
def LP{w1 w2:TI}(h1:PI X tg l w1)(h2:PI X tg l w2):PI X tg l (λZ H R=>w1 Z H R\/w2 Z H R):=by
 intro aa s Z H R I h;rcases h with h|h
 .exact h1 aa s Z H R I h
 .exact h2 aa s Z H R I h
open PySem PySem.Spec PyProof.Rows
section
variable{X:Cx}{aa:List (ag×Obj)}{Z:List (aj V)}{H:Hp}{s:av}{h':bP}
def Inv.yj{T:ag}{o:HO}(I:Inv X aa Z H s)(k:∀b ob,b∉L->s.heap.get? b=some ob->h'.get? b=some ob)(hL:∀b∈L,jH X aa H b)(hT:s.heap.objs.size<=T)
  (new:bC X.prog X.w (upd H T o) h' T o):Inv X aa Z (upd H T o) { s with heap:=h',toks:=t'}:=by
 have hn:H T=none:=I.bx.fresh hT;have nL:∀b u,H b=some u->b∉L:=λb u e z=>by rw[(hL b z).1] at e;cases e
 have nT:∀b u,H b=some u->b≠T:=λb u e z=>by rw[z,hn] at e;cases e
 refine I.step (g':=s.gens) (d':=s.drawn) (ch:=L) (λb hb=>?_) (λb ob _ _ hc e _=>k b ob hc e) (λb ob _ _ hc e _=>⟨ob.slots,k b ob hc e⟩) (λb ob _ e n=>?_)
  (λb ob hc e=>⟨ob,k b ob hc e⟩) (λb xs e=>?_) (λb ob u e=>?_) (λb ps e=>⟨#[],?_⟩) (λm hm=>?_) (λb u e=>?_) I.bare
 .obtain⟨f0,f1,f2,f3,f4,f5⟩:=hL b hb;exact⟨f3,f1,f4,f5⟩
 .rw[dc (λz=>by subst z;exact cJ (gE (cQ e) hT) (kX _))];exact n
 .rw[dc (nT b _ e)];exact e
 .rw[dc (nT b _ e)];exact e
 .rw[dc (nT b _ e),e];simp
 .obtain⟨ob,es,ep,ho,r⟩:=hm;exact⟨ob,es,ep,k _ ob (λz=>(hL _ z).2.1 rfl) ho,r⟩
 .by_cases hb:b=T
  .grind [aK]
  .rw[dc hb] at e;refine(I.bx b u e).oK (λc v hc q=>k c v ?_ q) (λc q=>by rw[dc (nT c _ q)];exact q) λc xs q=>by rw[dc (nT c _ q)];exact q
   grind
def Inv.Gn(I:Inv X aa Z H s)(k:∀b ob,b∉L->s.heap.get? b=some ob->h'.get? b=some ob)(hL:∀b∈L,jH X aa H b):Inv X aa Z H { s with heap:=h',toks:=t'}:=by
 have nL:∀b u,H b=some u->b∉L:=λb u e z=>by rw[(hL b z).1] at e;cases e
 refine I.step (g':=s.gens) (d':=s.drawn) (ch:=L) (λb hb=>?_) (λb ob _ _ hc e _=>k b ob hc e) (λb ob _ _ hc e _=>⟨ob.slots,k b ob hc e⟩) (λb ob _ e n=>n)
  (λb ob hc e=>⟨ob,k b ob hc e⟩) (λb xs e=>e) (λb ob u e=>e) (λb ps e=>⟨#[],by rw[e];simp⟩) (λm hm=>?_) (λb u e=>?_) I.bare
 .obtain⟨f0,f1,f2,f3,f4,f5⟩:=hL b hb;exact⟨f3,f1,f4,f5⟩
 .obtain⟨ob,es,ep,ho,r⟩:=hm;exact⟨ob,es,ep,k _ ob (λz=>(hL _ z).2.1 rfl) ho,r⟩
 .refine(I.bx b u e).oK (λc v hc q=>k c v ?_ q) (λc q=>q) λc xs q=>q
  grind
end
def BN(Src:Hp->Prop)(n:Nat)(val:Nat->List V->Prop):It:=
 ⟨λi H=>i<n/\Src H,λi H x H'=>∃p ws,x=.ref p/\H p=none/\val i ws/\H'=upd H p (.tup ws),λi H=>n<=i/\Src H⟩
def PB{FP wr:List ag}{Src:Hp->Prop}{val:Nat->List V->Prop}{tn:Nat->bP->Prop}(mem:it∈FP)(sub:∀b∈wr,b∈FP)
  (obj:∀i h,tn i h->∀b∈FP,∃o,h.get? b=some o/\∀v,o.data≠.cell v) (keep:∀i h h',tn i h->(∀b∈FP,∀o,h.get? b=some o->h'.get? b=some o)->tn i h')
  (hW:∀(X:Cx),X.prog=P->X.w=w->X.K=K->X.calm=true->∀(aa:List (ag×Obj)) (s:av) (Z:St) (H:Hp),Inv X aa Z H s->Src H->∃(L8:List ag) (Pt:Nat->Array ai->Prop) (St:Nat->bP->Prop) (JY:Nat->ag->bP->Prop),WalksT P w X.A it L8 wr n Pt St JY/\(∀i,tn i s.heap->St i s.heap)/\(∀i h,St i h->tn i h)/\∀i vals,Pt i vals->∃ws,val i ws/\Vals ws vals.toList/\ws.length<=10)
  (self:∀(A:cR) (i:Nat) (s:av) (Q:ai->av->Prop) (E:ai->av->Prop),tn i s.heap->Q (.ref it) s->wpAny (model P w) A (pyIter (.ref it)) Q E s) :
  Turn P w K (.Tuple elts x1 pos) (BN Src n val) FP it (λi h=>i<=n/\tn i h) where
 mem:=mem
 obj:=λi h st=>obj i h st.2
 keep:=λi h h' st k=>⟨st.1,keep i h h' st.2 k⟩
 item:=by
  intro X hP hw hK hc i aa s Z H E I hf st hg;obtain⟨L8,Pt,St,JY,W,toSt,Fy,pv⟩:=hW X hP hw hK hc aa s Z H I hg.2;subst hP hw hK;refine W.item i s _ E hg.1 (toSt i st.2) λT vals h1 tk hPt hsz Mi ER hk1=>?_
  refine⟨.ref T,rfl,W.go elts x1 pos i T _ _ E ER λh2 hSt Ui=>?_⟩
  obtain⟨ws,hv,rv,Jk⟩:=pv i vals hPt;have Mh:IsTup h2 T vals:=by
   obtain⟨o,e,c⟩:=Mi;exact⟨o,Ui T o (W.apart i T h1 ER) e,c⟩
  have hn:H T=none:=I.bx.fresh hsz;have I2:Inv X aa Z (upd H T (.tup ws)) { s with heap:=h2,toks:=tk}:=I.yj (L:=wr) (λb ob hb e=>Ui b ob hb (hk1 b ob hb e)) (λb hb=>hf b (sub b hb)) hsz ⟨by rw[sizeLine_eq];lia,vals.toList,rv,by simpa using Mh⟩
  refine⟨.ref T,_,I2,rfl,⟨T,ws,rfl,hn,hv,rfl⟩,⟨by have:=hg.1;lia,Fy _ _ hSt⟩,λb hb=>?_⟩
  have yT:=(hf b hb).1;rw[dc]
  .exact yT
  .intro z;subst z;obtain⟨o,e,_⟩:=obj i s.heap st.2 b hb;exact cJ (gE (cQ e) hsz) (kX _)
 done:=by
  intro X hP hw hK hc i aa s Z H E I hf st hg;obtain⟨L8,Pt,St,JY,W,toSt,Fy,pv⟩:=hW X hP hw hK hc aa s Z H I hg.2;subst hP hw hK;have ei:i=n:=by have:=hg.1;have:=st.1;lia
  subst ei;exact W.done s _ E (toSt i st.2) λh2 tk hk=>⟨rfl,I.Gn (L:=wr) (λb ob hb e=>hk b ob hb e) λb hb=>hf b (sub b hb)⟩
 self:=λA i s Q E st h=>self A i s Q E st.2 h
theorem YD{h:bP}{a l:ag}{i:Nat}(p:h.IsListIter a l i):∃o,h.get? a=some o/\∀v,o.data≠.cell v:=by
 obtain⟨o,e,_,d⟩:=p
 simp_all
def Gq(xs:List V)(i:Nat)(ws:List V):Prop:=∃x,xs[i]?=some x/\ws=[.int i,x]
def W7{e l:ag}(n1:e≠it)(n2:l≠e)(n3:l≠it)(xs:List V):
  Turn P w K (.Tuple elts x1 pos) (BN (λH=>cS K H l xs) xs.length (Gq xs)) [e,it] e (λi h=>i<=xs.length/\((∃old,IsEnum h e it (i:Int) old)/\h.IsListIter it l i)):=by
 refine PB (FP:=[e,it]) (wr:=[e,it]) (by simp) (λb hb=>hb) (λi h st b hb=>?_) (λi h h' st k=>?_) (λX hP hw hK hc aa s Z H I hS=>?_) (λA i s Q E st h=>?_)
 .grind [YD]
 .obtain⟨⟨old,s1⟩,s2⟩:=st;exact⟨⟨old,k e (by simp) _ s1⟩,s2.at λo q=>k it (by simp) o q⟩
 .subst hP hw hK;obtain⟨xJ,Nm,p1,_⟩:=I.list hS;have e1:=Nm.length;have W:=WalksT.enumerate (prog:=X.prog) (w:=X.w) (A:=X.A) (I.ok.hd hc) e it l n1 n2 n3 xJ.toArray;rw[show xJ.toArray.size=xs.length by rw[fF,<-e1]] at W
  refine⟨_,_,_,_,W,λi st=>?_,λi h st=>?_,λi vals hp=>?_⟩
  .exact⟨st.1,st.2,p1.isList⟩
  .simp_all
  .obtain⟨t,u,hu,rfl⟩:=hp;have hu:xJ[i]?=some u:=by simpa using hu
   have Ug:i<xs.length:=by have:=(eY.mp hu).1;lia
   obtain⟨u',vf,ru⟩:=Nm.get (iN Ug);rw[hu] at vf;cases vf;exact⟨[.int i,xs[i]],⟨_,iN Ug,rfl⟩,.cons ⟨t,rfl⟩ (.cons ru .nil),by show 2<=10;decide⟩
 .obtain⟨old,s1⟩:=st.1;exact wpAny_pyIter_enum s1 h
def yZ(K:aL)(ta:TA):TI:=λZ H R=>ta Z H λvs H1=>∃a xs,vs=[.ref a]/\cS K H1 a xs/\R (BN (λH=>cS K H a xs) xs.length (Gq xs)) H1
def d8z{fL:Pos}{a:Expr}(hg:Gl X "enumerate")(hm:X.mg "enumerate"=none)(ha:PA X [a] ta)(hs:starEach [a] X.env=[(false,eval a X.env)]:=by rfl):
  PI X (.Tuple elts x1 fL) (.Call (.Name "enumerate" p) [a] [] pos) (yZ X.K ta):=by
 intro aa s Z H R I h;refine Call_ (yE I hg hm PyProof.Rows.Boot.enumerate (PyProof.Rows.callWith_type1 (bI (ha pos aa s Z H _ I h) λus s1 hh=>?_) hs rfl))
 obtain⟨vs,H1,I1,r1,q1⟩:=hh;obtain⟨l1,xs,e,hq1,q⟩:=q1;subst e;cases r1 with
 |cons r rr=>
  cases rr;cases r;obtain⟨xJ,Nm,p1,_⟩:=I1.list hq1;refine call_enumerate_list p1.isList λh' z1 z2 z3 z4=>?_
  have L1:l1<s1.heap.objs.size:=by obtain⟨o,n,e,_⟩:=p1;exact cQ e
  refine wpAny_pyIter_enum z1 ?_;refine⟨s1.heap.objs.size+1,[s1.heap.objs.size+1,s1.heap.objs.size],_,_,H1,rfl,I1.kept (t':=s1.toks) z4,W7 (e:=s1.heap.objs.size+1) (it:=s1.heap.objs.size) (l:=l1) (zG (by lia)) (g_ (gE L1 (JG _ _))) (g_ L1) xs,⟨nK _,⟨_,z1⟩,z2⟩,λb hb=>?_,q⟩
  simp only[y0a,y1q,or_false] at hb;have qK:s1.heap.objs.size<=b:=by rcases hb with rfl|rfl <;> lia
  exact I1.mI qK (I1.bx.fresh qK)
noncomputable def gq(i j:Int):Nat:=((j - i+1) / 2).toNat
def OE(i j:Int):Builtin.Range.rangeSize i j 2=(gq i j:Nat):=by
 grind [PySem.Builtin.Range.rangeSize,gq]
def W8{i j:Int}(h1:-(2^20)<=i)(h2:i<2^20)(h3:-(2^20)<=j)(h4:j<2^20):Builtin.Range.small i j 2=true:=by
 have:=OE i j;unfold gq at this;unfold Builtin.Range.small;rw[this];simp only[Builtin.Range.rangeFitsLong,kO,Bool.or_eq_true,decide_eq_true_eq,beq_iff_eq,show(2:Int) > 0 by decide,sR]
 lia
section
variable{X:Cx}{pos p:Pos}{tg a b c:Expr}
def y7(ta:TA):TI:=λZ H R=>ta Z H λvs H1=>∃i j:Int,vs=[.int i,.int j,.int 2]/\(-(2^20)<=i/\i<2^20 /\ -(2^20)<=j/\j<2^20)/\R (JU i 2 (gq i j)) H1
def W9(hg:Gl X "range")(hm:X.mg "range"=none)(ha:PA X [a,b,c] ta)(hs:starEach [a,b,c] X.env=[(false,eval a X.env),(false,eval b X.env),(false,eval c X.env)]:=by rfl)
  (A0:starEach [b,c] X.env=[(false,eval b X.env),(false,eval c X.env)]:=by rfl):PI X tg (.Call (.Name "range" p) [a,b,c] [] pos) (y7 ta):=by
 intro aa s Z H R I h;refine Call_ (yE I hg hm boot_range (PyProof.Rows.callWith_type1 (bI (ha pos aa s Z H _ I h) λus s1 ⟨vs,H1,I1,r1,q1⟩=>?_) (by rw[hs,A0]) (by rw[A0];rfl)))
 obtain⟨i,j,e,⟨q1,q2,q3,q4⟩,q⟩:=q1;subst e;cases r1 with
 |cons r rr=>
  cases rr with
  |cons r' rr=>
   cases rr with
   |cons r'' rr=>
    cases rr;obtain⟨t,rfl⟩:=r;obtain⟨t',rfl⟩:=r';obtain⟨CU,rfl⟩:=r'';refine call_range_3 (by decide) ?_ (Or.inl (PyProof.noPylong_small (by lia)))
    refine wpAny_pyIter_range (IsRange.new ..) (W8 q1 q2 q3 q4) ?_;have I2:Inv X aa Z H1 { s1 with heap:=s1.heap.push { cls:=.type "range",data:=.fields #[.int i t,.int j t',.int 2 CU]}}:=I1.kept (t':=s1.toks) λb o e=>dy _ e
    refine⟨(s1.heap.push { cls:=.type "range",data:=.fields #[.int i t,.int j t',.int 2 CU]}).objs.size,[(s1.heap.push { cls:=.type "range",data:=.fields #[.int i t,.int j t',.int 2 CU]}).objs.size],_,_,H1,rfl,I2.kept (t':=s1.toks) λb o e=>dy _ e,VP _ i 2 (gq i j),?_,λb hb=>?_,q⟩
    .have e1:i+((0:Nat):Int)*2=i:=by simp
     have e2:((gq i j:Nat):Int) - ((0:Nat):Int)=Builtin.Range.rangeSize i j 2:=by rw[OE];lia
     show IsRangeIter _ _ (i+((0:Nat):Int)*2) (((gq i j:Nat):Int) - ((0:Nat):Int)) 2;rw[e1,e2];exact jP _ rfl
    .have e:b=(s1.heap.push { cls:=.type "range",data:=.fields #[.int i t,.int j t',.int 2 CU]}).objs.size:=by simpa using hb
     subst e;exact I2.mI (bV _) (I2.bx.fresh (bV _))
end
end L2
set_option autoImplicit false
namespace L2
open PySem PySem.Spec PyProof.Rows
variable{a:ag}{c lo i j:Int}{k:Kn}{q:Nat}{H H':Hp}
def Kept(q:Nat)(H H':Hp):Prop:=∀a o,xO q o=true->H a=some o->H' a=some o
def kB(K:aL)(k:Kn)(H:Hp)(q:Nat)(x:V):D->Prop
 |.lst ds=>∃a ws,x=.ref a/\ah K k ws ds/\∀H',az k.F H'->Kept q H H'->cS K H' a ws
 |.tup ds=>∃a ws,x=.ref a/\ah K k ws ds/\∀H',az k.F H'->Kept q H H'->iA K H' a ws
 |.aw kvs=>∃a es ep,x=.ref a/\es.map (·.1)=kvs.map (·.1)/\ah K k (es.map (·.2.1)) (kvs.map (·.1.d))/\ah K k (es.map (·.2.2)) (kvs.map (·.2))/\∀H',az k.F H'->Kept q H H'->H' a=some (.dG es ep)
 |.str z=>x=.str z
 |_=>True
noncomputable def Bx.lv:Bx->Nat
 |.lst _=>2
 |.aw _=>1
noncomputable def vd:Cell->aj (Nat×D)
 |.o b=>some (b.lv,b.d)
 |.z b=>some (0,b.d)
 |.ins _ _=>none
def E4(fz:Bool)(S:aU):Rv->aj (Rs (Nat×D))
 |.o c=>some (.ok (0,c.d) S)
 |.v (.d (.ref n))=>(S.r[n]?).bind λc=>(vd c).map λp=>.ok p S
 |.v (.d x)=>some (.ok (0,x) S)
 |.v (.c n)=>if fz=true then(rm S (.c n)).map λp=>.ok (0,p.1) p.2 else(S.s[n]?).bind λc=>(vd c).map λp=>.ok p S
def yR(fz:Bool)(g:GE):Gx (Nat×D):=λU S=>bd (g U S) (λr S1=>E4 fz S1 r)
abbrev RH(K:aL)(q:Nat):Rp (Nat×D) V:=λk H x p=>kB K k H (max q p.1) x p.2
section
variable{X:Cx}{K:aL}{W:XW}{q:Nat}{k:Kn}{H:Hp}{x:V}{d:D}{g:GE}{Z:St}
def HI(h:ah K k [x] [d]):kB K k H q x d:=by
 cases d with
 |lst ds=>obtain⟨a,ws,rfl,h1,h2⟩:=h.y9;exact⟨a,ws,rfl,h2,λH' s _=>s.Nz h1⟩
 |tup ds=>obtain⟨a,ws,rfl,h1,h2⟩:=h.isTup;exact⟨a,ws,rfl,h2,λH' s _=>s.By h1⟩
 |aw kvs=>obtain⟨a,es,ep,rfl,h1,h2,h3,h4⟩:=h.y8;exact⟨a,es,ep,rfl,h2,h3,h4,λH' s _=>s _ _ h1⟩
 |str z=>exact h.bc rfl
 |_=>exact vS
def MS{o:HO}:xO (max q 2) o=true:=KY (p:=2) (Nat.le_max_right _ _) rfl
def d9a{b:Bx}(h:dD K k H a b):kB K k H (max q b.lv) (.ref a) b.d:=by
 cases b with
 |lst xs=>obtain⟨ws,h1,h2⟩:=h;exact⟨a,ws,rfl,h2,λH' _ c=>.inl (.inl (c _ _ MS h1))⟩
 |aw kvs=>obtain⟨es,ep,h1,h2,h3,h4⟩:=h;exact⟨a,es,ep,rfl,h2,h3,h4,λH' _ c=>c _ _ (KY (p:=1) (Nat.le_max_right _ _) rfl) h1⟩
def PC{c:Cell}{p:Nat×D}(h:bo K k H a c)(e:vd c=some p):kB K k H (max q p.1) (.ref a) p.2:=by
 cases c with
 |o b=>cases e;exact d9a h.2
 |z b=>cases e;exact HI h.2
 |ins _ _=>cases e
def Ri{fz:Bool}{Q:VK}(t:tX (RH K q) K W q (yR fz g) Z H Q):tE K W q g Z H Q:=by
 obtain⟨k,U,S,res,ok,gk,e,w⟩:=t;refine tX.bd ok gk e w λr S1 x k1 H1 bH g1 r1 e1 w1 _=>?_
 cases r with
 |o c=>
  cases e1;obtain⟨k2,u2,cO,r2⟩:=t6 bH r1;exact(w1.up (u2 q)).now cO (HI r2)
 |v y=>
  cases y with
  |d y=>
   cases y with
   |ref n=>
    obtain⟨c,h1,e2⟩:=cy.mp e1;obtain⟨p,h2,rfl⟩:=c_.mp e2;obtain⟨a,rfl,h3⟩:=ah.isRef r1;exact w1.now bH (PC (bH.r.at' n a c h3 h1) h2)
   |_=>cases e1;exact w1.now bH (HI r1)
  |c n=>
   cases fz with
   |true=>
    obtain⟨p,h1,rfl⟩:=c_.mp (show(rm S1 (.c n)).map _=some res from e1);obtain⟨k2,u2,cO,r2⟩:=Ib (v:=.c n) bH r1 h1;exact(w1.up (u2 q)).now cO (HI r2)
   |false=>
    obtain⟨c,h1,e2⟩:=cy.mp (show(S1.s[n]?).bind _=some res from e1);obtain⟨p,h2,rfl⟩:=c_.mp e2;obtain⟨a,rfl,h3⟩:=r1;exact w1.now bH (PC (bH.s.at' n a c h3 h1) h2)
end
structure iz (K:aL) (k1:Kn) (H1:Hp) (q:Nat) (J:It) (ds:List D):Prop where
 go:∀i k H,k1.le k->az k.F H->Kept q H1 H->i<ds.length->J.go i H
 stop:∀i k H,k1.le k->az k.F H->Kept q H1 H->ds.length<=i->J.stop i H
 vT:∀i k H x H',k1.le k->az k.F H->Kept q H1 H->J.vT i H x H'->∀d,ds[i]?=some d->∃F',az k.F F'/\az H H'/\az F' H'/\(∀p,H p≠none->k.F p=none->F' p=none)/\ah K ⟨F',k.A,k.T⟩ [x] [d]
abbrev RI(K:aL)(q:Nat):Rp (Nat×List D) It:=λk H J p=>iz K k H (max q p.1) J p.2
section
variable{K:aL}{k1:Kn}{H1:Hp}{q n:Nat}{ds:List D}{J:It}{a:ag}{ws xs:List V}
def iz.old(hn:ds.length=n)(h1:∀i H,az k1.F H->Kept q H1 H->i<n->J.go i H)(h2:∀i H,az k1.F H->Kept q H1 H->n<=i->J.stop i H)(h3:∀i H x H' d,az k1.F H->Kept q H1 H->J.vT i H x H'->ds[i]?=some d->H'=H/\ah K k1 [x] [d]):iz K k1 H1 q J ds where
 go:=λi k H l s c hi=>h1 i H (l.f.trans s) c (hn ▸ hi)
 stop:=λi k H l s c hi=>h2 i H (l.f.trans s) c (hn ▸ hi)
 vT:=λi k H x H' l s c y d hd=>by
  obtain⟨rfl,r⟩:=h3 i H x H' d (l.f.trans s) c y hd;exact⟨k.F,az.refl _,az.refl _,s,λ_ _ z=>z,r.mono l⟩
def iz.Fu{Src:Hp->Prop}{val:Nat->List V->Prop}{f:Nat->List D}(hs:∀H,az k1.F H->Kept q H1 H->Src H)(hv:∀i us,i<n->val i us->ah K k1 us (f i)):iz K k1 H1 q (BN Src n val) ((List.range n).map λi=>.tup (f i)) where
 go:=λi k H l s c hi=>⟨by simpa using hi,hs H (l.f.trans s) c⟩
 stop:=λi k H l s c hi=>⟨by simpa using hi,hs H (l.f.trans s) c⟩
 vT:=λi k H x H' l s c y d hd=>by
  obtain⟨p,us,rfl,hp,hw,rfl⟩:=y;have hi:i<n:=by have:=(eY.mp hd).1;simpa using this
  rw[fU,BI hi] at hd;cases hd;have hF:=s.free hp;refine⟨upd k.F p (.tup us),uL hF,uL hp,λb u z=>?_,λb z1 z2=>?_,.tup (.inl (.inl aK)) ((hv i us hi hw).mono ⟨l.f.trans (uL hF),l.a⟩) .nil⟩
  .by_cases z3:b=p
   .grind [aK]
   .rw[dc z3] at z ⊢;exact s b u z
  grind [dc]
def d9b(h:∀H',az k1.F H'->Kept q H1 H'->cS K H' a ws)(r:ah K k1 ws ds):iz K k1 H1 q (JW K a) ds:=
 .old r.length.symm (λi H s c hi=>⟨ws,ws[i],h H s c,iN _⟩) (λi H s c hi=>⟨ws,h H s c,hi⟩) λi H x H' d s c y hd=>by
  obtain⟨rfl,y⟩:=y;obtain⟨v,h1,h2⟩:=r.get hd
  simp_all
def e5j(h:∀H',az k1.F H'->Kept q H1 H'->iA K H' a ws)(r:ah K k1 ws ds):iz K k1 H1 q (JX K a) ds:=
 .old r.length.symm (λi H s c hi=>⟨ws,ws[i],h H s c,iN _⟩) (λi H s c hi=>⟨ws,h H s c,hi⟩) λi H x H' d s c y hd=>by
  obtain⟨rfl,y⟩:=y;obtain⟨v,h1,h2⟩:=r.get hd
  simp_all
def e5k(h:∀H',az k1.F H'->Kept q H1 H'->cS K H' a ws)(r:ah K k1 ws ds):iz K k1 H1 q (uD K a ws.length) ds.reverse:=
 .old (by rw[JH,r.length]) (λi H s c hi=>⟨hi,ws,h H s c,rfl⟩) (λi H s c hi=>hi) λi H x H' d s c y hd=>by
  obtain⟨rfl,y⟩:=y;have hi:=(eY.mp hd).1;rw[JH] at hi;rw[List.getElem?_reverse hi,<-r.length] at hd;obtain⟨v,h1,h2⟩:=r.get hd
  simp_all
def d9c{es:List (TK×V×V)}{ep:Nat}(h:∀H',az k1.F H'->Kept q H1 H'->H' a=some (.dG es ep))(r:ah K k1 (es.map (·.2.1)) ds):iz K k1 H1 q (JV a es.length ep) ds:=
 .old (by rw[<-r.length,bj]) (λi H s c hi=>⟨es,h H s c,rfl,hi⟩) (λi H s c hi=>⟨es,h H s c,rfl,hi⟩) λi H x H' d s c y hd=>by
  obtain⟨rfl,y⟩:=y;obtain⟨v,h1,h2⟩:=r.get hd;rw[fU] at h1;obtain⟨e,h3,rfl⟩:=c_.mp h1;obtain⟨e',h4,rfl⟩:=y es (h _ s c);cases h3.symm.trans h4;exact⟨rfl,h2⟩
def e5l{z:Str}:iz K k1 H1 q (GU z) (z.cps.toList.map λc=>.str (kF c)):=
 .old (by rw[bj,JR]) (λi H s _ hi=>hi) (λi H s _ hi=>hi) λi H x H' d s _ y hd=>by
  obtain⟨rfl,c,h1,rfl⟩:=y;rw[fU,zK,h1] at hd;cases hd;exact⟨rfl,.flat rfl .nil⟩
def oG(lo c:Int)(n:Nat):List D:=(List.range n).map λ(i:Nat)=>D.int (lo+(i:Int)*c)
def d9d:iz K k1 H1 q (JU lo c n) (oG lo c n):=
 .old (by unfold oG;rw[bj,zL]) (λi H s _ hi=>hi) (λi H s _ hi=>hi) λi H x H' d s _ y hd=>by
  obtain⟨rfl,rfl⟩:=y;have hi:=(eY.mp hd).1;unfold oG at hi hd;rw[bj,zL] at hi;rw[fU,BI hi] at hd;cases hd;exact⟨rfl,.flat rfl .nil⟩
def fK(lo:Int)(n:Nat):List D:=(List.range n).map λ(i:Nat)=>D.int (lo+(i:Int))
theorem e5m:iz K k1 H1 q (GR lo n) (fK lo n):=
 .old (by unfold fK;rw[bj,zL]) (λi H s _ hi=>hi) (λi H s _ hi=>hi) λi H x H' d s _ y hd=>by
  obtain⟨rfl,rfl⟩:=y;have hi:=(eY.mp hd).1;unfold fK at hi hd;rw[bj,zL] at hi;rw[fU,BI hi] at hd;cases hd;exact⟨rfl,.flat rfl .nil⟩
end
abbrev nZ:=Gx (Nat×List D)
def bB(fz:Bool)(o:D->aj (List D))(g:GE):nZ:=λU S=>bd (yR fz g U S) λp S1=>(o p.2).map λds=>.ok (p.1,ds) S1
noncomputable def dZ:D->aj (List D)
 |.lst ds=>some ds
 |.tup ds=>some ds
 |.aw kvs=>some (kvs.map (·.1.d))
 |.str z=>some (z.cps.toList.map λc=>.str (kF c))
 |_=>none
noncomputable def Bt:D->aj (List D)
 |.lst ds=>some ds.reverse
 |_=>none
def eD(ds:List D):List D:=(List.range ds.length).map λi=>.tup [.int (i:Nat),(ds[i]?).getD .aH]
def LZ:D->aj (List D)
 |.lst ds=>some (eD ds)
 |_=>none
noncomputable def l6:List Val->aj (List D)
 |[.d (.int j)]=>if Nat.ble j.natAbs 1000000000000=true then some (fK 0 j.toNat) else none
 |_=>none
noncomputable def iV:Val->aj Int
 |.d (.int i)=>some i
 |_=>none
def LQ{v:Val}(h:iV v=some i):v=.d (.int i):=by
 cases v with
 |d x=>cases x <;> cases h;rfl
 |c n=>cases h
def x8:List Val->aj (List D)
 |[a,b,c]=>(iV a).bind λi=>(iV b).bind λj=>(iV c).bind λc=>if c=2/\(Nat.ble i.natAbs 1000000&&Nat.ble j.natAbs 1000000)=true then some (oG i 2 (gq i j)) else none
 |_=>none
noncomputable def jo(o:List Val->aj (List D))(g:GA):nZ:=λU S=>bd (g U S) λvs S1=>(o vs).map λds=>.ok (0,ds) S1
section
variable{X:Cx}{K:aL}{W:XW}{q:Nat}{g:GE}{ga:GA}{fz:Bool}{Z:St}{H:Hp}{R:It->Hp->Prop}
def Hz{o:D->aj (List D)}(t:tX (RI K q) K W q (bB fz o g) Z H R):(∀Q:VK,tE K W q g Z H Q)\/∃d ds n,o d=some ds/\∀Q:VK,(∀k1 H1 x,az k1.F H1->kB K k1 H1 n x d->(∀J,iz K k1 H1 n J ds->R J H1)->Q x H1)->tE K W q g Z H Q:=by
 obtain⟨k,U,S,res,ok,gk,e,w⟩:=t;rcases Cr e with⟨⟨n,d⟩,S1,e1,e2⟩|⟨C,l,S1,e1,rfl⟩
 .obtain⟨ds,e3,rfl⟩:=c_.mp e2;exact .inr ⟨d,ds,max q n,e3,λQ h=>Ri ⟨k,U,S,_,ok,gk,e1,λx k1 H1 u bH r=>h k1 H1 x bH.le r λJ j=>w J k1 H1 u bH j⟩⟩
 .exact .inl λQ=>Ri ⟨k,U,S,_,ok,gk,e1,w⟩
def kB.now{x:V}{P:Hp->Prop}{n:Nat}(h:∀H',az k.F H'->Kept n H H'->P H')(le:az k.F H):P H:=h H le λ_ _ _ z=>z
def E_(K:aL)(te:TE):TI:=λZ H R=>y0 K te Z H R\/Fc K te Z H R\/yY te Z H R\/Fb te Z H R
def e5n{tg l:Expr}{te:TE}(h:PE X l te):PI X tg l (E_ X.K te):=LP (d7s h) (LP (e4l h) (LP (d8x h) (e5a h)))
def e5o(t:tX (RI K q) K W q (bB fz dZ g) Z H R):E_ K (tE K W q g) Z H R:=by
 rcases Hz t with h|⟨d,ds,n,e,h⟩
 .exact .inl (h _)
 .cases d with
  |lst _=>
   cases e;refine .inl (h _ λk1 H1 x le hd j=>?_)
   obtain⟨a,ws,rfl,q2,q1⟩:=hd;exact⟨a,rfl,⟨ws,kB.now (x:=.aH) q1 le⟩,j _ (d9b q1 q2)⟩
  |tup _=>
   cases e;refine .inr (.inl (h _ λk1 H1 x le hd j=>?_))
   obtain⟨a,ws,rfl,q2,q1⟩:=hd;exact⟨a,rfl,⟨ws,kB.now (x:=.aH) q1 le⟩,j _ (e5j q1 q2)⟩
  |aw kvs=>
   cases e;refine .inr (.inr (.inl (h _ λk1 H1 x le hd j=>?_)))
   obtain⟨a,es,ep,rfl,q2,q3,q4,q1⟩:=hd;exact⟨a,es,ep,rfl,kB.now (x:=.aH) q1 le,j _ (d9c q1 q3)⟩
  |str z=>
   cases e;exact .inr (.inr (.inr (h _ λk1 H1 x le hd j=>⟨z,hd,j _ e5l⟩)))
  |_=>cases e
def d9f(t:tX (RI K q) K W q (bB fz Bt g) Z H R):E' K (vF (tE K W q g) yb) Z H R:=by
 rcases Hz t with h|⟨d,ds,n,e,h⟩
 .exact h _
 .cases d with
  |lst _=>
   cases e;refine h _ λk1 H1 x le hd j=>?_
   obtain⟨a,ws,rfl,q2,q1⟩:=hd;exact⟨a,ws,rfl,kB.now (x:=.aH) q1 le,j _ (e5k q1 q2)⟩
  |_=>cases e
def e5p(t:tX (RI K q) K W q (bB fz LZ g) Z H R):yZ K (vF (tE K W q g) yb) Z H R:=by
 rcases Hz t with h|⟨d,ds,n,e,h⟩
 .exact h _
 .cases d with
  |lst es=>
   cases e;refine h _ λk1 H1 x le hd j=>?_
   obtain⟨a,ws,rfl,q2,q1⟩:=hd;refine⟨a,ws,rfl,kB.now (x:=.aH) q1 le,j _ ?_⟩;unfold eD;rw[<-q2.length];refine .Fu q1 λi us hi hv=>?_
   obtain⟨x,h1,rfl⟩:=hv;obtain⟨d,hd⟩:∃d,es[i]?=some d:=⟨es[i]'(by rw[<-q2.length];exact hi),iN _⟩
   obtain⟨v,h3,h4⟩:=q2.get hd;cases h1.symm.trans h3;rw[hd];exact .flat rfl h4
  |_=>cases e
theorem rep1{xs:List V}(h:Paired (cZ K k) xs [.d (.int j)]):xs=[.int j]:=by
 cases h with
 |cons r t=>cases t;rw[(show ah K k [_] [_] from r).bc rfl]
def rep2{xs:List V}(h:Paired (cZ K k) xs [.d (.int i),.d (.int j)]):xs=[.int i,.int j]:=by
 cases h with
 |cons r t=>rw[(show ah K k [_] [_] from r).bc rfl,rep1 t]
def rep3{xs:List V}(h:Paired (cZ K k) xs [.d (.int i),.d (.int j),.d (.int c)]):xs=[.int i,.int j,.int c]:=by
 cases h with
 |cons r t=>rw[(show ah K k [_] [_] from r).bc rfl,rep2 t]
def PD{o:List Val->aj (List D)}{Q:List V->Hp->Prop}(t:tX (RI K q) K W q (jo o ga) Z H R)(h:∀vs ds k1 H1 xs,o vs=some ds->(∀J,iz K k1 H1 (max q 0) J ds->R J H1)->Paired (cZ K k1) xs vs->Q xs H1):g9 K W q ga Z H Q:=by
 obtain⟨k,U,S,res,ok,gk,e,w⟩:=t;rcases Cr e with⟨vs,S1,e1,e2⟩|⟨C,l,S1,e1,rfl⟩
 .obtain⟨ds,e3,rfl⟩:=c_.mp e2;exact⟨k,U,S,_,ok,gk,e1,λxs k1 H1 u bH r=>h vs ds k1 H1 xs e3 (λJ j=>w J k1 H1 u bH j) r⟩
 .exact⟨k,U,S,_,ok,gk,e1,w⟩
def d9g(t:tX (RI K q) K W q (jo l6 ga) Z H R):y6 (g9 K W q ga) Z H R:=PD t λvs ds k1 H1 xs e j r=>by
 unfold l6 at e;split at e
 .split at e
  .rename_i h
   have h:=BJ h
   grind [rep1,e5m]
  .cases e
 .cases e
def d9h(t:tX (RI K q) K W q (jo x8 ga) Z H R):y7 (g9 K W q ga) Z H R:=PD t λvs ds k1 H1 xs e j r=>by
 unfold x8 at e;split at e
 .obtain⟨_,e1,e4⟩:=cy.mp e;obtain⟨_,e2,e5⟩:=cy.mp e4;obtain⟨_,e3,e6⟩:=cy.mp e5;clear e e4 e5;cases LQ e1;cases LQ e2;cases LQ e3;split at e6
  .rename_i h
   obtain⟨rfl,h⟩:=h;obtain⟨h1,h2⟩:=C5.mp h;have h1:=BJ h1;have h2:=BJ h2;cases e6;exact⟨_,_,rep3 r,⟨by lia,by lia,by lia,by lia⟩,j _ d9d⟩
  .cases e6
 .cases e
end
def aJ(g:GG)(f:GS):List D->GS
 |[]=>λU S=>some (.nx U S)
 |d::ds=>λU S=>(g d U).bind λU1=>(f U1 S).bind λr=>match r with
   |.nx U2 S2=>aJ g f ds U2 S2
   |.ct U2 S2=>aJ g f ds U2 S2
   |.bk U2 S2=>some (.nx U2 S2)
   |r=>some r
noncomputable def bf(q:Nat)(src:nZ)(g:GG)(f:Nat->GS):GS:=λU S=>mi U (src U S) λp S1=>aJ g (f (max q p.1)) p.2 U S1
def Up.kept{k':Kn}(u:Up q k H k' H'):Kept q H H':=u.h
def Kept.refl:Kept q H H:=λ_ _ _ z=>z
def Kept.trans{Dd:Hp}(a:Kept q H H')(b:Kept q H' Dd):Kept q H Dd:=λx o z h=>b x o z (a x o z h)
theorem Kept.same(a:az H H'):Kept q H H':=λx o _ h=>a x o h
section
variable{X:Cx}{K:aL}{W:XW}{q:Nat}{tg iter:Expr}{body:List Stmt}{wi:TI}{t:TG}{gg:GG}{f:Nat->GS}{src:nZ}{pos:Pos}
def e5q(hp:PassesOwn (model X.prog X.w) X.A X.env X.xe)(hc:X.calm=true)(hi:PI X tg iter wi)(tM:∀Z H R,tX (RI K q) K W q src Z H R->wi Z H R)(hg:PG X tg t)(ht:lh K t gg)(hb:∀n,iO X body (tS K W n (f n)))(hs:∀x,foldedSetIterable iter X.env x=pure x):
  PS X (.For tg iter body [] pos) (tS K W q (bf q src gg f)):=by
 intro aa s Z H De I t;obtain⟨k,U,S,fr,ok,gk,e,w⟩:=t;unfold bf mi at e;split at e
 .cases e
 .rename_i p S1 e1
  obtain⟨n,ds⟩:=p;refine Sn hp hc hi hg (hb (max q n)) hs aa s Z H De I (tM _ _ _ ⟨k,U,S,_,ok,gk,e1,λJ k1 H1 u1 bH r1=>?_⟩)
  have w1:=(w.up u1).weak (Nat.le_max_left q n);have g1:=gk.up u1;clear w gk ok e1 u1;refine⟨λi m Z H=>m=ds.length - i/\i<=ds.length/\∃k U S,b_ K k H S/\hV K k Z U/\k1.le k/\Kept (max q n) H1 H/\aJ gg (f (max q n)) (ds.drop i) U S=some fr/\Done K W (max q n) De k H fr,⟨_,rfl,nK _,k1,U,S1,bH,g1,.refl,.refl,e,w1⟩,?_⟩
  rintro i m Z H ⟨rfl,hi,k,U,S,ok,gk,l,c,e,w⟩;rcases Nat.lt_or_ge i ds.length with h|h
  .rw[N8 h] at e;refine .inr ⟨r1.go i k H l ok.le c h,λZ' H'=>∃k U S,b_ K k H' S/\hV K k Z' U/\k1.le k/\Kept (max q n) H1 H'/\aJ gg (f (max q n)) (ds.drop (i+1)) U S=some fr/\Done K W (max q n) De k H' fr,λZ' H' z=>⟨_,by lia,rfl,h,z⟩,λx H' y=>?_⟩
   obtain⟨F',s1,s2,s3,s4,rp⟩:=r1.vT i k H x H' l ok.le c y _ (iN h);have u:Up (max q n) k H ⟨F',k.A,k.T⟩ H':=.of s1 s2;obtain⟨U1,e1,e2⟩:=cy.mp e;obtain⟨r,e3,e4⟩:=cy.mp e2;have gM:b_ K ⟨F',k.A,k.T⟩ H' S:=ok.new s1 (λp _ o z=>s2 p o z) s3 λp m=>s4 p (ok.there p m)
   have l':k1.le ⟨F',k.A,k.T⟩:=⟨l.f.trans s1,l.a⟩;refine ht _ H' Z U U1 x ds[i] _ s3 (gk.up u) rp e1 λZ1 g1=>⟨_,U1,S,r,gM,g1,e3,?_⟩
   have w':=w.up u;have c':Kept (max q n) H1 H':=c.trans (.same s2);cases r with
   |nx U2 S2=>exact λZ' k2 H2 u2 cO g2=>⟨k2,U2,S2,cO,g2,⟨l'.f.trans u2.f,l'.a.trans u2.a⟩,c'.trans u2.kept,e4,w'.up u2⟩
   |ct U2 S2=>exact λZ' k2 H2 u2 cO g2=>⟨k2,U2,S2,cO,g2,⟨l'.f.trans u2.f,l'.a.trans u2.a⟩,c'.trans u2.kept,e4,w'.up u2⟩
   |bk U2 S2=>cases e4;exact w'
   |rt r S2=>cases e4;exact w'
   |ex C l U2 S2=>cases e4;exact w'
  .rw[JE h] at e;cases e;exact .inl ⟨r1.stop i k H l ok.le c h,bX.now w ok gk⟩
 .rename_i C l S1 e1
  cases e;exact Sn hp hc hi hg (hb q) hs aa s Z H De I (tM _ _ _ ⟨k,U,S,_,ok,gk,e1,λdx k' H' u gM r=>w dx Z k' H' u gM (gk.up u) r⟩)
end
end L2
set_option autoImplicit false
namespace L2
open PySem PySem.Spec PyProof.Rows
variable{ds:List D}{U:Gm}{Z:St}
def v9{α β:Type}(x:aj (Rs α))(f:α->aU->aj (Rs β)):aj (Rs β):=match x with
 |some (.ok a S)=>f a S
 |_=>none
def W0:XW:=λ_ _ _ _=>False
def bq(gg:GG)(tt:GT)(te:GE):List D->Gm->aU->List D->aj (Rs (List D))
 |[],_,S,aP=>some (.ok aP S)
 |d::ds,U,S,aP=>(gg d U).bind λU1=>v9 (tt U1 S) λb S1=>if b=true then v9 (gD te U1 S1) λx S2=>if aP.length<1000000 then bq gg tt te ds U1 S2 (aP++[x]) else none else bq gg tt te ds U1 S1 aP
def xm(n:Nat)(c8:List Nat)(U:Gm):Gm:=List.replicate n none++c8.map λi=>(U[i]?).join
def cq(q:Nat)(src:nZ)(gg:GG)(tt:Nat->GT)(te:Nat->GE)(n:Nat)(c8:List Nat):GE:=λU S=>bd (src U S) λp S1=>bd (bq gg (tt (max q p.1)) (te (max q p.1)) p.2 (xm n c8 U) S1 []) λds S2=>some (.ok (.o (.lst ds)) S2)
section
variable{X:Cx}{K:aL}{W:XW}{q:Nat}{tg iter elt:Expr}{ifs:List Expr}{scope:Scope}{wi:TI}{t:TG}{gg:GG}{tt:Nat->GT}{te:Nat->GE}{src:nZ}{pos:Pos}{M:List Str}{n:Nat}{c8:List Nat}
def Ie{α β:Type}{x:aj (Rs α)}{f:α->aU->aj (Rs β)}{res:Rs β}(e:v9 x f=some res):∃a S,x=some (.ok a S)/\f a S=some res:=by
 unfold v9 at e;split at e
 .exact⟨_,_,rfl,e⟩
 .cases e
def YE{gg:GG}{tt:GT}{te:GE}{S:aU}{aP:List D}{res:Rs (List D)}(e:bq gg tt te ds U S aP=some res):∃l S',res=.ok l S':=by
 induction ds generalizing U S aP with
 |nil=>cases e;exact⟨_,_,rfl⟩
 |cons d ds ih=>
  obtain⟨U1,_,e⟩:=cy.mp e;obtain⟨b,S1,_,e⟩:=Ie e;cases b with
  |false=>exact ih e
  |true=>
   obtain⟨x,S2,_,e⟩:=Ie (show v9 _ _=some res from e);split at e
   .exact ih e
   .cases e
def d9i{k:Kn}(g:hV K k Z U):hV K k (lu n c8 Z) (xm n c8 U):=by
 refine⟨by unfold lu xm;rw[dz,dz,bj,bj,sQ,sQ],λi v e=>?_⟩
 unfold xm at e;unfold lu;by_cases hi:i<n
 .rw[vN (by rw[sQ];exact hi),N5,bK hi] at e;cases e
 .have hi:=Nat.le_of_not_lt hi;rw[ua (by rw[sQ];exact hi),sQ,fU] at e ⊢
  obtain⟨j,h1,h2⟩:=c_.mp e;obtain⟨x,h3,h4⟩:=g.at' j v (Py h2)
  simp_all
def e5r{J:It}{k1:Kn}{H1:Hp}{m:Nat}{out:List D}{S1 S2:aU}{τ:St}{gt:GT}{ge:GE}{gR:List V->Hp->Prop}(ht:lh K t gg)(r1:iz K k1 H1 m J ds)(bH:b_ K k1 H1 S1)(g1:hV K k1 τ U)(e:bq gg gt ge ds U S1 []=some (.ok out S2))
  (w:∀k H vs,Up m k1 H1 k H->b_ K k H S2->ah K k vs out->gR vs H):rK J t (tT K W0 m gt) (tE K W0 m ge) τ H1 gR:=by
 refine⟨ds.length,λi τ vs H=>i<=ds.length/\∃k U S aP,b_ K k H S/\hV K k τ U/\ah K k vs aP/\Up m k1 H1 k H/\bq gg gt ge (ds.drop i) U S aP=some (.ok out S2),⟨nK _,k1,U,S1,[],bH,g1,.nil,.refl,e⟩,?_⟩
 rintro i τ vs H hi ⟨_,k,U,S,aP,ok,gk,rv,u,e⟩;rcases Nat.lt_or_ge i ds.length with h|h
 .rw[N8 h] at e;refine .inr ⟨h,r1.go i k H u.le ok.le u.kept h,λx H' y=>?_⟩
  obtain⟨F',s1,s2,s3,s4,rp⟩:=r1.vT i k H x H' u.le ok.le u.kept y _ (iN h);have u2:Up m k H ⟨F',k.A,k.T⟩ H':=.of s1 s2;have gM:b_ K ⟨F',k.A,k.T⟩ H' S:=ok.new s1 (λp _ o z=>s2 p o z) s3 λp m=>s4 p (ok.there p m)
  obtain⟨U1,e1,e2⟩:=cy.mp e;refine ht _ H' τ U U1 x ds[i] _ s3 (gk.up u2) rp e1 λτ1 g1=>?_
  obtain⟨b,S3,e3,e4⟩:=Ie e2;refine⟨_,U1,S,_,gM,g1,e3,λb' k3 H3 u3 kJ r3=>?_⟩
  cases r3;have u4:=(u.trans u2).trans u3;cases b with
  |false=>exact vh ⟨h,k3,U1,S3,aP,kJ,g1.up u3,rv.mono (u2.trans u3).le,u4,e4⟩
  |true=>
   obtain⟨y,S4,e5,e6⟩:=Ie (show v9 _ _=some _ from e4);refine vi (NL ⟨_,U1,S3,_,kJ,g1.up u3,e5,λv k5 H5 u5 ox r5=>?_⟩)
   split at e6
   .rename_i hl
    refine⟨gE (by rw[rv.length];exact hl) (by decide),h,k5,U1,S4,aP++[y],ox,(g1.up u3).up u5,(rv.mono ((u2.trans u3).trans u5).le).append r5,u4.trans u5,e6⟩
   .cases e6
 .rw[JE h] at e;cases e;exact .inl ⟨r1.stop i k H u.le ok.le u.kept h,w k H vs u ok rv⟩
def Rj{H:Hp}{Q:VK}(ht:lh K t gg)(h:tE K W q (cq q src gg tt te n c8) Z H Q):∃m,tX (RI K q) K W q src Z H λJ H1=>rK J t (tT K W0 m (tt m)) (tE K W0 m (te m)) (lu n c8 Z) H1 λaP H'=>∀l,H' l=none->Q (.ref l) (upd H' l (.lst aP)):=by
 obtain⟨k,U,S,res,ok,gk,e,w⟩:=h;rcases Cr e with⟨⟨m,ds⟩,S1,e1,e2⟩|⟨C,l,S1,e1,rfl⟩
 .refine⟨max q m,k,U,S,_,ok,gk,e1,λJ k1 H1 u1 bH r1=>?_⟩
  rcases Cr e2 with⟨out,S2,e3,e4⟩|⟨C,l,S2,e3,rfl⟩
  .cases e4;refine e5r ht r1 bH (d9i (gk.up u1)) e3 λk2 H2 vs u2 cO rv l hl=>?_
   exact mD.lst (.fin cO ((w.up u1).up (u2.weak (Nat.le_max_left q m)))) cO.le rv hl
  .obtain⟨_,_,z⟩:=YE e3;cases z
 .exact⟨0,k,U,S,_,ok,gk,e1,w⟩
def d9j(hc:X.calm=true)(ok:dU X scope M n c8)(hi:PI X tg iter wi)(tM:∀Z H R,tX (RI K q) K W q src Z H R->wi Z H R)(ht:lh K t gg)
  (hg:∀C s H fp,PG (fG X scope M C s H fp) tg t) (hT:∀m C s H fp,uE (fG X scope M C s H fp) ifs (tT K W0 m (tt m))) (hE:∀m C s H fp,PE (fG X scope M C s H fp) elt (tE K W0 m (te m)))
  (hs:∀x,foldedSetIterable iter X.env x=pure x):PE X (.ListComp elt [⟨tg,iter,ifs,0⟩] scope pos) (tE K W q (cq q src gg tt te n c8)):=λaa s Z H Q I h=>by
 obtain⟨m,h⟩:=Rj ht h;exact d8k hc ok hi hg (hT m) (hE m) hs aa s Z H Q I (tM _ _ _ h)
def d9k{mu:Bool}{i:Nat}{x:Str}{px qz:Pos}(hc:X.calm=true)(ok:dU X scope M n c8)(hN:X.N.Nodup)(AU:X.N[i]?=some x)(hx:Loc X.env.scope x)(hi:PI X tg iter wi)(tM:∀Z H R,tX (RI K q) K W q src Z H R->wi Z H R)(ht:lh K t gg)
  (hg:∀C s H fp,PG (fG X scope M C s H fp) tg t) (hT:∀m C s H fp,uE (fG X scope M C s H fp) ifs (tT K W0 m (tt m))) (hE:∀m C s H fp,PE (fG X scope M C s H fp) elt (tE K W0 m (te m)))
  (E7:swapsWith (.ListComp elt [⟨tg,iter,ifs,0⟩] scope pos) (some (.Name x px)) qz.line X.env=pure true) (hs:∀x,foldedSetIterable iter X.env x=pure x) (hf:X.fn x=true\/X.env.scope.names.lookup x=some .local) :
  PS X (.Assign [.Name x px] (.ListComp elt [⟨tg,iter,ifs,0⟩] scope pos) qz) (tS K W q (ar i mu (cq q src gg tt te n c8))):=λaa s Z H D I h=>by
 obtain⟨m,h⟩:=Rj ht (Su h);exact d8l hc ok hN AU hx hi hg (hT m) (hE m) E7 hs hf aa s Z H D I (tM _ _ _ h)
end
end L2
namespace L2
open PySem PySem.Spec PySem.W PySem.Calls PyProof.Rows
variable{hs:List ExceptHandler}
noncomputable def qI(C:ag)(fe:GE):GS:=λU S=>mi U (fe U S) λ_ S1=>some (.ex C none U S1)
section
variable{X:Cx}{K:fQ}{W:XW}{q:Nat}{C B0:ag}{x:Str}{p cp pos:Pos}{e:Expr}{fe:GE}
def YF(G:fW K C (.ref B0::tI) none)(G0:fW K B0 tI none)(hk:keepIn K (.ref C)=true)(hm:X.mg x=some (.ref C))(hp:d_ X W)(he:PE X e (tE K W q fe))(hc:X.calm=true)(hg:Gl X x)(lT:(x == ("__debug__":Str))=false)
  (lV:starEach [e] X.env=(false,eval e X.env)::starEach [] X.env) (hK:X.K=K):PS X (.Raise (some (.Call (.Name x p) [e] [] cp)) none pos) (tS K W q (qI C fe)):=by
 subst hK;intro aa s Z H D I t;have t1:tE X.K W q fe Z H λ_ H1=>W C none Z H1:=by
  obtain⟨k,U,S,fr,ok,gk,e,w⟩:=t;refine tS.bd ok gk e w λr S1 v k1 H1 bH g1 r1 e1 w1=>?_
  cases e1;exact w1 none Z k1 H1 .refl bH g1 rfl
 obtain⟨nm,qq,N,bs,sn,sub,ab,col,dd,k0,k1,k2,k3,k5,on,CQ,es,ep,CS,g1,g2,g3,g4⟩:=id G;rw[arm_exec_Raise];show wpAny _ _ (do standAt pos;raiseStmt X.env (some (do let v <-eval (.Call (.Name x p) [e] [] cp) X.env;standAt pos;pure v)) none) _ _ _
 refine aA (wpAny_standAt (wpAny_raiseStmt_made_sub (C:=C) (nm:=nm) (q:=qq) (N:=N) (bs:=bs) (bm:=.ref B0::tI) (hdct:=true) (sn:=sn) (sub:=sub) (ab:=ab) (col:=col) (dd:=dd) (k0:=k0) (k1:=k1) (k2:=k2) (k3:=k3) (k5:=k5) (newId:="ValueError.__new__") rfl (I.ok.hd hc) (aA (bI ?_ λv s3 h3=>aA (wpAny_standAt (aX h3))))))
 refine wpAny_Call_Name_kw (Cj I hg hm ?_ lT);have kS:(backTo cp (starEach [] X.env)).any (·.1)=false:=by rw[starEach];rfl
 refine PySem.W.callWith_K (h₀:=X.base) I.ok.mod.CM hk (bI ((H_ he oA lV) cp aa s Z H (λvs H1=>vs.length=1/\W C none Z H1) I (ra t1 λ_ H1 h=>⟨rfl,h⟩)) λus s1 hh=>?_) lV kS
 obtain⟨vs,H1,I1,r,hl,pp⟩:=hh;refine⟨I1.kT,?_⟩;obtain⟨u,rfl⟩:∃u,us=[u]:=by
  have l:=r.length;rw[hl] at l;cases us with
  |nil=>cases l
  |cons u us=>cases us with
   |nil=>exact⟨u,rfl⟩
   |cons _ _=>cases l
 refine YA G G0 I1 λh' t kp g=>⟨_,t,rfl,kp _ _ (I1.kT _ _ g1),g,?_⟩
 exact hp aa Z H1 s1 H1 _ _ C none I1 ⟨rfl,I1.bare,Un.kept kp,I1.bx.kept kp,zH _,I1.bx.fresh (zH _),_,_,g,rfl,rfl,rfl,by show 1<6;decide,.inl rfl⟩ pp
end
abbrev GH:=(ag->aj Bool)×GS
variable{gs:List GH}
noncomputable def Fw:Fr->aj Fr
 |.ex _ _ _ _=>none
 |r=>some r
def yh:List GH->ag->GS
 |[],_=>λ_ _=>none
 |h::hs,C=>λU S=>(h.1 C).bind λb=>if b=true then(h.2 U S).bind Fw else yh hs C U S
def qo(f:GS)(hs:List GH):GS:=λU S=>(f U S).bind λr=>match r with
 |.ex C _ U1 S1=>yh hs C U1 S1
 |r=>some r
section
variable{X:Cx}{K:fQ}{W:XW}{q:Nat}
theorem SP.eM{aa:List (ag×Obj)}{D:Ends}{f:Flow}{s':av}{e:ai}(h:SP (X.dw e) aa D f s')(hd:X.calm=true->X.A.handled=none):SP X aa D f s':=by
 cases f with
 |next=>obtain⟨Z',H',I,q⟩:=h;exact⟨Z',H',I.eM hd,q⟩
 |brk=>obtain⟨Z',H',I,q⟩:=h;exact⟨Z',H',I.eM hd,q⟩
 |cont=>obtain⟨Z',H',I,q⟩:=h;exact⟨Z',H',I.eM hd,q⟩
 |ret u=>obtain⟨v,Z',H',I,r,q⟩:=h;exact⟨v,Z',H',I.eM hd,r,q⟩
def Done.Fw{D:Ends}{k:Kn}{H:Hp}{r fr:Fr}(w:Done K W q D k H fr)(e:L2.Fw r=some fr):Done K W0 q D k H r:=by
 cases r with
 |ex _ _ _ _=>cases e
 |_=>cases e;exact w
def HB(X:Cx)(K:fQ)(W:XW)(q:Nat)(hs:List ExceptHandler)(gs:List GH):Prop:=∀(aa:List (ag×Obj)) (Z:St) (H:Hp) (s:av) (D:Ends) (e C:ag) (dx:aj ag) (k:Kn) (U:Gm) (S:aU) (fr:Fr) (n:Nat),Inv X aa Z H s->Dj X aa n->iT n s.heap H e C dx->b_ K k H S->hV K k Z U->yh gs C U S=some fr->Done K W q D k H fr->
 wpAny (model X.prog X.w) X.A (handleBy (.ref e) X.env hs) (SP X aa D) X.xe s
def Sw:HB X K W q [] []:=λ_ _ _ _ _ _ _ _ _ _ _ _ _ _ _ _ _ _ e _=>nomatch e
def Rk{x:Str}{np hp:Pos}{b0:Stmt}{ku:List Stmt}{wh:ag->aj Bool}{g:GS}{Cc:ag}(hm:X.mg x=some (.ref Cc))(hw:∀C b,wh C=some b->exmOne K (.ref C) (.ref Cc)=some b)(hS:∀e,iO (X.dw e) (b0::ku) (tS K W0 q g))(rest:HB X K W q hs gs)(hg:Gl X x)(lT:(x == ("__debug__":Str))=false)(hK:X.K=K):
  HB X K W q (.ExceptHandler (some (.Name x np)) none (b0::ku) hp::hs) ((wh,g)::gs):=by
 subst hK;intro aa Z H s D e C dx k U S fr n I y f ok gk ee w;obtain⟨bb,q1,ee⟩:=cy.mp ee;dsimp only at q1 ee;refine wpAny_handleBy_cons (codeAny_handlers_test (Cj (I.dw (e:=.ref e)) hg hm ?_ lT)) (by intro q;cases q)
 obtain⟨fD,wd,oe,vs,he,hc,hr⟩:=id f;have LT:Looks (model X.prog X.w) s.heap (typeOf (.ref e)) (.ref C):=by
  rw[<-hc];exact(Looks.ld he).andThen .now
 refine(exm_one I.kT LT (hw C bb q1)).here ?_;cases bb with
 |true=>
  obtain⟨r,e2,e3⟩:=cy.mp (show(g U S).bind L2.Fw=some fr from ee);refine codeAny_handlers_suite (YB (X:=X) f λh' ch mj lx f2=>?_)
  have I2:Inv X aa Z H { s with heap:=h',toks:=s.toks}:=I.left y lx mj;refine wpAny_mono (hS (.ref e) aa _ Z H D I2.dw ⟨k,U,S,r,ok,gk,e2,w.Fw e3⟩) (λfl s2 q=>?_) λ_ _ z=>z.elim
  exact q.eM I.ok.hd
 |false=>exact rest aa Z H s D e C dx k U S fr n I y f ok gk ee w
theorem SP.dY{aa:List (ag×Obj)}{E:ai->av->Prop}{D:Ends}{f:Flow}{s':av}(h:SP (X.dh (X.pn++aa) E) [] D f s'):SP X aa D f s':=by
 cases f with
 |next=>obtain⟨Z',H',I,q⟩:=h;exact⟨Z',H',I.dY,q⟩
 |brk=>obtain⟨Z',H',I,q⟩:=h;exact⟨Z',H',I.dY,q⟩
 |cont=>obtain⟨Z',H',I,q⟩:=h;exact⟨Z',H',I.dY,q⟩
 |ret u=>obtain⟨v,Z',H',I,r,q⟩:=h;exact⟨v,Z',H',I.dY,r,q⟩
def Sx{body:List Stmt}{h0:ExceptHandler}{f:GS}{pos:Pos}(hb:∀(pn:List (ag×Obj)) (E:ai->av->Prop) (W:XW),d_ (X.dh pn E) W->iO (X.dh pn E) body (tS K W q f))(hh:HB X K W q (h0::hs) gs)(lV:X.stack=X.env::X.outer)(hf:X.env.frame=some X.env.locals):
  PS X (.Try body (h0::hs) [] [] pos) (tS K W q (qo f gs)):=by
 intro aa s Z H D I t;obtain⟨k,U,S,fr,ok,gk,e,w⟩:=t;obtain⟨r1,e1,e⟩:=cy.mp e;refine wpAny_Try_except ?_;have hp:d_ (X.dh (X.pn++aa) λe s₁=>wpAny (model X.prog X.w) X.A (noteFrame e X.env) (λ_ s₂=>wpAny (model X.prog X.w) X.A (setFlight e none) (λ_ s₃=>wpAny (model X.prog X.w) X.A (handleBy e X.env (h0::hs)) (SP X aa D) X.xe s₃) X.xe s₂) X.xe s₁)
   (λC dx Z' H'=>∃k' U1 S1 fr,b_ K k' H' S1/\hV K k' Z' U1/\yh gs C U1 S1=some fr/\Done K W q D k' H' fr):=by
  intro qu Z' H1 s1 H' s' e C dx I1 c q;obtain⟨k',U2,S2,fr2,cO,gk2,e2,w2⟩:=q;have I':Inv X aa Z' H' s':=(c.inv I1).dY;have J:Inv X aa Z' H1 s1:=I1.dY;refine Ss (base:=X.base) (n:=s1.heap.objs.size) (by rw[<-lV];exact I.ok.frames) (by rw[<-lV];exact I'.stack) hf c.IW.lt (λa z=>I'.bx.fresh z) c.IW λh' ch mj lx fl=>?_
  rw[<-lV] at lx;have I3:Inv X aa Z' H' { s' with heap:=h',toks:=s'.toks}:=I'.left J.UZ lx mj;exact hh aa Z' H' _ D e C dx k' U2 S2 fr2 _ I3 J.UZ fl cO gk2 e2 w2
 refine wpAny_mono (hb _ _ _ hp [] s Z H D I.dh ⟨k,U,S,r1,ok,gk,e1,?_⟩) (λff s1 z=>?_) λe s1 z=>z
 .cases r1 with
  |ex C l U1 S1=>exact λdx Z' k' H' u gM g' el=>⟨k',U1,S1,fr,gM,g',e,w.up u⟩
  |_=>cases e;exact w
 .have z:=z.dY;cases ff with
  |next=>
   obtain⟨Z',H',J,r⟩:=z;exact sF aa s1 Z' H' D J r
  |brk=>exact z
  |cont=>exact z
  |ret u=>exact z
end
end L2
namespace L2
open PySem PySem.Spec PyProof.Rows
variable{K:aL}{es:List D}{j n:Nat}
abbrev bF(K:aL)(H:Hp):List V->List D->Prop:=ah K ⟨H,[],[]⟩
def ah.JD{H H1:Hp}{vs:List V}{ds:List D}(h:ah K ⟨H,[],[]⟩ vs ds)(s:az H H1):ah K ⟨H1,[],[]⟩ vs ds:=ah.mono (k:=⟨H,[],[]⟩) ⟨s,mS ([]:List ag)⟩ h
section
variable{X:Cx}
mutual
def g7:D->D->Bool
 |.lst xs,.lst ys=>iI xs ys
 |.tup xs,.tup ys=>iI xs ys
 |.aH,.aH=>true
 |.bl a,.bl b=>a == b
 |.bl a,.int b=>(if a then 1 else 0) == b
 |.int a,.bl b=>a == (if b then 1 else 0)
 |.int a,.int b=>a == b
 |.str a,.str b=>a == b
 |_,_=>false
def iI:List D->List D->Bool
 |[],[]=>true
 |x::xs,y::ys=>g7 x y&&iI xs ys
 |_,_=>false
end
noncomputable def fS:Nat->D->Bool
 |n+1,.lst xs=>xs.all (fS n)
 |n+1,.tup xs=>xs.all (fS n)
 |_,.aH=>true
 |_,.bl _=>true
 |_,.int _=>true
 |_,.str _=>true
 |_,_=>false
theorem KZ:∀{xs ys:List D},xs.length≠ys.length->iI xs ys=false
 |[],[],h=>cJ rfl h
 |[],_::_,_=>rfl
 |_::_,[],_=>rfl
 |x::xs,y::ys,h=>by show(g7 x y&&iI xs ys)=false;rw[KZ (by simpa using h),Bool.and_false]
theorem K0:∀{xs ys:List D} (n:Nat),xs.length=n->ys.length=n->iI xs ys=(List.range n).all λj=>g7 (xs.getD j .aH) (ys.getD j .aH)
 |[],[],0,_,_=>rfl
 |x::xs,y::ys,n+1,h1,h2=>by
  show(g7 x y&&iI xs ys)=_;rw[K0 n (by simpa using h1) (by simpa using h2),List.range_succ_eq_map,vP,GD]
  rfl
 |[],_,_+1,h,_=>by simp at h
 |_::_,[],_+1,_,h=>by simp at h
 |_::_,_,0,h,_=>by simp at h
 |[],_::_,0,_,h=>by simp at h
variable{aa:List (ag×Obj)}{Z:St}{H:Hp}{s:av}
def Iz{F:Hp}{ws:List V}(r:bF K F ws es){aG:List ai}(rv:Vals ws aG)(h:j<aG.toArray.size):∃x,RelV x aG.toArray[j]/\bF K F [x] [es.getD j .aH]/\j<es.length:=by
 obtain⟨x,hx,rx⟩:=rv.at h;have hl:=r.length;have hj:j<es.length:=by
  grind
 obtain⟨y,hy,ry⟩:=r.get (i:=j) (d:=es[j]) (by simp[hj])
 rw[hx] at hy;cases hy;refine⟨x,rx,?_,hj⟩;rw[show es.getD j .aH=es[j] by simp[hj]]
 exact ry
def HJ{p:D->Bool}(h:es.all p=true)(hj:j<es.length):p (es.getD j .aH)=true:=by
 simp_all
inductive zV (K:aL) (H:Hp) (s:av):ai->D->Prop
 |none:zV K H s .none .aH
 |bool (b:Bool):zV K H s (.bool b) (.bl b)
 |int (i:Int) (t:Tok):zV K H s (.int i t) (.int i)
 |str (x:Str) (t:Tok):zV K H s (.str x t) (.str x)
 |list {a:ag} {aG:List ai} {ws:List V} {es:List D}:s.heap.IsList a aG.toArray->Vals ws aG->bF K H ws es->zV K H s (.ref a) (.lst es)
 |tuple {a:ag} {aG:List ai} {ws:List V} {es:List D}:s.heap.IsTuple a aG.toArray->Vals ws aG->bF K H ws es->zV K H s (.ref a) (.tup es)
def Sy(I:Inv X aa Z H s){x:V}{u:ai}{d:D}(r:bF X.K H [x] [d])(ru:RelV x u)(ok:fS n d=true):zV X.K H s u d:=by
 cases r with
 |lst q i _=>
  cases ru;obtain⟨aG,rv,pl,_⟩:=I.list q;exact .list pl.isList rv i
 |tup q i _=>
  cases ru;obtain⟨aG,rv,pl,_⟩:=I.tuple q;exact .tuple pl rv i
 |aw _ _ _ _ _=>cases n <;> cases ok
 |ref _ _=>cases n <;> cases ok
 |flat q _=>
  cases d with
  |aH=>cases q;cases ru;exact .none
  |bl b=>cases q;cases ru;exact .bool b
  |int i=>cases q;obtain⟨t,rfl⟩:=ru;exact .int i t
  |str z=>cases q;obtain⟨t,rfl⟩:=ru;exact .str z t
  |ty _=>cases n <;> cases ok
  |lst _=>cases q
  |tup _=>cases q
  |aw _=>cases q
  |ref _=>cases q
def DY(h:fS n (.lst es)=true):∃m,n=m+1/\es.all (fS m)=true:=by
 cases n with
 |zero=>cases h
 |succ n=>exact⟨n,rfl,h⟩
def DZ(h:fS n (.tup es)=true):∃m,n=m+1/\es.all (fS m)=true:=by
 cases n with
 |zero=>cases h
 |succ n=>exact⟨n,rfl,h⟩
def PF(h:∀d∈es,g7 d d=true):iI es es=true:=by
 induction es with
 |nil=>rfl
 |cons d es ih=>show(g7 d d&&iI es es)=true;rw[h d (by simp),ih λd m=>h d (by simp[m])];rfl
theorem K1:∀(n:Nat) {d:D},fS n d=true->g7 d d=true:=by
 intro n
 induction n with
 |zero=>intro d h;cases d <;> first|(cases h;done)|exact rfl|exact fV _
 |succ n ih=>
  intro d h;cases d with
  |lst es=>exact PF λd m=>ih (oO.mp h d m)
  |tup es=>exact PF λd m=>ih (oO.mp h d m)
  |aw _=>cases h
  |ref _=>cases h
  |ty _=>cases h
  |_=>first|exact rfl|exact fV _
def VA{xs ys:List D}(hl:xs.length=ys.length)(h:∀j,j<xs.length->xs.getD j .aH=ys.getD j .aH):xs=ys:=by
 apply List.ext_getElem hl;intro j h1 h2;have:=h j h1;simpa[h1,h2] using this
noncomputable def NP:V->D
 |.bl b=>.bl b
 |.int i=>.int i
 |.str x=>.str x
 |.ty n=>.ty n
 |_=>.aH
def PH{d:D}{v:V}(h:yF d=some v):d=NP v:=by cases d <;> cases h <;> rfl
def Ce{d:D}{a:ag}(h:yF d=some (.ref a)):False:=by cases d <;> cases h
theorem Ig(I:Inv X aa Z H s):∀(n m:Nat) {x:V} {d e:D},bF X.K H [x] [d]->bF X.K H [x] [e]->fS n d=true->fS m e=true->d=e:=by
 intro n
 induction n using Nat.strongRecOn with
 |ind n ih=>
 intro m x d e rd re od oe;have go:∀{ws:List V} {es pV:List D} {n' m':Nat},n'<n->bF X.K H ws es->bF X.K H ws pV->es.all (fS n')=true->pV.all (fS m')=true->es=pV:=by
  intro ws es pV n' m' hn r1 r2 o1 o2;have l1:=r1.length;have l2:=r2.length;refine VA (by lia) λj hj=>?_
  have Jg:j<pV.length:=by lia
  obtain⟨v,g1,g2⟩:=r1.get (i:=j) (d:=es[j]) (by simp[hj])
  obtain⟨v',p1,p2⟩:=r2.get (i:=j) (d:=pV[j]) (by simp[Jg])
  rw[g1] at p1;cases p1;rw[show es.getD j .aH=es[j] by simp[hj],show pV.getD j .aH=pV[j] by simp[Jg]]
  exact ih n' hn m' g2 p2 (oO.mp o1 _ (C2 hj)) (oO.mp o2 _ (C2 Jg))
 cases rd with
 |flat q _=>
  cases re with
  |flat q' _=>
   rw[PH q,PH q']
  |lst _ _ _=>exact(Ce q).elim
  |tup _ _ _=>exact(Ce q).elim
  |aw _ _ _ _ _=>exact(Ce q).elim
  |ref _ _=>exact(Ce q).elim
 |lst q i _=>
  obtain⟨n',rfl,Bd⟩:=DY od;cases re with
  |flat q' _=>exact(Ce q').elim
  |lst q' i' _=>
   obtain⟨m',rfl,Be⟩:=DY oe;cases I.l0 q q';rw[go (yq _) i i' Bd Be]
  |tup q' i' _=>
   obtain⟨_,_,p1,_⟩:=I.list q;obtain⟨_,_,p2,_⟩:=I.tuple q';exact cJ rfl (SeqAt.ne_of_list_tuple p1.isList p2)
  |aw _ _ _ _ _=>cases m <;> cases oe
  |ref _ _=>cases m <;> cases oe
 |tup q i _=>
  obtain⟨n',rfl,Bd⟩:=DZ od;cases re with
  |flat q' _=>exact(Ce q').elim
  |tup q' i' _=>
   obtain⟨m',rfl,Be⟩:=DZ oe;cases I.nJ q q';rw[go (yq _) i i' Bd Be]
  |lst q' i' _=>
   obtain⟨_,_,p1,_⟩:=I.list q';obtain⟨_,_,p2,_⟩:=I.tuple q;exact cJ rfl (SeqAt.ne_of_list_tuple p1.isList p2)
  |aw _ _ _ _ _=>cases m <;> cases oe
  |ref _ _=>cases m <;> cases oe
 |aw _ _ _ _ _=>cases n <;> cases od
 |ref _ _=>cases n <;> cases od
def Lw(I:Inv X aa Z H s):∀(n m:Nat) {A:cR} {x y:V} {u v:ai} {d e:D},bF X.K H [x] [d]->bF X.K H [y] [e]->fS n d=true->fS m e=true->RelV x u->RelV y v->A.units+n<cLine->
  SeqAt.EqAt A s u v (g7 d e)/\SeqAt.RcAt A s u v (g7 d e):=by
 intro n
 induction n using Nat.strongRecOn with
 |ind n ih=>
 intro m A x y u v d e rd re od oe ru rv hu;have fE:A.units<cLine:=by lia
 have s1:=Sy I rd ru od;have s2:=Sy I re rv oe;cases s1 with
 |none=>
  cases s2 with
  |none=>
   exact⟨SeqAt.EqAt.same _,SeqAt.RcAt.none_none⟩
  |bool a2=>
   exact⟨SeqAt.EqAt.none_bool a2,SeqAt.RcAt.none_bool a2⟩
  |int a2 t2=>
   exact⟨SeqAt.EqAt.none_int a2 t2,SeqAt.RcAt.none_int a2 t2⟩
  |str a2 t2=>
   exact⟨SeqAt.EqAt.none_str a2 t2,SeqAt.RcAt.none_str a2 t2⟩
  |list l2 v2 r2=>
   exact⟨SeqAt.EqAt.none_list l2 fE,SeqAt.RcAt.none_list l2 fE⟩
  |tuple l2 v2 r2=>
   exact⟨SeqAt.EqAt.none_tuple l2 fE,SeqAt.RcAt.none_tuple l2 fE⟩
 |bool a1=>
  cases s2 with
  |none=>
   exact⟨SeqAt.EqAt.bool_none a1,SeqAt.RcAt.bool_none a1⟩
  |bool a2=>
   exact⟨SeqAt.EqAt.bool_bool a1 a2,SeqAt.RcAt.bool_bool a1 a2⟩
  |int a2 t2=>
   exact⟨SeqAt.EqAt.bool_int a1 a2 t2,SeqAt.RcAt.bool_int a1 a2 t2⟩
  |str a2 t2=>
   exact⟨SeqAt.EqAt.bool_str a1 a2 t2,SeqAt.RcAt.bool_str a1 a2 t2⟩
  |list l2 v2 r2=>
   exact⟨SeqAt.EqAt.bool_list a1 l2 fE,SeqAt.RcAt.bool_list a1 l2 fE⟩
  |tuple l2 v2 r2=>
   exact⟨SeqAt.EqAt.bool_tuple a1 l2 fE,SeqAt.RcAt.bool_tuple a1 l2 fE⟩
 |int a1 t1=>
  cases s2 with
  |none=>
   exact⟨SeqAt.EqAt.int_none a1 t1,SeqAt.RcAt.int_none a1 t1⟩
  |bool a2=>
   exact⟨SeqAt.EqAt.int_bool a1 t1 a2,SeqAt.RcAt.int_bool a1 t1 a2⟩
  |int a2 t2=>
   exact⟨SeqAt.EqAt.int_int a1 t1 a2 t2,SeqAt.RcAt.int_int a1 t1 a2 t2⟩
  |str a2 t2=>
   exact⟨SeqAt.EqAt.int_str a1 t1 a2 t2,SeqAt.RcAt.int_str a1 t1 a2 t2⟩
  |list l2 v2 r2=>
   exact⟨SeqAt.EqAt.int_list a1 t1 l2 fE,SeqAt.RcAt.int_list a1 t1 l2 fE⟩
  |tuple l2 v2 r2=>
   exact⟨SeqAt.EqAt.int_tuple a1 t1 l2 fE,SeqAt.RcAt.int_tuple a1 t1 l2 fE⟩
 |str a1 t1=>
  cases s2 with
  |none=>
   exact⟨SeqAt.EqAt.str_none a1 t1,SeqAt.RcAt.str_none a1 t1⟩
  |bool a2=>
   exact⟨SeqAt.EqAt.str_bool a1 t1 a2,SeqAt.RcAt.str_bool a1 t1 a2⟩
  |int a2 t2=>
   exact⟨SeqAt.EqAt.str_int a1 t1 a2 t2,SeqAt.RcAt.str_int a1 t1 a2 t2⟩
  |str a2 t2=>
   exact⟨SeqAt.EqAt.str_str a1 t1 a2 t2,SeqAt.RcAt.str_str a1 t1 a2 t2⟩
  |list l2 v2 r2=>
   exact⟨SeqAt.EqAt.str_list a1 t1 l2 fE,SeqAt.RcAt.str_list a1 t1 l2 fE⟩
  |tuple l2 v2 r2=>
   exact⟨SeqAt.EqAt.str_tuple a1 t1 l2 fE,SeqAt.RcAt.str_tuple a1 t1 l2 fE⟩
 |list l1 v1 r1=>
  cases s2 with
  |none=>
   exact⟨SeqAt.EqAt.list_none l1 fE,SeqAt.RcAt.list_none l1 fE⟩
  |bool a2=>
   exact⟨SeqAt.EqAt.list_bool a2 l1 fE,SeqAt.RcAt.list_bool a2 l1 fE⟩
  |int a2 t2=>
   exact⟨SeqAt.EqAt.list_int a2 t2 l1 fE,SeqAt.RcAt.list_int a2 t2 l1 fE⟩
  |str a2 t2=>
   exact⟨SeqAt.EqAt.list_str a2 t2 l1 fE,SeqAt.RcAt.list_str a2 t2 l1 fE⟩
  |list l2 v2 r2=>
   rename_i a aG ws es b mJ NV pV
   obtain⟨n',rfl,Bd⟩:=DY od;obtain⟨m',rfl,Be⟩:=DY oe;have la:=v1.length;have lb:=v2.length;have la':=r1.length;have lb':=r2.length;have rc:SeqAt.RcAt A s (.ref a) (.ref b) (g7 (.lst es) (.lst pV)):=by
    show SeqAt.RcAt A s _ _ (iI es pV);by_cases hl:es.length=pV.length
    .rw[K0 aG.toArray.size (by simp only[fF];lia) (by simp only[fF];lia)]
     refine SeqAt.RcAt.lists (A:=A) l1 l2 (by simp only[fF];lia) fE λj h1 h2=>?_
     obtain⟨x1,q1,q2,q3⟩:=Iz r1 v1 h1;obtain⟨y1,p1,p2,p3⟩:=Iz r2 v2 h2;exact(ih n' (yq _) m' q2 p2 (HJ Bd q3) (HJ Be p3) q1 p1 (by show A.units+1+n'<cLine;lia)).1
    grind [KZ,PySem.SeqAt.RcAt.lists_lengths]
   grind [RelV.inj,Ig,K1,PySem.SeqAt.EqAt.same,PySem.SeqAt.EqAt.of_refs]
  |tuple l2 v2 r2=>
   exact⟨SeqAt.EqAt.list_tuple l1 l2 fE,SeqAt.RcAt.list_tuple l1 l2 fE⟩
 |tuple l1 v1 r1=>
  cases s2 with
  |none=>
   exact⟨SeqAt.EqAt.tuple_none l1 fE,SeqAt.RcAt.tuple_none l1 fE⟩
  |bool a2=>
   exact⟨SeqAt.EqAt.tuple_bool a2 l1 fE,SeqAt.RcAt.tuple_bool a2 l1 fE⟩
  |int a2 t2=>
   exact⟨SeqAt.EqAt.tuple_int a2 t2 l1 fE,SeqAt.RcAt.tuple_int a2 t2 l1 fE⟩
  |str a2 t2=>
   exact⟨SeqAt.EqAt.tuple_str a2 t2 l1 fE,SeqAt.RcAt.tuple_str a2 t2 l1 fE⟩
  |list l2 v2 r2=>
   exact⟨SeqAt.EqAt.tuple_list l1 l2 fE,SeqAt.RcAt.tuple_list l1 l2 fE⟩
  |tuple l2 v2 r2=>
   rename_i a aG ws es b mJ NV pV
   obtain⟨n',rfl,Bd⟩:=DZ od;obtain⟨m',rfl,Be⟩:=DZ oe;have la:=v1.length;have lb:=v2.length;have la':=r1.length;have lb':=r2.length;have rc:SeqAt.RcAt A s (.ref a) (.ref b) (g7 (.tup es) (.tup pV)):=by
    have z:=SeqAt.RcAt.tuples (A:=A) (e:=λj=>g7 (es.getD j .aH) (pV.getD j .aH)) l1 l2 fE λj h1 h2=>by
     obtain⟨x1,q1,q2,q3⟩:=Iz r1 v1 h1;obtain⟨y1,p1,p2,p3⟩:=Iz r2 v2 h2;exact(ih n' (yq _) m' q2 p2 (HJ Bd q3) (HJ Be p3) q1 p1 (by show A.units+1+n'<cLine;lia)).1
    show SeqAt.RcAt A s _ _ (iI es pV);by_cases hl:es.length=pV.length
    .rw[K0 aG.toArray.size (by simp only[fF];lia) (by simp only[fF];lia)]
     have e1:mJ.toArray.size=aG.toArray.size:=by simp only[fF];lia
     rw[e1,Nat.min_self,fV,Bool.and_true] at z;exact z
    .rw[KZ hl];have e1:(aG.toArray.size == mJ.toArray.size)=false:=by rw[vR];simp only[fF];lia
     rw[e1,Bool.and_false] at z;exact z
   grind [RelV.inj,Ig,K1,PySem.SeqAt.EqAt.same,PySem.SeqAt.EqAt.of_refs]
end
mutual
theorem Ll:∀k j:TK,g7 k.d j.d=decide (k=j)
 |.inl a,.inl b=>by show(a == b)=_;rw[Gz];simp
 |.inr a,.inr b=>by show(a == b)=_;rw[Gz];simp
 |.tp l,.tp m=>by show iI (TK.dl l) (TK.dl m)=_;rw[pU l m,Gz];simp
 |.inl _,.inr _=>rfl
 |.inl _,.tp _=>rfl
 |.inr _,.inl _=>rfl
 |.inr _,.tp _=>rfl
 |.tp _,.inl _=>rfl
 |.tp _,.inr _=>rfl
 |.aH,.aH=>rfl
 |.aH,.inl _=>rfl
 |.aH,.inr _=>rfl
 |.aH,.tp _=>rfl
 |.inl _,.aH=>rfl
 |.inr _,.aH=>rfl
 |.tp _,.aH=>rfl
theorem pU:∀l m:List TK,iI (TK.dl l) (TK.dl m)=decide (l=m)
 |[],[]=>rfl
 |a::l,b::m=>by show(g7 a.d b.d&&iI (TK.dl l) (TK.dl m))=_;rw[Ll a b,pU l m,Gz];simp
 |[],_::_=>rfl
 |_::_,[]=>rfl
end
theorem IA:∀l:List TK,TK.dl l=l.map TK.d
 |[]=>by simp[TK.dl]
 |a::l=>by simp[TK.dl,IA l]
theorem Ck:∀(n:Nat) {k:TK},k.ok n=true->fS n k.d=true
 |n,.inl i,_=>by cases n <;> rfl
 |n,.inr i,_=>by cases n <;> rfl
 |n,.aH,_=>by cases n <;> rfl
 |0,.tp l,h=>by simp[TK.ok] at h
 |n+1,.tp l,h=>by
  show(TK.dl l).all (fS n)=true;rw[IA,GD];refine oO.mpr λa m=>?_
  exact Ck n (oO.mp (by simpa only[TK.ok] using h) a m)
def W_{α:Type}{M:Model}{A:cR}{E:ai->av->Prop}{s:av}{c:Prop}[Decidable c]{a b:Sem α}{Q:α->av->Prop}(h1:wpAny M A a Q E s)(h2:wpAny M A b Q E s):wpAny M A (if c then a else b) Q E s:=by
 split
 .exact h1
 .exact h2
theorem OL(w:cB):∀l m:List TK,TK.dP w (l++m)=TK.dP w l++TK.dP w m
 |[],m=>by simp[TK.dP]
 |a::l,m=>by simp[TK.dP,OL w l m]
section
variable{X:Cx}{aa:List (ag×Obj)}{Z:St}{H:Hp}
def Rl{A:cR}{E:ai->av->Prop}{s:av}{y:V}{u:ai}{i:Int}{Q:Int->av->Prop}(r:bF X.K H [y] [TK.d (.inl i)])(ru:RelV y u)(h:∀t,Q (TK.hash X.w (.inl i)) { s with toks:=t}):wpAny (model X.prog X.w) A (pyHash u) Q E s:=by
 simp only[TK.d] at r;cases r with
 |flat q _=>cases q;obtain⟨t,rfl⟩:=ru;exact wpAny_pyHash_int (by simpa only[TK.hash] using h _)
def Rm{A:cR}{E:ai->av->Prop}{s:av}{y:V}{u:ai}{i:Str}{Q:Int->av->Prop}(r:bF X.K H [y] [TK.d (.inr i)])(ru:RelV y u)(h:∀t,Q (TK.hash X.w (.inr i)) { s with toks:=t}):wpAny (model X.prog X.w) A (pyHash u) Q E s:=by
 simp only[TK.d] at r;cases r with
 |flat q _=>cases q;obtain⟨t,rfl⟩:=ru;exact wpAny_pyHash_str (by simpa only[TK.hash] using h _)
theorem Rn{A:cR}{E:ai->av->Prop}{s:av}{y:V}{u:ai}{Q:Int->av->Prop}(r:bF X.K H [y] [TK.d .aH])(ru:RelV y u)(h:∀t,Q (TK.hash X.w .aH) { s with toks:=t}):wpAny (model X.prog X.w) A (pyHash u) Q E s:=by
 simp only[TK.d] at r;cases r with
 |flat q _=>
  cases q;cases ru;have hT:s.TypeIs .none "NoneType":=rfl;unfold pyHash;have hv:[Value.none].any Value.onHeap=false:=rfl;refine aA ?_;rw[cRoomFor,bD (by rw[hv];exact vM)];refine aX ?_
  refine aA (wpAny_specialOf hT F.slot_NoneType_hash.lookup ?_);show wpAny _ _ (if(some (Value.builtin "NoneType.__hash__") == some Value.none)=true then _ else _) Q E s
  rw[bD (by rw[beq_builtin_none];exact vM)]
  refine aA (wpAny_specialOf hT F.slot_NoneType_hash.lookup ?_);show wpAny _ _ (callSpecialIfBoundUnlessNone? .none "__hash__" _ >>= _) Q E s;refine aA (wpAny_callSpecialIfBoundUnlessNone?_slot hT F.slot_NoneType_hash (wpAny_call_entry F.slot_NoneType_hash hT F.entry_NoneType_hash (show wpAny _ _ (do ret (<-mkInt 4238894112)) _ _ s from wpAny_ret_mkInt ?_) (F.args_NoneType_hash_1 _)))
  refine aX ?_
  grind [TK.hash]
theorem Qk:∀(n:Nat) {A:cR} {E:ai->av->Prop} {s:av} {y:V} {u:ai} {k:TK} {Q:Int->av->Prop},Inv X aa Z H s->bF X.K H [y] [k.d]->k.ok n=true->RelV y u->A.units+n<cLine->
  (∀t,Q (k.hash X.w) { s with toks:=t})->wpAny (model X.prog X.w) A (pyHash u) Q E s:=by
 intro n
 induction n with
 |zero=>
  intro A E s y u k Q I r ok ru hu h;cases k with
  |tp l=>simp[TK.ok] at ok
  |inl i=>exact Rl r ru h
  |inr x=>exact Rm r ru h
  |aH=>exact Rn r ru h
 |succ n ih=>
  intro A E s y u k Q I r ok ru hu h;cases k with
  |inl i=>exact Rl r ru h
  |inr x=>exact Rm r ru h
  |aH=>exact Rn r ru h
  |tp l=>
   simp only[TK.d] at r;cases r with
   |flat q _=>cases q
   |@tup a ws _ _ _ q i _=>
    cases ru;obtain⟨aG,rv,pl,_⟩:=I.tuple q;have hT:s.TypeIs (.ref a) "tuple":=pl.typeIs;obtain⟨o,g1,g2,nn,g3⟩:=pl;have ok:l.all (TK.ok n)=true:=by simpa only[TK.ok] using ok
    show wpAny _ _ (pyHashByItsType (.ref a)) Q E s;unfold pyHashByItsType;refine aA (wpAny_cRoomFor_or (.inr (by lia)) (aA (wpAny_specialOf hT F.slot_tuple_hash.lookup ?_)))
    dsimp only;rw[bD (by rw[beq_builtin_none];exact vM)]
    refine aA (wpAny_specialOf hT F.slot_tuple_hash.lookup (aA ?_));refine wpAny_callSpecialIfBoundUnlessNone?_slot hT F.slot_tuple_hash (wpAny_call_entry F.slot_tuple_hash hT F.entry_tuple_hash ?_ (F.args_tuple_hash_1 _));show wpAny _ _ (Builtin.Tuple.tupleItemsOf (.ref a) >>= λz=>_) _ _ s
    refine aA (wpAny_tupleItemsOf g1 g3 (aA ?_));rw[<-Array.forIn_toList];refine wpAny_forIn_list _ (λrest (b:Array Int) s'=>∃done left wl t,l=done++left/\bF X.K H wl (TK.dl left)/\Vals wl rest/\b.toList=TK.dP X.w done/\s'={ s with toks:=t}) _ ?_ ?_ _ _ ⟨[],l,ws,s.toks,rfl,i,rv,by simp[TK.dP],rfl⟩
    .rintro x rest b s' ⟨done,left,wl,t,e,r',v',hb,rfl⟩;cases v' with
     |@cons w1 _ wl _ Nn v'=>
      cases left with
      |nil=>have:=r'.length;simp[TK.dl] at this
      |cons k1 left=>
       simp only[TK.dl] at r';have bH:k1.ok n=true:=oO.mp ok k1 (by rw[e];simp)
       have fin:∀t',∃yL zh UY CU,l=yL++zh/\bF X.K H UY (TK.dl zh)/\Vals UY rest/\(b.push (k1.hash X.w)).toList=TK.dP X.w yL/\({ s with toks:=t'}:av)={ s with toks:=CU}:=
        λt'=>⟨done++[k1],left,wl,t',by simp[e],r'.inv.2,v',by rw[OL,<-hb];simp[TK.dP],rfl⟩
       exact aA (ih (I.tok t) r'.inv.1 bH Nn (by show A.units+1+n<cLine;lia) λt'=>by
        first
         |exact aX (fin t')
         |exact aA (aX (aX (fin t'))))
    .rintro b s' ⟨done,left,wl,t,e,r',v',hb,rfl⟩;cases v';have hl:left=[]:=by
      cases left with
      |nil=>rfl
      |cons _ _=>have:=r'.length;simp[TK.dl] at this
     subst hl;rw[kY] at e;subst e;show wpAny _ _ (retInt (Builtin.Tuple.tupleHashOf b.toList)) _ _ _;rw[hb];refine wpAny_ret_mkInt ?_;have h':∀t,Q (reduceHash (Builtin.Tuple.tupleHashOf (TK.dP X.w l))) { s with toks:=t}:=λt=>by simpa only[TK.hash] using h t
     unfold reduceHash at h';show wpAny _ _ (if(decide (-(2:Int)^63<=Builtin.Tuple.tupleHashOf (TK.dP X.w l))&&decide (Builtin.Tuple.tupleHashOf (TK.dP X.w l)<2^63))=true then _ else _) Q E _
     split
     .rename_i hc
      rw[bK hc] at h';exact aX (h' _)
     .rename_i hc
      rw[bD hc] at h';exact aA (wpAny_rule (aX (h' _)))
theorem PK:∀(n:Nat) {A:cR} {E:ai->av->Prop} {s:av} {y:V} {u:ai} {k:TK} {Q:Bool->av->Prop},Inv X aa Z H s->bF X.K H [y] [k.d]->k.ok n=true->RelV y u->Q true s->
  wpAny (model X.prog X.w) A (eqIsQuiet n u) Q E s:=by
 intro n
 induction n with
 |zero=>
  intro A E s y u k Q I r ok ru h;cases k with
  |tp l=>simp[TK.ok] at ok
  |inl i=>simp only[TK.d] at r;cases r with|flat q _=>cases q;obtain⟨t,rfl⟩:=ru;rw[eqIsQuiet_byValue 0 rfl];exact aX h
  |inr i=>simp only[TK.d] at r;cases r with|flat q _=>cases q;obtain⟨t,rfl⟩:=ru;rw[eqIsQuiet_byValue 0 rfl];exact aX h
  |aH=>simp only[TK.d] at r;cases r with|flat q _=>cases q;cases ru;rw[eqIsQuiet_byValue 0 rfl];exact aX h
 |succ n ih=>
  intro A E s y u k Q I r ok ru h;cases k with
  |inl i=>simp only[TK.d] at r;cases r with|flat q _=>cases q;obtain⟨t,rfl⟩:=ru;rw[eqIsQuiet_byValue (n+1) rfl];exact aX h
  |inr i=>simp only[TK.d] at r;cases r with|flat q _=>cases q;obtain⟨t,rfl⟩:=ru;rw[eqIsQuiet_byValue (n+1) rfl];exact aX h
  |aH=>simp only[TK.d] at r;cases r with|flat q _=>cases q;cases ru;rw[eqIsQuiet_byValue (n+1) rfl];exact aX h
  |tp l=>
   simp only[TK.d] at r;cases r with
   |flat q _=>cases q
   |@tup a ws _ _ _ q i _=>
    cases ru;obtain⟨aG,rv,pl,_⟩:=I.tuple q;have hT:s.TypeIs (.ref a) "tuple":=pl.typeIs;obtain⟨o,g1,g2,nn,g3⟩:=pl;have ok:l.all (TK.ok n)=true:=by simpa only[TK.ok] using ok
    unfold eqIsQuiet;refine aA (wpAny_specialOf hT F.slot_tuple_eq.lookup (aA (wpAny_isInstance hT isSubtype_tuple_tuple ?_)));simp only[mf,uc,kP];refine aA (wpAny_seqItems g1 g3 (aA ?_));show wpAny _ _ (forIn aG.toArray _ _) _ _ s;rw[<-Array.forIn_toList];refine wpAny_forIn_list _ (λrest r s'=>r.1=none/\s'=s/\∃left wl,bF X.K H wl (TK.dl left)/\Vals wl rest/\∀x∈left,x.ok n=true) _ ?_ ?_ _ _ ⟨rfl,rfl,l,ws,i,rv,λx m=>oO.mp ok x m⟩
    .rintro v rest r s' ⟨hr,rfl,left,wl,r',v',hk⟩;cases v' with
     |@cons w1 _ wl _ Nn v'=>
      cases left with
      |nil=>have:=r'.length;simp[TK.dl] at this
      |cons k1 left=>
       simp only[TK.dl] at r';refine aA (ih I r'.inv.1 (hk k1 (by simp)) Nn ?_)
       simp only[mf,uc,kP];exact aX ⟨rfl,rfl,left,wl,r'.inv.2,v',λx m=>hk x (by simp[m])⟩
    .rintro⟨r1,r2⟩ s' ⟨hr,rfl,_⟩;cases(show r1=none from hr);exact aX h
structure C8 (X:Cx) (A:cR) (E:ai->av->Prop) (s:av) (xs:Array DictEntry) (es:List (TK×V×V)) (k:TK) (u:ai):Prop where
 ent:∀(j:Nat) (x:DictEntry),xs[j]?=some x->∃e,es[j]?=some e/\jD X.w e x/\(∀(R:Bool->av->Prop),R (decide (e.1=k)) s->wpAny (model X.prog X.w) A (eqBool x.key u) R E s)/\
  ∀(R:Bool->av->Prop),R true s->wpAny (model X.prog X.w) A (eqIsQuiet 8 x.key) R E s
 ents:∀(j:Nat) (e:TK×V×V),es[j]?=some e->∃x:DictEntry,xs[j]?=some x/\jD X.w e x
 uniq:∀(i j:Nat) (e f:TK×V×V),es[i]?=some e->es[j]?=some f->e.1=k->f.1=k->i=j
def e5s{A:cR}{E:ai->av->Prop}{s:av}{xs:Array DictEntry}{es:List (TK×V×V)}{k:TK}{y:V}{u:ai}(I:Inv X aa Z H s)(g3:Paired (jD X.w) es xs.toList)(g4:(es.map (·.1)).Nodup)
  (rk:bF X.K H (es.map (·.2.1)) (es.map (·.1.d))) (ry:bF X.K H [y] [k.d]) (ok:k.ok 8=true) (ru:RelV y u) (hu:A.units+8<cLine):C8 X A E s xs es k u where
 ent:=λj x hx=>by
  obtain⟨e,e1,e2⟩:=Hy j g3 (by rw[zK];exact hx)
  obtain⟨v,v1,v2⟩:=rk.get (i:=j) (d:=e.1.d) (by rw[fU,e1];rfl)
  rw[fU,e1] at v1;cases v1;refine⟨e,e1,e2,λR hR=>?_,λR hR=>PK 8 I v2 e2.2.2.2 e2.2.1 hR⟩
  refine(Lw I 8 8 v2 ry (Ck 8 e2.2.2.2) (Ck 8 ok) e2.2.1 ru hu).1 X.prog X.w E R ?_;rw[Ll];exact hR
 ents:=λj e he=>by
  obtain⟨x,x1,x2⟩:=DF j g3 he
  simp_all
 uniq:=λi j e f he hf ek fk=>by
  have hi:(es.map (·.1))[i]?=some k:=by rw[fU,he,<-ek];rfl
  have hj:(es.map (·.1))[j]?=some k:=by rw[fU,hf,<-fk];rfl
  exact(List.getElem?_inj (eY.mp hi).1 g4).mp (hi.trans hj.symm)
section
variable{A:cR}{E:ai->av->Prop}{s:av}{d:ag}{o:Obj}{xs:Array DictEntry}{ep:Nat}{es:List (TK×V×V)}{k:TK}{u:ai}{Q:aj Nat->av->Prop}
noncomputable abbrev qv(xs:Array DictEntry)(h:Int):List Nat:=placesWithHash xs.size (λi=>xs[i]?.map (·.hash)) h
def oB{h:Int}{i:Nat}:i∈qv xs h↔∃x,xs[i]?=some x/\x.hash=h:=by
 unfold qv placesWithHash;rw[wx,tV];constructor
 .rintro⟨h1,h2⟩;refine⟨xs[i],wC h1,?_⟩;dsimp only at h2;rw[wC h1] at h2;simpa using h2
 .rintro⟨x,h1,h2⟩;refine⟨(C4.mp h1).1,?_⟩;dsimp only;rw[h1,C7,h2];simp
def Xa{h:Int}:(qv xs h).Nodup:=List.Nodup.sublist JI N9
def C8.qv(D:C8 X A E s xs es k u){j:Nat}{e:TK×V×V}(he:es[j]?=some e)(ek:e.1=k):j∈qv xs (k.hash X.w):=by
 obtain⟨x,x1,x2⟩:=D.ents j e he;exact oB.mpr ⟨x,x1,by rw[x2.1,ek]⟩
def Xb(D:C8 X A E s xs es k u)(g1:s.heap.get? d=some o)(g2:o.data=.dict xs ep)
  (q0:(∀(j:Nat) (e:TK×V×V),es[j]?=some e->e.1≠k)->Q none s) (q1:∀(j:Nat) (e:TK×V×V),es[j]?=some e->e.1=k->Q (some j) s) :
  wpAny (model X.prog X.w) A (dictWalkPlain d u (k.hash X.w) xs (qv xs (k.hash X.w))) Q E s:=by
 unfold dictWalkPlain;refine aA (wpAny_forIn_list _ (λrest b s'=>s'=s/\b=(none,())/\∃done,qv xs (k.hash X.w)=done++rest/\∀j e,j∈done->es[j]?=some e->e.1≠k) _ ?_ ?_ _ _ ⟨rfl,rfl,[],rfl,λ_ _ m=>by cases m⟩)
 .rintro i rest b s' ⟨rfl,rfl,done,hd,wj⟩;obtain⟨x,x1,x2⟩:=oB.mp (show i∈qv xs (k.hash X.w) by rw[hd];simp)
  obtain⟨e,e1,e2,eq,_⟩:=D.ent i x x1;simp only[x1];rw[bK (by rw[x2];simp)]
  refine aA (wpAny_dictEpoch g1 g2 (aA (eq _ (aA (wpAny_dictEpoch g1 g2 ?_)))));rw[bD (by simp)]
  by_cases ek:e.1=k
  .rw[vQ ek];exact aA (wpAny_rule (aX (aX (q1 i e e1 ek))))
  .rw[wH ek];refine aA (wpAny_rule (aX ⟨rfl,rfl,done++[i],by simp[hd],λj f m hf=>?_⟩))
   rcases jC.mp m with m|m
   .exact wj j f m hf
   .simp at m;subst m;rw[e1] at hf;cases hf;exact ek
 .rintro b s' ⟨rfl,rfl,done,hd,wj⟩;refine aX (q0 λj e he ek=>wj j e ?_ he ek)
  have:=D.qv he ek
  simp_all
def idv(u:ai):ai:=u
def YG(D:C8 X A E s xs es k u)(g1:s.heap.get? d=some o)(g2:o.data=.dict xs ep)(hq:∀(R:Bool->av->Prop),R true s->wpAny (model X.prog X.w) A (eqIsQuiet 8 u) R E s)
  (hs:∀z t,u=.str z t->k=.inr z) (lV:∀(j:Nat) (x:DictEntry) (e:TK×V×V) z t,xs[j]?=some x->es[j]?=some e->x.key=.str z t->e.1=.inr z) (hh:∀a (j:Nat) (x:DictEntry) (e:TK×V×V),u=.ref a->xs[j]?=some x->es[j]?=some e->x.key=u->e.1=k)
  (q0:(∀(j:Nat) (e:TK×V×V),es[j]?=some e->e.1≠k)->Q none s) (q1:∀(j:Nat) (e:TK×V×V),es[j]?=some e->e.1=k->Q (some j) s) :
  wpAny (model X.prog X.w) A (dictFind d u (k.hash X.w)) Q E s:=by
 have walk:=Xb D g1 g2 q0 q1;have stored:∀v∈(qv xs (k.hash X.w)).filterMap (λi=>xs[i]?.map (·.key)),∀(R:Bool->av->Prop),R true s->wpAny (model X.prog X.w) A (eqIsQuiet 8 v) R E s:=by
  intro v hv R hR;obtain⟨i,_,hi⟩:=BF.mp hv;cases hx:xs[i]? with
  |none=>rw[hx] at hi;cases hi
  |some x=>
   rw[hx] at hi;obtain rfl:x.key=v:=by simpa using hi
   obtain⟨e,_,_,_,h⟩:=D.ent i x hx;exact h R hR
 have tell:∀(R:Bool->av->Prop),R false s->wpAny (model X.prog X.w) A (tableMayTell u ((qv xs (k.hash X.w)).filterMap λi=>xs[i]?.map (·.key))) R E s:=by
  intro R hR;unfold tableMayTell;split
  .exact aX hR
  .refine aA (hq _ ?_);simp only[mf,uc,kP];refine aA (wpAny_forIn_list _ (λrest r s'=>s'=s/\r=(none,())/\∀v∈rest,∀(R:Bool->av->Prop),R true s->wpAny (model X.prog X.w) A (eqIsQuiet 8 v) R E s) _ ?_ ?_ _ _ ⟨rfl,rfl,stored⟩)
   .rintro x rest r s' ⟨rfl,rfl,hr⟩;refine aA (hr x (by simp) _ ?_)
    simp only[mf,uc,kP];exact aX ⟨rfl,rfl,λv hv=>hr v (by simp[hv])⟩
   .rintro r s' ⟨rfl,rfl,_⟩;exact aX hR
 have tell2:∀(R:Bool->av->Prop),R false s->wpAny (model X.prog X.w) A (if((qv xs (k.hash X.w)).filterMap (λi=>xs[i]?.map (·.key)) == [u])=true then pure false else tableMayTell u ((qv xs (k.hash X.w)).filterMap λi=>xs[i]?.map (·.key))) R E s:=by
  intro R hR;split
  .exact aX hR
  .exact tell R hR
 have fin:∀(i:Nat) (x:DictEntry) (e:TK×V×V),xs[i]?=some x->es[i]?=some e->jD X.w e x->(x.hash == k.hash X.w)=false->e.1≠k:=λi x e _ _ he hf ek=>by
  rw[he.1,ek] at hf;simp at hf
 unfold dictFind
 (try with_reducible refine mh ?_);refine aA (wpAny_dictEntries g1 g2 ?_)
 dsimp only;by_cases kI:((u::(qv xs (k.hash X.w)).filterMap λi=>xs[i]?.map (·.key)).all carriedByValue)=true
 .rw[bK kI];split;next z t=>
   split;next MF=>
    unfold foundByValue;cases hf:xs.findIdx? (λe=>e.key.isStr z) with
    |none=>
     refine aX (q0 λj e he ek=>?_)
     obtain⟨x,x1,x2⟩:=D.ents j e he;have n1:=Array.findIdx?_eq_none_iff.mp hf x (Array.mem_of_getElem? x1);have e2:=x2.2.1;have n2:isExactStrKey x.key=true:=by
      have h:=Array.all_eq_true.mp MF j (C4.mp x1).1;rw[(C4.mp x1).2] at h;exact h
     cases hk:x.key with
     |str z2 t2=>
      have e3:=lV j x e z2 t2 x1 he hk;rw[ek,hs z t rfl] at e3;cases e3;rw[hk] at n1;simp[Value.isStr] at n1
     |_=>rw[hk] at n2;cases n2
    |some i=>
     obtain⟨om,hi,_⟩:=Array.findIdx?_eq_some_iff_getElem.mp hf;obtain⟨e,e1,e2,eq,_⟩:=D.ent i xs[i] (wC om);have ek:e.1=k:=by
      cases hk:xs[i].key with
      |str z2 t2=>
       rw[hk] at hi;have:z2=z:=by simpa[Value.isStr] using hi
       subst this;rw[lV i _ e z2 t2 (wC om) e1 hk,hs z2 t rfl]
      |_=>rw[hk] at hi;simp[Value.isStr] at hi
     simp only[wC om];refine aA (wpAny_dictEpoch g1 g2 (aA (eq _ (aA (wpAny_dictEpoch g1 g2 ?_)))));rw[bD (by simp),vQ ek]
     exact aA (wpAny_rule (aX (q1 i e e1 ek)))
   next=>exact walk
  next=>exact walk
 .rw[bD kI];have Fx:∀z t,u=.str z t->¬(xs.all λe=>isExactStrKey e.key)=true:=by
   intro z t hu hx;refine kI (oO.mpr λv hv=>?_)
   rcases y0a.mp hv with rfl|hv
   .rw[hu];rfl
   .obtain⟨i,_,hi⟩:=BF.mp hv;cases xG:xs[i]? with
    |none=>rw[xG] at hi;cases hi
    |some x=>
     rw[xG] at hi;obtain rfl:x.key=v:=by simpa using hi
     have h:=Array.all_eq_true.mp hx i (C4.mp xG).1;rw[(C4.mp xG).2] at h;cases hk:x.key with
     |str _ _=>rfl
     |_=>rw[hk] at h;cases h
  have zj:∀a,u=.ref a->¬(xs.any λe=>e.key == u&&e.hash != k.hash X.w)=true:=by
   intro a hu hx;rw[Array.any_eq_true] at hx;obtain⟨i,hi,hc⟩:=hx;rw[kO,beq_iff_eq,bne_iff_ne] at hc;obtain⟨e,e1,e2,_⟩:=D.ent i xs[i] (wC hi);have:=hh a i _ e hu (wC hi) e1 hc.1;exact hc.2 (by rw[e2.1,this])
  have Mr:u=idv u:=rfl;refine(λ(key:?P)=>?main) ?k
  case main=>
   rw(occs:=.pos [1]) [Mr];split
   .rename_i z t hz
    rw[bD (Fx z t hz)];rw(occs:=.pos [1]) [Mr];split
    .rename_i a ha
     rw[bD (zj a ha)];exact key
    .exact key
   .rw(occs:=.pos [1]) [Mr];split
    .rename_i a ha
     rw[bD (zj a ha)];exact key
    .exact key
  refine(λ(tQ:?P2)=>?Fm) ?k2
  case Fm=>
   refine W_ ?_ ?_
   .refine aA (aX ?_);exact tQ
   .refine aA (tell _ ?_);exact tQ
  all_goals (
   show wpAny _ _ (if(false&&_)=true then _ else _) _ _ _
   rw[bD (by rw[Bool.false_and];exact vM)]
   refine aA (wpAny_forIn_list _ (λrest b s'=>s'=s/\∃hit done,b=(none,hit)/\qv xs (k.hash X.w)=done++rest/\((hit=none/\∀(j:Nat) (e:TK×V×V),j∈done->es[j]?=some e->e.1≠k)\/∃(j:Nat) (e:TK×V×V),hit=some j/\j∈done/\es[j]?=some e/\e.1=k)) _ ?_ ?_ _ _
    ⟨rfl,none,[],rfl,rfl,.inl ⟨rfl,λ_ _ m=>by cases m⟩⟩)
   .rintro i rest b s' ⟨rfl,hit,done,rfl,hd,hH⟩;obtain⟨x,x1,x2⟩:=oB.mp (show i∈qv xs (k.hash X.w) by rw[hd];simp)
    obtain⟨e,e1,e2,eq,_⟩:=D.ent i x x1;have hni:i∉done:=λm=>by
     have:=Xa (xs:=xs) (h:=k.hash X.w);rw[hd] at this;exact(oV.mp this).2.2 i m i (by simp) rfl
    simp only[x1];rw[bK (by rw[x2];simp)]
    refine aA (wpAny_dictEpoch g1 g2 (aA (eq _ (aA (wpAny_dictEpoch g1 g2 ?_)))));rw[bD (by simp)]
    by_cases ek:e.1=k
    .rw[vQ ek];rcases hH with⟨rfl,wj⟩|⟨j,f,rfl,jd,jf,fk⟩
     .first|rw[bK rfl]|skip
      simp only[zM,uc,kP];first|refine aA (aX ?_)|skip
      refine aA (wpAny_rule ?_);split
      .exact aX (aX (q1 i e e1 ek))
      .exact aX ⟨rfl,some i,done++[i],rfl,by simp[hd],.inr ⟨i,e,rfl,by simp,e1,ek⟩⟩
     .exact cJ (D.uniq i j e f e1 jf ek fk) λz=>hni (by rw[z];exact jd)
    .rw[wH ek];have nx:(hit=none/\∀(j:Nat) (e:TK×V×V),j∈done++[i]->es[j]?=some e->e.1≠k)\/∃(j:Nat) (e:TK×V×V),hit=some j/\j∈done++[i]/\es[j]?=some e/\e.1=k:=by
      rcases hH with⟨h0,wj⟩|⟨j,f,h0,jd,jf,fk⟩
      .refine .inl ⟨h0,λj f m hf=>?_⟩
       rcases jC.mp m with m|m
       .exact wj j f m hf
       .simp at m;subst m;rw[e1] at hf;cases hf;exact ek
      .exact .inr ⟨j,f,h0,by simp[jd],jf,fk⟩
     simp only[uc,kP];refine aA (wpAny_rule ?_);first|rw[bD (by simp)]|skip
     first
      |exact aX ⟨rfl,hit,done++[i],rfl,by simp[hd],nx⟩
      |exact aA (aX (aX ⟨rfl,hit,done++[i],rfl,by simp[hd],nx⟩))
   .rintro b s' ⟨rfl,hit,done,rfl,hd,hH⟩;rcases hH with⟨rfl,wj⟩|⟨j,f,rfl,jd,jf,fk⟩
    .refine aX (q0 λj e he ek=>wj j e ?_ he ek)
     have:=D.qv he ek;rw[hd] at this;simpa using this
    .exact aX (q1 j f jf fk))
end
end
variable{k:TK}{y:V}{o:aj V}{Q:ai->av->Prop}{H':Hp}
noncomputable def kN(es:List (TK×V×V))(k:TK):aj V:=(es.find? λe=>decide (e.1=k)).map (·.2.2)
noncomputable def dN:List (TK×V×V)->TK->V->V->List (TK×V×V)
 |[],k,y,v=>[(k,y,v)]
 |e::es,k,y,v=>if e.1=k then(e.1,e.2.1,v)::es else e::dN es k y v
noncomputable def tU(es:List (TK×V×V))(k:TK)(ep:Nat):Nat:=if(es.any λe=>decide (e.1=k))=true then ep else ep+1
def iC(K:aL)(H:Hp)(a:ag)(y:V)(r:aj V):Prop:=∃es ep k,H a=some (.dG es ep)/\bF K H (es.map (·.2.1)) (es.map (·.1.d))/\bF K H [y] [k.d]/\k.ok 8=true/\r=kN es k
def zX(K:aL)(H:Hp)(a:ag)(y v:V)(H':Hp):Prop:=∃es ep k,H a=some (.dG es ep)/\bF K H (es.map (·.2.1)) (es.map (·.1.d))/\bF K H [y] [k.d]/\k.ok 8=true/\es.length<sizeLine/\H'=upd H a (.dG (dN es k y v) (tU es k ep))
def d9l{j:TK}(e:k.d=j.d)(h:k.ok 8=true):k=j:=by
 have h1:=Ll k j;rw[<-e,K1 8 (Ck 8 h)] at h1
 lia
section
variable{X:Cx}{aa:List (ag×Obj)}{Z:St}{H:Hp}
def Ro{z:Str}{t:Tok}(r:bF X.K H [y] [k.d])(ru:RelV y (.str z t)):k=.inr z:=by
 cases k with
 |inl i=>simp only[TK.d] at r;cases r with|flat q _=>cases q;obtain⟨t,e⟩:=ru;cases e
 |inr i=>simp only[TK.d] at r;cases r with|flat q _=>cases q;obtain⟨t,e⟩:=ru;cases e;rfl
 |tp l=>simp only[TK.d] at r;cases r with|flat q _=>cases q|tup q _ _=>cases ru
 |aH=>simp only[TK.d] at r;cases r with|flat q _=>cases q;cases ru
def Rq{a:ag}(ru:RelV y (.ref a)):y=.ref a:=by
 cases y with
 |ref b=>cases ru;rfl
 |aH=>cases ru
 |bl _=>cases ru
 |ty _=>cases ru
 |_=>obtain⟨t,e⟩:=ru;cases e
section
variable{A:cR}{E:ai->av->Prop}{s:av}{d:ag}{es:List (TK×V×V)}{k:TK}{y v:V}{u r:ai}
def Sz{o:Obj}{xs:Array DictEntry}{ep:Nat}{Q:aj Nat->av->Prop}(I:Inv X aa Z H s)(g1:s.heap.get? d=some o)(g2:o.data=.dict xs ep)(g3:Paired (jD X.w) es xs.toList)(g4:(es.map (·.1)).Nodup)
  (rk:bF X.K H (es.map (·.2.1)) (es.map (·.1.d))) (ry:bF X.K H [y] [k.d]) (ok:k.ok 8=true) (ru:RelV y u) (hu:A.units+8<cLine)
  (q0:(∀(j:Nat) (e:TK×V×V),es[j]?=some e->e.1≠k)->Q none s) (q1:∀(j:Nat) (e:TK×V×V),es[j]?=some e->e.1=k->Q (some j) s):wpAny (model X.prog X.w) A (dictFind d u (k.hash X.w)) Q E s:=by
 have at':∀(j:Nat) (x:DictEntry) (e:TK×V×V),xs[j]?=some x->es[j]?=some e->jD X.w e x/\bF X.K H [e.2.1] [e.1.d]:=by
  intro j x e hx he;obtain⟨e',e1,e2⟩:=Hy j g3 (by rw[zK];exact hx)
  rw[he] at e1;cases e1;obtain⟨v,v1,v2⟩:=rk.get (i:=j) (d:=e.1.d) (by rw[fU,he];rfl)
  simp_all
 refine YG (e5s I g3 g4 rk ry ok ru hu) g1 g2 (λR hR=>PK 8 I ry ok ru hR) (λz t e=>Ro ry (by rw[<-e];exact ru)) (λj x e z t hx he hk=>?_) (λa j x e vf hx he hk=>?_) q0 q1
 .obtain⟨g,r'⟩:=at' j x e hx he;exact Ro r' (by rw[<-hk];exact g.2.1)
 .obtain⟨g,r'⟩:=at' j x e hx he;have h1:=g.2.1;rw[hk,vf] at h1;rw[vf] at ru;rw[Rq h1] at r';rw[Rq ru] at ry;exact d9l (Ig I 8 8 r' ry (Ck 8 g.2.2.2) (Ck 8 ok)) g.2.2.2
def Xc(h:∀(j:Nat) (e:TK×V×V),es[j]?=some e->e.1≠k):kN es k=none:=by
 unfold kN;rw[N_.mpr λe m z=>?_,Option.map_none]
 obtain⟨j,hj⟩:=BH.mp m;exact h j e hj (yr z)
def Xd(hn:(es.map (·.1)).Nodup){j:Nat}{e:TK×V×V}(he:es[j]?=some e)(ek:e.1=k):kN es k=some e.2.2:=by
 induction es generalizing j with
 |nil=>simp at he
 |cons x es ih=>
  rw[cU,t_] at hn;unfold kN;rw[GF];cases j with
  |zero=>
   simp only[List.getElem?_cons_zero,Option.some.injEq] at he;subst he;rw[vQ ek];rfl
  |succ j=>
   simp only[List.getElem?_cons_succ] at he;have ne:¬x.1=k:=λz=>hn.1 (by rw[z,<-ek];exact jQ.mpr ⟨e,vO he,rfl⟩)
   rw[wH ne];exact ih hn.2 he
def KI{Q:aj ai->av->Prop}(hu:A.units+8<cLine)(I:Inv X aa Z H s)(g:iC X.K H d y o)(ru:RelV y u)(h:∀w t,iU o w->Q w { s with toks:=t}):
  wpAny (model X.prog X.w) A (dictGet d u) Q E s:=by
 obtain⟨es,ep,k,hd,rk,ry,ok,rfl⟩:=g;obtain⟨_,_,ob,xs,g1,_,g2,g3,g4⟩:=(show bC X.prog X.w H s.heap d (.dG es ep) from I.bx d _ hd);unfold dictGet
 (try with_reducible refine mh ?_);refine aA (Qk 8 I ry ok ru hu λt=>aA (Sz (I.tok t) g1 g2 g3 g4 rk ry ok ru hu (λq0=>?_) (λj e he ek=>?_)))
 .exact aX (h none t (by rw[Xc q0];exact vS))
 .obtain⟨x,x1,x2⟩:=DF j g3 he;refine aA (wpAny_dictEntries (s:={ s with toks:=t}) g1 g2 (aX ?_));rw[<-zK,x1];exact h (some x.val) t (by rw[Xd g4 he ek];exact x2.2.2.1)
def iC.ty(I:Inv X aa Z H s)(g:iC X.K H d y o):s.TypeIs (.ref d) "dict"/\(d == sysModules)=false:=by
 obtain⟨es,ep,k,hd,_⟩:=g;obtain⟨_,z,ob,xs,g1,g5,_⟩:=(show bC X.prog X.w H s.heap d (.dG es ep) from I.bx d _ hd);exact⟨⟨ob,g1,g5.1⟩,z⟩
def PL(hu:A.units+9<cLine)(I:Inv X aa Z H s)(g:iC X.K H d y (some v))(ru:RelV y u)(h:∀w' s',Inv X aa Z H s'->RelV v w'->Q w' s'):wpAny (model X.prog X.w) A (getItem (.ref d) u) Q E s:=by
 have hT:=(g.ty I).1;unfold getItem
 (try with_reducible refine mh ?_);refine aA (wpAny_sequenceKey hT (by decide) (aA (wpAny_callSpecial?_slot (name:=Str.ofString "__getitem__") hT slot_dict_getitem (wpAny_call_entry slot_dict_getitem hT entry_dict_getitem ?_ (args_dict_getitem _ _)))))
 show wpAny _ _ (dictGet d u >>= _) _ _ s;refine aA (KI (by show A.units+1+8<cLine;lia) I g ru λw t oH=>?_)
 obtain⟨w',rfl,r'⟩:=iU.some_of oH;exact aX ⟨w',rfl,aX (h w' _ (I.tok t) r')⟩
def Pa{Q:Bool->av->Prop}(hu:A.units+9<cLine)(I:Inv X aa Z H s)(g:iC X.K H d y o)(ru:RelV y u)(h:∀s',Inv X aa Z H s'->Q o.isSome s'):wpAny (model X.prog X.w) A (contains (.ref d) u) Q E s:=by
 obtain⟨hT,hd⟩:=g.ty I;unfold contains
 (try with_reducible refine mh ?_);refine aA (wpAny_specialOf hT slot_dict_contains.lookup ?_)
 dsimp only;rw[bD (by rw[beq_builtin_none];exact vM)]
 refine aA (wpAny_callSpecialUnlessNone?_slot (name:=Str.ofString "__contains__") hT slot_dict_contains (wpAny_call_entry slot_dict_contains hT entry_dict_contains ?_ (args_dict_contains _ _)));show wpAny _ _ (dictGet d u >>= _) _ _ s;refine aA (KI (by show A.units+1+8<cLine;lia) I g ru λw t oH=>?_)
 have e:=oH.tO;cases w with
 |some w=>
  show wpAny _ _ (ret (.bool true)) _ _ _;refine aX ⟨_,rfl,wpAny_truthy_bool ?_⟩;have:=h _ (I.tok t)
  simp_all
 |none=>
  show wpAny _ _ (Builtin.Dict.pendingKey? d u >>= _) _ _ _;refine aA (wpAny_pendingKey_other hd (aX ⟨_,rfl,wpAny_truthy_bool ?_⟩));have:=h _ (I.tok t)
  simp_all
def N1(hu:A.units+9<cLine)(I:Inv X aa Z H s)(g:iC X.K H d y o)(ru:RelV y u)(h:∀s',Inv X aa Z H s'->Q (.bool o.isSome) s'):wpAny (model X.prog X.w) A (compareOp .In u (.ref d)) Q E s:=
 aA (Pa hu I g ru λs' I'=>aX (h s' I'))
def d9m(hu:A.units+9<cLine)(I:Inv X aa Z H s)(g:iC X.K H d y o)(ru:RelV y u)(h:∀s',Inv X aa Z H s'->Q (.bool (!o.isSome)) s'):wpAny (model X.prog X.w) A (compareOp .NotIn u (.ref d)) Q E s:=
 aA (Pa hu I g ru λs' I'=>aX (h s' I'))
theorem Hh(k:TK)(y v:V):∀es:List (TK×V×V),(dN es k y v).length<=es.length+1
 |[]=>by simp[dN]
 |e::es=>by
  unfold dN;have:=Hh k y v es;split <;> simp <;> lia
theorem Ql:∀{es:List (TK×V×V)},(∀(j:Nat) (e:TK×V×V),es[j]?=some e->e.1≠k)->dN es k y v=es++[(k,y,v)]
 |[],_=>rfl
 |e::es,h=>by
  unfold dN;rw[bD (h 0 e rfl),Ql λj x hx=>h (j+1) x (by simpa using hx)]
  rfl
def d9n{w:cB}{xs:List DictEntry}(g3:Paired (jD w) es xs)(ry:RelV y u)(rv:RelV v r)(ok:k.ok 8=true):Paired (jD w) (es++[(k,y,v)]) (xs++[⟨k.hash w,u,r⟩]):=by
 induction g3 with
 |nil=>exact .cons ⟨rfl,ry,rv,ok⟩ .nil
 |cons a _ ih=>exact .cons a ih
theorem Rr{w:cB}:∀{es:List (TK×V×V)} {xs:List DictEntry} {j:Nat} {e:TK×V×V},Paired (jD w) es xs->(es.map (·.1)).Nodup->es[j]?=some e->e.1=k->RelV v r->
  Paired (jD w) (dN es k y v) (xs.modify j λx=>{ x with val:=r})/\(dN es k y v).map (·.1)=es.map (·.1)
 |_,_,_,_,.nil,_,he,_,_=>by simp at he
 |_::es,_::xs,0,e,.cons a t,hn,he,ek,rv=>by
  simp only[List.getElem?_cons_zero,Option.some.injEq] at he;subst he;unfold dN;rw[bK ek];exact⟨.cons ⟨a.1,a.2.1,rv,a.2.2.2⟩ t,rfl⟩
 |x::es,_::xs,j+1,e,.cons a t,hn,he,ek,rv=>by
  simp only[List.getElem?_cons_succ] at he;rw[cU,t_] at hn;have ne:¬x.1=k:=λz=>hn.1 (by rw[z,<-ek];exact jQ.mpr ⟨e,vO he,rfl⟩)
  unfold dN;rw[bD ne];have ih:=Rr t hn.2 he ek rv;exact⟨.cons a ih.1,by rw[cU,cU,ih.2]⟩
def KJ{Q:Unit->av->Prop}(hu:A.units+8<cLine)(I:Inv X aa Z H s)(g:zX X.K H d y v H')(ru:RelV y u)(rv:RelV v r)(h:∀s',Inv X aa Z H' s'->Q () s'):
  wpAny (model X.prog X.w) A (dictSet d u r) Q E s:=by
 obtain⟨es,ep,k,hd,rk,ry,ok,hl,rfl⟩:=g;obtain⟨_,z,ob,xs,g1,g5,g2,g3,g4⟩:=(show bC X.prog X.w H s.heap d (.dG es ep) from I.bx d _ hd);have hz:xs.size<=sizeLine:=by have:=Paired.length g3;simp at this;lia
 have Jh:(dN es k y v).length<=sizeLine:=by have:=Hh k y v es;lia
 unfold dictSet
 (try with_reducible refine mh ?_);refine aA (Qk 8 I ry ok ru hu λt=>?_)
 unfold dictSetHashed
 (try with_reducible refine mh ?_);refine aA (Sz (I.tok t) g1 g2 g3 g4 rk ry ok ru hu (λq0=>?_) (λj e he ek=>?_))
 .have T1:dN es k y v=es++[(k,y,v)]:=Ql q0;have L0:tU es k ep=ep+1:=bD (by
   rw[Oa];rintro⟨e,m,q⟩;obtain⟨j,hj⟩:=BH.mp m;exact q0 j e hj (yr q))
  rw[L0] at h;refine aA (wpAny_rule (wpAny_updateDictKeys (hz:=hz) (s:={ s with toks:=t}) g1 g2 (h _ ?_)));refine Li (I.tok t) (by rw[hd];exact vS) (Heap.SameBut.update ..) ⟨_,ub _ g1 (Obj.isFreed_of_dict (Obj.data_mapDictKeys g2 _))⟩ ⟨Jh,z,_,_,ub _ g1 (Obj.isFreed_of_dict (Obj.data_mapDictKeys g2 _)),g5.mapDictKeys _,Obj.data_mapDictKeys g2 _,?_,?_⟩
  .rw[T1,Array.toList_push];exact d9n g3 ru rv ok
  .rw[T1,gF,oV];refine⟨g4,by simp,λa m b m' e=>?_⟩
   simp at m';subst m';obtain⟨x,mx,rfl⟩:=jQ.mp m;obtain⟨j,hj⟩:=BH.mp mx;exact q0 j x hj e
 .have em:=Rr (y:=y) g3 g4 he ek rv;have L0:tU es k ep=ep:=bK (Oa.mpr ⟨e,vO he,vQ ek⟩);rw[L0] at h;refine aA (wpAny_rule (aA (wpAny_updateDict (s:={ s with toks:=t}) g1 g2 (wpAny_point (h _ ?_)))));refine Li (I.tok t) (by rw[hd];exact vS) (Heap.SameBut.update ..) ⟨_,ub _ g1 (Obj.isFreed_of_dict (Obj.data_mapDict g2 _))⟩ ⟨Jh,z,_,_,ub _ g1 (Obj.isFreed_of_dict (Obj.data_mapDict g2 _)),g5.mapDict _,Obj.data_mapDict g2 _,?_,?_⟩
  all_goals simp_all
def Xe{Q:Unit->av->Prop}(hu:A.units+9<cLine)(I:Inv X aa Z H s)(g:zX X.K H d y v H')(ru:RelV y u)(rv:RelV v r)(h:∀s',Inv X aa Z H' s'->Q () s'):
  wpAny (model X.prog X.w) A (setItem (.ref d) u r) Q E s:=by
 have hT:s.TypeIs (.ref d) "dict":=by
  obtain⟨es,ep,k,hd,rk,ry,ok,_⟩:=g;exact(iC.ty I ⟨es,ep,k,hd,rk,ry,ok,rfl⟩).1
 unfold setItem
 (try with_reducible refine mh ?_);refine aA (wpAny_sequenceKey hT (by decide) (aA (wpAny_callSpecial?_slot (name:=Str.ofString "__setitem__") hT slot_dict_setitem (wpAny_call_entry slot_dict_setitem hT entry_dict_setitem ?_ (args_dict_setitem _ _ _)))))
 show wpAny _ _ (Builtin.Dict.notOrdered "__setitem__" ⟨[.ref d,u,r],[]⟩ >>= _) _ _ s;refine aA (wpAny_notOrdered_dict hT ?_);show wpAny _ _ (dictSet d u r >>= λz=>_) _ _ s
 exact aA (KJ (by show A.units+1+8<cLine;lia) I g ru rv λs' I'=>aX ⟨.none,rfl,aX (h s' I')⟩)
def e5t(hu:A.units+9<cLine)(I:Inv X aa Z H s)(g:iC X.K H d y o)(ru:RelV y u)(h:∀w' s',Inv X aa Z H s'->RelV (o.getD .aH) w'->Q w' s'):
  wpAny (model X.prog X.w) A (call (.builtin "dict.get") [.ref d,u]) Q E s:=by
 obtain⟨hT,hd⟩:=g.ty I;refine wpAny_call_entry PySem.F.slot_dict_get hT PySem.F.entry_dict_get ?_ (PySem.F.args_dict_get_2 _ _);show wpAny _ _ (dictGet d u >>= _) _ _ s;refine aA (KI (by show A.units+1+8<cLine;lia) I g ru λw t oH=>?_)
 cases o with
 |none=>
  cases w with
  |none=>
   show wpAny _ _ (Builtin.Dict.missed d u >>= _) _ _ _;exact aA (wpAny_missed_other hd (aX ⟨.none,rfl,h .none _ (I.tok t) rfl⟩))
  |some w=>exact oH.elim
 |some v'=>
  cases w with
  |none=>exact oH.elim
  |some w=>exact aX ⟨w,rfl,h w _ (I.tok t) oH⟩
end
end
section
variable{X:Cx}
def vC(K:aL):R2:=λx y H Q=>∃l b xs zs,x=.ref l/\y=.ref b/\cS K H l xs/\cS K H b zs/\xs.length+zs.length<=sizeLine/\∀p,H p=none->Q (.ref p) (upd H p (.lst (xs++zs)))
def d9o:dF X (binaryOp .Add) (vC X.K):=by
 intro aa s Z H x y v u Q I rx ry h;obtain⟨l,b,xs,zs,rfl,rfl,hH,hB,hz,q⟩:=h;cases rx;cases ry;obtain⟨aG,r,pl,_⟩:=I.list hH;obtain⟨mJ,r2,Nd,_⟩:=I.list hB;have hl:=r.length;have Jh:=r2.length;obtain⟨⟨cls,dd,data,sl⟩,ho,hc,n,hd⟩:=id pl.isList;obtain⟨⟨cls2,dd2,data2,Jw⟩,Um,u_,n2,hd2⟩:=id Nd.isList;simp only at hc hd u_ hd2;subst hc hd u_ hd2;have ea:aG.toArray++mJ.toArray=(aG++mJ).toArray:=by simp
 refine concat_meets ⟨_,ho,rfl⟩ ⟨_,Um,rfl⟩ noFill_list_add seq_list_add PySem.F.slot_list_add PySem.F.entry_list_add (PySem.F.args_list_add_2 _ _) (list_addW l b aG.toArray mJ.toArray n n2 dd dd2 sl Jw (by simp only[fF];lia)) ⟨ho,Um,?_⟩
 rw[ea];exact⟨.ref _,_,I.MV (t':=s.toks) (r.append r2) (by rw[dz];lia),rfl,q _ I.fresh⟩
def YS(K:aL)(hK:X.K=K:=by rfl):dF X (binaryOp .Add) (vC K):=hK ▸ d9o
end
variable{n:Nat}
instance (z:Str) (n:Int):Decidable (MulOk z n):=by unfold MulOk;infer_instance
abbrev rd(x:D):Rv:=.v (.d x)
section
variable{K:aL}{k:Kn}{H:Hp}{x:V}{xs:List V}{d e:D}{vs:List V}{ds:List D}
def ah.zo(h:ah K k vs ds)(ok:ds.all (fS n)=true):ah K ⟨k.F,[],[]⟩ vs ds:=by
 induction h generalizing n with
 |nil=>exact .nil
 |flat e _ ih=>rw[vP,kO] at ok;exact .flat e (ih ok.2)
 |ref _ _ _=>rw[vP,kO] at ok;obtain⟨ok,_⟩:=ok;cases n <;> cases ok
 |lst e _ _ i1 i2=>
  rw[vP,kO] at ok;obtain⟨m,rfl,o⟩:=DY ok.1;exact .lst e (i1 o) (i2 ok.2)
 |tup e _ _ i1 i2=>
  rw[vP,kO] at ok;obtain⟨m,rfl,o⟩:=DZ ok.1;exact .tup e (i1 o) (i2 ok.2)
 |aw _ _ _ _ _ _ _ _=>rw[vP,kO] at ok;obtain⟨ok,_⟩:=ok;cases n <;> cases ok
theorem Top.zo{n:Nat}(h:Top K k H x d)(le:az k.F H)(ok:fS n d=true):bF K H [x] [d]:=ah.zo (k:=k.all H) (n:=n) (h.rep le) (by rw[vP,ok];rfl)
def Top.UD(r:ah K k vs ds)(le:az k.F H)(ok:ds.all (fS n)=true):bF K H vs ds:=ah.zo (k:=k.all H) (n:=n) (r.all le) ok
mutual
theorem vk:∀{v:V} (j:TK),ah K k [v] [j.d]->ah K ⟨k.F,[],[]⟩ [v] [j.d]
 |_,.inl i,h=>by simp only[TK.d] at h ⊢;rw[h.bc rfl];exact .flat rfl .nil
 |_,.inr x,h=>by simp only[TK.d] at h ⊢;rw[h.bc rfl];exact .flat rfl .nil
 |_,.aH,h=>by simp only[TK.d] at h ⊢;rw[h.bc rfl];exact .flat rfl .nil
 |_,.tp l,h=>by
  simp only[TK.d] at h ⊢;obtain⟨a,ws,rfl,q,r⟩:=h.isTup;exact .tup q (vm l r) .nil
theorem vm:∀{vs:List V} (l:List TK),ah K k vs (TK.dl l)->ah K ⟨k.F,[],[]⟩ vs (TK.dl l)
 |_,[],h=>by simp only[TK.dl] at h ⊢;rw[h.gA];exact .nil
 |_,j::l,h=>by
  simp only[TK.dl] at h ⊢;obtain⟨w,us,rfl,h1,h2⟩:=h.ck;exact .cons (vk j h1) (vm l h2)
end
def Rt{es:List (TK×V×V)}{kvs:List (TK×D)}(q:es.map (·.1)=kvs.map (·.1))(r:ah K k (es.map (·.2.1)) (kvs.map (·.1.d)))(le:az k.F H):bF K H (es.map (·.2.1)) (es.map (·.1.d)):=by
 have e1:kvs.map (·.1.d)=TK.dl (kvs.map (·.1)):=by rw[IA,eP];rfl
 have e2:es.map (·.1.d)=TK.dl (es.map (·.1)):=by rw[IA,eP];rfl
 rw[e1,<-q] at r;rw[e2];exact vm (k:=k.all H) _ (r.all le)
def Ru(h:Paired (Top K k H) xs [d]):∃x,xs=[x]/\Top K k H x d:=by
 cases h with
 |cons r t=>cases t;exact⟨_,rfl,r⟩
def d9p(h:Paired (Top K k H) xs [d,e]):∃x y,xs=[x,y]/\Top K k H x d/\Top K k H y e:=by
 cases h with
 |cons r t=>obtain⟨y,rfl,r'⟩:=Ru t;exact⟨_,_,rfl,r,r'⟩
end
noncomputable def o1(f:D->aj Rv):List D->aj Rv
 |[a]=>f a
 |_=>none
noncomputable def o2(f:D->D->aj Rv):List D->aj Rv
 |[a,b]=>f a b
 |_=>none
section
variable{X:Cx}{K:aL}
def wq{r:List V->Hp->VK->Prop}{f:D->aj Rv}(h:∀k H x a y Q,az k.F H->Top K k H x a->f a=some y->mD K k H y Q->r [x] H Q):bY K r (o1 f):=λk H xs ds y Q le t e res=>by
 unfold o1 at e;split at e
 .obtain⟨x,rfl,t1⟩:=Ru t;exact h k H x _ y Q le t1 e res
 .cases e
def xV{r:List V->Hp->VK->Prop}{f:D->D->aj Rv}(h:∀k H x z a b y Q,az k.F H->Top K k H x a->Top K k H z b->f a b=some y->mD K k H y Q->r [x,z] H Q):bY K r (o2 f):=λk H xs ds y Q le t e res=>by
 unfold o2 at e;split at e
 .obtain⟨x,z,rfl,t1,t2⟩:=d9p t;exact h k H x z _ _ y Q le t1 t2 e res
 .cases e
def zp{r:R2}{f:D->D->aj Rv}(h:∀k H x z a b y Q,az k.F H->Top K k H x a->Top K k H z b->f a b=some y->mD K k H y Q->r x z H Q):bY K (oE r) (o2 f):=xV λk H x z a b y Q le t1 t2 e res=>⟨x,z,rfl,h k H x z a b y Q le t1 t2 e res⟩
noncomputable def xg:D->D->aj Rv
 |.int i,.int j=>some (rd (.int (i+j)))
 |.str x,.str y=>if x.length+y.length<=1000000 then some (rd (.str (x++y))) else none
 |.lst xs,.lst ys=>if xs.length+ys.length<=1000000 then some (.o (.lst (xs++ys))) else none
 |_,_=>none
def zu(K:aL):R2:=λx y H Q=>sG (λi j=>.int (i+j)) x y H Q\/(∃i j,x=.str i/\y=.str j/\i.length+j.length<=sizeLine/\Q (.str (i++j)) H)\/vC K x y H Q
def d9q(K:aL)(hK:X.K=K):dF X (binaryOp .Add) (zu K):=Bh.or (rB.or (YS K hK))
def e5u:bY K (oE (zu K)) (o2 xg):=zp λk H x z a b y Q le t1 t2 e res=>by
 unfold xg at e;split at e
 .cases e;cases t1.flat rfl;cases t2.flat rfl;exact .inl ⟨_,_,rfl,rfl,res.flat le rfl⟩
 .split at e
  .cases e;cases t1.flat rfl;cases t2.flat rfl;exact .inr (.inl ⟨_,_,rfl,rfl,ml (by assumption),res.flat le rfl⟩)
  .cases e
 .split at e
  .cases e;obtain⟨a1,ws1,rfl,s1,r1⟩:=t1.lst le;obtain⟨a2,NV,rfl,s2,r2⟩:=t2.lst le;exact .inr (.inr ⟨a1,a2,ws1,NV,rfl,rfl,s1,s2,ml (by rw[r1.length,r2.length];assumption),λp hp=>res.lst le (r1.append r2) hp⟩)
  .cases e
 .cases e
noncomputable def dX(C:Int->Int->Bool)(f:Int->Int->D):D->D->aj Rv
 |.int i,.int j=>if C i j=true then some (rd (f i j)) else none
 |_,_=>none
def Ef{r:R2}{C:Int->Int->Bool}{f:Int->Int->D}{g:Int->Int->V}(hf:∀i j,yF (f i j)=some (g i j))(hr:∀i j H Q,C i j=true->Q (g i j) H->r (.int i) (.int j) H Q):bY K (oE r) (o2 (dX C f)):=zp λk H x z a b y Q le t1 t2 e res=>by
 unfold dX at e;split at e
 .split at e
  .cases e;cases t1.flat rfl;cases t2.flat rfl;exact hr _ _ _ _ (by assumption) (res.flat le (hf _ _))
  .cases e
 .cases e
noncomputable abbrev wu:Int->Int->Bool:=λ_ _=>true
def e5v:bY K (oE (sG λi j=>.int (i - j))) (o2 (dX wu λi j=>.int (i - j))):=Ef (λ_ _=>rfl) λ_ _ _ _ _ q=>⟨_,_,rfl,rfl,q⟩
def d9r:bY K (oE (rI zN λi j=>.int (i / j))) (o2 (dX (λ_ j=>decide (0<j/\j<1073741824)) λi j=>.int (i / j))):=Ef (λ_ _=>rfl) λi j _ _ c q=>⟨_,_,rfl,rfl,show zN i j from yr (p:=0<j/\j<1073741824) c,q⟩
def e5w:bY K (oE (rI (λ_ j=>0<j) λi j=>.int (i%j))) (o2 (dX (λ_ j=>decide (0<j)) λi j=>.int (i%j))):=Ef (λ_ _=>rfl) λ_ _ _ _ c q=>⟨_,_,rfl,rfl,yr c,q⟩
def e5x:bY K (oE (rI zO λi j=>.int (i^j.toNat))) (o2 (dX (λi j=>decide (0<=j/\j<=1000000/\i.natAbs<2^64)) λi j=>.int (i^j.toNat))):=Ef (λ_ _=>rfl) λi j _ _ c q=>⟨_,_,rfl,rfl,show zO i j from yr (p:=0<=j/\j<=1000000/\i.natAbs<2^64) c,q⟩
def Lx{f:Int->Int->Bool}:bY K (oE (sG λi j=>.bl (f i j))) (o2 (dX wu λi j=>.bl (f i j))):=Ef (λ_ _=>rfl) λ_ _ _ _ _ q=>⟨_,_,rfl,rfl,q⟩
noncomputable def xP:D->D->aj Rv
 |.int i,.int j=>if(-(2^64)<i/\i<2^64)\/(-(2^64)<j/\j<2^64) then some (rd (.int (i*j))) else none
 |.str z,.int j=>if MulOk z j then some (rd (.str (Txt.mul z j))) else none
 |_,_=>none
def zy:R2:=λx y H Q=>rI wI (λi j=>.int (i*j)) x y H Q\/∃z n,x=.str z/\y=.int n/\MulOk z n/\Q (.str (Txt.mul z n)) H
def d9s:dF X (binaryOp .Mult) zy:=Bj.or V'
def e5y:bY K (oE zy) (o2 xP):=zp λk H x z a b y Q le t1 t2 e res=>by
 unfold xP at e;split at e
 .split at e
  .cases e;cases t1.flat rfl;cases t2.flat rfl;exact .inl ⟨_,_,rfl,rfl,by assumption,res.flat le rfl⟩
  lia
 .split at e
  .cases e;cases t1.flat rfl;cases t2.flat rfl;exact .inr ⟨_,_,rfl,rfl,by assumption,res.flat le rfl⟩
  lia
 lia
noncomputable def xR:D->aj Rv
 |.int i=>some (rd (.int (-i)))
 |_=>none
def e5z:bY K (Nh (rU λi=>.int (-i))) (o1 xR):=wq λk H x a y Q le t e res=>by
 unfold xR at e;split at e
 .cases e;cases t.flat rfl;exact⟨_,rfl,_,rfl,res.flat le rfl⟩
 .cases e
end
section
variable{X:Cx}{aa:List (ag×Obj)}{s:av}{Z:St}{H:Hp}
end
section
variable{X:Cx}{K:aL}
end
end L2
namespace L2
open PySem PySem.Spec PySem.W PySem.Calls PyProof.Rows
variable{P:c7}{w:cB}{o:Expr}{to:TE}{apos bN pos:Pos}{elts:List Expr}{x1:Nat}
def iB(es:List (TK×V×V)):Prop:=∀e∈es,∃x,e.1=.inr x/\e.2.1=.str x
def d9t{es:List (TK×V×V)}{xs:List DictEntry}(p:Paired (jD w) es xs)(h:iB es):∃kvs:List (Str×ai),(∀x∈xs,∃k,(strKind P w).is k x.key=true/\x.hash=(strKind P w).hash k)/\Pairs (strKind P w) xs kvs/\kvs.map (λp=>TK.inr p.1)=es.map (·.1)/\Vals (es.map (·.2.2)) (kvs.map (·.2)):=by
 induction p with
 |nil=>exact⟨[],by simp,.nil,rfl,.nil⟩
 |@cons e x es xs r t ih=>
  obtain⟨kvs,h1,h2,h3,h4⟩:=ih λe m=>h e (tW _ m)
  obtain⟨z,e1,e2⟩:=h e (CZ ..);obtain⟨r1,r2,r3,r4⟩:=r;rw[e2] at r2;obtain⟨t',r2⟩:=r2;have hk:(strKind P w).is z x.key=true:=by rw[r2];show Value.isStrOf z (.str z t')=true;simp[Value.isStrOf]
  refine⟨(z,x.val)::kvs,λy m=>?_,.cons hk rfl h2,by rw[cU,cU,h3,e1],.cons r3 h4⟩
  rcases y0a.mp m with rfl|m
  .exact⟨z,hk,by rw[r1,e1];rfl⟩
  .exact h1 y m
section
variable{X:Cx}{aa:List (ag×Obj)}{Z:St}{H:Hp}{s:av}{d:ag}{es:List (TK×V×V)}{ep:Nat}
def Ad(I:Inv X aa Z H s)(hd:H d=some (.dG es ep))(ht:iB es):∃kvs,s.heap.DictAt (strKind X.prog X.w) d kvs ep/\Vals (es.map (·.2.2)) (kvs.map (·.2))/\kvs.map (λp=>TK.inr p.1)=es.map (·.1)/\kvs.length<=sizeLine/\(d == sysModules)=false:=by
 obtain⟨hz,lo,ob,xs,g1,g5,g2,g3,g4⟩:=(show bC X.prog X.w H s.heap d (.dG es ep) from I.bx d _ hd);obtain⟨kvs,h1,h2,h3,h4⟩:=d9t (P:=X.prog) g3 ht;refine⟨kvs,⟨ob,xs,g1,g5,g2,λx m=>h1 x (N4.mpr m),h2,?_⟩,h4,h3,?_,lo⟩
 all_goals grind [List.length_map]
def Ih(I:Inv X aa Z H s)(hd:H d=some (.dG es ep)):s.TypeIs (.ref d) "dict"/\∀a,Value.ref d=.ref a->∃ob,s.heap.get? a=some ob/\ob.dict=none:=
 Sq (x:=.ref d) I rfl (.inr (.inr (.inl ⟨rfl,.inr (.inr ⟨es,ep,hd⟩)⟩)))
def Wb{ys:List V}{kvs:List (Str×ai)}{aP:Array ai}(rv:Vals ys (kvs.map (·.2)))(h:ItemsOf (λi v=>∃k,kvs[i]?=some (k,v)) aP kvs.length):Vals ys aP.toList:=by
 have e:aP.toList=kvs.map (·.2):=by
  apply Ob;intro i;by_cases hi:i<aP.toList.length
  .have EZ:i<aP.size:=by simpa using hi
   obtain⟨k,hk⟩:=h.2 i aP[i] (wC EZ)
   simp_all
  .rw[BK (by lia),BK (by rw[bj];have:=h.1;simp at hi;lia)]
 rw[e];exact rv
def e6a(to:TE):TE:=λZ H Q=>to Z H λx H1=>∃d es ep,x=.ref d/\H1 d=some (.dG es ep)/\iB es/\∀q,H1 q=none->Q (.ref q) (upd H1 q (.lst (es.map (·.2.2))))
def YT{p:Pos}(EY:Gl X "list")(Mx:X.mg "list"=none)(ho:PE X o to)(hc:X.calm=true)
  (hs:starEach [.Call (.Attribute o "values" apos) [] [] bN] X.env=[(false,eval (.Call (.Attribute o "values" apos) [] [] bN) X.env)]:=by rfl)
  (eJ:attributeBase o "values" X.env (eval o X.env)=eval o X.env:=by rfl) (eK:(apos.endLine == bN.line)=true:=by rfl):PE X (.Call (.Name "list" p) [.Call (.Attribute o "values" apos) [] [] bN] [] pos) (e6a to):=by
 intro aa s Z H Q I h;refine Call_ (yE I EY Mx rV (PyProof.Rows.callWith_type1 ?_ hs rfl));rw[hs];show wpAny _ _ (spliced ((false,eval (.Call (.Attribute o "values" apos) [] [] bN) X.env)::[])) _ _ s;refine Calls.spliced_cons (wpAny_Call_method0_late eJ eK (bI (ho aa s Z H _ I h) λv s1 hh=>?_))
 obtain⟨x,H1,I1,r1,d,es,ep,rfl,hd,ht,q⟩:=hh;cases r1;obtain⟨t1,t2⟩:=Ih I1 hd;obtain⟨kvs,D1,D2,D3,D4,lo⟩:=Ad I1 hd ht;refine⟨"dict","dict.values",PySem.F.plainAttrs_dict,PySem.F.slot_dict_values,PySem.F.type_dict_values,t1,t2,Calls.callWith_builtin rfl (PySem.evalArgs_none ?_)⟩;refine call_meetsIn PySem.F.slot_dict_values t1 PySem.F.entry_dict_values (PySem.F.args_dict_values_1 _) (meets_dict_values (strKind X.prog X.w) d lo) ⟨⟨kvs,D1.dictOf⟩,?_⟩;refine Calls.spliced_nil ?_;refine kdl_call (kdl_values (knd:=strKind X.prog X.w) (r:=s1.heap.objs.size) (d:=d) (kvs:=kvs) (ep:=ep)) (I1.ok.hd hc) ⟨⟨_,jP _ rfl,rfl,rfl⟩,D1.push _⟩ D4 λh' tk aP c kp hg hi=>?_
 have sz:(s1.heap.push { cls:=.type "dict_values",data:=.fields #[.ref d]}).objs.size=s1.heap.objs.size+1:=by simp[Heap.push]
 rw[show({ s1 with heap:=s1.heap.push { cls:=.type "dict_values",data:=.fields #[.ref d]}}:av).heap.objs.size=s1.heap.objs.size+1 from sz] at hg ⊢;have rv:=Wb D2 hi;refine⟨.ref (s1.heap.objs.size+1),_,I1.laid (t':=tk) (λb o e=>kp b o (dy _ e)) (zH _) (show bC X.prog X.w _ h' _ (.lst (es.map (·.2.2))) from⟨?_,aP.toList,c,rv,by simpa using hg⟩),rfl,q _ (I1.bx.fresh (zH _))⟩
 grind [List.length_map]
noncomputable def ze:TK->Bool
 |.inr _=>true
 |_=>false
theorem SA{K:fQ}{F:Kn}:∀{ws:List (TK×V×V)} {ks:List TK},ws.map (·.1)=ks->ah K F (ws.map (·.2.1)) (ks.map (·.d))->ks.all ze=true->iB ws
 |[],_,_,_,_=>λe m=>nomatch m
 |w::ws,[],e,_,_=>by cases e
 |w::ws,k::ks,e,r,a=>by
  rw[cU,List.cons.injEq] at e;obtain⟨e1,e2⟩:=e;rw[vP,kO] at a;rw[cU,cU] at r;intro y m;rcases y0a.mp m with rfl|m
  .cases k with
   |inr x=>
    refine⟨x,e1,?_⟩;have:=r.inv.1;obtain⟨y1,y2,y3⟩:=y;dsimp only at this ⊢;cases this with
    |flat z _=>cases z;rfl
   |inl _=>cases a.1
   |tp _=>cases a.1
   |aH=>cases a.1
  .exact SA e2 r.inv.2 a.2 y m
end
def U8:entryFor table "dict_itemiterator.__iter__"=some Builtin.«dict_keyiterator.__iter__»:=
 entryFor_alias (id':="dict_keyiterator.__iter__") (by kernel_rfl) rfl (by decide +kernel) (by kernel_rfl)
section
variable{prog:c7}{w:cB}{A:cR}{E:ai->av->Prop}{s:av}{it d:ag}{kvs:List (Str×ai)}{ep:Nat}
def OM{i n ep:Nat}{ok ov:ai}{Q:ai->av->Prop}(hit:IsItemIter s.heap it d i n ep ok ov)(h:Q (.ref it) s):wpAny (model prog w) A (pyIter (.ref it)) Q E s:=by
 have hT:s.TypeIs (.ref it) "dict_itemiterator":=⟨_,hit,rfl⟩;refine wpAny_pyIter_slot hT PySem.F.slot_dict_itemiterator_iter (wpAny_call_entry PySem.F.slot_dict_itemiterator_iter hT U8 ?_ (PySem.F.args_dict_itemiterator_iter_1 _));show wpAny _ _ (ret (.ref it)) _ _ s;exact aX ⟨_,rfl,"dict_itemiterator",_,hT,PySem.F.slot_dict_itemiterator_next.lookup,h⟩
def VQ(hh:A.handled=none)(it d:ag)(fD:d≠it)(kvs:List (Str×ai))(ep:Nat):
  WalksT prog w A it [it,d] [it] kvs.length (λi vals=>∃k x key,kvs[i]?=some (k,x)/\(PySem.strKind prog w).is k key=true/\vals=#[key,x])
   (λi h=>(∃ok ov,IsItemIter h it d i kvs.length ep ok ov)/\h.DictAt (PySem.strKind prog w) d kvs ep)
   (λi T h=>(∃ok ov,IsItemIterOut h it d (i+1) kvs.length ep ok ov T)/\T≠it/\h.DictAt (PySem.strKind prog w) d kvs ep) where
 sub:=λb hb=>by simp at hb;simp[hb]
 frame:=λi h h' ⟨⟨ok,ov,a⟩,b⟩ k=>⟨⟨ok,ov,k it (by simp) _ a⟩,b.at' λo e=>k d (by simp) o e⟩
 item:=λi s Q E hi ⟨⟨ok,ov,a⟩,b⟩ hQ=>by
  obtain⟨⟨k,x⟩,hx⟩:∃p,kvs[i]?=some p:=⟨kvs[i],by simp[hi]⟩
  have lt:it<s.heap.objs.size:=cQ a;refine wpAny_pyNext_items_item a b hx λkey h' hk o1 o2 o3 kp=>?_
  exact hQ s.heap.objs.size #[key,x] h' s.toks ⟨k,x,key,hx,hk,rfl⟩ (bV _) ⟨_,o2,rfl,_,rfl⟩ ⟨⟨_,_,o1⟩,zG lt,b.at' λo e=>kp d o fD e⟩ λb o hb e=>kp b o (λz=>hb (by simp[z])) e
 go:=λelts k pos i T s Q E ⟨⟨ok,ov,a⟩,b,c⟩ hQ=>wpAny_letOwnedTupleGo_items a λh' a' sb=>hQ h' ⟨⟨ok,ov,a'⟩,c.at' λo e=>(sb.2 d fD).trans e⟩ λb o hb e=>(sb.2 b (λz=>hb (by simp[z]))).trans e
 apart:=λi T h ⟨_,b,_⟩=>by simpa using b
 done:=λs Q E ⟨⟨ok,ov,a⟩,b⟩ hQ=>wpAny_pyNext_items_end hh a b (by simp) λh' eb=>hQ h' s.toks λb o hb e=>eb b o (λz=>hb (by simp[z])) e
 self:=λi s Q E ⟨⟨ok,ov,a⟩,_⟩ hQ=>OM a hQ
end
def Gr(es:List (TK×V×V))(i:Nat)(ws:List V):Prop:=∃e,es[i]?=some e/\ws=[e.2.1,e.2.2]
def Wc{K:fQ}{it d:ag}(fD:d≠it)(es:List (TK×V×V))(ep:Nat):
  Turn P w K (.Tuple elts x1 pos) (BN (λH=>H d=some (.dG es ep)/\iB es) es.length (Gr es)) [it] it (λi h=>i<=es.length/\∃ok ov,IsItemIter h it d i es.length ep ok ov):=by
 refine PB (FP:=[it]) (wr:=[it]) (by simp) (λb hb=>hb) (λi h st b hb=>?_) (λi h h' st k=>?_) (λX hP hw hK hc aa s Z H I hS=>?_) (λA i s Q E st h=>?_)
 .grind
 .obtain⟨ok,ov,a⟩:=st;exact⟨ok,ov,k it (by simp) _ a⟩
 .subst hP hw hK;obtain⟨kvs,D1,D2,D3,D4,lo⟩:=Ad I hS.1 hS.2;have l1:kvs.length=es.length:=by have:=congrArg List.length D3;simpa using this
  have W:=VQ (prog:=X.prog) (w:=X.w) (A:=X.A) (I.ok.hd hc) it d fD kvs ep;rw[l1] at W;refine⟨_,_,_,_,W,λi st=>⟨st,D1⟩,λi h st=>st.1,λi vals hp=>?_⟩
  obtain⟨k,x,key,k1,k2,rfl⟩:=hp;have hi:i<es.length:=by have:=(eY.mp k1).1;lia
  have e3:es[i]?=some es[i]:=iN hi;refine⟨[es[i].2.1,es[i].2.2],⟨_,e3,rfl⟩,.cons ?_ (.cons ?_ .nil),by show 2<=10;decide⟩
  .obtain⟨z,z1,z2⟩:=hS.2 es[i] (C2 hi);have k3:(kvs.map (λp=>TK.inr p.1))[i]?=(es.map (·.1))[i]?:=by rw[D3]
   rw[fU,fU,k1,e3] at k3;have k4:TK.inr k=es[i].1:=Option.some.inj k3;rw[z1] at k4;cases k4;rw[z2];exact Value.isStrOf_shape k2
  .obtain⟨u,u1,u2⟩:=D2.get (i:=i) (x:=es[i].2.2) (by rw[fU,e3];rfl)
   simp_all
 .obtain⟨ok,ov,a⟩:=st;exact OM a h
def SD(to:TE):TI:=λZ H R=>to Z H λx H1=>∃d es ep,x=.ref d/\H1 d=some (.dG es ep)/\iB es/\R (BN (λH=>H d=some (.dG es ep)/\iB es) es.length (Gr es)) H1
section
variable{X:Cx}{K:fQ}
def YU{fL:Pos}(ho:PE X o to)(eJ:attributeBase o "items" X.env (eval o X.env)=eval o X.env:=by rfl)(eK:(apos.endLine == bN.line)=true:=by rfl):
  PI X (.Tuple elts x1 fL) (.Call (.Attribute o "items" apos) [] [] bN) (SD to):=by
 intro aa s Z H R I h;refine wpAny_Call_method0_late eJ eK (bI (ho aa s Z H _ I h) λv s1 hh=>?_)
 obtain⟨x,H1,I1,r1,d,es,ep,rfl,hd,ht,q⟩:=hh;cases r1;obtain⟨t1,t2⟩:=Ih I1 hd;obtain⟨kvs,D1,D2,D3,D4,lo⟩:=Ad I1 hd ht;have l1:kvs.length=es.length:=by have:=congrArg List.length D3;simpa using this
 have ld:d<s1.heap.objs.size:=D1.lt_size;refine⟨"dict","dict.items",PySem.F.plainAttrs_dict,PySem.F.slot_dict_items,PySem.F.type_dict_items,t1,t2,Calls.callWith_builtin rfl (PySem.evalArgs_none ?_)⟩;refine call_meetsIn PySem.F.slot_dict_items t1 PySem.F.entry_dict_items (PySem.F.args_dict_items_1 _) (meets_dict_items (PySem.strKind X.prog X.w) d lo) ⟨⟨kvs,D1.dictOf⟩,?_⟩;refine wpAny_pyIter_items (knd:=PySem.strKind X.prog X.w) (v:=s1.heap.objs.size) (d:=d) (kvs:=kvs) (ep:=ep) ⟨_,jP _ rfl,rfl,rfl⟩ (D1.push _) ?_;have sz:(s1.heap.push { cls:=.type "dict_items",data:=.fields #[.ref d]}).objs.size=s1.heap.objs.size+1:=by simp[Heap.push]
 have hg:=jP (s1.heap.push { cls:=.type "dict_items",data:=.fields #[.ref d]}) (o:={ cls:=.type "dict_itemiterator",data:=.fields #[.none,.bool false,.ref d,.int 0 0,.int kvs.length 0,.int ep 0,.none,.none]}) rfl;rw[l1] at hg ⊢;refine⟨(s1.heap.push { cls:=.type "dict_items",data:=.fields #[.ref d]}).objs.size,[(s1.heap.push { cls:=.type "dict_items",data:=.fields #[.ref d]}).objs.size],_,_,H1,rfl,I1.kept (t':=s1.toks) λb o e=>dy _ (dy _ e),Wc (it:=(s1.heap.push { cls:=.type "dict_items",data:=.fields #[.ref d]}).objs.size) (d:=d) (by rw[sz];exact g_ (BG ld)) es ep,⟨nK _,.none,.none,hg⟩,λb hb=>?_,q⟩
 cases qE.mp hb;have qK:s1.heap.objs.size<=(s1.heap.push { cls:=.type "dict_items",data:=.fields #[.ref d]}).objs.size:=by rw[sz];exact zH _
 exact I1.mI qK (I1.bx.fresh qK)
end
end L2
namespace L2
open PySem PySem.Spec PyProof.Rows
section
variable{X:Cx}{K:aL}
def FE(K:aL):R2:=λx y H Q=>∃d e,bF K H [x] [d]/\bF K H [y] [e]/\fS 40 d=true/\fS 40 e=true/\Q (.bl (g7 d e)) H
def e6b(K:aL)(hu:X.A.units+40<cLine)(hK:X.K=K:=by rfl):dF X (compareOp .Eq) (FE K):=by
 subst hK;intro aa s Z H x y v u Q I rx ry h;obtain⟨d,e,r1,r2,o1,o2,q⟩:=h;exact(Lw I 40 40 r1 r2 o1 o2 rx ry hu).2 X.prog X.w _ _ ⟨.bl _,H,I,rfl,q⟩
open Classical in
noncomputable def qM (K:aL) (H:Hp) (dx:D) (u:ai):Bool:=decide (∃x d,RelV x u/\bF K H [x] [d]/\fS 40 d=true/\g7 d dx=true)
open Classical in
def SE{aa:List (ag×Obj)}{s:av}{Z:St}{H:Hp}(I:Inv X aa Z H s){dx d:D}{x:V}{u:ai}(rx:RelV x u)(r:bF X.K H [x] [d])(ok:fS 40 d=true):qM X.K H dx u=g7 d dx:=by
 grind [qM,RelV.inj,Ig]
def IB{aa:List (ag×Obj)}{s:av}{Z:St}{H:Hp}(I:Inv X aa Z H s){dx:D}{ws:List V}{aG:List ai}{ds:List D}(t:Vals ws aG)(rp:bF X.K H ws ds)(ok:ds.all (fS 40)=true):aG.any (qM X.K H dx)=ds.any λd=>g7 d dx:=by
 induction t generalizing ds with
 |nil=>
  cases ds with
  |nil=>rfl
  |cons _ _=>have:=rp.length;simp at this
 |cons r t ih=>
  cases ds with
  |nil=>have:=rp.length;simp at this
  |cons d ds=>
   rw[vP,kO] at ok;rw[List.any_cons,List.any_cons,SE I r rp.inv.1 ok.1,ih rp.inv.2 ok.2]
def IC{aa:List (ag×Obj)}{s:av}{Z:St}{H:Hp}(I:Inv X aa Z H s){dx:D}{y:V}{v:ai}{A:cR}(rv:RelV y v)(ry:bF X.K H [y] [dx])(oy:fS 40 dx=true)(hu:A.units+40<cLine):
  ∀{ws:List V} {aG:List ai} {ds:List D},Vals ws aG->bF X.K H ws ds->ds.all (fS 40)=true->∀u∈aG,SeqAt.EqAt A s u v (qM X.K H dx u):=by
 intro ws aG ds t
 induction t generalizing ds with
 |nil=>intro _ _ u m;cases m
 |cons r t ih=>
  intro rp ok u' m;cases ds with
  |nil=>have:=rp.length;simp at this
  |cons d ds=>
   rw[vP,kO] at ok;rcases y0a.mp m with rfl|m
   .rw[SE I r rp.inv.1 ok.1];exact(Lw I 40 40 rp.inv.1 ry ok.1 oy r rv hu).1
   .exact ih rp.inv.2 ok.2 u' m
noncomputable def Bv:D->aj (List D)
 |.lst ds=>some ds
 |.tup ds=>some ds
 |_=>none
def Bm(K:aL)(neg:Bool):R2:=λx y H Q=>
 (∃d e ds,bF K H [x] [d]/\bF K H [y] [e]/\Bv e=some ds/\fS 40 d=true/\ds.all (fS 40)=true/\Q (.bl (if neg then !ds.any λz=>g7 z d else ds.any λz=>g7 z d)) H)\/
 (∃i j,x=.str i/\y=.str j/\Q (.bl (if neg then !(!(Builtin.Str.occurrences j i 0 j.length 1).isEmpty) else !(Builtin.Str.occurrences j i 0 j.length 1).isEmpty)) H)\/
 ∃a o,y=.ref a/\iC K H a x o/\Q (.bl (if neg then !o.isSome else o.isSome)) H
def e6c(K:aL)(hu:X.A.units+41<cLine)(hK:X.K=K:=by rfl):dF X (compareOp .In) (Bm K false):=by
 subst hK;intro aa s Z H x y v u Q I rx ry h;rcases h with⟨d,e,ds,r1,r2,es,o1,o2,q⟩|⟨i,j,rfl,rfl,q⟩|⟨a,o,rfl,g,q⟩
 .have vf:X.A.in1.units+40<cLine:=by show X.A.units+1+40<cLine;lia
  cases r2 with
  |flat z _=>cases e <;> first|(cases z;done)|cases es
  |lst sq i _=>
   cases es;cases ry;obtain⟨aG,r,pl,hz⟩:=I.list sq;refine SeqAt.in_listAt (qM X.K H d) pl.isList (λw hw=>IC I rx r1 o1 vf r i o2 w (by simpa using hw)) ⟨.bl _,H,I,rfl,?_⟩
   rw[show aG.toArray.any (qM X.K H d)=aG.any (qM X.K H d) by simp,IB I r i o2]
   exact q
  |tup sq i _=>
   cases es;cases ry;obtain⟨aG,r,pl,hz⟩:=I.tuple sq;refine SeqAt.in_tupleAt (qM X.K H d) pl (λw hw=>IC I rx r1 o1 vf r i o2 w (by simpa using hw)) ⟨.bl _,H,I,rfl,?_⟩
   rw[show aG.toArray.any (qM X.K H d)=aG.any (qM X.K H d) by simp,IB I r i o2]
   exact q
  |aw _ _ _ _ _=>cases es
  |ref _ _=>cases es
 .exact WJ aa s Z H _ _ v u Q I rx ry ⟨i,j,rfl,rfl,q⟩
 .cases ry;exact N1 (by lia) I g rx λs3 I3=>⟨.bl o.isSome,H,I3,rfl,q⟩
def Xf(K:aL)(hu:X.A.units+41<cLine)(hK:X.K=K:=by rfl):dF X (compareOp .NotIn) (Bm K true):=by
 subst hK;intro aa s Z H x y v u Q I rx ry h;rcases h with⟨d,e,ds,r1,r2,es,o1,o2,q⟩|⟨i,j,rfl,rfl,q⟩|⟨a,o,rfl,g,q⟩
 .have vf:X.A.in1.units+40<cLine:=by show X.A.units+1+40<cLine;lia
  cases r2 with
  |flat z _=>cases e <;> first|(cases z;done)|cases es
  |lst sq i _=>
   cases es;cases ry;obtain⟨aG,r,pl,hz⟩:=I.list sq;refine SeqAt.notIn_listAt (qM X.K H d) pl.isList (λw hw=>IC I rx r1 o1 vf r i o2 w (by simpa using hw)) ⟨.bl _,H,I,rfl,?_⟩
   rw[show aG.toArray.any (qM X.K H d)=aG.any (qM X.K H d) by simp,IB I r i o2]
   exact q
  |tup sq i _=>
   cases es;cases ry;obtain⟨aG,r,pl,hz⟩:=I.tuple sq;refine SeqAt.notIn_tupleAt (qM X.K H d) pl (λw hw=>IC I rx r1 o1 vf r i o2 w (by simpa using hw)) ⟨.bl _,H,I,rfl,?_⟩
   rw[show aG.toArray.any (qM X.K H d)=aG.any (qM X.K H d) by simp,IB I r i o2]
   exact q
  |aw _ _ _ _ _=>cases es
  |ref _ _=>cases es
 .exact Vw aa s Z H _ _ v u Q I rx ry ⟨i,j,rfl,rfl,q⟩
 .cases ry;exact d9m (by lia) I g rx λs3 I3=>⟨.bl (!o.isSome),H,I3,rfl,q⟩
def IT(ne:Bool)(a b:D):aj Rv:=if(fS 40 a&&fS 40 b)=true then some (rd (.bl (if ne=true then !g7 a b else g7 a b))) else none
def f1b:bY K (oE (FE K)) (o2 (IT false)):=zp λk H x z a b y Q le t1 t2 e res=>by
 unfold IT at e;split at e
 .rename_i h
  obtain⟨h1,h2⟩:=C5.mp h;cases e;exact⟨_,_,t1.zo le h1,t2.zo le h2,h1,h2,res.flat le rfl⟩
 .cases e
mutual
def t9:D->aj TK
 |.int i=>some (.inl i)
 |.str x=>some (.inr x)
 |.aH=>some .aH
 |.tup l=>(qB l).map .tp
 |_=>none
def qB:List D->aj (List TK)
 |[]=>some []
 |d::l=>(t9 d).bind λk=>(qB l).map λks=>k::ks
end
def lX:D->aj TK
 |.int i=>some (.inl i)
 |.str x=>some (.inr x)
 |.aH=>some .aH
 |.tup l=>(qB l).bind λks=>if TK.ok 8 (.tp ks)=true then some (.tp ks) else none
 |_=>none
mutual
theorem f1c:∀{d:D} {k:TK},t9 d=some k->k.d=d
 |.int i,k,e=>by simp only[t9] at e;cases e;simp[TK.d]
 |.str i,k,e=>by simp only[t9] at e;cases e;simp[TK.d]
 |.tup l,k,e=>by
  simp only[t9] at e;obtain⟨ks,h1,rfl⟩:=c_.mp e;simp only[TK.d];rw[rF h1]
 |.aH,k,e=>by simp only[t9] at e;cases e;simp[TK.d]
 |.ref _,k,e=>by simp[t9] at e
 |.bl _,k,e=>by simp[t9] at e
 |.ty _,k,e=>by simp[t9] at e
 |.lst _,k,e=>by simp[t9] at e
 |.aw _,k,e=>by simp[t9] at e
theorem rF:∀{l:List D} {ks:List TK},qB l=some ks->TK.dl ks=l
 |[],ks,e=>by simp only[qB] at e;cases e;simp[TK.dl]
 |d::l,ks,e=>by
  simp only[qB] at e;obtain⟨k,h1,e⟩:=cy.mp e;obtain⟨zg,h2,rfl⟩:=c_.mp e;simp only[TK.dl];rw[f1c h1,rF h2]
end
def Cm{d:D}{k:TK}(e:lX d=some k):k.d=d/\k.ok 8=true:=by
 cases d with
 |int i=>cases e;exact⟨by simp[TK.d],rfl⟩
 |str i=>cases e;exact⟨by simp[TK.d],rfl⟩
 |aH=>cases e;exact⟨by simp[TK.d],rfl⟩
 |tup l=>
  simp only[lX] at e;obtain⟨ks,h1,e⟩:=cy.mp e
  grind [TK.d,rF]
 |_=>cases e
def aM(kvs:List (TK×D))(k:TK):aj D:=(kvs.find? λkv=>decide (kv.1=k)).map (·.2)
theorem Lm{F:Kn}{k:TK}:∀{ws:List (TK×V×V)} {kvs:List (TK×D)},ws.map (·.1)=kvs.map (·.1)->ah K F (ws.map (·.2.2)) (kvs.map (·.2))->(kN ws k=none/\aM kvs k=none)\/∃v d,kN ws k=some v/\aM kvs k=some d/\ah K F [v] [d]
 |[],[],_,_=>.inl ⟨rfl,rfl⟩
 |w::ws,p::kvs,h,r=>by
  rw[cU,cU] at h;injection h with h1 h2;unfold kN aM;rw[GF,GF,h1];by_cases e:p.1=k
  .rw[vQ e];exact .inr ⟨w.2.2,p.2,rfl,rfl,r.inv.1⟩
  .rw[wH e];exact Lm h2 r.inv.2
 |[],_::_,h,_=>by simp at h
 |_::_,[],h,_=>by simp at h
def yp{k:Kn}{H:Hp}{x y:V}{kvs:List (TK×D)}{d:D}{j:TK}(le:az k.F H)(t1:Top K k H x (.aw kvs))(t2:Top K k H y d)(hk:lX d=some j):∃a o,x=.ref a/\iC K H a y o/\((o=none/\aM kvs j=none)\/∃v e,o=some v/\aM kvs j=some e/\ah K k [v] [e]):=by
 obtain⟨a,es,ep,rfl,h1,h2,h3,h4⟩:=t1.aw le;obtain⟨k1,k2⟩:=Cm hk;refine⟨a,kN es j,rfl,⟨es,ep,j,h1,Rt h2 h3 le,?_,k2,rfl⟩,Lm h2 h4⟩;have:=t2.rep le;rw[<-k1] at this;exact vk (k:=k.all H) j this
def CJ(neg:Bool)(a b:D):aj Rv:=match b with
 |.aw kvs=>(lX a).map λj=>rd (.bl (if neg=true then !(aM kvs j).isSome else(aM kvs j).isSome))
 |.str j=>(match a with
  |.str i=>some (rd (.bl (if neg=true then !(!(Builtin.Str.occurrences j i 0 j.length 1).isEmpty) else !(Builtin.Str.occurrences j i 0 j.length 1).isEmpty)))
  |_=>none)
 |e=>(Bv e).bind λds=>if(fS 40 a&&ds.all (fS 40))=true then some (rd (.bl (if neg=true then !ds.any λz=>g7 z a else ds.any λz=>g7 z a))) else none
def d9u{k:Kn}{H:Hp}{x:V}{e:D}{ds:List D}(le:az k.F H)(t:Top K k H x e)(h:Bv e=some ds)(ok:ds.all (fS 40)=true):bF K H [x] [e]:=by
 cases e with
 |lst _=>cases h;obtain⟨p,ws,rfl,q,r⟩:=t.lst le;exact .lst q (Top.UD r le ok) .nil
 |tup _=>cases h;obtain⟨p,ws,rfl,q,r⟩:=t.tup le;exact .tup q (Top.UD r le ok) .nil
 |_=>cases h
def TL(neg:Bool):bY K (oE (Bm K neg)) (o2 (CJ neg)):=zp λk H x z a b y Q le t1 t2 e res=>by
 unfold CJ at e;split at e
 .obtain⟨j,hj,rfl⟩:=c_.mp e;obtain⟨p,o,rfl,g,h⟩:=yp le t2 t1 hj;refine .inr (.inr ⟨p,o,rfl,g,?_⟩);have z:=res.flat le rfl;rcases h with⟨rfl,h⟩|⟨v,e,rfl,h,_⟩ <;> rw[h] at z <;> exact z
 .split at e
  .cases e;cases t1.flat rfl;cases t2.flat rfl;exact .inr (.inl ⟨_,_,rfl,rfl,res.flat le rfl⟩)
  .cases e
 .obtain⟨ds,h1,e⟩:=cy.mp e;split at e
  .rename_i h
   obtain⟨h2,h3⟩:=C5.mp h;cases e;exact .inl ⟨_,_,ds,t1.zo le h2,d9u le t2 h1 h3,h1,h2,h3,res.flat le rfl⟩
  .cases e
def Bo(neg:Bool):R2:=λx y H Q=>(y=.aH/\Q (.bl (if neg then !decide (x=.aH) else decide (x=.aH))) H)\/∃a b,x=.bl a/\y=.bl b/\Q (.bl (if neg then a != b else a == b)) H
def e6e:dF X (compareOp .Is) (Bo false):=Bi.or e5b
def d9v:dF X (compareOp .IsNot) (Bo true):=xW.or d8m
noncomputable def vv:D->Bool
 |.aH=>true
 |_=>false
def CK(neg:Bool)(a b:D):aj Rv:=match b with
 |.aH=>some (rd (.bl (if neg=true then !vv a else vv a)))
 |.bl b=>(match a with
  |.bl a=>some (rd (.bl (if neg=true then a != b else a == b)))
  |_=>none)
 |_=>none
def YV{k:Kn}{H:Hp}{x:V}{d:D}(h:Top K k H x d):decide (x=.aH)=vv d:=by
 rcases h with h|⟨p,c,rfl,rfl,h⟩
 .cases h with
  |flat q _=>cases d <;> cases q <;> rfl
  |_=>rfl
 .cases c <;> rfl
def TM(neg:Bool):bY K (oE (Bo neg)) (o2 (CK neg)):=zp λk H x z a b y Q le t1 t2 e res=>by
 unfold CK at e;split at e
 .cases e;cases t2.flat rfl;refine .inl ⟨rfl,?_⟩;rw[YV t1];exact res.flat le rfl
 .split at e
  .cases e;cases t1.flat rfl;cases t2.flat rfl;exact .inr ⟨_,_,rfl,rfl,res.flat le rfl⟩
  .cases e
 .cases e
def FG(K:aL):R2:=λx y H Q=>Bp K x y H Q\/Bq K x y H Q\/FH x y H Q\/∃a v,x=.ref a/\iC K H a y (some v)/\Q v H
def d9w(hu:X.A.units+9<cLine):tq X (λx y H Q=>∃a v,x=.ref a/\iC X.K H a y (some v)/\Q v H):=by
 intro value slice aa s Z H x y v u Q I rx ry h hs;obtain⟨a,w,rfl,g,q⟩:=h;cases rx;exact tail_any (g.ty I).1 PySem.F.slot_dict_getitem.lookup (PL hu I g ry λw' s3 I3 oH=>⟨w,H,I3,oH,q⟩) hs
def MM(K:aL)(hu:X.A.units+41<cLine)(hK:X.K=K):tq X (FG K):=by
 subst hK;exact(Yw X.K rfl).or ((d8n X.K rfl).or (A3.or (d9w (by lia))))
noncomputable def intD:D->aj Int
 |.int k=>some k
 |_=>none
def Ii{i:D}{k:Int}(h:intD i=some k):i=.int k:=by
 cases i with
 |int _=>cases h;rfl
 |_=>cases h
def Rw{F:Kn}{ws:List V}{ds:List D}{i:Int}{d:D}(r:ah K F ws ds)(e:dq ds i=some d):∃v,dq ws i=some v/\ah K F [v] [d]:=by
 unfold dq at e ⊢;rw[r.length];cases q:xK ds.length i with
 |none=>rw[q] at e;cases e
 |some j=>
  rw[q] at e;exact r.get e
def Jo(a i:D):aj Rv:=match a with
 |.lst ds=>(intD i).bind λk=>(dq ds k).map rd
 |.tup ds=>(intD i).bind λk=>(dq ds k).map rd
 |.str z=>(intD i).bind λk=>if z.length<=1000000 then(dq z.cps.toList k).map λc=>rd (.str ⟨#[c]⟩) else none
 |.aw kvs=>(lX i).bind λj=>(aM kvs j).map rd
 |_=>none
def f1d:bY K (oE (FG K)) (o2 Jo):=zp λk H x z a b y Q le t1 t2 e res=>by
 unfold Jo at e;split at e
 .obtain⟨i,hi,e⟩:=cy.mp e;cases Ii hi;cases t2.flat rfl;obtain⟨d,h1,rfl⟩:=c_.mp e;obtain⟨p,ws,rfl,q,r⟩:=t1.lst le;obtain⟨v,h2,h3⟩:=Rw r h1;exact .inl ⟨p,ws,i,v,rfl,rfl,q,h2,res.rep le h3⟩
 .obtain⟨i,hi,e⟩:=cy.mp e;cases Ii hi;cases t2.flat rfl;obtain⟨d,h1,rfl⟩:=c_.mp e;obtain⟨p,ws,rfl,q,r⟩:=t1.tup le;obtain⟨v,h2,h3⟩:=Rw r h1;exact .inr (.inl ⟨p,ws,i,v,rfl,rfl,q,h2,res.rep le h3⟩)
 .obtain⟨i,hi,e⟩:=cy.mp e;cases Ii hi;cases t2.flat rfl;cases t1.flat rfl;split at e
  .obtain⟨c,h1,rfl⟩:=c_.mp e;exact .inr (.inr (.inl ⟨_,i,c,rfl,rfl,ml (by assumption),h1,res.flat le rfl⟩))
  .cases e
 .obtain⟨j,hj,e⟩:=cy.mp e;obtain⟨d,h1,rfl⟩:=c_.mp e;obtain⟨p,o,rfl,g,h⟩:=yp le t1 t2 hj;rcases h with⟨_,h⟩|⟨v,e,rfl,h,r⟩
  .lia
  .rw[h] at h1;cases h1;exact .inr (.inr (.inr ⟨p,v,rfl,g,res.rep le r⟩))
 .cases e
noncomputable def cutD(ds:List D)(lo hi:aj Int):List D:=(ds.drop (HT.cK ds.length 0 lo)).take (HT.cK ds.length ds.length hi - HT.cK ds.length 0 lo)
def FK(K:aL):V->aj Int->aj Int->Hp->VK->Prop:=λx lo hi H Q=>FL x lo hi H Q\/Br K x lo hi H Q\/Bs K x lo hi H Q
def Nv(K:aL)(hK:X.K=K):uG X (FK K):=Bw.or ((Yx K hK).or (d8o K hK))
def Nu(a:D)(lo hi:aj Int):aj Rv:=match a with
 |.str z=>if z.length<=1000000 then some (rd (.str (Txt.slice z lo hi))) else none
 |.lst ds=>some (.o (.lst (cutD ds lo hi)))
 |.tup ds=>if HT.cK ds.length 0 lo=0/\HT.cK ds.length ds.length hi=ds.length then none else some (rd (.tup (cutD ds lo hi)))
 |_=>none
def Rx{k:Kn}{ws:List V}{ds:List D}{lo hi:aj Int}(r:ah K k ws ds):ah K k (pz ws lo hi) (cutD ds lo hi):=by
 unfold pz cutD;rw[r.length];exact(r.drop _).take _
def f1e{k:Kn}{H:Hp}{x:V}{a:D}{y:Rv}{Q:VK}{lo hi:aj Int}(le:az k.F H)(t:Top K k H x a)(e:Nu a lo hi=some y)(res:mD K k H y Q):FK K x lo hi H Q:=by
 unfold Nu at e;split at e
 .split at e
  .cases e;cases t.flat rfl;exact .inl ⟨_,rfl,ml (by assumption),res.flat le rfl⟩
  .cases e
 .cases e;obtain⟨p,ws,rfl,q,r⟩:=t.lst le;exact .inr (.inl ⟨p,ws,rfl,q,λl hl=>res.lst le (Rx r) hl⟩)
 .split at e
  .cases e
  .rename_i fD
   cases e;obtain⟨p,ws,rfl,q,r⟩:=t.tup le;exact .inr (.inr ⟨p,ws,rfl,q,by rw[r.length];exact fD,λl hl=>res.tup le (Rx r) hl⟩)
 .cases e
abbrev GO:=Gx (aj Int)
abbrev BQ:Rp (aj Int) (aj Int):=λ_ _ b a=>b=a
noncomputable def Ct:GO:=λ_ S=>some (.ok none S)
noncomputable def Rv.int:Rv->aj Int
 |.v (.d (.int i))=>some i
 |_=>none
noncomputable def Cu(g:GE):GO:=λU S=>bd (g U S) λr S1=>r.int.map λi=>.ok (some i) S1
def Ap(f:GE)(lo hi:GO):GE:=λU S=>bd (f U S) λr S1=>bd (lo U S1) λl S2=>bd (hi U S2) λu S3=>((nG S3 (oM r)).bind λd=>Nu d l u).map λy=>.ok y S3
def Rv.jN{r:Rv}{i:Int}(h:r.int=some i):r=rd (.int i):=by
 unfold Rv.int at h;split at h
 .cases h;rfl
 .cases h
section
variable{W:XW}{q:Nat}{e:Expr}{lo hi:aj Expr}{f:GE}{fl fh:GO}{pos p2:Pos}
def xr:PO X none (tX BQ K W q Ct):=λaa s Z H Q I t=>d8e aa s Z H Q I (Et t λ_ _=>rfl)
def xt(h:PE X e (tE K W q f)):PO X (some e) (tX BQ K W q (Cu f)):=λaa s Z H Q I t=>d8f h aa s Z H Q I (by
 obtain⟨k,U,S,res,ok,gk,e,w⟩:=t;refine tX.bd ok gk e w λr S1 x k1 H1 bH g1 r1 e1 w1 _=>?_
 obtain⟨i,e2,rfl⟩:=c_.mp e1;cases Rv.jN e2;exact⟨i,(show ah K k1 [x] [.int i] from r1).bc rfl,w1.now bH rfl⟩)
def YW(he:PE X e (tE K W q f))(hl:PO X lo (tX BQ K W q fl))(hu:PO X hi (tX BQ K W q fh))(hK:X.K=K):PE X (.Subscript e (.Slice lo hi none p2) pos) (tE K W q (Ap f fl fh)):=(Yq (Nv K hK) he hl hu).mono λZ H Q t=>by
 obtain⟨k,U,S,res,ok,gk,e,w⟩:=t;refine tX.bd ok gk e w λr S1 x k1 H1 bH g1 r1 e1 w1 _=>?_
 obtain⟨k2,u2,cO,r2⟩:=t6 bH r1;refine tX.bd cO (g1.up (u2 q)) e1 (w1.up (u2 q)) λl S3 l' k3 H3 kJ g3 r3 e3 w3 u3=>?_
 cases r3;refine tX.bd kJ g3 e3 w3 λu S4 u' k4 H4 tR g4 r4 e4 w4 u4=>?_
 cases r4;obtain⟨y,e5,rfl⟩:=c_.mp e4;obtain⟨d,e6,e7⟩:=cy.mp e5;exact f1e tR.le (Iy tR ((r2.up u3).up u4) e6) e7 (.fin tR w4)
end
end
section
variable{X:Cx}{K:aL}
def dH:List Int->Int
 |[]=>0
 |x::xs=>xs.foldl (λa b=>if b<a then b else a) x
def Xg(xs:List Int):∀x:Int,(xs.foldl (λa b=>if b<a then b else a) x<=x/\∀y∈xs,xs.foldl (λa b=>if b<a then b else a) x<=y)/\(xs.foldl (λa b=>if b<a then b else a) x=x\/xs.foldl (λa b=>if b<a then b else a) x∈xs):=by
 induction xs with
 |nil=>intro x;exact⟨⟨Oc _,λy m=>by cases m⟩,.inl rfl⟩
 |cons z xs ih=>
  grind
def HA{xs:List Int}(h:xs≠[]):dH xs∈xs/\∀y∈xs,dH xs<=y:=by
 cases xs with
 |nil=>exact cJ rfl h
 |cons x xs=>
  obtain⟨⟨h1,h2⟩,h3⟩:=Xg xs x;refine⟨?_,λy m=>?_⟩
  .rcases h3 with h3|h3
   .show List.foldl _ x xs∈_
    simp_all
   .exact .tail _ h3
  .rcases y0a.mp m with rfl|m
   .exact h1
   .exact h2 y m
theorem Pb:∀{is:List Int} {aG:List ai},Vals (is.map V.int) aG->∃ps:List (Int×Tok),aG=ps.map (λp=>Value.int p.1 p.2)/\ps.map (·.1)=is
 |[],aG,h=>by
  rw[Gy] at h;cases h;exact⟨[],rfl,rfl⟩
 |i::is,aG,h=>by
  rw[cU] at h;cases h with
  |cons r t=>
   obtain⟨ps,e1,e2⟩:=Pb t;obtain⟨tk,rfl⟩:=r;exact⟨(i,tk)::ps,by rw[e1];rfl,by rw[cU,e2]⟩
def YX(K:aL)(hc:X.calm=true:=by rfl)(hK:X.K=K:=by rfl):bR X (.builtin "min") (λxs H Q=>∃(a:ag) (is:List Int),xs=[.ref a]/\cS K H a (is.map V.int)/\is≠[]/\Q (.int (dH is)) H):=by
 subst hK;intro aa s Z H xs us Q I r h;obtain⟨a,is,rfl,hs,fD,q⟩:=h;obtain⟨u,rfl,ru⟩:=vals1 r;cases ru;obtain⟨aG,rv,p,hz⟩:=I.list hs;obtain⟨ps,e1,e2⟩:=Pb rv;subst e1;have hl:0<ps.length:=by
  grind
 have el:(ps.map λp=>Value.int p.1 p.2).toArray=intItems ps.toArray:=by unfold intItems;simp
 have pl:=p.isList;rw[el] at pl;refine min_intList (I.ok.hd hc) pl (by simpa using hl) λv h' tk hv hk=>?_
 obtain⟨b1,b2⟩:=argBest_lt (numAt ps.toArray) (ps.toArray.size - 1);generalize argBest (λi j=>decide (numAt ps.toArray i<numAt ps.toArray j)) (ps.toArray.size - 1)=n at *
 have hn:n<ps.length:=by simp at b1;lia
 have E3:∀j (hj:j<ps.length),numAt ps.toArray j=(ps[j]).1:=λj hj=>by unfold numAt;simp[hj]
 have MG:v=Value.int (ps[n]).1 (ps[n]).2:=by
  unfold intItems at hv;simp[hn] at hv;exact hv.symm
 have hm:dH is=(ps[n]).1:=by
  obtain⟨m1,m2⟩:=HA fD;have i1:(ps[n]).1∈is:=by rw[<-e2];exact qC (f:=(·.1)) (C2 hn)
  have c1:=m2 _ i1;rw[<-e2] at m1;obtain⟨pp,ME,hp2⟩:=jQ.mp m1;obtain⟨j,hj,ej⟩:=List.mem_iff_getElem.mp ME;have c2:=b2 j (by simp;lia)
  rw[E3 n hn,E3 j hj,ej] at c2;rw[e2] at hp2;lia
 rw[MG];exact⟨.int (dH is),H,I.kept (h':=h') (t':=tk) λb o e=>hk b o e,⟨(ps[n]).2,by rw[hm]⟩,q⟩
def lW:List D->aj (List Int)
 |[]=>some []
 |.int i::ds=>(lW ds).map λis=>i::is
 |_=>none
theorem HC:∀is:List Int,lW (is.map .int)=some is
 |[]=>rfl
 |i::is=>by rw[cU];show(lW (is.map .int)).map _=_;rw[HC is];rfl
theorem PM:∀{ds:List D} {is:List Int},lW ds=some is->ds=is.map .int
 |[],is,e=>by cases e;rfl
 |d::ds,is,e=>by
  cases d with
  |int i=>
   obtain⟨js,e1,e2⟩:=c_.mp (show(lW ds).map _=some is from e);rw[<-e2,PM e1];rfl
  |_=>cases e
theorem OZ{F:Kn}:∀{ws:List V} {is:List Int},ah K F ws (is.map .int)->ws=is.map .int
 |[],[],_=>rfl
 |[],_::_,h=>by have:=h.length;simp at this
 |_::_,[],h=>by have:=h.length;simp at this
 |w::ws,i::is,h=>by
  rw[cU] at h;have h1:=h.inv.1;have h2:=OZ h.inv.2;rw[h2,cU];cases h1 with
  |flat e _=>cases e;rfl
end
section
variable{X:Cx}{K:aL}
end
end L2
namespace L2
open PySem PySem.Spec PySem.W PyProof.Rows
section
variable{X:Cx}{K:aL}
def NO(k:String):Bool:=k == "tuple" || k == "list"
def zw(K:fQ):List V->Hp->VK->Prop:=λxs H Q=>∃x k q,xs=[x,.ref q]/\Ed K H x k/\iA K H q [.ty "tuple",.ty "list"]/\Q (.bl (NO k)) H
def Xh(K:fQ)(hK:X.K=K:=by rfl):bR X (.builtin "isinstance") (zw K):=by
 subst hK;intro aa s Z H xs us Q I r h;obtain⟨x,k,q,rfl,hk,hq,qq⟩:=h;obtain⟨u,w',rfl,rx,ry⟩:=vals2 r;cases ry;obtain⟨aG,rv,⟨ot,h1,h2,n,h3⟩,_⟩:=I.tuple hq;obtain⟨oc,odd,odt,wt⟩:=ot;dsimp only at h2 h3;subst h2;subst h3;obtain⟨u1,u2,rfl,r1,r2⟩:=vals2 rv;cases r1;cases r2;have fin:∀b,b=NO k->∀tk,EP X aa Z Q (.bool b) { s with toks:=tk}:=λb e tk=>xa (I.tok _) qq e.symm
 cases x with
 |aH=>
  cases rx;have hk:k="NoneType":=hk;subst hk;exact kia_tup (b:=false) kitx_none I.kT vS h1 (by rfl) (λz=>nomatch z) (fin _ rfl)
 |bl b=>
  cases rx;have hk:k="bool":=hk;subst hk;exact kia_tup (b:=false) kitx_bool I.kT vS h1 (by rfl) (λz=>nomatch z) (fin _ rfl)
 |int i=>
  obtain⟨t,rfl⟩:=rx;have hk:k="int":=hk;subst hk;exact kia_tup (b:=false) kitx_int I.kT vS h1 (by rfl) (λz=>nomatch z) (fin _ rfl)
 |str z=>
  obtain⟨t,rfl⟩:=rx;have hk:k="str":=hk;subst hk;exact kia_tup (b:=false) kitx_str I.kT vS h1 (by rfl) (λz=>nomatch z) (fin _ rfl)
 |ref a=>
  cases rx;rcases hk with⟨hk,ys,hs⟩|⟨hk,ys,hs⟩
  .subst hk;obtain⟨aG,_,⟨o,n,e,hc,_⟩,_⟩:=I.list hs;exact kia_tup (b:=true) kitx_list I.kT ⟨o,e,hc⟩ h1 (by rfl) (λz=>nomatch z) (fin _ rfl)
  .subst hk;obtain⟨aG,_,⟨o,e,hc,_⟩,_⟩:=I.tuple hs;exact kia_tup (b:=true) kitx_tuple I.kT ⟨o,e,hc⟩ h1 (by rfl) (λz=>nomatch z) (fin _ rfl)
 |yH _=>exact False.elim hk
 |yP _=>exact False.elim hk
 |ty _=>exact False.elim hk
end
end L2
namespace L2
open PySem PySem.Spec PyProof.Rows
variable{A:cR}{E:ai->av->Prop}{s:av}{ep:Nat}
theorem VR{Q:Bool->av->Prop}{P:c7}{w:cB}{d:ag}(hT:s.TypeIs (.ref d) "dict")(h:Q false s):wpAny (model P w) A (Builtin.List.listLengthHint (.ref d)) Q E s:=by
 unfold Builtin.List.listLengthHint;refine aA (wpAny_specialOf hT F.slot_dict_len.lookup ?_);dsimp only;rw[show splitId "dict.__len__"=some ("dict","__len__") from by decide +kernel]
 dsimp only;refine aA (wpAny_isInstance (b:=true) hT (by rw[isSubtype_type];kernel_rfl) ?_)
 rw[bD (by decide)]
 refine wpAny_ite_true (by decide +kernel) (aA (wpAny_typeOf hT ?_))
 exact aX h
section
variable{P:c7}{w:cB}{A:cR}{E:ai->av->Prop}{s:av}
def Xi{n:Nat}{ob:Obj}{xs:Array DictEntry}(hh:A.handled=none)(J d:ag)(fD:d≠J)(g2:ob.data=.dict xs ep)(hl:xs.size=n):
  Walks P w A J [J,d] [J] n (λi v=>xs[i]?.map (·.key)=some v) (λi h=>h.IsKeyIter J d i n ep/\h.get? d=some ob) where
 sub:=λb hb=>by simp at hb;simp[hb]
 frame:=λ_ _ _ st hk=>⟨st.1.at λo e=>hk J (by simp) o e,hk d (by simp) _ st.2⟩
 item:=λi s Q E hi st hQ=>by
  have lt:i<xs.size:=by lia
  refine O_ st.2 g2 hl st.1 lt λh' CL sb=>?_
  exact hQ _ h' s.toks (by rw[wC lt];rfl) ⟨CL,(sb.2 d fD).trans st.2⟩ λb o hb e=>sb.extBut b o (λh=>hb (by simp[h])) e
 done:=λs Q E st hQ=>Pz hh st.2 g2 hl st.1 (bV _) λh' he'=>hQ h' s.toks λb o hb e=>he' b o (λh=>hb (by simp[h])) e
 self:=λ_ _ _ _ st hQ=>wpAny_pyIter_keyiter st.1 hQ
end
theorem Ry:∀{ys:List V} {us:List ai},ys.length=us.length->(∀(j:Nat) (y:V) (u:ai),ys[j]?=some y->us[j]?=some u->RelV y u)->Vals ys us
 |[],[],_,_=>.nil
 |y::ys,u::us,hl,h=>.cons (h 0 y u rfl rfl) (Ry (by simpa using hl) λj y' u' e1 e2=>h (j+1) y' u' (by simpa using e1) (by simpa using e2))
 |[],_::_,h,_=>by simp at h
 |_::_,[],h,_=>by simp at h
section
variable{X:Cx}{aa:List (ag×Obj)}{Z:St}{H:Hp}
theorem Vh{d:ag}{es:List (TK×V×V)}{Q:ai->av->Prop}(hh:A.handled=none)(I:Inv X aa Z H s)(hd:H d=some (.dG es ep))
  (hQ:∀s',(∀b u,s.heap.get? b=some u->s'.heap.get? b=some u)->s'={ s with heap:=s'.heap,toks:=s'.toks}->(∃aG c,Vals (es.map (·.2.1)) aG/\s'.heap.get? s.heap.objs.size=some { cls:=.type "list",data:=.seq aG.toArray c})->Q (.ref s.heap.objs.size) s') :
  wpAny (model X.prog X.w) A (call (.type "list") [.ref d]) Q E s:=by
 obtain⟨hz,z,ob,xs,g1,g5,g2,g3,g4⟩:=(show bC X.prog X.w H s.heap d (.dG es ep) from I.bx d _ hd);have hl:xs.size=es.length:=by have:=Paired.length g3;simpa using this.symm
 have ld:d<s.heap.objs.size:=cQ g1;refine callType_codes (Q₁:=λobj s₁=>obj=.ref s.heap.objs.size/\s₁={ s with heap:=s.heap.push { cls:=.type "list",data:=.seq #[]}}) F.called_list (F.typeCall_list_1 _) F.entry_list_init (code_list_new _ ⟨rfl,rfl⟩) λobj s₁ q₁=>?_
 obtain⟨rfl,rfl⟩:=q₁;have gS:(s.heap.push { cls:=.type "list",data:=.seq #[]}).get? s.heap.objs.size=some { cls:=.type "list",data:=.seq #[]}:=jP _ rfl;refine⟨⟨_,gS,rfl⟩,F.args_list_init_2 _ _,?_⟩;show wpAny _ _ (do let old <-Builtin.List.listItems (.ref s.heap.objs.size);Builtin.List.listUpdate (.ref s.heap.objs.size) (λ_=>#[]);letGo old.toList.reverse;Builtin.List.listExtendWith (.ref s.heap.objs.size) (.ref d) .none) _ _ _
 refine aA ?_;unfold Builtin.List.listItems;refine aA (wpAny_seqItems gS rfl (aX ?_));show wpAny _ _ (updateSeq s.heap.objs.size (λ_=>#[]) >>= λ_=>letGo (#[]:Array ai).toList.reverse >>= λ_=>Builtin.List.listExtendWith (.ref s.heap.objs.size) (.ref d) .none) _ _ _
 refine aA (wpAny_updateSeq gS rfl ?_);have gT:=ub (Obj.mapSeq (λ_=>(#[]:Array ai))) gS rfl
 refine aA (wpAny_letGo ?_);have nS:∀b u,s.heap.get? b=some u->b≠s.heap.objs.size:=λb u e z=>by rw[z] at e;exact kX _ (cQ e)
 have k1:∀b u,s.heap.get? b=some u->((s.heap.push { cls:=.type "list",data:=.seq #[]}).update s.heap.objs.size (Obj.mapSeq (λ_=>(#[]:Array ai)))).get? b=some u:=
  λb u e=>(rH _ _ (Ne.symm (nS b u e))).trans (dy _ e)
 have UT:((s.heap.push { cls:=.type "list",data:=.seq #[]}).update s.heap.objs.size (Obj.mapSeq (λ_=>(#[]:Array ai)))).objs.size=s.heap.objs.size+1:=by simp[Heap.update,Heap.push]
 generalize(s.heap.push { cls:=.type "list",data:=.seq #[]}).update s.heap.objs.size (Obj.mapSeq (λ_=>(#[]:Array ai)))=h1 at *
 have I1:Inv X aa Z H { s with heap:=h1,toks:=s.toks}:=I.kept k1;have hT1:Shared.TypeIs { s with heap:=h1} (.ref d) "dict":=⟨ob,k1 _ _ g1,g5.1⟩;unfold Builtin.List.listExtendWith;refine aA (wpAny_typeOf hT1 ?_);have ne:s.heap.objs.size≠d:=λe=>kX _ (e ▸ ld)
 have c1:Builtin.List.listSameRef (.ref s.heap.objs.size) (.ref d)=false:=by simp[Builtin.List.listSameRef,ne]
 have c2:(Value.type "dict" == Value.type "list")=false:=by decide
 have c3:(Value.type "dict" == Value.type "tuple")=false:=by decide
 simp only[c1,c2,c3,Bool.or_false,uc,kP];refine aA (Qj I1 hd ?_);have Mh:Shared.TypeIs { s with heap:=h1.push { cls:=.type "dict_keyiterator",data:=.fields #[.ref d,.int 0 0,.int es.length 0,.int ep 0]}} (.ref d) "dict":=⟨ob,dy _ (k1 _ _ g1),g5.1⟩;refine aA (mh (VR Mh ?_));refine wpAny_ite_true (by decide +kernel) (aA (wpAny_rule (aA ?_)))
 show wpAny _ _ (updateSeq s.heap.objs.size (·.push .none) >>= λ_=>updateSeq s.heap.objs.size (·.pop)) _ _ _
 have gU:=dy { cls:=.type "dict_keyiterator",data:=.fields #[.ref d,.int 0 0,.int es.length 0,.int ep 0]} gT;refine aA (wpAny_updateSeq gU rfl ?_);have gV:=ub (Obj.mapSeq (·.push Value.none)) gU rfl
 refine wpAny_updateSeq (hz:=by seq_fits) gV rfl ?_
 have gW:=ub (Obj.mapSeq (·.pop)) gV rfl
 have gJ:(h1.push { cls:=.type "dict_keyiterator",data:=.fields #[.ref d,.int 0 0,.int es.length 0,.int ep 0]}).get? h1.objs.size=some { cls:=.type "dict_keyiterator",data:=.fields #[.ref d,.int 0 0,.int es.length 0,.int ep 0]}:=jP _ rfl;have M5:∀b o,b≠s.heap.objs.size->(h1.push { cls:=.type "dict_keyiterator",data:=.fields #[.ref d,.int 0 0,.int es.length 0,.int ep 0]}).get? b=some o->
   (((h1.push { cls:=.type "dict_keyiterator",data:=.fields #[.ref d,.int 0 0,.int es.length 0,.int ep 0]}).update s.heap.objs.size (Obj.mapSeq (·.push Value.none))).update s.heap.objs.size (Obj.mapSeq (·.pop))).get? b=some o:=
  λb o hb e=>(rH _ _ (Ne.symm hb)).trans ((rH _ _ (Ne.symm hb)).trans e)
 have hJ:h1.objs.size≠s.heap.objs.size:=by rw[UT];exact Nat.succ_ne_self _
 have dJ:d≠h1.objs.size:=g_ (by rw[UT];exact BG ld)
 have W:=(Xi (P:=X.prog) (w:=X.w) (A:=A.in1.in1) (n:=es.length) (ep:=ep) hh h1.objs.size d dJ g2 hl).toS;have hSf:s.heap.objs.size∉[h1.objs.size,d]:=λm=>by
  grind
 refine aX ⟨plainId_quiet F.plain_extend_loop _,codeAny_extend_loopS W hz _ hSf _ es.length 0 _ _ _ rfl (nK _) ⟨⟨_,M5 _ _ hJ gJ,rfl,rfl⟩,M5 _ _ (Ne.symm ne) (dy _ (k1 _ _ g1))⟩ gW (ItemsOf.nil _) λs' DW c' hm hS' xy=>?_⟩
 obtain⟨m1,m2,m3,m4,m5⟩:=hm;have wb:s'={ s with heap:=s'.heap,toks:=s'.toks}:=by
  cases s'
  lia
 refine⟨rfl,hQ s' (λb u e=>m1 b u (λq=>?_) (M5 b u (nS b u e) (dy _ (k1 b u e)))) wb ⟨DW.toList,c',?_,by simpa using hS'⟩⟩
 .rcases y0a.mp q with q|q
  .exact nS b u e q
  .rw[qE] at q;have:=cQ e
   lia
 .have h2:DW.size=es.length:=xy.1;refine Ry (by simp[h2]) λj y u e1 e2=>?_
  rw[fU] at e1;obtain⟨e,e3,rfl⟩:=c_.mp e1;obtain⟨x,x1,x2⟩:=DF j g3 e3;have h3:=xy.2 j u (by rw[<-zK];exact e2)
  have x1:xs[j]?=some x:=by rw[<-zK];exact x1
  have h3:Option.map (λx=>x.key) xs[j]?=some u:=h3
  rw[x1] at h3;cases h3;exact x2.2.1
def UJ(K:aL):List V->Hp->VK->Prop:=λxs H Q=>∃d es ep,xs=[.ref d]/\H d=some (.dG es ep)/\∀l,H l=none->Q (.ref l) (upd H l (.lst (es.map (·.2.1))))
def Wd(hc:X.calm=true):bR X (.type "list") (UJ X.K):=by
 intro aa s Z H xs us Q I r h;obtain⟨d,es,ep,rfl,hd,q⟩:=h;obtain⟨u,rfl,ru⟩:=vals1 r;cases ru;refine Vh (I.ok.hd hc) I hd λs' kp wb hh=>?_
 obtain⟨aG,c,rv,g⟩:=hh;have hz:=(show bC X.prog X.w H s.heap d (.dG es ep) from I.bx d _ hd).1;rw[wb];exact⟨.ref s.heap.objs.size,_,I.laid kp (bV _) (show bC X.prog X.w _ s'.heap _ (.lst (es.map (·.2.1))) from⟨by rw[bj];exact hz,aG,c,rv,g⟩),rfl,q _ (I.bx.fresh (bV _))⟩
end
section
variable{X:Cx}{K:aL}
def sH(r:V->List V->Hp->VK->Prop):List V->Hp->VK->Prop:=λvs H Q=>∃x xs,vs=x::xs/\r x xs H Q
def dR:List D->aj (List Str)
 |[]=>some []
 |.str x::ds=>(dR ds).map λxs=>x::xs
 |_=>none
theorem PN:∀xs:List Str,dR (xs.map .str)=some xs
 |[]=>rfl
 |i::is=>by rw[cU];show(dR (is.map .str)).map _=_;rw[PN is];rfl
theorem HD:∀{ds:List D} {xs:List Str},dR ds=some xs->ds=xs.map .str
 |[],xs,e=>by cases e;rfl
 |d::ds,xs,e=>by
  cases d with
  |str i=>
   obtain⟨js,e1,e2⟩:=c_.mp (show(dR ds).map _=some xs from e);rw[<-e2,HD e1];rfl
  |_=>cases e
theorem Kh{F:Kn}:∀{ws:List V} {xs:List Str},ah K F ws (xs.map .str)->ws=xs.map .str
 |[],[],_=>rfl
 |[],_::_,h=>by have:=h.length;simp at this
 |_::_,[],h=>by have:=h.length;simp at this
 |w::ws,i::is,h=>by
  rw[cU] at h;have h1:=h.inv.1;have h2:=Kh h.inv.2;rw[h2,cU];cases h1 with
  |flat e _=>cases e;rfl
theorem Kq:∀{xs:List Str} {aG:List ai},Vals (xs.map V.str) aG->∃ps:List (Str×Tok),aG=ps.map (λp=>Value.str p.1 p.2)/\ps.map (·.1)=xs
 |[],aG,h=>by
  rw[Gy] at h;cases h;exact⟨[],rfl,rfl⟩
 |i::is,aG,h=>by
  rw[cU] at h;cases h with
  |cons r t=>
   obtain⟨ps,e1,e2⟩:=Kq t;obtain⟨tk,rfl⟩:=r;exact⟨(i,tk)::ps,by rw[e1];rfl,by rw[cU,e2]⟩
end
section
variable{X:Cx}{K:aL}
def iH:List D->aj (List Bool)
 |[]=>some []
 |.bl b::ds=>(iH ds).map λbs=>b::bs
 |_=>none
theorem Pc:∀{ds:List D} {bs:List Bool},iH ds=some bs->ds=bs.map .bl
 |[],bs,e=>by cases e;rfl
 |d::ds,bs,e=>by
  cases d with
  |bl i=>
   obtain⟨js,e1,e2⟩:=c_.mp (show(iH ds).map _=some bs from e);rw[<-e2,Pc e1];rfl
  |_=>cases e
theorem Pd{F:Kn}:∀{ws:List V} {bs:List Bool},ah K F ws (bs.map .bl)->ws=bs.map .bl
 |[],[],_=>rfl
 |[],_::_,h=>by have:=h.length;simp at this
 |_::_,[],h=>by have:=h.length;simp at this
 |w::ws,i::is,h=>by
  rw[cU] at h;have h1:=h.inv.1;have h2:=Pd h.inv.2;rw[h2,cU];cases h1 with
  |flat e _=>cases e;rfl
def Xj(K:aL)(hc:X.calm=true:=by rfl)(hK:X.K=K:=by rfl):bR X (.builtin "all") (λxs H Q=>∃(a:ag) (bs:List Bool),xs=[.ref a]/\cS K H a (bs.map V.bl)/\Q (.bl (bs.all id)) H):=hK ▸ WU hc
noncomputable def Cv(z:Str):ai->Bool
 |.str y _=>y == z
 |_=>false
def SF(K:aL):V->List V->Hp->VK->Prop:=λx xs H Q=>∃(a:ag) (ys:List Str) (z:Str) (j:Nat),x=.ref a/\xs=[.str z]/\cS K H a (ys.map V.str)/\ys[j]?=some z/\(∀i y,i<j->ys[i]?=some y->y≠z)/\Q (.int (j:Nat)) H
theorem YY(K:aL)(hK:X.K=K:=by rfl):BO X "list.index" (SF K):=by
 subst hK;intro aa s Z H x xs v us Q I rx rs h;obtain⟨a,ys,z,j,rfl,rfl,hq,hj,fD,q⟩:=h;cases rx;obtain⟨u,rfl,ru⟩:=vals1 rs;obtain⟨t,rfl⟩:=ru;obtain⟨aG,rv,p,hz⟩:=I.list hq;obtain⟨ps,e1,e2⟩:=Kq rv;subst e1;obtain⟨ob,n,eo,sj,hdi,hda⟩:=p;have hlen:ps.length=ys.length:=by rw[<-e2,bj]
 have hjl:j<ys.length:=(eY.mp hj).1;have hit:∀i (hi:i<ps.length),(ps.map λp=>Value.str p.1 p.2)[i]?=some (Value.str ps[i].1 ps[i].2):=λi hi=>by simp[hi]
 have MH:∀i (hi:i<ps.length),ys[i]?=some ps[i].1:=λi hi=>by rw[<-e2];simp[hi]
 have hsz:(ps.map λp=>Value.str p.1 p.2).toArray.size=ps.length:=by simp
 have Ms:ps[j].1=z:=by
  simp_all
 obtain⟨cl,di,da,sl⟩:=ob;cases sj;cases hda;have Jl:ys.length<=16777216:=by rw[bj,sizeLine_eq] at hz;exact hz
 refine call_meets F.slot_list_index ⟨_,eo,rfl⟩ F.entry_list_index (F.args_list_index_2 _ _) (SeqAt.list_indexAt a _ n di sl (.str z t) (Cv z) j (by rw[hsz];lia) (by lia) ?_ ?_) ⟨eo,?_,?_⟩
 .simp[Cv,Ms]
 .intro i hi sr;rw[hsz] at hi;have:=fD i _ sr (MH i hi);simp[Cv];exact this
 .intro y hy;simp at hy;obtain⟨b,t',_,rfl⟩:=hy;exact SeqAt.EqAt.str_str b t' z t
 .exact⟨.int (j:Nat),H,I.tok _,⟨_,rfl⟩,q⟩
def findS(ys:List Str)(z:Str):aj Nat:=ys.findIdx? (· == z)
def B5{ys:List Str}{z:Str}{j:Nat}(e:findS ys z=some j):ys[j]?=some z/\∀i y,i<j->ys[i]?=some y->y≠z:=by
 unfold findS at e;rw[List.findIdx?_eq_some_iff_getElem] at e;obtain⟨h,h1,h2⟩:=e;refine⟨by rw[iN h];congr 1;exact eq_of_beq h1,λi y hi ey=>?_⟩
 have:=h2 i hi;obtain⟨hl,e3⟩:=eY.mp ey;rw[e3] at this;intro z';subst z';simp at this
end
section
variable{X:Cx}{K:aL}
def Rz:V->List V->Hp->VK->Prop:=λx xs H Q=>∃(l:ag) (ys:List Str) (z:Str) (j:Nat),x=.ref l/\xs=[.str z]/\H l=some (.lst (ys.map V.str))/\ys[j]?=some z/\(∀i y,i<j->ys[i]?=some y->y≠z)/\Q .aH (upd H l (.lst ((ys.eraseIdx j).map V.str)))
theorem HE{α β:Type}(f:α->β):∀(xs:List α) (j:Nat),(xs.map f).eraseIdx j=(xs.eraseIdx j).map f
 |[],j=>by simp
 |_::_,0=>rfl
 |x::xs,j+1=>by show f x::(xs.map f).eraseIdx j=f x::(xs.eraseIdx j).map f;rw[HE f xs j]
theorem OF:∀{ps:List (Str×Tok)},Vals ((ps.map (·.1)).map V.str) (ps.map λp=>Value.str p.1 p.2)
 |[]=>.nil
 |p::ps=>.cons ⟨p.2,rfl⟩ OF
theorem Xk:BO X "list.remove" Rz:=by
 intro aa s Z H x xs v us Q I rx rs h;obtain⟨l,ys,z,j,rfl,rfl,hH,hj,fD,q⟩:=h;cases rx;obtain⟨u,rfl,ru⟩:=vals1 rs;obtain⟨t,rfl⟩:=ru;obtain⟨hz,aG,n,rv,hl,eo⟩:=I.A8 hH;obtain⟨ps,e1,e2⟩:=Kq rv;subst e1;have hlen:ps.length=ys.length:=by rw[<-e2,bj]
 have hjl:j<ys.length:=(eY.mp hj).1;have MH:∀i (hi:i<ps.length),ys[i]?=some ps[i].1:=λi hi=>by rw[<-e2];simp[hi]
 have hsz:(ps.map λp=>Value.str p.1 p.2).toArray.size=ps.length:=by simp
 have Ms:ps[j].1=z:=by
  simp_all
 refine call_meets F.slot_list_remove ⟨_,eo,rfl⟩ F.entry_list_remove (F.args_list_remove_2 _ _) (MeetsSeq.list_remove l _ n (.str z t) (Cv z) ?_ j (by rw[hsz];lia) ?_ ?_ (by rw[hsz,hlen];simpa using hz)) ⟨eo,?_⟩
 .intro y hy;simp at hy;obtain⟨b,t',_,rfl⟩:=hy;show MeetsSeq.EqGives _ _ (b == z);rw[<-SeqAt.str_beq];exact SeqRoads2.EqGives.str b z t' t
 .simp[Cv,Ms]
 .intro i hi sr;rw[hsz] at hi;have:=fD i _ sr (MH i hi);simp[Cv];exact this
 .refine⟨.aH,_,I.A7 (its':=(ps.eraseIdx j).map λp=>Value.str p.1 p.2) hH eo ?_ ?_ ?_,rfl,q⟩
  .apply Array.toList_inj.mp;simp[Array.toList_eraseIdxIfInBounds,HE]
  .rw[<-e2,HE];exact OF
  .rw[bj];have:=List.length_eraseIdx_le ys j;rw[bj] at hz;lia
end
end L2
namespace L2
open PySem PySem.Spec PySem.W PyProof.Rows
def YZ{P:c7}{w:cB}{xs:List DictEntry}{kvs:List (Str×ai)}(p:Pairs (strKind P w) xs kvs):∀{es:List (TK×V×V)},(∀x∈xs,∃k,(strKind P w).is k x.key=true/\x.hash=(strKind P w).hash k)->kvs.map (λp=>TK.inr p.1)=es.map (·.1)->Vals (es.map (·.2.2)) (kvs.map (·.2))->iB es->Paired (jD w) es xs:=by
 induction p with
 |nil=>
  intro es _ e _ _;cases es with
  |nil=>exact .nil
  |cons _ _=>cases e
 |@cons x kv xs kvs h1 h2 _ ih=>
  intro es hk e v t;cases es with
  |nil=>cases e
  |cons a es=>
   rw[cU,cU,List.cons.injEq] at e;cases v with
   |cons v1 v2=>
    refine .cons ?_ (ih (λy m=>hk y (.tail _ m)) e.2 v2 λy m=>t y (.tail _ m))
    obtain⟨k,k1,k2⟩:=hk x (.head _);obtain⟨z,t1,t2⟩:=t a (.head _);have i1:Value.isStrOf kv.1 x.key=true:=h1;have i2:Value.isStrOf k x.key=true:=k1;cases hx:x.key with
    |str s tk=>
     rw[hx] at i1 i2;have j1:s=kv.1:=by simpa[Value.isStrOf] using i1
     have j2:s=k:=by simpa[Value.isStrOf] using i2
     have j3:kv.1=z:=by
      lia
     refine⟨?_,?_,by rw[h2];exact v1,by rw[t1];rfl⟩
     .rw[k2,t1,<-j2,j1,j3];rfl
     .rw[t2,hx,j1,j3];exact⟨tk,rfl⟩
    |_=>rw[hx] at i1;cases i1
noncomputable def jw(z:Str)(k:TK):Bool:=decide (k≠.inr z)
theorem RC(z:Str):∀{es:List (TK×V×V)} {kvs:List (Str×ai)},kvs.map (λp=>TK.inr p.1)=es.map (·.1)->Vals (es.map (·.2.2)) (kvs.map (·.2))->(without kvs z).map (λp=>TK.inr p.1)=(es.filter λe=>jw z e.1).map (·.1)/\Vals ((es.filter λe=>jw z e.1).map (·.2.2)) ((without kvs z).map (·.2))
 |[],[],_,_=>⟨rfl,.nil⟩
 |[],_::_,e,_=>by cases e
 |_::_,[],e,_=>by cases e
 |a::es,kv::kvs,e,v=>by
  rw[cU,cU,List.cons.injEq] at e;cases v with
  |cons v1 v2=>
   obtain⟨i1,i2⟩:=RC z e.2 v2;unfold without at *;by_cases h:kv.1=z
   .grind [jw]
   .have h':jw z a.1=true:=by unfold jw;rw[<-e.1];simpa using h
    rw[zJ,zJ,bK (by simpa using h),bK h']
    exact⟨by rw[cU,cU,i1,e.1],.cons v1 i2⟩
theorem SG(z:Str){v:V}:∀{es:List (TK×V×V)} {kvs:List (Str×ai)},kvs.map (λp=>TK.inr p.1)=es.map (·.1)->Vals (es.map (·.2.2)) (kvs.map (·.2))->kN es (.inr z)=some v->∃u,valueAt kvs z=some u/\RelV v u
 |[],[],_,_,h=>by cases h
 |[],_::_,e,_,_=>by cases e
 |_::_,[],e,_,_=>by cases e
 |a::es,kv::kvs,e,vs,h=>by
  rw[cU,cU,List.cons.injEq] at e;cases vs with
  |cons v1 v2=>
   unfold kN at h;unfold valueAt;rw[GF] at h ⊢;by_cases g:kv.1=z
   .simp_all
   .have g':¬a.1=.inr z:=by rw[<-e.1];intro x;cases x;exact g rfl
    rw[wH g'] at h;rw[wH g];exact SG z e.2 v2 h
def zz(K:aL):V->List V->Hp->VK->Prop:=λx vs H Q=>∃d es ep z v,x=.ref d/\vs=[.str z]/\H d=some (.dG es ep)/\iB es/\kN es (.inr z)=some v/\∀qJ,Q v (upd H d (.dG (es.filter λe=>jw z e.1) qJ))
def d9x{X:Cx}(K:aL):BO X "dict.pop" (zz K):=by
 intro aa s Z H x xs v us Q I rx rs h;obtain⟨d,es,ep,z,v',rfl,rfl,hd,ht,hv,q⟩:=h;cases rx;obtain⟨u,rfl,ru⟩:=rs.one;obtain⟨tk,rfl⟩:=ru;obtain⟨kvs,D1,D2,D3,D4,lo⟩:=Ad I hd ht;obtain⟨w,hw,oH⟩:=SG z D3 D2 hv;refine call_meetsIn PySem.F.slot_dict_pop (Ih I hd).1 PySem.F.entry_dict_pop (PySem.F.args_dict_pop_2 _ _) (meets_dict_pop_there (strKind X.prog X.w) d (k:=z) (by show Value.isStrOf z (.str z tk)=true;simp[Value.isStrOf]) [] (.inl rfl) (by rfl)) ⟨kvs,w,D1.dictOf,D4,hw,λh' hD hs=>?_⟩
 obtain⟨o,xs,qJ,g1,g2,g3,g4,g5,g6⟩:=hD;obtain⟨f1,f2⟩:=RC z D3 D2;obtain⟨hz,_⟩:=(show bC X.prog X.w H s.heap d (.dG es ep) from I.bx d _ hd);refine⟨v',_,Li (ob:=.dG (es.filter λe=>jw z e.1) qJ) I (by rw[hd];exact vS) hs ⟨_,g1⟩ ⟨?_,lo,o,xs,g1,g2,g3,YZ g5 (λx m=>g4 x (N4.mp m)) f1 f2 λe m=>ht e (wx.mp m).1,?_⟩,oH,q qJ⟩
 .exact kx (wD _ _) hz
 .rw[<-f1,show(λp:Str×ai=>TK.inr p.1)=TK.inr∘(·.1) from rfl,<-eP]
  exact List.Pairwise.map _ (λa b ne z=>ne (by cases z;rfl)) g6
end L2
namespace L2
open PySem PySem.Spec PyProof.Rows
section
variable{X:Cx}{K:aL}
def zv(K:aL):V->List V->Hp->VK->Prop:=λx xs H Q=>∃a y o,x=.ref a/\xs=[y]/\iC K H a y o/\Q (o.getD .aH) H
def d9y(K:aL)(hu:X.A.units+41<cLine)(hK:X.K=K:=by rfl):BO X "dict.get" (zv K):=by
 subst hK;intro aa s Z H x xs v us Q I r rs h;obtain⟨a,y,o,rfl,rfl,g,q⟩:=h;obtain⟨u,rfl,ru⟩:=Vals.one rs;cases r;exact e5t (by lia) I g ru λw' s' I' oH=>⟨o.getD .aH,H,I',oH,q⟩
end
end L2
namespace L2
open PySem PySem.Spec PySem.W PyProof.Rows
section
variable{X:Cx}{A:cR}{E:ai->av->Prop}{aa:List (ag×Obj)}{Z:St}{H:Hp}{s:av}{d:ag}{y v2:V}{u r:ai}
end
section
variable{X:Cx}{K:aL}
end
end L2
namespace L2
open PySem PySem.Spec PyProof.Rows
def K2{P:c7}{w:cB}{H:Hp}(h:bP)(hb:sysModules<h.objs.size):bC P w H (h.push { cls:=.type "dict",data:=.dict #[]}) h.objs.size (.dG [] 0):=
 ⟨nK _,vR.mpr (Ne.symm (g_ hb)),_,#[],jP _ rfl,⟨rfl,rfl,rfl⟩,rfl,.nil,JJ⟩
def e6g:TE:=λ_ H Q=>∀p,H p=none->Q (.ref p) (upd H p (.dG [] 0))
end L2
namespace L2
open PySem PySem.Spec PySem.W PyProof.Rows
variable{H:Hp}{ps:List (TK×V×V)}{A:cR}{l:ag}{ys:List V}{E:ai->av->Prop}{s:av}
def Ov:entryFor table "dict.update.loop"=some Builtin.«dict.update.loop»:=entryFor_of_tree (by kernel_rfl)
def G4:plainId "dict.update.loop"=true:=by decide +kernel
def fH(es:List (TK×V×V))(ps:List (TK×V×V)):List (TK×V×V):=ps.foldl (λes p=>dN es p.1 p.2.1 p.2.2) es
def HK{d:ag}{o:HO}(h:H d=none):az H (upd H d o):=λb u e=>by
 grind [dc]
section
variable{X:Cx}{aa:List (ag×Obj)}{Z:St}{H:Hp}
structure kQ (K:aL) (H:Hp) (ys:List V) (ps:List (TK×V×V)):Prop where
 len:ys.length=ps.length
 item:∀(i:Nat) p,ps[i]?=some p->∃a,ys[i]?=some (.ref a)/\iA K H a [p.2.1,p.2.2]/\bF K H [p.2.1] [p.1.d]/\p.1.ok 8=true
def We(es ps:List (TK×V×V)):(fH es ps).length<=es.length+ps.length:=by
 induction ps generalizing es with
 |nil=>exact bV _
 |cons p ps ih=>
  grind [Hh,fH]
def Pe(K:aL)(h:∀p∈ps,bF K H [p.2.1] [p.1.d]):∀{es:List (TK×V×V)},bF K H (es.map (·.2.1)) (es.map (·.1.d))->bF K H ((fH es ps).map (·.2.1)) ((fH es ps).map (·.1.d)):=by
 induction ps with
 |nil=>exact λr=>r
 |cons p ps ih=>
  intro es r;refine ih (λq m=>h q (.tail _ m)) ?_
  have hp:=h p (.head _);clear ih h
  induction es with
  |nil=>exact hp
  |cons e es ih=>
   obtain⟨r1,r2⟩:=ah.inv r;show bF K H ((if e.1=p.1 then(e.1,e.2.1,p.2.2)::es else e::dN es p.1 p.2.1 p.2.2).map (·.2.1)) ((if e.1=p.1 then(e.1,e.2.1,p.2.2)::es else e::dN es p.1 p.2.1 p.2.2).map (·.1.d))
   split
   .exact .cons r1 r2
   .exact .cons r1 (ih r2)
def Wf{R:Result->av->Prop}{d J:ag}(hd:H d=none)(hl:cS X.K H l ys)(hp:kQ X.K H ys ps)(hh:A.handled=none)(hu:A.units+12<cLine)(hn:ps.length<1000)
  (hJ:∀u,jH X aa (upd H d u) J)
  (fin:∀s ep,Inv X aa Z (upd H d (.dG (fH [] ps) ep)) s->R (.ok (.ret .none)) s) :
  ∀(n i:Nat) (ep:Nat) (s:av) (tk:Tok),ps.length - i=n->i<=ps.length->Inv X aa Z (upd H d (.dG (fH [] (ps.take i)) ep)) s->s.heap.IsListIter J l i->codeAny (model X.prog X.w) A (.builtin "dict.update.loop" ⟨[.ref d,.ref J,.int (i:Int) tk,.none],[]⟩) R s:=by
 intro n
 induction n with
 |zero=>
  intro i ep s tk hi hi2 I it;have e:i=ps.length:=by lia
  subst e;refine codeAny_builtin Ov ?_;rw[Around.under_plainId G4 _];show wpAny _ A.in1 (pyNext (.ref J) >>= _) _ _ s;have oi:=(HK (o:=.dG (fH [] (ps.take ps.length)) ep) hd).seq hl;obtain⟨aG,rv,p,hz⟩:=I.list oi;obtain⟨f0,f1,f2,f3,f4,f5⟩:=hJ (.dG (fH [] (ps.take ps.length)) ep);have hlen:=rv.length;have E2:=hp.len;refine aA (wpAny_pyNext_list_end hh it p.isList (by simp;lia) λh' eb=>?_)
  have I1:=I.turned (t':=s.toks) (λb o hb e=>eb b o hb e) f0 f1 f3 f4 f5
  rw[List.take_length] at I1;exact aA (aX (aX (fin _ ep I1)))
 |succ n ih=>
  intro i ep s tk hi hi2 I it;have lt:i<ps.length:=by lia
  obtain⟨a,ya,sq,rk,ok⟩:=hp.item i ps[i] (iN lt);refine codeAny_builtin Ov ?_;rw[Around.under_plainId G4 _];show wpAny _ A.in1 (pyNext (.ref J) >>= _) _ _ s;have sm:=HK (o:=.dG (fH [] (ps.take i)) ep) hd;obtain⟨aG,rv,p,hz⟩:=I.list (sm.seq hl);obtain⟨u,hu1,ru⟩:=rv.get ya;obtain rfl:u=Value.ref a:=ru;obtain⟨f0,f1,f2,f3,f4,f5⟩:=hJ (.dG (fH [] (ps.take i)) ep);refine aA (wpAny_pyNext_list_item it p.isList (x:=.ref a) (by simpa using hu1) λh' CL sb=>?_)
  have I1:Inv X aa Z (upd H d (.dG (fH [] (ps.take i)) ep)) { s with heap:=h'}:=I.turned (t':=s.toks) (λb o hb e=>(sb.2 b hb).trans e) f0 f1 f3 f4 f5
  obtain⟨mJ,Jv,tp,_⟩:=I1.tuple (sm.By sq);obtain⟨w1,w2,rfl,r1,r2⟩:∃w1 w2,mJ=[w1,w2]/\RelV ps[i].2.1 w1/\RelV ps[i].2.2 w2:=by
   cases Jv with
   |cons r1 t=>
    cases t with
    |cons r2 t=>cases t;exact⟨_,_,rfl,r1,r2⟩
  obtain⟨o,ho,hc,n0,xD⟩:∃o,h'.get? a=some o/\o.cls=.type "tuple"/\∃n,o.data=.seq #[w1,w2] n:=by
   obtain⟨o,h1,h2,h3⟩:=tp;exact⟨o,h1,h2,h3⟩
  have hT:({ s with heap:=h'}:av).TypeIs (.ref a) "tuple":=⟨o,ho,hc⟩;refine aA (mh (aA (wpAny_tryCatch ?_)));unfold Builtin.Dict.pairItems;refine aA (wpAny_typeOf hT ?_);rw[bK (by decide)]
  refine aA (m:=seqItems? (.ref a)) (aA (wpAny_load ho ?_));rw[xD];refine aX (aX ?_);show wpAny _ _ (holding [w1,w2] (dictSet d w1 w2)) _ _ _;refine mh ?_;have I2:=I1.pinned (fp:=[J]) (λb hb=>by rw[qE.mp hb];exact hJ _) (λb hb=>by
   rw[qE.mp hb];obtain⟨oj,ej,_,dj⟩:=CL
   simp_all)
  have NN:ps.take (i+1)=ps.take i++[ps[i]]:=(List.take_append_getElem lt).symm;have hpa:dN (fH [] (ps.take i)) ps[i].1 ps[i].2.1 ps[i].2.2=fH [] (ps.take (i+1)):=by rw[NN];unfold fH;rw[Od];rfl
  have hlen:=We [] (ps.take i);rw[zI,C3] at hlen;refine KJ (H':=upd (upd H d (.dG (fH [] (ps.take i)) ep)) d (.dG (fH [] (ps.take (i+1))) (tU (fH [] (ps.take i)) ps[i].1 ep))) (show A.in1.units+8<cLine from ?_) I2 ⟨_,ep,ps[i].1,aK,?_,(ah.JD rk sm),ok,?_,by rw[hpa]⟩ r1 r2 λs' I3=>?_
  .lia
  .exact ah.JD (H:=H) (Pe X.K (λq m=>by
    obtain⟨j,hj⟩:=BH.mp (List.mem_of_mem_take m);obtain⟨_,_,_,r,_⟩:=hp.item j q hj;exact r) .nil) sm
  .exact gE (by lia:(fH [] (ps.take i)).length<1000000) (by decide)
  .have eu:upd (upd H d (.dG (fH [] (ps.take i)) ep)) d (.dG (fH [] (ps.take (i+1))) (tU (fH [] (ps.take i)) ps[i].1 ep))=upd H d (.dG (fH [] (ps.take (i+1))) (tU (fH [] (ps.take i)) ps[i].1 ep)):=by
    funext b;unfold upd;split <;> rfl
   rw[eu] at I3;obtain⟨oj,ej,cj,dj⟩:=id CL;have ej':s'.heap.get? J=some oj:=(I3.pin (J,oj) (rG _ (rG _ (Dx (by simp) ej)))).1
   refine aX ⟨plainId_quiet G4 _,?_⟩;exact ih (i+1) _ s' _ (by lia) lt I3.eO ⟨oj,ej',cj,dj⟩
theorem Xl{aG:Array ai}{Q:aj ai->av->Prop}(pl:PlainL s.heap l aG)(hA:A.handled=none)
  (h:∀h' tk,(∀b u,s.heap.get? b=some u->h'.get? b=some u)->Q none { s with heap:=h',toks:=tk}):wpAny (model X.prog X.w) A (getAttr? (.ref l) "keys") Q E s:=by
 obtain⟨o,n,hx,hc,hd,xD⟩:=pl;obtain⟨c,aw,dat,sl⟩:=o;simp only at hc xD hd;subst hc xD hd;obtain⟨hp,g,d,tk,os⟩:=s;have hT:∀UW,(⟨hp,g,d,UW,os⟩:av).TypeIs (.ref l) "list":=λ_=>⟨_,hx,rfl⟩
 have f1:=sub_AttributeError;have f3:=F.slot_list_getattribute.lookup;have f4:=F.slot_list_getattribute.bind (.ref l);have f5:=am_list_getattr_none;unfold getAttr? getAttrBy? getAttrBy
 repeat (any_goals (first|assumption|exact hT _|((with_reducible show wpAny _ _ (call (Value.builtin "list.__getattribute__") _ _) _ _ _);refine call_meets F.slot_list_getattribute (hT _) am_entry_list_getattribute (F.args_list_getattribute_2 _ _) (meets_getattribute_miss_list l aG n sl "keys" _ (by rw[typeLookup_type,builtinLookup_eq_fast];kernel_rfl) (by decide) (by size_fits)) ⟨hx,hA,λh' UW e wk=>?_⟩)|wp_step))
 obtain⟨t',u',he⟩:=wk.there;show wpAny _ _ (getattributeRaised _ _ _ _ _ _ _) _ _ _;unfold getattributeRaised
 repeat (any_goals (first|assumption|wp_step))
 exact h _ _ wk.keeps
theorem Vd{Q:ai->av->Prop}(I:Inv X aa Z H s)(hl:cS X.K H l ys)(hp:kQ X.K H ys ps)(hh:A.handled=none)(hu:A.units+20<cLine)(hn:ps.length<1000)
  (q:∀s' ep,Inv X aa Z (upd H s.heap.objs.size (.dG (fH [] ps) ep)) s'->Q (.ref s.heap.objs.size) s'):wpAny (model X.prog X.w) A (call (.type "dict") [.ref l]) Q E s:=by
 refine callType_codes (Q₁:=λobj s₁=>obj=.ref s.heap.objs.size/\s₁={ s with heap:=s.heap.push { cls:=.type "dict",data:=.dict #[]}}) F.kt_called_dict (F.kt_typeCall_dict_1 _) F.entry_dict_init (kt_code_dict_new _ ⟨rfl,rfl⟩) ?_
 rintro obj s₁ ⟨rfl,rfl⟩;have hd:H s.heap.objs.size=none:=I.bx.fresh (bV _);have I1:=I.laid (a:=s.heap.objs.size) (o:=.dG [] 0) (h':=s.heap.push { cls:=.type "dict",data:=.dict #[]}) (t':=s.toks) (λ_ _ q=>dy _ q) (bV _) (K2 s.heap I.big)
 generalize s.heap.objs.size=d at *;generalize s.heap.push { cls:=.type "dict",data:=.dict #[]}=ME at *;have hT:=(Ih I1 aK).1;obtain⟨aG,rv,pl,hz⟩:=I1.list ((HK hd).seq hl);have hTl:({ s with heap:=ME,toks:=s.toks}:av).TypeIs (.ref l) "list":=by
  obtain⟨o,n,h1,h2,_⟩:=pl;exact⟨o,h1,h2⟩
 refine⟨hT,F.args_dict_init_2 _ _,?_⟩;unfold Builtin.«dict.__init__»;refine aA ?_;unfold Builtin.Dict.selfAndRest;refine aA (wpAny_notOrdered_dict hT ?_);show wpAny _ _ (pure (d,[Value.ref l])) _ _ _;refine aX ?_;show wpAny _ _ (Builtin.Dict.updateFrom "dict.__init__" d (.ref l) [] .none) _ _ _;unfold Builtin.Dict.updateFrom;refine aA (wpAny_typeOf hTl ?_);rw[bK (by decide)]
 refine aA (Xl (X:=X) pl (show A.in1.in1.handled=none from hh) λh' tk kp=>?_)
 have I2:Inv X aa Z (upd H d (.dG [] 0)) { s with heap:=h',toks:=tk}:=I1.kept (t':=tk) kp;obtain⟨mJ,Jv,Nd,_⟩:=I2.list ((HK hd).seq hl);show wpAny _ _ (rule _ >>= _) _ _ _;refine aA (wpAny_rule ?_);refine aA (wpAny_pyIter_list Nd.isList ?_);have I3:=I2.kept (h':=h'.push { cls:=.type "list_iterator",data:=.fields #[.ref l,.int 0 0]}) (t':=tk) (λ_ _ e=>dy _ e)
 have TF:d<h'.objs.size:=by
  obtain⟨_,_,o,xs,g1,_⟩:=(show bC X.prog X.w _ h' d (.dG [] 0) from I2.bx d _ aK);exact cQ g1
 refine aX ⟨plainId_quiet G4 _,?_⟩;refine Wf (A:=A.in1) (J:=h'.objs.size) hd hl hp hh (show A.units+1+12<cLine by lia) hn (λu=>I2.mI (bV _) ?_) (λs' ep I4=>⟨rfl,q s' ep I4⟩) ps.length 0 0 _ _ rfl (nK _) I3 ⟨_,jP _ rfl,rfl,rfl⟩
 rw[dc (zG TF)];have:=I2.bx.fresh (bV _)
 rwa[dc (zG TF)] at this
def SH(K:aL):List V->Hp->VK->Prop:=λvs H Q=>∃a ys ps,vs=[.ref a]/\cS K H a ys/\kQ K H ys ps/\ps.length<1000/\∀p ep,H p=none->Q (.ref p) (upd H p (.dG (fH [] ps) ep))
def Wg(K:aL)(hu:X.A.units+41<cLine)(hc:X.calm=true:=by rfl)(hK:X.K=K:=by rfl):bR X (.type "dict") (SH K):=by
 subst hK;intro aa s Z H xs us Q I r h;obtain⟨a,ys,ps,rfl,hl,hp,hn,q⟩:=h;obtain⟨u,rfl,ru⟩:=vals1 r;cases ru;exact Vd I hl hp (I.ok.hd hc) (by lia) hn λs' ep I'=>⟨.ref s.heap.objs.size,_,I',rfl,q _ ep (I.bx.fresh (bV _))⟩
end
end L2
namespace L2
open PySem PySem.Spec PySem.W PySem.Calls PyProof.Rows
section
variable{prog:c7}{w:cB}{A:cR}{E:ai->av->Prop}{s:av}
def SI{vs:List ai}(h:vs.length<2):(arrOf (SortSt.mk' general' (vs.toArray.zip vs.toArray) #[] 7 none)).map (·.2)=vs.toArray:=by
 grind
def Wh{a:ag}{vs:List ai}{n:Nat}{P:Fin->av->Prop}(ho:s.heap.get? a=some (seqObj "list" vs.toArray n))(h1:vs.length<2)
  (h:P (.done (.ret .none)) { s with heap:=sortedHeap s.heap a vs vs.toArray}):wpAny (model prog w) A (Builtin.«list.sort» ⟨[.ref a],[]⟩) P E s:=by
 rw[list_sort_plain];have ha:a<s.heap.objs.size:=cQ ho;have hz:vs.length<=sizeLine:=by rw[sizeLine_eq];lia
 refine aA (listItems_at ho rfl ?_);refine aA (listUpdate_at ho rfl ?_ (by rw[fF];exact hz) (nK _))
 obtain⟨e1,AW⟩:∃e1,(s.heap.update a (Obj.mapSeq λ_=>#[])).get? a=some (seqObj "list" #[] e1):=⟨_,get?_update_seq ho (λ_=>#[])⟩
 refine aA (seqEpoch_at AW rfl ?_);refine aA (wpAny_newTuple ?_ (by show vs.length<=_;exact hz))
 refine aA (wpAny_newList ?_ (nK _));refine mh ?_;have AX:(((s.heap.update a (Obj.mapSeq λ_=>#[])).push (seqObj "tuple" vs.toArray 0)).push (seqObj "list" #[] 0)).get? a=some (seqObj "list" #[] e1):=by
  rw[GI _ _ _ (by rw[size_push',Oe];exact g_ (BG ha)),GI _ _ _ (by rw[Oe];exact g_ ha)]
  exact AW
 show wpAny (model prog w) A _ P E { s with heap:=((s.heap.update a (Obj.mapSeq λ_=>#[])).push (seqObj "tuple" vs.toArray 0)).push (seqObj "list" #[] 0)}
 dsimp only;have h2:vs.toArray.size<2:=by simpa using h1
 rw[bK h2,bK h2];refine aA (aX ?_);rw[StateT.run_pure];refine aA (aX ?_);dsimp only;refine aA (seqEpoch_at AX rfl ?_);refine aA (listUpdate_at AX rfl ?_ (nK _) (by rw[SI h1,fF];first|exact hz|exact Nat.le_succ_of_le hz))
 simp only[bne_self_eq_false,uc,kP];rw[SI h1];exact aX h
def Y0{vs:List ai}{h0:bP}{Q:ai->av->Prop}(h1:vs.length<2)(h:∀h' c,(∀b o,h0.get? b=some o->h'.get? b=some o)->h'.get? h0.objs.size=some (seqObj "list" vs.toArray c)->Q (.ref h0.objs.size) { s with heap:=h'}):
  wpAny (model prog w) A (call (.builtin "list.sort") [.ref h0.objs.size]) (λ_ s'=>Q (.ref h0.objs.size) s') E { s with heap:=h0.push (seqObj "list" vs.toArray 0)}:=by
 have ho:(h0.push (seqObj "list" vs.toArray 0)).get? h0.objs.size=some (seqObj "list" vs.toArray 0):=jP _ rfl;refine wpAny_call_entry slot_list_sort ⟨_,ho,rfl⟩ entry_list_sort ?_ (args_list_sort _);refine Wh (s:={ s with heap:=h0.push (seqObj "list" vs.toArray 0)}) ho h1 ⟨_,rfl,?_⟩;have lt:h0.objs.size<(h0.push (seqObj "list" vs.toArray 0)).objs.size:=cQ ho;obtain⟨e1,AW⟩:∃e1,((h0.push (seqObj "list" vs.toArray 0)).update h0.objs.size (Obj.mapSeq λ_=>#[])).get? h0.objs.size=some (seqObj "list" #[] e1):=⟨_,get?_update_seq ho (λ_=>#[])⟩
 have AX:((((h0.push (seqObj "list" vs.toArray 0)).update h0.objs.size (Obj.mapSeq λ_=>#[])).push (seqObj "tuple" vs.toArray 0)).push (seqObj "list" #[] 0)).get? h0.objs.size=some (seqObj "list" #[] e1):=dy _ (dy _ AW)
 have ho7:=get?_update_seq AX (λ_=>vs.toArray)
 refine h _ _ (λb o e=>?_) ho7
 have nb:b≠h0.objs.size:=g_ (cQ e)
 grind [PyProof.Rows.sortedHeap,PySem.Heap.get?_update_ne,PySem.Heap.get?_push_of_some]
def Xm{P:List ai->Prop}{r:ag}{Q:ai->av->Prop}(h1:∀vs,P vs->vs.length<2)(hc:∀R:List ai->av->Prop,(∀vs (h':bP) (tk:Nat),P vs->(∀b o,s.heap.get? b=some o->h'.get? b=some o)->R vs { s with heap:=h',toks:=tk})->wpAny (model prog w) A.in1 (collect (.ref r)) R E s)
  (h:∀vs (h0:bP) (tk:Nat),P vs->(∀b o,s.heap.get? b=some o->h0.get? b=some o)->∀(h':bP) (c:Nat),(∀b o,h0.get? b=some o->h'.get? b=some o)->h'.get? h0.objs.size=some (seqObj "list" vs.toArray c)->Q (.ref h0.objs.size) { s with heap:=h',toks:=tk}):wpAny (model prog w) A (call (.builtin "sorted") [.ref r]) Q E s:=by
 refine Calls.call_function_entry kind_sorted plain_sorted entry_sorted (args_sorted1 _) ?_;unfold Builtin.«sorted»;refine aA (m:=checkCount "sorted" 1 1 _) (aX ?_);refine aA (hc _ λvs h' tk hP kp=>?_)
 have hl:=h1 vs hP;refine aA (wpAny_newList ?_ (by rw[sizeLine_eq];lia))
 refine aA (mh (wpAny_mono (Y0 (s:={ s with heap:=h',toks:=tk}) (h0:=h') (vs:=vs) (Q:=λv s'=>Q v s') hl λh2 c Fj hg=>h vs h' tk hP kp h2 c Fj hg) (λ_ s' x=>?_) λ_ _ e=>e))
 exact aX ⟨_,rfl,x⟩
end
section
variable{X:Cx}{K:fQ}
theorem K3:∀{ys:List V} {us:List ai},ys.length=us.length->(∀(j:Nat) (y:V) (u:ai),ys[j]?=some y->us[j]?=some u->RelV y u)->Vals ys us
 |[],[],_,_=>.nil
 |[],_::_,h,_=>by simp at h
 |_::_,[],h,_=>by simp at h
 |y::ys,u::us,h,r=>.cons (r 0 y u rfl rfl) (K3 (by simpa using h) λj y' u' e1 e2=>r (j+1) y' u' (by simpa using e1) (by simpa using e2))
def SJ(K:fQ):List V->Hp->VK->Prop:=λxs H Q=>∃a ys,xs=[.ref a]/\(cS K H a ys\/∃es ep,H a=some (.dG es ep)/\iB es/\ys=es.map (·.2.1))/\ys.length<2/\∀l,H l=none->Q (.ref l) (upd H l (.lst ys))
def VB(hc:X.calm=true):bR X (.builtin "sorted") (SJ X.K):=by
 intro aa s Z H xs us Q I r h;obtain⟨a,ys,rfl,hq,hl,q⟩:=h;obtain⟨u,rfl,ru⟩:=Vals.one r;cases ru;refine Xm (P:=Vals ys) (λvs rv=>by have:=rv.length;lia) ?_ λvs h0 tk rv kp h' c Fj hg=>?_
 .intro R hR;rcases hq with hq|⟨es,ep,hd,ht,rfl⟩
  .obtain⟨aG,rv,pl,hz⟩:=I.list hq;refine collect_list pl.isList (hR aG _ s.toks rv λb o e=>?_) (by have:=rv.length;rw[sizeLine_eq];lia)
   have nb:b≠s.heap.objs.size:=g_ (cQ e);rw[Heap.get?_update_ne _ _ _ _ nb];exact dy _ e
  .obtain⟨kvs,D1,D2,D3,D4,lo⟩:=Ad I hd ht;have l1:kvs.length=es.length:=by have:=congrArg List.length D3;simpa using this
   refine kdu_collect (kdl_dict (knd:=strKind X.prog X.w) (kvs:=kvs) (ep:=ep) lo) (I.ok.hd hc) D1 D4 λh' tk aP kp hi=>hR _ h' tk ?_ kp
   refine K3 (by have:=hi.1;rw[bj,<-l1,<-this];simp) λj y u e1 e2=>?_
   rw[fU] at e1;obtain⟨e,e3,rfl⟩:=c_.mp e1;obtain⟨z,z1,z2⟩:=ht e (vO e3);obtain⟨k,v,k1,k2⟩:=hi.2 j u (by rw[<-zK];exact e2)
   have k3:(kvs.map (λp=>TK.inr p.1))[j]?=(es.map (·.1))[j]?:=by rw[D3]
   rw[fU,fU,k1,e3] at k3;have k4:TK.inr k=e.1:=Option.some.inj k3;rw[z1] at k4;cases k4;rw[z2];exact Value.isStrOf_shape k2
 .have e:=rv.length;have I0:Inv X aa Z H { s with heap:=h0,toks:=tk}:=I.kept kp;have I1:=I0.laid (h':=h') (t':=tk) (o:=.lst ys) Fj (bV _) (show bC X.prog X.w _ h' _ (.lst ys) from⟨by rw[sizeLine_eq];lia,vs,c,rv,hg⟩)
  exact⟨.ref h0.objs.size,_,I1,rfl,q _ (I0.bx.fresh (bV _))⟩
end
end L2
namespace L2
open PySem PySem.Spec PySem.W PyProof.Rows
variable{p:Array Nat}{i m k l:Nat}
def pw(lt:Nat->Nat->Bool)(n:Nat){α:Type}:KasT α->(α->Prop)->Prop
 |.ret a,P=>P a
 |.ask i j k,P=>i<n/\j<n/\i≠j/\pw lt n (k (lt i j)) P
section
variable{lt:Nat->Nat->Bool}{n:Nat}
theorem Ij{α:Type}{P Q:α->Prop}(h:∀a,P a->Q a):∀{t:KasT α},pw lt n t P->pw lt n t Q
 |.ret a,p=>h a p
 |.ask i j k,p=>⟨p.1,p.2.1,p.2.2.1,Ij h p.2.2.2⟩
theorem Cn{α β:Type}{P:α->Prop}{Q:β->Prop}{f:α->KasT β}(h:∀a,P a->pw lt n (f a) Q):∀{t:KasT α},pw lt n t P->pw lt n (t.bind f) Q
 |.ret a,p=>h a p
 |.ask i j k,p=>⟨p.1,p.2.1,p.2.2.1,Cn h p.2.2.2⟩
structure Ord (lt:Nat->Nat->Bool) (n:Nat):Prop where
 BD:∀i j,i<n->j<n->i≠j->lt i j=false->lt j i=true
 asy:∀i j,i<n->j<n->lt i j=true->lt j i=false
 tr:∀i j k,i<n->j<n->k<n->lt i j=true->lt j k=true->lt i k=true
structure tY (n:Nat) (p:Array Nat):Prop where
 pm:p.Perm (List.toArray (List.range n))
def tY.size{p:Array Nat}(h:tY n p):p.size=n:=by have:=h.pm.size_eq;simpa using this
def tY.below(h:tY n p)(hi:i<n):p.getD i 0<n:=by
 have hs:=h.size;have e:p.getD i 0=p[i]'(by lia):=by simp[Array.getD,hs,hi]
 rw[e];have:p[i]'(by lia)∈p:=Array.getElem_mem _
 have:=h.pm.mem_iff.mp this
 simp_all
theorem tY.inj(h:tY n p){j:Nat}(hi:i<n)(hj:j<n)(e:p.getD i 0=p.getD j 0):i=j:=by
 have hs:=h.size;have nd:p.toList.Nodup:=(Array.perm_iff_toList_perm.mp h.pm).nodup_iff.mpr (by simpa using N9)
 have ei:p.getD i 0=p.toList[i]'(by simp;lia):=by simp[Array.getD,hs,hi]
 have ej:p.getD j 0=p.toList[j]'(by simp;lia):=by simp[Array.getD,hs,hj]
 rw[ei,ej] at e;exact(Gv nd).mp e
def tZ(lt:Nat->Nat->Bool)(p:Array Nat)(k:Nat):Prop:=∀i j,i<j->j<k->lt (p.getD i 0) (p.getD j 0)=true
def BM(lt:Nat->Nat->Bool)(p:Array Nat)(k:Nat):Prop:=∀i j,i<j->j<k->lt (p.getD j 0) (p.getD i 0)=true
variable(O:Ord lt n){p:Array Nat}(hp:tY n p)
include O hp
theorem Y1(h1:1<=m)(hm:m<n)(h:tZ lt p m)(e:lt (p.getD (m - 1) 0) (p.getD m 0)=true):tZ lt p (m+1):=by
 intro i j sr hj;by_cases z:j=m
 .subst z;by_cases z2:i=j - 1
  .rw[z2];exact e
  .exact O.tr _ _ _ (hp.below (by lia)) (hp.below (by lia)) (hp.below hm) (h i (j - 1) (by lia) (by lia)) e
 .exact h i j sr (by lia)
theorem Y2(h1:1<=m)(hm:m<n)(h:BM lt p m)(e:lt (p.getD m 0) (p.getD (m - 1) 0)=true):BM lt p (m+1):=by
 intro i j sr hj;by_cases z:j=m
 .subst z;by_cases z2:i=j - 1
  .rw[z2];exact e
  .exact O.tr _ _ _ (hp.below hm) (hp.below (by lia)) (hp.below (by lia)) e (h i (j - 1) (by lia) (by lia))
 .exact h i j sr (by lia)
theorem Ly:∀(f m:Nat),1<=m->m+f<=n->tZ lt p m->pw lt n (kas_asc p f m) λr=>m<=r/\r<=m+f/\tZ lt p r/\(r<m+f->lt (p.getD r 0) (p.getD (r - 1) 0)=true)
 |0,m,_,_,h=>⟨bV _,bV _,h,λz=>cJ z (kX _)⟩
 |f+1,m,h1,hm,h=>by
  refine⟨hp.below (by lia),hp.below (by lia),λz=>by have:=hp.inj (by lia) (by lia) z;lia,?_⟩
  cases e:lt (p.getD m 0) (p.getD (m - 1) 0) with
  |true=>exact⟨bV _,by lia,h,λ_=>e⟩
  |false=>
   have:=O.BD _ _ (hp.below (by lia)) (hp.below (by lia)) (λz=>by have:=hp.inj (by lia) (by lia) z;lia) e
   exact Ij (λr hr=>⟨by lia,by lia,hr.2.2.1,λz=>hr.2.2.2 (by lia)⟩) (Ly f (m+1) (by lia) (by lia) (Y1 O hp h1 (by lia) h this))
theorem RF:∀(f m:Nat),1<=m->m+f<=n->BM lt p m->pw lt n (kas_desc f p m 0) λr=>r.1=p/\r.2.2=0/\m<=r.2.1/\r.2.1<=m+f/\BM lt p r.2.1
 |0,m,_,_,h=>⟨rfl,rfl,bV _,bV _,h⟩
 |f+1,m,h1,hm,h=>by
  refine⟨hp.below (by lia),hp.below (by lia),λz=>by have:=hp.inj (by lia) (by lia) z;lia,?_⟩
  cases e:lt (p.getD m 0) (p.getD (m - 1) 0) with
  |true=>exact Ij (λr hr=>⟨hr.1,hr.2.1,by lia,by lia,hr.2.2.2.2⟩) (RF f (m+1) (by lia) (by lia) (Y2 O hp h1 (by lia) h e))
  |false=>
   have:=O.BD _ _ (hp.below (by lia)) (hp.below (by lia)) (λz=>by have:=hp.inj (by lia) (by lia) z;lia) e
   refine⟨hp.below (by lia),hp.below (by lia),λz=>by have:=hp.inj (by lia) (by lia) z;lia,?_⟩
   rw[this];exact⟨rfl,rfl,bV _,JG _ _,h⟩
omit O in
theorem SK(hm:m<=n)(i:Nat):(kas_rev p 0 m).getD i 0=if i<m then p.getD (m - 1 - i) 0 else p.getD i 0:=by
 have hs:=hp.size;have:=getElem?_mirror_all (xs:=p) (i:=0) (j:=m) (by lia) i
 have g:∀(q:Array Nat) (j:Nat),q.getD j 0=(q[j]?).getD 0:=λq j=>by
  simp_all
 unfold kas_rev;rw[g,this];simp only[nK,true_and,Nat.zero_add];split
 .rw[g]
 .rw[g]
omit O in
theorem RG(m:Nat):tY n (kas_rev p 0 m):=⟨(mirror_perm _ _ _ _).trans hp.pm⟩
theorem d9z(hm:m<=n)(h:BM lt p m):tZ lt (kas_rev p 0 m) m:=by
 intro i j sr hj;rw[SK hp hm,SK hp hm,bK (by lia),bK hj]
 exact h _ _ (by lia) (by lia)
theorem K4{k:Nat}(hk:k<n)(hs:tZ lt p k):∀(f l r:Nat),l<=r->r<=k->r - l<=f->(∀i,i<l->lt (p.getD i 0) (p.getD k 0)=true)->(∀i,r<=i->i<k->lt (p.getD k 0) (p.getD i 0)=true)->
  pw lt n (kas_place p k f l r) λx=>x<=k/\(∀i,i<x->lt (p.getD i 0) (p.getD k 0)=true)/\∀i,x<=i->i<k->lt (p.getD k 0) (p.getD i 0)=true
 |0,l,r,h1,h2,h3,a,b=>⟨by lia,a,λi hi hk=>b i (by lia) hk⟩
 |f+1,l,r,h1,h2,h3,a,b=>by
  unfold kas_place;split
  .exact⟨by lia,a,λi hi hk=>b i (by lia) hk⟩
  .refine⟨hp.below hk,hp.below (by lia),λz=>by have:=hp.inj hk (by lia) z;lia,?_⟩
   have hm:(l+r) / 2<k:=by lia
   cases e:lt (p.getD k 0) (p.getD ((l+r) / 2) 0) with
   |true=>
    refine K4 hk hs f l _ (by lia) (by lia) (by lia) a λi hi hik=>?_
    by_cases z:i=(l+r) / 2
    .rw[z];exact e
    .exact O.tr _ _ _ (hp.below hk) (hp.below (by lia)) (hp.below (by lia)) e (hs _ _ (by lia) hik)
   |false=>
    have e2:=O.BD _ _ (hp.below hk) (hp.below (by lia)) (λz=>by have:=hp.inj hk (by lia) z;lia) e
    refine K4 hk hs f _ r (by lia) (by lia) (by lia) (λi hi=>?_) b
    by_cases z:i=(l+r) / 2
    .rw[z];exact e2
    .exact O.tr _ _ _ (hp.below (by lia)) (hp.below (by lia)) (hp.below hk) (hs _ _ (by lia) (by lia)) e2
omit O in
theorem SM(hk:k<n)(hl:l<=k)(i:Nat):(bubble p k (k - l)).getD i 0=if i=l then p.getD k 0 else if l<i/\i<=k then p.getD (i - 1) 0 else p.getD i 0:=by
 have hs:=hp.size;have:=getElem?_bubble (xs:=p) (src:=k) (by lia) (k - l) (by lia) i
 have g:∀(q:Array Nat) (j:Nat),q.getD j 0=(q[j]?).getD 0:=λq j=>by
  simp_all
 rw[g,this,show k - (k - l)=l by lia]
 split
 .rw[g]
 .split
  .rw[g]
  .rw[g]
theorem e0a(hk:k<n)(hl:l<=k)(hs:tZ lt p k)(a:∀i,i<l->lt (p.getD i 0) (p.getD k 0)=true)(b:∀i,l<=i->i<k->lt (p.getD k 0) (p.getD i 0)=true):tZ lt (bubble p k (k - l)) (k+1):=by
 intro i j sr hj;rw[SM hp hk hl,SM hp hk hl];by_cases j1:j=l
 .rw[bK j1,bD (show ¬i=l by lia),bD (show ¬(l<i/\i<=k) by lia)]
  exact a i (by lia)
 .rw[bD j1];by_cases i1:i=l
  .grind
  .rw[bD i1];by_cases j2:l<j
   .rw[bK (show l<j/\j<=k by lia)]
    by_cases i2:l<i
    .rw[bK (show l<i/\i<=k by lia)];exact hs _ _ (by lia) (by lia)
    .rw[bD (show ¬(l<i/\i<=k) by lia)]
     by_cases z:i=j - 1
     .lia
     .exact hs _ _ (by lia) (by lia)
   .rw[bD (show ¬(l<j/\j<=k) by lia),bD (show ¬(l<i/\i<=k) by lia)]
    exact hs _ _ sr (by lia)
omit hp in
theorem SO:∀(f:Nat) (p:Array Nat) (k:Nat),tY n p->k+f=n->tZ lt p k->pw lt n (kas_bin f p k) λq=>tY n q/\tZ lt q n
 |0,p,k,hp,e,h=>by subst e;exact⟨hp,h⟩
 |f+1,p,k,hp,e,h=>by
  refine Cn (λl hl=>?_) (K4 O hp (by lia) h k 0 k (nK _) (bV _) (by lia) (λi hi=>by lia) λi hi hk=>by lia)
  exact SO f _ (k+1) ⟨(bubble_perm _ _ _).trans hp.pm⟩ (by lia) (e0a O hp (by lia) hl.1 h hl.2.1 hl.2.2)
theorem Y3(h1:1<=n):pw lt n (kas_count n p) λr=>1<=r.1/\r.1<=n/\tY n r.2/\tZ lt r.2 r.1:=by
 refine Cn (λm hm=>?_) (Ly O hp (n - 1) 1 (bV _) (by lia) λi j sr hj=>by lia)
 obtain⟨m1,m2,m3,m4⟩:=hm;by_cases e:m=n
 .rw[bK (by simpa using e)]
  exact⟨m1,by show m<=n;lia,hp,m3⟩
 .rw[bD (by simpa using e)]
  by_cases g:m > 1
  .rw[bK g];refine⟨hp.below (by lia),hp.below (by lia),λz=>by have:=hp.inj (by lia) (by lia) z;lia,?_⟩
   rw[m3 0 (m - 1) (by lia) (by lia)]
   exact⟨m1,by show m<=n;lia,hp,m3⟩
  .rw[bD g];have em:m=1:=by lia
   subst em;have d2:BM lt p 2:=λi j sr hj=>by
    have:i=0/\j=1:=by lia
    rw[this.1,this.2];exact m4 (by lia)
   refine Cn (λr hr=>?_) (RF O hp (n - (1+1)) (1+1) (by lia) (by lia) d2)
   obtain⟨r1,r2,r3,r4,r5⟩:=hr;rw[bD (by rw[r2];exact kX 0),r1]
   refine Cn (λx hx=>?_) (Ly O (RG hp r.2.1) (n - r.2.1) r.2.1 (by lia) (by lia) (d9z O hp (by lia) r5))
   exact⟨by show 1<=x;lia,by show x<=n;lia,RG hp _,hx.2.2.1⟩
omit hp in
theorem RJ(h1:1<=n):pw lt n (kas_sort n) λq=>tY n q/\tZ lt q n:=by
 refine Cn (λr hr=>?_) (Y3 O ⟨Array.Perm.refl _⟩ h1)
 obtain⟨r1,r2,r3,r4⟩:=hr;have e:max r.1 1=r.1:=by lia
 rw[e];split
 .grind [SO]
 .have:r.1=n:=by lia
  rw[this] at r4;exact⟨r3,r4⟩
end
variable{ks:List (Int×Int)}
def CV(lt:Nat->Nat->Bool){α:Type}:KasT α->α
 |.ret a=>a
 |.ask i j k=>CV lt (k (lt i j))
theorem ID{lt:Nat->Nat->Bool}{n:Nat}{α:Type}{P:α->Prop}:∀{t:KasT α},pw lt n t P->P (CV lt t)/\pw lt n t λa=>a=CV lt t
 |.ret _,p=>⟨p,rfl⟩
 |.ask _ _ _,p=>⟨(ID p.2.2.2).1,p.1,p.2.1,p.2.2.1,(ID p.2.2.2).2⟩
theorem SQ{lt:Nat->Nat->Bool}{n:Nat}{α:Type}{cmp:Nat->Nat->(Bool->av->Prop)->av->Prop}{Q:α->av->Prop}{s:av}(hc:∀i j C,i<n->j<n->i≠j->C (lt i j) s->cmp i j C s):∀{t:KasT α},pw lt n t (λa=>Q a s)->t.kasWp cmp Q s
 |.ret _,p=>p
 |.ask i j k,p=>hc i j _ p.1 p.2.1 p.2.2.1 (SQ hc p.2.2.2)
def Jp(x y:Int×Int):Bool:=decide (x.1<y.1\/(x.1=y.1/\x.2<y.2))
def ltAt(ks:List (Int×Int))(i j:Nat):Bool:=Jp (ks.getD i (0,0)) (ks.getD j (0,0))
def SR(nd:ks.Nodup):Ord (ltAt ks) ks.length:=by
 refine⟨λi j hi hj hn h=>?_,λi j _ _ h=>?_,λi j k _ _ _ h1 h2=>?_⟩
 all_goals grind [List.getElem_inj,ltAt,Jp]
def dm(ks:List (Int×Int)):List Nat:=(CV (ltAt ks) (kas_sort ks.length)).toList
def eR(h:bP)(vs:List ai)(ks:List (Int×Int)):Prop:=vs.length=ks.length/\∀i,i<ks.length->∃x o a b t t' z m,vs.getD i Value.none=.ref x/\h.get? x=some o/\o.cls=.type "tuple"/\o.data=.seq #[.int a t,.int b t',z] m/\ks.getD i (0,0)=(a,b)
def eR.keep{h h':bP}{vs:List ai}(T:eR h vs ks)(k:∀b o,h.get? b=some o->h'.get? b=some o):eR h' vs ks:=⟨T.1,λi hi=>by
 obtain⟨x,o,a,b,t,t',z,m,h1,h2,r⟩:=T.2 i hi;exact⟨x,o,a,b,t,t',z,m,h1,k _ _ h2,r⟩⟩
section
variable{prog:c7}{w:cB}{A:cR}{E:ai->av->Prop}{s:av}{vs:List ai}{ks:List (Int×Int)}
def e0b(T:eR s.heap vs ks)(nd:ks.Nodup)(i j:Nat)(C:Bool->av->Prop)(hi:i<ks.length)(hj:j<ks.length)(ij:i≠j)(h:C (ltAt ks i j) s):kas_ask prog w A (tuples' true) vs i j C s:=by
 obtain⟨x,o,a,b,t,t',z,m,x1,x2,x3,x4,x5⟩:=T.2 i hi;obtain⟨y,p,c,d,u,u',z',m',y1,y2,y3,y4,y5⟩:=T.2 j hj;have hl:ltAt ks i j=decide (a<c\/(a=c/\b<d)):=by unfold ltAt Jp;rw[x5,y5]
 rw[hl] at h;unfold kas_ask;rw[x1,y1];refine kat_lt x2 x4 y2 y4 ?_;show KatLex prog w A true _ C [(.int a t,.int c u),(.int b t',.int d u'),(z,z')] 0 s;refine kat_cons (wpAny_eqBool_int (kat_go (λe=>?_) λe=>?_))
 .have e:a=c:=by simpa using e
  refine kat_yes (kat_cons (wpAny_eqBool_int (kat_go (λe2=>?_) λe2=>?_)))
  .grind [List.getElem_inj]
  .have e2:b≠d:=by simpa using e2
   refine kat_no (kat_one _ _ (wpAny_lt_int ?_));rw[show decide (a<c\/(a=c/\b<d))=decide (b<d) by simp[e]] at h
   exact h
 .have e:a≠c:=by simpa using e
  refine kat_no (oneLt_int ?_);rw[show decide (a<c\/(a=c/\b<d))=decide (a<c) by simp[e]] at h
  exact h
theorem Qm{h:bP}:∀{vs:List ai} {ks:List (Int×Int)},eR h vs ks->∃fs,KatTups h vs fs/\fs.length=vs.length/\∀v∈fs,∃a t,v=Value.int a t
 |[],_,_=>⟨[],.nil,rfl,λv m=>by cases m⟩
 |v::vs,[],T=>by have:=T.1;simp at this
 |v::vs,k::ks,T=>by
  obtain⟨fs,f1,f2,f3⟩:=Qm (h:=h) (vs:=vs) (ks:=ks) ⟨by have:=T.1;simpa using this,λi hi=>by
   obtain⟨x,o,a,b,t,t',z,m,r⟩:=T.2 (i+1) (by simpa using hi)
   exact⟨x,o,a,b,t,t',z,m,by simpa using r⟩⟩
  obtain⟨x,o,a,b,t,t',z,m,h1,h2,h3,h4,_⟩:=T.2 0 (by simp)
  have h1:v=.ref x:=by simpa using h1
  subst h1;refine⟨.int a t::fs,.cons h2 h3 h4 (by simp) f1,by simp[f2],λv m=>?_⟩
  rcases y0a.mp m with rfl|m
  .exact⟨a,t,rfl⟩
  .exact f3 v m
def Vq{a:ag}{n:Nat}{P:PySem.Fin->av->Prop}(ho:s.heap.get? a=some (seqObj "list" vs.toArray n))(T:eR s.heap vs ks)(nd:ks.Nodup)(na:∀i x,i<ks.length->vs.getD i Value.none=.ref x->x≠a)(h2:2<=vs.length)(EN:vs.length<64)
  (h:P (.done (.ret .none)) { s with heap:=sortedHeap s.heap a vs (List.toArray ((dm ks).map λi=>vs.getD i Value.none))}):wpAny (model prog w) A (Builtin.«list.sort» ⟨[.ref a],[]⟩) P E s:=by
 rw[list_sort_plain];have ha:a<s.heap.objs.size:=cQ ho;refine aA (listItems_at ho rfl ?_);refine aA (listUpdate_at ho rfl ?_ (by rw[fF,sizeLine_eq];lia) (nK _))
 obtain⟨e1,AW⟩:∃e1,(s.heap.update a (Obj.mapSeq λ_=>#[])).get? a=some (seqObj "list" #[] e1):=⟨_,get?_update_seq ho (λ_=>#[])⟩
 refine aA (seqEpoch_at AW rfl ?_);refine aA (wpAny_newTuple ?_ (by show vs.length<=_;rw[sizeLine_eq];lia))
 refine aA (wpAny_newList ?_ (nK _));refine mh ?_;have AX:(((s.heap.update a (Obj.mapSeq λ_=>#[])).push (seqObj "tuple" vs.toArray 0)).push (seqObj "list" #[] 0)).get? a=some (seqObj "list" #[] e1):=by
  rw[GI _ _ _ (by rw[size_push',Oe];exact g_ (BG ha)),GI _ _ _ (by rw[Oe];exact g_ ha)]
  exact AW
 have T6:eR (((s.heap.update a (Obj.mapSeq λ_=>#[])).push (seqObj "tuple" vs.toArray 0)).push (seqObj "list" #[] 0)) vs ks:=⟨T.1,λi hi=>by
  obtain⟨x,o,b,c,t,t',z,m,y1,y2,r⟩:=T.2 i hi;refine⟨x,o,b,c,t,t',z,m,y1,dy _ (dy _ ?_),r⟩;rw[Heap.get?_update_ne _ _ _ _ (na i x hi y1)];exact y2⟩
 show wpAny (model prog w) A _ P E { s with heap:=((s.heap.update a (Obj.mapSeq λ_=>#[])).push (seqObj "tuple" vs.toArray 0)).push (seqObj "list" #[] 0)}
 dsimp only;have AV:¬vs.toArray.size<2:=by rw[fF];lia
 rw[bD AV,bD AV];obtain⟨fs,f1,f2,f3⟩:=Qm T6;refine aA (kat_kind (T:=.type "int") f1 (by lia) (λv hv=>?_) (by decide) ?_)
 .obtain⟨b,t,rfl⟩:=f3 v hv;exact λA Q E s' _ q=>wpAny_typeOf (typeIs_int s' b t) q
 .have O:=SR nd;have pq:=RJ O (show 1<=ks.length by have:=T.1;lia)
  obtain⟨⟨q1,q2⟩,q3⟩:=ID pq;have hlen:=T.1;refine aA (wpAny_mono (kat_run (Q:=λkr s'=>s'={ s with heap:=((s.heap.update a (Obj.mapSeq λ_=>#[])).push (seqObj "tuple" vs.toArray 0)).push (seqObj "list" #[] 0)}/\arrOf kr=(CV (ltAt ks) (kas_sort ks.length)).map (kas_item (vs.toArray.zip vs.toArray))/\failedOf kr=none) rfl h2 EN (λp' kr s' a1 a2 a3 a4=>⟨a4.2,by rw[<-a4.1];exact a2,a3⟩) (G:=λp s'=>p=CV (ltAt ks) (kas_sort ks.length)/\s'=_) ?_) ?_ λ_ _ e=>e)
  .rw[hlen];exact SQ (λi j C hi hj ij hC=>e0b T6 nd i j C hi hj ij hC) (Ij (λp hp=>⟨hp,rfl⟩) q3)
  .rintro⟨⟨⟩,kr⟩ s' ⟨rfl,Mm,hf⟩;dsimp only;have MC:=kat_snds rfl Mm;rw[MC];refine aA (seqEpoch_at AX rfl ?_);refine aA (listUpdate_at AX rfl ?_ (nK _) (by rw[fF,bj,JR,q1.size,sizeLine_eq];lia))
   rw[hf];simp only[bne_self_eq_false,uc,kP];exact aX h
def Wi{l:ag}{Q:ai->av->Prop}(hl:s.heap.IsList l vs.toArray)(T:eR s.heap vs ks)(nd:ks.Nodup)(h2:2<=vs.length)(EN:vs.length<64)
  (h:Q (.ref (s.heap.objs.size+1)) { s with heap:=sortedAll s.heap vs (List.toArray ((dm ks).map λi=>vs.getD i Value.none))}):wpAny (model prog w) A (call (.builtin "sorted") [.ref l]) Q E s:=by
 refine Calls.call_function_entry kind_sorted plain_sorted entry_sorted (args_sorted1 _) ?_;unfold Builtin.«sorted»;refine aA (m:=checkCount "sorted" 1 1 _) (aX ?_);refine aA (collect_list hl ?_ (by rw[sizeLine_eq];lia))
 refine aA (wpAny_newList ?_ (by rw[sizeLine_eq];lia))
 have hsz:((s.heap.push (seqObj "list" #[] 0)).update s.heap.objs.size (Obj.mapSeq (·++vs.toArray))).objs.size=s.heap.objs.size+1:=by
  simp_all
 have iP:(((s.heap.push (seqObj "list" #[] 0)).update s.heap.objs.size (Obj.mapSeq (·++vs.toArray))).push (seqObj "list" vs.toArray 0)).get? (s.heap.objs.size+1)=some (seqObj "list" vs.toArray 0):=by
  rw[<-hsz];exact jP _ rfl
 have keep:∀b o,s.heap.get? b=some o->(((s.heap.push (seqObj "list" #[] 0)).update s.heap.objs.size (Obj.mapSeq (·++vs.toArray))).push (seqObj "list" vs.toArray 0)).get? b=some o:=λb o q=>by
  have om:b<s.heap.objs.size:=cQ q;rw[GI _ _ _ (by rw[hsz];exact g_ (BG om)),Heap.get?_update_ne _ _ _ _ (g_ om),GI _ _ _ (g_ om)]
  exact q
 show wpAny _ _ _ _ _ { s with heap:=((s.heap.push (seqObj "list" #[] 0)).update s.heap.objs.size (Obj.mapSeq (·++vs.toArray))).push (seqObj "list" vs.toArray 0)}
 rw[hsz];refine aA (mh (wpAny_call_entry slot_list_sort ⟨_,iP,rfl⟩ entry_list_sort (Vq iP (T.keep keep) nd (λi x hi e=>?_) h2 EN ⟨_,rfl,?_⟩) (args_list_sort _)))
 .obtain⟨y,o,_,_,_,_,_,_,y1,y2,_⟩:=T.2 i hi;rw[y1] at e;cases e;exact g_ (BG (cQ y2))
 .exact aX ⟨_,rfl,h⟩
end
section
variable{X:Cx}{K:aL}{H:Hp}
def yv(K:aL)(H:Hp)(ys:List V)(ks:List (Int×Int)):Prop:=ys.length=ks.length/\∀i,i<ks.length->∃p z,ys[i]?=some (.ref p)/\iA K H p [.int (ks.getD i (0,0)).1,.int (ks.getD i (0,0)).2,z]
def SS(K:aL):List V->Hp->VK->Prop:=λvs H Q=>∃a ys ks,vs=[.ref a]/\cS K H a ys/\yv K H ys ks/\ks.Nodup/\2<=ks.length/\ks.length<64/\∀l,H l=none->Q (.ref l) (upd H l (.lst ((dm ks).map λi=>ys.getD i .aH)))
theorem PQ{ys:List V}{us:List ai}(r:Vals ys us):∀{is:List Nat},(∀i∈is,i<ys.length)->Vals (is.map λi=>ys.getD i .aH) (is.map λi=>us.getD i Value.none)
 |[],_=>.nil
 |i::is,h=>by
  have hi:=h i (.head _);obtain⟨u,e,ru⟩:=r.get (iN hi);have e1:ys.getD i .aH=ys[i]:=by simp[hi]
  have e2:us.getD i Value.none=u:=by rw[BL,e];rfl
  refine .cons ?_ (PQ r λj m=>h j (.tail _ m))
  lia
theorem DN(nd:ks.Nodup)(h:1<=ks.length):(dm ks).Perm (List.range ks.length)/\(dm ks).Pairwise λi j=>ltAt ks i j=true:=by
 obtain⟨⟨q1,q2⟩,_⟩:=ID (RJ (SR nd) h);refine⟨by unfold dm;have:=Array.perm_iff_toList_perm.mp q1.pm;simpa using this,?_⟩
 rw[List.pairwise_iff_getElem];intro i j hi hj sr;have hs:=q1.size;have:=q2 i j sr (by unfold dm at hj;simp at hj;lia)
 unfold dm at hi hj ⊢;simp only[JR] at hi hj;simpa[Array.getD,hi,hj] using this
def Wj(K:aL)(hK:X.K=K:=by rfl):bR X (.builtin "sorted") (SS K):=by
 subst hK;intro aa s Z H xs us Q I r h;obtain⟨a,ys,ks,rfl,hl,T,nd,h2,EN,q⟩:=h;obtain⟨u,rfl,ru⟩:=vals1 r;cases ru;obtain⟨aG,rv,pl,hz⟩:=I.list hl;have hlen:=rv.length;have E2:=T.1;have T':eR s.heap aG ks:=⟨by lia,λi hi=>by
  obtain⟨p,z,y1,y2⟩:=T.2 i hi;obtain⟨u,e,ru⟩:=rv.get y1;obtain rfl:u=Value.ref p:=ru;obtain⟨it2,Jv,⟨o,g1,g2,n,g3⟩,_⟩:=I.tuple y2;cases Jv with
  |cons r1 t=>
   cases t with
   |cons r2 t=>
    cases t with
    |cons r3 t=>
     cases t;obtain⟨t1,rfl⟩:=r1;obtain⟨t2,rfl⟩:=r2;exact⟨p,o,_,_,t1,t2,_,n,by rw[BL,e];rfl,g1,g2,g3,rfl⟩⟩
 refine Wi pl.isList T' nd (by lia) (by lia) ?_
 obtain⟨c,hc⟩:=sortedAll_at s.heap aG (List.toArray ((dm ks).map λi=>aG.getD i Value.none))
 obtain⟨s1,_⟩:=DN nd (by lia)
 have hm:∀i∈dm ks,i<ys.length:=λi m=>by have:=s1.mem_iff.mp m;rw[tV] at this;lia
 have I3:=I.laid (h':=sortedAll s.heap aG (List.toArray ((dm ks).map λi=>aG.getD i Value.none))) (t':=s.toks) (o:=.lst ((dm ks).map λi=>ys.getD i .aH)) (λb o g=>sortedAll_old g) (zH _) (show bC X.prog X.w _ _ _ (.lst _) from⟨by rw[bj,s1.length_eq,zL,sizeLine_eq];lia,_,c,PQ rv hm,hc⟩)
 exact⟨.ref (s.heap.objs.size+1),_,I3,rfl,q _ (I.bx.fresh (zH _))⟩
end
end L2
set_option autoImplicit false
namespace L2
open PySem PySem.Spec PySem.W PySem.Calls PyProof.Rows
def fM(kvs:List (TK×D)):Bool:=kvs.all λp=>ze p.1
def xI:D->aj (List D)
 |.aw kvs=>if fM kvs=true then some ((List.range kvs.length).map λi=>.tup (((kvs[i]?).map λp=>[p.1.d,p.2]).getD [])) else none
 |_=>none
section
variable{K:fQ}{W:XW}{q:Nat}{g:GE}{fz:Bool}{Z:St}{H:Hp}{R:It->Hp->Prop}{k:Kn}{es:List (TK×V×V)}{kvs:List (TK×D)}
def LV(h1:es.map (·.1)=kvs.map (·.1))(h2:ah K k (es.map (·.2.1)) (kvs.map (·.1.d)))(h:fM kvs=true):iB es:=SA h1 (by rw[eP];exact h2) (by rw[GD];exact h)
def e0d(t:tX (RI K q) K W q (bB fz xI g) Z H R):SD (tE K W q g) Z H R:=by
 rcases Hz t with h|⟨d,ds,n,e,h⟩
 .exact h _
 .cases d with
  |aw kvs=>
   unfold xI at e;dsimp only at e;split at e
   .rename_i ht
    cases e;refine h _ λk1 H1 x le hd j=>?_
    obtain⟨a,es,ep,rfl,q2,q3,q4,q1⟩:=hd;have tx:=LV q2 q3 ht;refine⟨a,es,ep,rfl,kB.now (x:=.aH) q1 le,tx,j _ ?_⟩;have hl:kvs.length=es.length:=by have:=q4.length;rw[bj,bj] at this;exact this.symm
    rw[hl];refine .Fu (λH s c=>⟨q1 H s c,tx⟩) λi us hi hv=>?_
    obtain⟨e,h1,rfl⟩:=hv;have EZ:i<kvs.length:=by lia
    obtain⟨v,h3,h4⟩:=q4.get (i:=i) (d:=kvs[i].2) (by rw[fU,iN EZ];rfl)
    obtain⟨v',h5,h6⟩:=q3.get (i:=i) (d:=kvs[i].1.d) (by rw[fU,iN EZ];rfl)
    rw[fU,h1] at h3 h5;cases h3;cases h5;rw[iN EZ];exact .cons h6 h4
   .cases e
  |_=>cases e
end
end L2
namespace L2
open PySem PySem.Spec PyProof.Rows
section
variable{X:Cx}{K:aL}{k:Kn}{H:Hp}{x:V}{d:D}
def Top.txt{kvs:List (TK×D)}(t:Top K k H x (.aw kvs))(le:az k.F H)(h:fM kvs=true):∃p es ep,x=.ref p/\H p=some (.dG es ep)/\iB es/\es.map (·.1)=kvs.map (·.1)/\ah K k (es.map (·.2.1)) (kvs.map (·.1.d))/\ah K k (es.map (·.2.2)) (kvs.map (·.2)):=by
 obtain⟨p,es,ep,rfl,h1,h2,h3,h4⟩:=t.aw le;exact⟨p,es,ep,rfl,h1,LV h2 h3 h,h2,h3,h4⟩
def FI(K:aL):List V->Hp->VK->Prop:=λxs H Q=>(∃p ys,xs=[.ref p]/\(cS K H p ys\/iA K H p ys)/\Q (.int ys.length) H)\/(∃z,xs=[.str z]/\z.length<=sizeLine/\Q (.int z.length) H)\/∃p es ep,xs=[.ref p]/\H p=some (.dG es ep)/\iB es/\Q (.int es.length) H
def Xn(hK:X.K=K):bR X (.builtin "len") (FI K):=(Vn K hK).or (n6.or (by
 intro aa s Z H xs us Q I r h;obtain⟨p,es,ep,rfl,hp,ht,q⟩:=h;obtain⟨u,rfl,ru⟩:=vals1 r;cases ru;obtain⟨kvs,D1,D2,D3,D4,lo⟩:=Ad I hp ht;have l1:kvs.length=es.length:=by have:=congrArg List.length D3;simpa using this
 refine call_len_dict lo D1.dictOf (by rw[sizeLine_eq] at D4;lia) ?_
 rw[l1];exact⟨.int es.length,H,I.tok _,⟨_,rfl⟩,q⟩))
def eL:D->aj Rv
 |.lst ds=>some (rd (.int ds.length))
 |.tup ds=>some (rd (.int ds.length))
 |.str z=>if z.length<=1000000 then some (rd (.int z.length)) else none
 |.aw kvs=>if fM kvs=true then some (rd (.int kvs.length)) else none
 |_=>none
def e6h:bY K (FI K) (o1 eL):=wq λk H x a y Q le t e res=>by
 unfold eL at e;split at e
 .cases e;obtain⟨p,ws,rfl,q,r⟩:=t.lst le;exact .inl ⟨p,ws,rfl,.inl q,by rw[r.length];exact res.flat le rfl⟩
 .cases e;obtain⟨p,ws,rfl,q,r⟩:=t.tup le;exact .inl ⟨p,ws,rfl,.inr q,by rw[r.length];exact res.flat le rfl⟩
 .split at e
  .cases e;cases t.flat rfl;exact .inr (.inl ⟨_,rfl,ml (by assumption),res.flat le rfl⟩)
  .cases e
 .split at e
  .cases e;obtain⟨p,es,ep,rfl,h1,h2,h3,h4,h5⟩:=t.txt le (by assumption)
   refine .inr (.inr ⟨p,es,ep,rfl,h1,h2,?_⟩);have:=h5.length;rw[bj,bj] at this;rw[this];exact res.flat le rfl
  .cases e
 .cases e
def vn:D->aj String
 |.aH=>some "NoneType"
 |.bl _=>some "bool"
 |.int _=>some "int"
 |.str _=>some "str"
 |.lst _=>some "list"
 |.tup _=>some "tuple"
 |_=>none
def Qn{n:String}(le:az k.F H)(t:Top K k H x d)(e:vn d=some n):Ed K H x n:=by
 cases d with
 |lst _=>cases e;obtain⟨p,ws,rfl,q,r⟩:=t.lst le;exact .inl ⟨rfl,_,q⟩
 |tup _=>cases e;obtain⟨p,ws,rfl,q,r⟩:=t.tup le;exact .inr ⟨rfl,_,q⟩
 |_=>cases e <;> cases t.flat rfl <;> rfl
def FF(K:aL):List V->Hp->VK->Prop:=λxs H Q=>(∃x k T,xs=[x,.ty T]/\Ed K H x k/\(T="int"\/T="str"\/T="bool"\/T="list"\/T="tuple")/\Q (.bl (tP k T)) H)\/zw K xs H Q
def Xo(hK:X.K=K):bR X (.builtin "isinstance") (FF K):=(WW K hK).or (Xh K hK)
def A2:List D->Bool
 |[.ty a,.ty b]=>decide (a="tuple"/\b="list")
 |_=>false
def e0e{ds:List D}(h:A2 ds=true):ds=[.ty "tuple",.ty "list"]:=by
 unfold A2 at h;split at h
 .obtain⟨rfl,rfl⟩:=yr h;rfl
 .cases h
def cI(a t:D):aj Rv:=match t with
 |.ty T=>if T="int"\/T="str"\/T="bool"\/T="list"\/T="tuple" then(vn a).map λk=>rd (.bl (tP k T)) else none
 |.tup ds=>if A2 ds=true then(vn a).map λk=>rd (.bl (NO k)) else none
 |_=>none
def e6i:bY K (FF K) (o2 cI):=xV λk H x z a b y Q le t1 t2 e res=>by
 unfold cI at e;split at e
 .split at e
  .obtain⟨n,h,rfl⟩:=c_.mp e;cases t2.flat rfl;exact .inl ⟨x,n,_,rfl,Qn le t1 h,by assumption,res.flat le rfl⟩
  .cases e
 .split at e
  .rename_i ht
   cases e0e ht;obtain⟨n,h,rfl⟩:=c_.mp e;obtain⟨p,ws,rfl,q,r⟩:=t2.tup le;obtain⟨w1,us,rfl,r1,r2⟩:=r.ck;obtain⟨w2,us,rfl,r3,r4⟩:=r2.ck;cases r4.gA;cases r1.bc rfl;cases r3.bc rfl;exact .inr ⟨x,n,p,rfl,Qn le t1 h,q,res.flat le rfl⟩
  .cases e
 .cases e
def zx(K:aL):List V->Hp->VK->Prop:=λxs H Q=>(∃p ys,xs=[.ref p]/\(cS K H p ys\/iA K H p ys)/\∀l,H l=none->Q (.ref l) (upd H l (.lst ys)))\/UJ K xs H Q
def Wk(hc:X.calm=true)(hK:X.K=K):bR X (.type "list") (zx K):=(Vo K hK).or (hK ▸ Wd hc)
noncomputable def lZ:D->aj Rv
 |.lst ds=>some (.o (.lst ds))
 |.tup ds=>some (.o (.lst ds))
 |.aw kvs=>some (.o (.lst (kvs.map (·.1.d))))
 |_=>none
def e0f:bY K (zx K) (o1 lZ):=wq λk H x a y Q le t e res=>by
 unfold lZ at e;split at e
 .cases e;obtain⟨p,ws,rfl,q,r⟩:=t.lst le;exact .inl ⟨p,ws,rfl,.inl q,λl hl=>res.lst le r hl⟩
 .cases e;obtain⟨p,ws,rfl,q,r⟩:=t.tup le;exact .inl ⟨p,ws,rfl,.inr q,λl hl=>res.lst le r hl⟩
 .cases e;obtain⟨p,es,ep,rfl,h1,h2,h3,h4⟩:=t.aw le;exact .inr ⟨p,es,ep,rfl,h1,λl hl=>res.lst le h3 hl⟩
 .cases e
def sO:D->aj Rv
 |.aw kvs=>if fM kvs=true then some (.o (.lst (kvs.map (·.2)))) else none
 |_=>none
def e0g:bY K (λxs H Q=>∃d es ep,xs=[.ref d]/\H d=some (.dG es ep)/\iB es/\∀q,H q=none->Q (.ref q) (upd H q (.lst (es.map (·.2.2))))) (o1 sO):=wq λk H x a y Q le t e res=>by
 unfold sO at e;split at e
 .split at e
  .cases e;obtain⟨p,es,ep,rfl,h1,h2,h3,h4,h5⟩:=t.txt le (by assumption)
   exact⟨p,es,ep,rfl,h1,h2,λl hl=>res.lst le h5 hl⟩
  .cases e
 .cases e
noncomputable def IE(q:List Bool->Bool):D->aj Rv
 |.lst ds=>(iH ds).map λbs=>rd (.bl (q bs))
 |_=>none
def Y4(q:List Bool->Bool):bY K (λxs H Q=>∃(a:ag) (bs:List Bool),xs=[.ref a]/\cS K H a (bs.map V.bl)/\Q (.bl (q bs)) H) (o1 (IE q)):=wq λk H x a y Q le t e res=>by
 unfold IE at e;split at e
 .obtain⟨bs,h,rfl⟩:=c_.mp e;obtain⟨p,ws,rfl,s,r⟩:=t.lst le;rw[Pc h] at r;cases Pd r;exact⟨p,bs,rfl,s,res.flat le rfl⟩
 .cases e
noncomputable def pk(f:List Int->Int):D->aj Rv
 |.lst ds=>(lW ds).bind λis=>if is=[] then none else some (rd (.int (f is)))
 |_=>none
def e0h(f:List Int->Int):bY K (λxs H Q=>∃(a:ag) (is:List Int),xs=[.ref a]/\cS K H a (is.map V.int)/\is≠[]/\Q (.int (f is)) H) (o1 (pk f)):=wq λk H x a y Q le t e res=>by
 unfold pk at e;split at e
 .obtain⟨is,h,e⟩:=cy.mp e;split at e
  .cases e
  .cases e;obtain⟨p,ws,rfl,s,r⟩:=t.lst le;rw[PM h] at r;cases OZ r;exact⟨p,is,rfl,s,by assumption,res.flat le rfl⟩
 .cases e
def iD:D->aj Int
 |.int i=>some i
 |_=>none
def LW{v:D}{i:Int}(h:iD v=some i):v=.int i:=by cases v <;> cases h;rfl
def tQ:List D->aj (Int×Int)
 |[a,b,_]=>(iD a).bind λi=>(iD b).map λj=>(i,j)
 |_=>none
def Fi:D->aj (Int×Int)
 |.tup l=>tQ l
 |_=>none
def lY:List D->aj (List (Int×Int))
 |[]=>some []
 |d::ds=>(Fi d).bind λk=>(lY ds).map λks=>k::ks
theorem Qo:∀{ds:List D} {ks:List (Int×Int)} {ws:List V},lY ds=some ks->ah K k ws ds->az k.F H->yv K H ws ks
 |[],ks,ws,e,r,le=>by cases e;exact⟨by rw[r.length];rfl,λi hi=>nomatch hi⟩
 |d::ds,ks,ws,e,r,le=>by
  obtain⟨w,us,rfl,r1,r2⟩:=r.ck;obtain⟨k0,e0,e⟩:=cy.mp (show(Fi d).bind _=_ from e);obtain⟨zg,e1,rfl⟩:=c_.mp e;cases d with
  |tup l=>
   have e0:tQ l=some k0:=e0;unfold tQ at e0;split at e0
   case h_2=>cases e0
   obtain⟨a,z1,e0⟩:=cy.mp e0;obtain⟨b,z2,rfl⟩:=c_.mp e0;cases LW z1;cases LW z2;obtain⟨l1,l2⟩:=Qo e1 r2 le;obtain⟨p,ws,rfl,q,r3⟩:=r1.isTup;obtain⟨w1,us1,rfl,t1,r3⟩:=r3.ck;obtain⟨w2,us2,rfl,t2,r3⟩:=r3.ck;obtain⟨w3,us3,rfl,t3,r3⟩:=r3.ck;cases r3.gA;cases t1.bc rfl;cases t2.bc rfl;refine⟨congrArg (·+1) l1,λi hi=>?_⟩
   cases i with
   |zero=>exact⟨p,w3,rfl,le.By q⟩
   |succ i=>exact l2 i (Nat.lt_of_succ_lt_succ hi)
  |_=>cases e0
def zB(K:aL):List V->Hp->VK->Prop:=λvs H Q=>SJ K vs H Q\/SS K vs H Q
def Wl(hc:X.calm=true)(hK:X.K=K):bR X (.builtin "sorted") (zB K):=(hK ▸ VB hc).or (Wj K hK)
def nF(ds:List D)(is:List Nat):List D:=is.map λi=>ds.getD i .aH
def sL:D->aj Rv
 |.lst ds=>if ds.length<2 then some (.o (.lst ds)) else(lY ds).bind λks=>if ks.Nodup/\ks.length<64 then some (.o (.lst (nF ds (dm ks)))) else none
 |.aw kvs=>if(fM kvs&&Nat.blt kvs.length 2)=true then some (.o (.lst (kvs.map (·.1.d)))) else none
 |_=>none
theorem Qp{ws:List V}{ds:List D}(r:ah K k ws ds):∀{is:List Nat},(∀i∈is,i<ds.length)->ah K k (is.map λi=>ws.getD i .aH) (nF ds is)
 |[],_=>.nil
 |i::is,h=>by
  have hi:=h i (.head _);obtain⟨v,h1,h2⟩:=r.get (i:=i) (d:=ds[i]) (iN hi);unfold nF;rw[cU,cU,show ws.getD i .aH=v by rw[BL,h1];rfl,show ds.getD i .aH=ds[i] by rw[BL,iN hi];rfl]
  exact .cons h2 (Qp r λj m=>h j (.tail _ m))
def e0j:bY K (zB K) (o1 sL):=wq λk H x a y Q le t e res=>by
 unfold sL at e;split at e
 .obtain⟨p,ws,rfl,s,r⟩:=t.lst le;split at e
  .cases e;exact .inl ⟨p,ws,rfl,.inl s,by rw[r.length];assumption,λl hl=>res.lst le r hl⟩
  .rename_i h2
   obtain⟨ks,h,e⟩:=cy.mp e;split at e
   .rename_i hk
    cases e;have T:=Qo h r le;have l1:ks.length=ws.length:=T.1.symm;have l2:=r.length;refine .inr ⟨p,ws,ks,rfl,s,T,hk.1,by lia,hk.2,λl hl=>res.lst le (Qp r λi m=>?_) hl⟩
    grind [DN]
   .cases e
 .split at e
  .rename_i hh
   obtain⟨h1,h2⟩:=C5.mp hh;cases e;obtain⟨p,es,ep,rfl,h3,h4,h5,h6,h7⟩:=t.txt le h1;have:=h6.length;have l2:_<2:=gE (BJ h2) (bV _);exact .inl ⟨p,_,rfl,.inr ⟨es,ep,h3,h4,rfl⟩,by rw[this,bj];exact l2,λl hl=>res.lst le h6 hl⟩
  .cases e
 .cases e
def bL{α:Type}:List (TK×α)->TK->α->List (TK×α)
 |[],k,v=>[(k,v)]
 |(j,w)::r,k,v=>if j=k then(j,v)::r else(j,w)::bL r k v
def iM:List D->aj (List (TK×D))
 |[]=>some []
 |.tup [a,b]::ds=>(lX a).bind λj=>(iM ds).map λps=>(j,b)::ps
 |_=>none
noncomputable def rZ:D->aj Rv
 |.lst ds=>(iM ds).bind λps=>if ps.length<1000 then some (.o (.aw (ps.foldl (λkvs p=>bL kvs p.1 p.2) []))) else none
 |_=>none
theorem Ln{j:TK}{y v:V}{e:D}(ry:ah K k [y] [j.d])(rv:ah K k [v] [e]):∀{ws:List (TK×V×V)} {kvs:List (TK×D)},ws.map (·.1)=kvs.map (·.1)->ah K k (ws.map (·.2.1)) (kvs.map (·.1.d))->ah K k (ws.map (·.2.2)) (kvs.map (·.2))->
  (dN ws j y v).map (·.1)=(bL kvs j e).map (·.1)/\ah K k ((dN ws j y v).map (·.2.1)) ((bL kvs j e).map (·.1.d))/\ah K k ((dN ws j y v).map (·.2.2)) ((bL kvs j e).map (·.2))
 |[],[],_,_,_=>⟨rfl,ry,rv⟩
 |w::ws,p::kvs,h,r1,r2=>by
  obtain⟨h1,h2⟩:=List.cons.inj (show w.1::ws.map (·.1)=p.1::kvs.map (·.1) from h)
  obtain⟨a1,a2⟩:=ah.inv r1;obtain⟨b1,b2⟩:=ah.inv r2;unfold dN bL;by_cases q:p.1=j
  .rw[bK (h1.trans q),bK q];exact⟨congr (congrArg List.cons h1) h2,.cons a1 a2,.cons rv b2⟩
  .rw[bD (λz=>q (h1.symm.trans z)),bD q]
   obtain⟨c1,c2,c3⟩:=Ln ry rv h2 a2 b2;exact⟨congr (congrArg List.cons h1) c1,.cons a1 c2,.cons b1 c3⟩
 |[],_::_,h,_,_=>nomatch h
 |_::_,[],h,_,_=>nomatch h
def uF(K:aL)(k:Kn)(q:TK×V×V)(p:TK×D):Prop:=q.1=p.1/\ah K k [q.2.1] [q.1.d]/\ah K k [q.2.2] [p.2]
theorem Qq:∀{ds:List D} {ps:List (TK×D)} {ws:List V},iM ds=some ps->ah K k ws ds->az k.F H->∃qs:List (TK×V×V),kQ K H ws qs/\Paired (uF K k) qs ps
 |[],ps,ws,e,r,le=>by cases e;cases r.gA;exact⟨[],⟨rfl,λi p h=>nomatch h⟩,.nil⟩
 |d::ds,ps,ws,e,r,le=>by
  unfold iM at e;split at e
  .lia
  .rename_i a b ds' h
   cases h;obtain⟨j,q1,e⟩:=cy.mp e;obtain⟨ps',q2,rfl⟩:=c_.mp e;obtain⟨w,us,rfl,r1,r2⟩:=r.ck;obtain⟨p,ws,rfl,sq,ri⟩:=r1.isTup;obtain⟨y,us1,rfl,t1,ri⟩:=ri.ck;obtain⟨v,us2,rfl,t2,ri⟩:=ri.ck;cases ri.gA;obtain⟨qs,h1,h3⟩:=Qq q2 r2 le;have rk:ah K k [y] [j.d]:=by rw[(Cm q1).1];exact t1
   refine⟨(j,y,v)::qs,⟨congrArg (·+1) h1.len,λi p h=>?_⟩,.cons ⟨rfl,rk,t2⟩ h3⟩
   cases i with
   |zero=>cases h;exact⟨_,rfl,le.By sq,vk (k:=k.all H) j (rk.all le),(Cm q1).2⟩
   |succ i=>exact h1.item i p h
  .cases e
def RK{qs:List (TK×V×V)}{ps:List (TK×D)}(p:Paired (uF K k) qs ps):∀{ws:List (TK×V×V)} {kvs:List (TK×D)},ws.map (·.1)=kvs.map (·.1)->ah K k (ws.map (·.2.1)) (kvs.map (·.1.d))->ah K k (ws.map (·.2.2)) (kvs.map (·.2))->
  (fH ws qs).map (·.1)=(ps.foldl (λkvs p=>bL kvs p.1 p.2) kvs).map (·.1)/\ah K k ((fH ws qs).map (·.2.1)) ((ps.foldl (λkvs p=>bL kvs p.1 p.2) kvs).map (·.1.d))/\ah K k ((fH ws qs).map (·.2.2)) ((ps.foldl (λkvs p=>bL kvs p.1 p.2) kvs).map (·.2)):=by
 induction p with
 |nil=>exact λa b c=>⟨a,b,c⟩
 |@cons q p qs ps h _ ih=>
  intro ws kvs a b c;obtain⟨h1,h2,h3⟩:=h;obtain⟨j1,j2,j3⟩:=Ln h2 h3 a b c
  grind [fH]
def Y5:bY K (SH K) (o1 rZ):=wq λk H x a y Q le t e res=>by
 unfold rZ at e;split at e
 .obtain⟨ps,q1,e⟩:=cy.mp e;split at e
  .rename_i hn
   cases e;obtain⟨p,ws,rfl,s,r⟩:=t.lst le;obtain⟨qs,g1,g3⟩:=Qq q1 r le;obtain⟨o1,o2,o3⟩:=RK g3 (ws:=[]) (kvs:=[]) rfl .nil .nil;exact⟨p,ws,qs,rfl,s,g1,by rw[Paired.length g3];exact hn,λl ep hl=>res.aw le o1 o2 o3 hl⟩
  .cases e
 .cases e
noncomputable def Uw:D->aj String
 |.str _=>some "str"
 |.lst _=>some "list"
 |.aw _=>some "dict"
 |_=>none
def e6j{T:String}(le:az k.F H)(t:Top K k H x d)(e:Uw d=some T):JC K T x H:=by
 cases d with
 |str _=>cases e;cases t.flat rfl;rfl
 |lst _=>cases e;obtain⟨p,ws,rfl,q,r⟩:=t.lst le;exact .inl ⟨rfl,_,q⟩
 |aw _=>cases e;obtain⟨p,es,ep,rfl,h1,h2⟩:=t.aw le;exact .inr (.inr (.inl ⟨rfl,.inr (.inr ⟨es,ep,h1⟩)⟩))
 |_=>cases e
def IF(T:String)(o:List D->aj Rv)(f:GE)(g:GA):GE:=λU S=>bd (f U S) λr S1=>if(nG S1 (oM r)).bind Uw=some T then bd (g U S1) λvs S2=>(x9 S2 (oM r::vs)).bind λds=>(o ds).map λy=>.ok y S2 else none
def Y6{W:XW}{q:Nat}{T:String}{o:List D->aj Rv}{r:V->List V->Hp->VK->Prop}{f:GE}{g:GA}{Z:St}{H:Hp}{Q:VK}(bx:bY K (sH r) o)(t:tE K W q (IF T o f g) Z H Q):NB K T r (tE K W q f) (g9 K W q g) Z H Q:=by
 obtain⟨k,U,S,res,ok,gk,e,w⟩:=t;refine tX.bd ok gk e w λr S1 x k1 H1 bH g1 r1 e1 w1 _=>?_
 obtain⟨k2,u2,cO,r2⟩:=t6 bH r1;split at e1
 .rename_i hT
  obtain⟨d,h1,h2⟩:=cy.mp hT;refine⟨e6j cO.le (Iy cO r2 h1) h2,tX.bd cO (g1.up (u2 q)) e1 (w1.up (u2 q)) λvs S3 xs k3 H3 kJ g3 r3 e3 w3 u3=>?_⟩
  obtain⟨ds,e4,e5⟩:=cy.mp e3;obtain⟨y,e6,rfl⟩:=c_.mp e5;obtain⟨x',xs',z,rr⟩:=bx k3 H3 (x::xs) ds y Q kJ.le (Rf kJ (.cons (r2.up u3) r3) e4) e6 (.fin kJ w3)
  lia
 .cases e1
def jM:D->D->aj Rv
 |.lst ds,.str z=>(dR ds).bind λys=>(findS ys z).map λj=>rd (.int (j:Nat))
 |_,_=>none
def Y7:bY K (sH (SF K)) (o2 jM):=xV λk H x z a b y Q le t1 t2 e res=>by
 unfold jM at e;split at e
 .obtain⟨ys,e1,e2⟩:=cy.mp e;obtain⟨j,e3,rfl⟩:=c_.mp e2;obtain⟨p,ws,rfl,s,r⟩:=t1.lst le;rw[HD e1] at r;cases Kh r;cases t2.flat rfl;obtain⟨s1,s2⟩:=B5 e3;exact⟨_,_,rfl,p,ys,_,j,rfl,rfl,s,s1,s2,res.flat le rfl⟩
 .cases e
noncomputable def sd:D->D->aj Rv
 |.aw kvs,i=>(lX i).map λj=>rd ((aM kvs j).getD .aH)
 |_,_=>none
def e0k:bY K (sH (zv K)) (o2 sd):=xV λk H x z a b y Q le t1 t2 e res=>by
 unfold sd at e;split at e
 .obtain⟨j,hj,rfl⟩:=c_.mp e;obtain⟨p,o,rfl,g,h⟩:=yp le t1 t2 hj;refine⟨_,_,rfl,p,_,o,rfl,rfl,g,?_⟩;rcases h with⟨rfl,h⟩|⟨v,e,rfl,h,r⟩
  .rw[h] at res;exact res.flat le rfl
  .rw[h] at res;exact res.rep le r
 .cases e
end
variable{k:Kn}{ws:List V}{ds:List D}{v:V}
noncomputable def Cell.box:Cell->aj Bx
 |.o b=>some b
 |_=>none
noncomputable def iK(S:aU):Val->aj Bx
 |.c n=>(S.s[n]?).bind Cell.box
 |.d (.ref n)=>(S.r[n]?).bind Cell.box
 |_=>none
noncomputable def setB(S:aU)(b:Bx):Val->aU
 |.c n=>⟨S.s.set n (.o b),S.r⟩
 |.d (.ref n)=>⟨S.s,S.r.set n (.o b)⟩
 |_=>S
noncomputable def Bx.mb(q:Nat):Bx->Bool
 |.lst _=>Nat.ble q 1
 |.aw _=>q == 0
noncomputable def Bx.ty:Bx->String
 |.lst _=>"list"
 |.aw _=>"dict"
section
variable{K:aL}{k:Kn}{H:Hp}{S:aU}{x:V}{v:Val}{b:Bx}{a:ag}
def SU{c:Cell}(h:c.box=some b):c=.o b:=by
 cases c <;> cases h;rfl
def SV{q:Nat}(h:dD K k H a b)(m:b.mb q=true):∀o,H a=some o->xO q o=false:=by
 intro o e;cases b with
 |lst xs=>
  obtain⟨ws,e1,_⟩:=h;rw[e] at e1;cases e1;have:=BJ m
  match q,this with
  |0,_=>rfl
  |1,_=>rfl
 |aw kvs=>cases(beq_iff_eq.mp m);rfl
def D0(ok:b_ K k H S)(r:cZ K k x v)(e:iK S v=some b):∃a,x=.ref a/\dD K k H a b/\∀q b' H',mU H H' a->b.mb q=true->dD K k H' a b'->b_ K k H' (setB S b' v)/\Up q k H k H':=by
 cases v with
 |c n=>
  obtain⟨a,rfl,h1⟩:=r;obtain⟨c,h2,h3⟩:=cy.mp e;cases SU h3;obtain⟨h4,h5⟩:=ok.s.at' n a _ h1 h2;exact⟨a,rfl,h5,λq b' H' o m h=>ok.Nt h1 o h4 (SV h5 m) (c:=.o b') ⟨h4,h⟩⟩
 |d y=>
  cases y with
  |ref n=>
   obtain⟨a,rfl,h1⟩:=ah.isRef r;obtain⟨c,h2,h3⟩:=cy.mp e;cases SU h3;obtain⟨h4,h5⟩:=ok.r.at' n a _ h1 h2;exact⟨a,rfl,h5,λq b' H' o m h=>ok.FT h1 o h4 (SV h5 m) (c:=.o b') ⟨h4,h⟩⟩
  |_=>cases e
def f1f{T:String}(h:dD K k H a b)(e:b.ty=T):JC K T (.ref a) H:=by
 cases b with
 |lst xs=>obtain⟨ws,h1,_⟩:=h;exact .inl ⟨e.symm,ws,.inl (.inl h1)⟩
 |aw kvs=>obtain⟨es,ep,h1,_⟩:=h;exact .inr (.inr (.inl ⟨e.symm,.inr (.inr ⟨es,ep,h1⟩)⟩))
end
def mT(K:aL)(r:V->List V->Hp->VK->Prop)(m:Bx->List D->aj (Bx×D)):Prop:=∀k H a b ds b' d xs Q,az k.F H->dD K k H a b->ah K k xs ds->m b ds=some (b',d)->(∀x o',dD K k (upd H a o') a b'->ah K k [x] [d]->Q x (upd H a o'))->r (.ref a) xs H Q
def eI(q:Nat)(T:String)(m:Bx->List D->aj (Bx×D))(f:GE)(g:GA):GE:=λU S=>bd (f U S) λr S1=>if(iK S1 (oM r)).map Bx.ty=some T then bd (g U S1) λvs S2=>(tK vs S2).bind λp=>(iK p.2 (oM r)).bind λb=>if b.mb q=true then(m b p.1).map λz=>.ok (rd z.2) (setB p.2 z.1 (oM r)) else none else none
section
variable{X:Cx}{K:aL}{W:XW}{q:Nat}{T:String}{m:Bx->List D->aj (Bx×D)}{r:V->List V->Hp->VK->Prop}{f:GE}{g:GA}{Z:St}{H:Hp}{Q:VK}
def e6k(hm:mT K r m)(t:tE K W q (eI q T m f g) Z H Q):NB K T r (tE K W q f) (g9 K W q g) Z H Q:=by
 obtain⟨k,U,S,res,ok,gk,e,w⟩:=t;refine tX.bd ok gk e w λr S1 x k1 H1 bH g1 r1 e1 w1 _=>?_
 obtain⟨k2,u2,cO,r2⟩:=t6 bH r1;split at e1
 .rename_i hT
  obtain⟨b0,h1,h2⟩:=c_.mp hT;obtain⟨a0,ea,h3,_⟩:=D0 cO r2 h1;refine⟨ea ▸ f1f h3 h2,tX.bd cO (g1.up (u2 q)) e1 (w1.up (u2 q)) λvs S3 xs k3 H3 kJ g3 r3 e3 w3 u3=>?_⟩
  obtain⟨⟨ds,S4⟩,e4,e5⟩:=cy.mp e3;obtain⟨k4,u4,tR,r4⟩:=Ic kJ r3 e4;obtain⟨b,e6,e7⟩:=cy.mp e5;obtain⟨a,rfl,h4,h5⟩:=D0 tR ((r2.up u3).up (u4 q)) e6;split at e7
  .rename_i hb
   obtain⟨⟨b',d⟩,e8,rfl⟩:=c_.mp e7;refine hm k4 H3 a b ds b' d xs Q tR.le h4 r4 e8 λy o' h6 h7=>?_
   obtain⟨ox,u5⟩:=h5 q b' _ DM hb h6;exact(w3.up (u4 q)) y k4 _ u5 ox h7
  .cases e7
 .cases e1
noncomputable def tG:Bx->List D->aj (Bx×D)
 |.lst xs,[d]=>if xs.length<1000000 then some (.lst (xs++[d]),.aH) else none
 |_,_=>none
def Bu:ah K k [.aH] [.aH]:=.flat rfl .nil
def Ik{xs:List V}{d:D}(h:ah K k xs [d]):∃x,xs=[x]/\ah K k [x] [d]:=by
 obtain⟨x,us,rfl,h1,h2⟩:=h.ck;cases h2.gA;exact⟨x,rfl,h1⟩
def Xp:mT K Ra tG:=by
 intro k H a b ds b' d xs Q le hb r e h;unfold tG at e;split at e
 .split at e
  .rename_i hl
   cases e;obtain⟨ws,h1,h2⟩:=hb;obtain⟨y,rfl,r1⟩:=Ik r;exact⟨a,ws,y,rfl,rfl,h1,gE (by rw[h2.length];exact hl) (by decide),h .aH _ ⟨_,aK,h2.append r1⟩ Bu⟩
  .cases e
 .cases e
noncomputable def D5:Bx->List D->aj (Bx×D)
 |.lst xs,[.int i,d]=>if 0<=i/\i<2^62/\xs.length<1000000 then some (.lst (xs.take i.toNat++d::xs.drop i.toNat),.aH) else none
 |_,_=>none
def Xq:mT K Rb D5:=by
 intro k H a b ds b' d xs Q le hb r e h;unfold D5 at e;split at e
 .split at e
  .rename_i hl
   cases e;obtain⟨ws,h1,h2⟩:=hb;obtain⟨y,us,rfl,r1,r2⟩:=r.ck;obtain⟨z,rfl,r3⟩:=Ik r2;cases r1.bc rfl;refine⟨a,ws,_,z,rfl,rfl,h1,hl.1,hl.2.1,gE (by rw[h2.length];exact hl.2.2) (by decide),h .aH _ ⟨_,aK,?_⟩ Bu⟩
   have:∀(n:Nat) (l:List V),tN l n z=l.take n++z::l.drop n:=λn l=>by unfold tN;rfl
   rw[this];exact(h2.take _).append (.cons r3 (h2.drop _))
  .cases e
 .cases e
noncomputable def Il:Bx->List D->aj (Bx×D)
 |.lst xs,[.str z]=>(dR xs).bind λys=>(findS ys z).map λj=>(.lst (xs.eraseIdx j),.aH)
 |_,_=>none
def Xr(h:ah K k ws ds)(j:Nat):ah K k (ws.eraseIdx j) (ds.eraseIdx j):=by
 rw[List.eraseIdx_eq_take_drop_succ,List.eraseIdx_eq_take_drop_succ];exact(h.take _).append (h.drop _)
def Xs:mT K Rz Il:=by
 intro k H a b ds b' d xs Q le hb r e h;unfold Il at e;split at e
 .obtain⟨ys,e1,e2⟩:=cy.mp e;obtain⟨j,e3,e4⟩:=c_.mp e2;cases e4;obtain⟨ws,h1,h2⟩:=hb;obtain⟨y,rfl,r1⟩:=Ik r;cases r1.bc rfl;obtain⟨s1,s2⟩:=B5 e3;have h3:=Xr h2 j;rw[HD e1] at h2;cases Kh h2;exact⟨a,ys,_,j,rfl,rfl,h1,s1,s2,h .aH _ ⟨_,aK,by rw[<-HE];exact h3⟩ Bu⟩
 .cases e
def dC{α:Type}(kvs:List (TK×α))(z:Str):List (TK×α):=kvs.filter λe=>jw z e.1
def km:Bx->List D->aj (Bx×D)
 |.aw kvs,[.str z]=>if fM kvs=true then(aM kvs (.inr z)).map λd=>(.aw (dC kvs z),d) else none
 |_,_=>none
theorem Qs{k:Kn}(z:Str):∀{ws:List (TK×V×V)} {kvs:List (TK×D)},ws.map (·.1)=kvs.map (·.1)->ah K k (ws.map (·.2.1)) (kvs.map (·.1.d))->ah K k (ws.map (·.2.2)) (kvs.map (·.2))->
  (dC ws z).map (·.1)=(dC kvs z).map (·.1)/\ah K k ((dC ws z).map (·.2.1)) ((dC kvs z).map (·.1.d))/\ah K k ((dC ws z).map (·.2.2)) ((dC kvs z).map (·.2))
 |[],[],_,_,_=>⟨rfl,.nil,.nil⟩
 |w::ws,p::kvs,h,r1,r2=>by
  obtain⟨h1,h2⟩:=List.cons.inj (show w.1::ws.map (·.1)=p.1::kvs.map (·.1) from h)
  obtain⟨a1,a2⟩:=ah.inv r1;obtain⟨b1,b2⟩:=ah.inv r2;obtain⟨c1,c2,c3⟩:=Qs z h2 a2 b2;unfold dC at *;rw[zJ,zJ,h1];split
  .exact⟨congr (congrArg List.cons h1) c1,.cons a1 c2,.cons b1 c3⟩
  .exact⟨c1,c2,c3⟩
 |[],_::_,h,_,_=>nomatch h
 |_::_,[],h,_,_=>nomatch h
def e0l:mT K (zz K) km:=by
 intro k H a b ds b' d xs Q le hb r e h;unfold km at e;split at e
 .split at e
  .rename_i ht
   obtain⟨v0,e1,e2⟩:=c_.mp e;cases e2;obtain⟨es,ep,h1,h2,h3,h4⟩:=hb;obtain⟨y,rfl,r1⟩:=Ik r;cases r1.bc rfl;obtain⟨f1,f2,f3⟩:=Qs (K:=K) _ h2 h3 h4;rcases Lm (k:=.inr _) h2 h4 with⟨_,z⟩|⟨v,e,z1,z2,z3⟩
   .rw[z] at e1;cases e1
   .rw[z2] at e1;cases e1;exact⟨a,es,ep,_,v,rfl,rfl,h1,LV h2 h3 ht,z1,λqJ=>h v _ ⟨_,qJ,aK,f1,f2,f3⟩ z3⟩
  .cases e
 .cases e
end
def sJ(K:aL):tu:=λo i v H Q=>zA o i v H Q\/∃a H4,o=.ref a/\zX K H a i v H4/\Q H4
def TN{X:Cx}(hu:X.A.units+41<cLine):wQ X (sJ X.K):=by
 intro aa s Z H o i v ov iv u Q I ro ri rv h;rcases h with h|⟨a,H4,rfl,g,q⟩
 .exact Yr aa s Z H o i v ov iv u Q I ro ri rv h
 .cases ro;exact Xe (by lia) I g ri rv λs4 I4=>⟨H4,I4,q⟩
def x_(b:Bx)(i v:D):aj Bx:=match b with
 |.lst xs=>(intD i).bind λk=>(xK xs.length k).map λj=>.lst (xs.set j v)
 |.aw kvs=>(lX i).bind λj=>if kvs.length<1000000 then some (.aw (bL kvs j v)) else none
section
variable{X:Cx}{K:aL}{W:XW}{q:Nat}{fv fo fi:GE}{o e i:Expr}{pos pos':Pos}{Z:St}{H:Hp}
def e0m{d:D}(h:ah K k ws ds)(r:ah K k [v] [d])(j:Nat):ah K k (ws.set j v) (ds.set j d):=by
 induction ds generalizing ws j with
 |nil=>rw[h.gA];exact .nil
 |cons x ds ih=>
  obtain⟨w,us,rfl,h1,h2⟩:=h.ck;cases j with
  |zero=>exact .cons r h2
  |succ j=>exact .cons h1 (ih h2 j)
def SW{a:ag}{b b':Bx}{di dv:D}{y:V}{Q:Hp->Prop}(le:az k.F H)(hb:dD K k H a b)(ri:ah K k [y] [di])(rv:ah K k [v] [dv])(e:x_ b di dv=some b')(h:∀o',dD K k (upd H a o') a b'->Q (upd H a o')):sJ K (.ref a) y v H Q:=by
 unfold x_ at e;split at e
 .obtain⟨j,h1,e⟩:=cy.mp e;obtain⟨n,h2,rfl⟩:=c_.mp e;cases Ii h1;cases ri.bc rfl;obtain⟨ws,h3,h4⟩:=hb;exact .inl ⟨a,ws,j,n,rfl,rfl,h3,by rw[h4.length];exact h2,h _ ⟨_,aK,e0m h4 rv n⟩⟩
 .obtain⟨j,h1,e⟩:=cy.mp e;split at e
  .rename_i hl
   cases e;obtain⟨es,ep,h2,h3,h4,h5⟩:=hb;obtain⟨k1,k2⟩:=Cm h1;have ry:ah K k [y] [j.d]:=by rw[k1];exact ri
   obtain⟨p1,p2,p3⟩:=Ln ry rv h3 h4 h5;have oi:es.length<sizeLine:=by
    have:=h5.length;rw[bj,bj] at this;rw[this];exact gE hl (by decide)
   exact .inr ⟨a,_,rfl,⟨es,ep,j,h2,Rt h3 h4 le,vk (k:=k.all H) j (ry.all le),k2,oi,rfl⟩,h _ ⟨_,_,aK,p1,p2,p3⟩⟩
  .cases e
def cf(q:Nat)(fv fo fi:GE):GS:=λU S=>mi U (pe fv (pe fo (pe fi gN)) U S) λvs S1=>match vs with
 |[v,o,i]=>(tK [v,i] S1).bind λp=>(iK p.2 o).bind λb=>if b.mb q=true then(match p.1 with
  |[dv,di]=>(x_ b di dv).map λb'=>.nx U (setB p.2 b' o)
  |_=>none) else none
 |_=>none
def e6m{D:Ends}(t:tS K W q (cf q fv fo fi) D Z H):tE K W q fv Z H λv H1=>tE K W q fo Z H1 λo H2=>tE K W q fi Z H2 λi H3=>sJ K o i v H3 λH4=>D.nx Z H4:=by
 have t1:g9 K W q (pe fv (pe fo (pe fi gN))) Z H λxs H3=>∃v o i,xs=[v,o,i]/\sJ K o i v H3 λH4=>D.nx Z H4:=by
  obtain⟨k,U,S,fr,ok,gk,e,w⟩:=t;refine tS.bd ok gk e w λvs S1 xs k1 H1 bH g1 r1 e1 w1=>?_
  split at e1
  .rename_i v o i
   cases r1 with
   |@cons xv _ _ _ rv t=>
    cases t with
    |@cons xo _ _ _ ro t=>
     cases t with
     |@cons xi _ _ _ ri t=>
      cases t;refine⟨xv,xo,xi,rfl,?_⟩;obtain⟨⟨ds,S2⟩,e2,e3⟩:=cy.mp e1;obtain⟨k2,u2,cO,r2⟩:=Ic bH (.cons rv (.cons ri .nil)) e2;obtain⟨b,e4,e5⟩:=cy.mp e3;obtain⟨a,rfl,h4,h5⟩:=D0 cO (ro.up (u2 q)) e4;split at e5
      .rename_i hb
       obtain _|⟨dv,_|⟨di,_|⟨_,_⟩⟩⟩:=ds
       .cases e5
       .cases e5
       .obtain⟨b',e6,rfl⟩:=c_.mp e5;obtain⟨s1,s2⟩:=r2.inv;refine SW cO.le h4 s2 s1 e6 λo' h6=>?_
        obtain⟨ox,u5⟩:=h5 q b' _ DM hb h6;exact bX.now (bX.up (bX.up w1 (u2 q)) u5) ox ((g1.up (u2 q)).up u5)
       .cases e5
      .cases e5
  .cases e1
 refine ra (w6 t1) λv H1 h=>ra (w6 h) λo H2 h=>ra (w6 h) λi H3 h=>?_
 obtain⟨v',o',i',e,h⟩:=Cs h;cases e;exact h
def e6n(he:PE X e (tE K W q fv))(ho:PE X o (tE K W q fo))(hi:PE X i (tE K W q fi))(hu:X.A.units+41<cLine)(hK:X.K=K)
  (ha:∀v,assign (.Subscript o i pos') X.env v=(do
   let ov <-holding [v] (eval o X.env)
   let iv <-holding [v,ov] (eval i X.env)
   standAt pos'
   holding [v,ov,iv] (setItem ov iv v)
   release [v,ov,iv] []))
  (hs:swapsWithSole [.Subscript o i pos'] e pos.line X.env=pure false) (hw:swappedStores [.Subscript o i pos'] e X.env=pure none)
  (h1:(assignEach [.Subscript o i pos'] X.env).map (·.2)=[assign (.Subscript o i pos') X.env]):PS X (.Assign [.Subscript o i pos'] e pos) (tS K W q (cf q fv fo fi)):=by
 subst hK;exact(e4i he (e4h ho hi (TN hu) ha) hs hw h1).mono λD Z H t=>e6m t
end
end L2
namespace L2
open PySem PySem.Spec PySem.W PyProof.Rows
section
variable{X:Cx}{K:fQ}{W:XW}{q:Nat}{pos:Pos}{aa:List (ag×Obj)}{Z:St}
def vx:PE X (.Dict [] [] pos) e6g:=λaa s Z H Q I h=>
 wpAny_Dict_empty ⟨.ref s.heap.objs.size,_,I.laid (a:=s.heap.objs.size) (o:=.dG [] 0) (t':=s.toks) (λ_ _ q=>dy _ q) (bV _) (K2 s.heap I.big),rfl,h _ (I.bx.fresh (bV _))⟩
noncomputable def rb:GE:=λ_ S=>some (.ok (.o (.aw [])) S)
def uS:PE X (.Dict [] [] pos) (tE K W q rb):=vx.mono λZ H Q t p hp=>by
 obtain⟨k,U,S,res,ok,gk,e,w⟩:=t;cases e;exact mD.aw (.fin ok w) ok.le rfl .nil .nil hp
def rL(K:fQ)(F:Hp)(e:TK×V×V):Prop:=bF K F [e.2.1] [e.1.d]/\e.1.ok 8=true
def SX(K:fQ)(yg:List (TE×TE)):TE:=λZ H Q=>∀p,H p=none->Iv yg Z (upd H p (.dG [] 0)) λps H2=>(∃e0,H2 p=some (.dG [] e0))/\∃(F:Hp) (qs:List (TK×V×V)),F p=none/\az F H2/\ps=qs.map (·.2)/\(∀e∈qs,rL K F e)/\qs.length<=15/\∀ep,Q (.ref p) (upd H2 p (.dG (fH [] qs) ep))
def Y8{F:Hp}{qs:List (TK×V×V)}(h:∀e∈qs,rL K F e):∀{es:List (TK×V×V)},bF K F (es.map (·.2.1)) (es.map (·.1.d))->bF K F ((fH es qs).map (·.2.1)) ((fH es qs).map (·.1.d)):=λ{es} r=>Pe K (λp m=>(h p m).1) r
theorem PR{A:cR}{E:ai->av->Prop}{F H2:Hp}{p:ag}(hF:F p=none)(le:az F H2)(hu:A.units+8<cLine){Q:Unit->av->Prop}:∀{qs:List (TK×V×V)} {ws:List (ai×ai)} {es:List (TK×V×V)} {ep:Nat} {s:av},VV (qs.map (·.2)) ws->(∀e∈qs,rL X.K F e)->bF X.K F (es.map (·.2.1)) (es.map (·.1.d))->es.length+qs.length<=1000->Inv X aa Z (upd H2 p (.dG es ep)) s->(∀ep s,Inv X aa Z (upd H2 p (.dG (fH es qs) ep)) s->Q () s)->
  wpAny (model X.prog X.w) A (forIn ws () λ(x:ai×ai) _=>do dictSet p x.1 x.2;pure (ForInStep.yield ())) Q E s
 |[],_,es,ep,s,v,_,_,_,I,h=>by
  rw[Gy] at v;cases v;rw[List.forIn_nil];exact aX (h ep s I)
 |e::qs,_,es,ep,s,v,hk,r,hl,I,h=>by
  rw[cU] at v;cases v with
  |cons rv v=>
   rw[List.forIn_cons];have sm:az F (upd H2 p (.dG es ep)):=λb o z=>by rw[dc (λy=>by rw[y,hF] at z;cases z)];exact le b o z
   have Mu:=hk e (.head _);rw[l_] at hl;refine aA (aA (KJ (by lia) I ⟨es,ep,e.1,aK,r.JD sm,Mu.1.JD sm,Mu.2,by rw[sizeLine_eq];lia,rfl⟩ rv.1 rv.2 λs' I'=>aX ?_))
   rw[d7k] at I';have Jh:=Hh e.1 e.2.1 e.2.2 es;have e3:(fH es [e]).length=(dN es e.1 e.2.1 e.2.2).length:=rfl;exact PR (es:=fH es [e]) hF le hu v (λe m=>hk e (.tail _ m)) (Y8 (qs:=[e]) (λx m=>by cases qE.mp m;exact Mu) r) (by lia) I' h
def Y9{keys:List (aj Expr)}{values:List Expr}{yg:List (TE×TE)}(h:BP X pos keys values yg)(hu:X.A.units+41<cLine)(kI:keys.all (·.isSome)=true)(hl:keys.length=values.length)(h0:keys≠[])(AO:keys.length<=15):PE X (.Dict keys values pos) (SX X.K yg):=by
 intro aa s Z H Q I q;have hn:=I.bx.fresh (bV s.heap.objs.size);have I1:=I.laid (a:=s.heap.objs.size) (o:=.dG [] 0) (h':=s.heap.push { cls:=.type "dict",data:=.dict #[]}) (t':=s.toks) (λ_ _ q=>dy _ q) (bV _) (K2 s.heap I.big)
 have lp:∀(ks:List (aj Expr)) (vs:List Expr),ks.all (·.isSome)=true->ks.length=vs.length->(pairTrees ks vs X.env pos).length=ks.length:=by
  intro ks
  induction ks with
  |nil=>intro vs _ e;cases vs with
   |nil=>rfl
   |cons _ _=>cases e
  |cons k ks ih=>
   intro vs a e;rw[vP,kO] at a;cases k with
   |none=>cases a.1
   |some k=>cases vs with
    |nil=>cases e
    |cons v vs=>exact congrArg (·+1) (ih vs a.2 (Nat.succ.inj e))
 have MW:=lp keys values kI hl;rw[arm_eval_Dict,zip_pairTrees keys values X.env pos kI hl,dictDisplay_pairs _ (λz=>h0 (List.eq_nil_of_length_eq_zero (by rw[<-MW,z];rfl))) (by rw[MW];lia)]
 refine aA (wpAny_standAt (aA ?_));unfold subDict;refine aA (wpAny_alloc (aA (mh ?_)));rw[bK (by rw[MW];exact AO)]
 refine aA (bI (h aa _ Z _ _ I1 (q _ hn)) λws s2 hh=>?_)
 obtain⟨ps,H2,I2,rel,⟨e0,e⟩,F,qs,hF,le,ep,hk,hq,q2⟩:=hh;subst ep;refine mh (aA ?_);have eu:upd H2 s.heap.objs.size (.dG [] e0)=H2:=by
  grind [aK,dc]
 refine PR hF le (by show X.A.units+8<cLine;lia) rel hk .nil (by rw[C3];lia) (eu ▸ I2) λep s' I'=>?_
 exact aX (aX (aX ⟨.ref _,_,I',rfl,q2 ep⟩))
noncomputable def Lz:List D->aj (List (TK×D))
 |[]=>some []
 |a::b::ds=>(lX a).bind λj=>(Lz ds).map λps=>(j,b)::ps
 |_=>none
def ql(g:GA):GE:=λU S=>bd (g U ⟨S.s++[.o (.aw [])],S.r⟩) λvs S1=>(tK vs S1).bind λz=>if z.2.s.length=S.s.length+1 then(match z.2.s[S.s.length]? with
 |some (.o (.aw []))=>(Lz z.1).bind λps=>if ps.length<=15 then some (.ok (.o (.aw (ps.foldl (λkvs p=>bL kvs p.1 p.2) []))) ⟨z.2.s.take S.s.length,z.2.r⟩) else none
 |_=>none) else none
def Ae:List (GE×GE)->GA
 |[]=>gN
 |p::r=>pe p.1 (pe p.2 (Ae r))
noncomputable def uY:List (V×V)->List V
 |[]=>[]
 |p::r=>p.1::p.2::uY r
noncomputable abbrev JA(K:fQ)(W:XW)(q:Nat)(gs:List (GE×GE)):List (TE×TE):=gs.map λp=>(tE K W q p.1,tE K W q p.2)
def Y_{gs:List (GE×GE)}:∀{H:Hp} {Q:List (V×V)->Hp->Prop},g9 K W q (Ae gs) Z H (λxs H2=>∀ps,uY ps=xs->Q ps H2)->Iv (JA K W q gs) Z H Q:=by
 induction gs with
 |nil=>intro H Q t;exact Cs t [] rfl
 |cons p gs ih=>intro H Q t;exact ra (w6 t) λx H1 t=>ra (w6 t) λy H2 t=>ih (ra t λxs H3 h ps e=>h _ (by rw[<-e];rfl))
theorem RL{k:Kn}:∀{ps:List (V×V)} {ds:List D} {es:List (TK×D)},Lz ds=some es->ah K k (uY ps) ds->∃qs:List (TK×V×V),ps=qs.map (·.2)/\(∀e∈qs,rL K k.F e)/\Paired (uF K k) qs es
 |[],ds,es,e,r=>by
  cases ds with
  |nil=>cases e;exact⟨[],rfl,(λ_ m=>nomatch m),.nil⟩
  |cons _ _=>have:=r.length;cases this
 |p::ps,ds,es,e,r=>by
  cases ds with
  |nil=>have:=r.length;cases this
  |cons a ds=>cases ds with
   |nil=>have:=r.length;cases this
   |cons b ds=>
    obtain⟨j,q1,e⟩:=cy.mp e;obtain⟨ps',q2,rfl⟩:=c_.mp e;obtain⟨r1,r⟩:=ah.inv r;obtain⟨r2,r⟩:=ah.inv r;obtain⟨qs,h1,h2,h3⟩:=RL q2 r;have rk:ah K k [p.1] [j.d]:=by rw[(Cm q1).1];exact r1
    refine⟨(j,p.1,p.2)::qs,by rw[h1];rfl,λe m=>?_,.cons ⟨rfl,rk,r2⟩ h3⟩
    rcases y0a.mp m with rfl|m
    .exact⟨vk (k:=k) j rk,(Cm q1).2⟩
    .exact h2 e m
def Xt{α:Type}{l:List α}{n:Nat}{p:α}(h:l.length=n+1)(e:l[n]?=some p):l=l.take n++[p]:=by
 conv=>lhs;rw[<-List.take_append_drop n l]
 congr 1
 obtain⟨hn,e⟩:=eY.mp e;rw[N8 hn,e,JE (by lia)]
def e0n{gs:List (GE×GE)}{H:Hp}{Q:VK}(t:tE K W q (ql (Ae gs)) Z H Q):SX K (JA K W q gs) Z H Q:=by
 intro p hp;obtain⟨k,U,S,res,ok,gk,e,w⟩:=t;have sm:az H (upd H p (.dG [] 0)):=uL hp;obtain⟨fx,nx⟩:=ok.fresh hp;have cO:b_ K k _ S:=ok.new (az.refl _) (λa _ o z=>sm a o z) (ok.le.trans sm) λ_ _ z=>z
 obtain⟨kJ,u3⟩:=cO.pushS (b:=.aw []) fx nx ⟨[],0,aK,rfl,.nil,.nil⟩;have u4:Up q k H ⟨k.F,k.A,k.T++[p]⟩ (upd H p (.dG [] 0)):=(Up.of (az.refl _) sm).trans (u3 q);refine Y_ ?_;refine tX.bd (R':=RE K) (Q':=Q) kJ (gk.up u4) e (w.up u4) λvs S1 xs k1 H1 bH g1 r1 e1 w1 u1 ps0 e0=>?_
 subst e0;obtain⟨z,e2,e1⟩:=cy.mp e1;obtain⟨k2,u2,ox,r5⟩:=Ic bH r1 e2;split at e1
 .rename_i hl
  split at e1
  .rename_i hc
   obtain⟨ps,e3,e1⟩:=cy.mp e1;split at e1
   .rename_i AO
    cases e1;have ep:k2.T[S.s.length]?=some p:=Iw (u2 q).t (Iw u1.t (by rw[<-ok.s.ln];exact Ia))
    obtain⟨hF,es,e0,hH,hk,_,_⟩:=ox.s.at' _ _ _ ep hc;cases es with
    |cons _ _=>cases hk
    |nil=>
     obtain⟨qs,h1,h2,h3⟩:=RL e3 r5;have hlT:k2.T.length=S.s.length+1:=ox.s.ln.trans hl;have eT:=Xt hlT ep;have np:p∉k2.A++k2.T.take S.s.length:=by
      have nd:=ox.nd;rw[eT,<-qF] at nd;exact λm=>(oV.mp nd).2.2 p m p (List.mem_singleton_self _) rfl
     refine⟨⟨e0,hH⟩,k2.F,qs,hF,ox.le,h1,h2,by rw[Paired.length h3];exact AO,λqJ=>?_⟩
     obtain⟨o1,o2,o3⟩:=RK h3 (ws:=[]) (kvs:=[]) rfl .nil .nil;have ho:mU H1 (upd H1 p (.dG (fH [] qs) qJ)) p:=DM;have M4:=ox.take S.s.length;have ok7:b_ K ⟨k2.F,k2.A,k2.T.take S.s.length⟩ (upd H1 p (.dG (fH [] qs) qJ)) ⟨z.2.s.take S.s.length,z.2.r⟩:=M4.new (az.refl _) (λa m o y=>by rw[ho a λy=>np (y ▸ m)];exact y) (λb o y=>by rw[ho b λy'=>by rw[y',hF] at y;cases y];exact ox.le b o y) λ_ _ y=>y
     have uu:=u4.trans (u1.trans (u2 q));refine w (.ref p) ⟨k2.F,k2.A,k2.T.take S.s.length⟩ _ ⟨uu.f,uu.a,Qh uu.t (Gw ok.s.ln),λa o y1 y2=>?_⟩ ok7 ⟨p,rfl,hF,np,_,qJ,aK,o1,ah.mono (k:=k2) ⟨az.refl k2.F,mS k2.A⟩ o2,ah.mono (k:=k2) ⟨az.refl k2.F,mS k2.A⟩ o3⟩
     rw[ho a λy=>by rw[y,hp] at y2;cases y2]
     exact uu.h a o y1 y2
   .cases e1
  .cases e1
 .cases e1
def e0o{keys:List (aj Expr)}{values:List Expr}{gs:List (GE×GE)}(hK:X.K=K)(h:BP X pos keys values (JA K W q gs))(hu:X.A.units+41<cLine)(kI:keys.all (·.isSome)=true)(hl:keys.length=values.length)(h0:keys≠[])(AO:keys.length<=15):PE X (.Dict keys values pos) (tE K W q (ql (Ae gs))):=(Y9 h hu kI hl h0 AO).mono λZ H Q t=>by
 rw[hK];exact e0n t
end
end L2
namespace L2
open PySem PySem.Spec PyProof.Rows
variable{aP:Str}{Z:St}{H:Hp}{Q:Str->Hp->Prop}
noncomputable def n_:D->aj Rv
 |.str x=>if x.length<=1000000 then some (rd (.str x)) else none
 |.int i=>if i.natAbs.log2<1920 then some (rd (.str (Str.ofString (toString i)))) else none
 |_=>none
def Nj:V->Hp->VK->Prop:=λx H Q=>(∃z:Str,x=.str z/\z.length<=sizeLine/\Q (.str z) H)\/∃i:Int,x=.int i/\i.natAbs.log2<1920/\Q (.str (Str.ofString (toString i))) H
abbrev TJ:=Str->St->Hp->(Str->Hp->Prop)->Prop
def zF:TJ:=λaP _ H Q=>Q aP H
def SY(te:TE)(tj:TJ):TJ:=λaP Z H Q=>te Z H λx H1=>∃y,x=.str y/\(aP++y).length<=sizeLine/\tj (aP++y) Z H1 Q
def PJ(X:Cx)(es:List Expr)(tj:TJ):Prop:=∀(aP:Str) (aa:List (ag×Obj)) (s:av) (Z:St) (H:Hp) (Q:Str->Hp->Prop) (R:Str->av->Prop),Inv X aa Z H s->tj aP Z H Q->aP.length<=sizeLine->
 (∀out s' H',out.length<=sizeLine->Inv X aa Z H' s'->Q out H'->R out s')->Joins (model X.prog X.w) X.A X.xe (evalEach es X.env) aP R s
abbrev GJ:=Str->Gx Str
noncomputable def lR:GJ:=λaP _ S=>some (.ok aP S)
noncomputable def Rv.str:Rv->aj Str
 |.v (.d (.str i))=>some i
 |_=>none
noncomputable def oU(f:GE)(j:GJ):GJ:=λaP U S=>bd (f U S) λr S1=>r.str.bind λy=>if(aP++y).length<=1000000 then j (aP++y) U S1 else none
noncomputable def Af(j:GJ):GE:=λU S=>bd (j Str.empty U S) λz S1=>some (.ok (rd (.str z)) S1)
abbrev RS:Rp Str Str:=λ_ _ b a=>b=a
section
variable{X:Cx}{K:aL}{W:XW}{q:Nat}{f:GE}{e v:Expr}{es:List Expr}{j:GJ}{pos:Pos}{te:TE}{tj:TJ}
def Rv.Bz{r:Rv}{i:Str}(h:r.str=some i):r=rd (.str i):=by
 unfold Rv.str at h;split at h
 .cases h;rfl
 .cases h
def e6o:bY K (Nh Nj) (o1 n_):=wq λk H x a y Q le t e res=>by
 unfold n_ at e;split at e
 .split at e
  .cases e;cases t.flat rfl;exact⟨_,rfl,.inl ⟨_,rfl,ml (by assumption),res.flat le rfl⟩⟩
  lia
 .split at e
  .cases e;cases t.flat rfl;exact⟨_,rfl,.inr ⟨_,rfl,by assumption,res.flat le rfl⟩⟩
  lia
 lia
def Ey(h:PE X v (tE K W q f)):PE X (.FormattedValue v (-1) none pos) (tE K W q (gO (o1 n_) (aZ f))):=by
 intro aa s Z H Q I t;refine wpAny_FormattedValue_plain (bI (h aa s Z H _ I (L5 (xh e6o t))) λu s1 ⟨x,H1,I1,r1,q1⟩=>?_)
 rcases q1 with⟨z,rfl,hz,q⟩|⟨i,rfl,hi,q⟩
 .obtain⟨t',rfl⟩:=r1;exact PyProof.Rows.formatField_str (λt2 tk=>⟨.str z,H1,I1.tok _,⟨_,rfl⟩,q⟩) hz
 .obtain⟨t',rfl⟩:=r1;exact wpAny_formatField_int hi ⟨.str _,H1,I1.tok _,⟨_,rfl⟩,q⟩
def e6p:PJ X [] zF:=λaP aa s Z H Q R I t hl hR=>Joins_nil (hR _ _ _ hl I t)
def e0p(he:PE X e te)(hj:PJ X es tj):PJ X (e::es) (SY te tj):=λaP aa s Z H Q R I t hl hR=>
 Joins_cons (bI (he aa s Z H _ I t) λu s1 ⟨x,H1,I1,r1,y,hy,Uj,q1⟩=>by
  subst hy;obtain⟨t,rfl⟩:=r1;exact⟨y,t,rfl,Uj,hj (aP++y) aa s1 Z H1 Q R I1 q1 Uj hR⟩)
def e0q(t:tX RS K W q (lR aP) Z H Q):zF aP Z H Q:=Et t λ_ _=>rfl
def Y'(hj:∀aP Z H Q,tX RS K W q (j aP) Z H Q->tj aP Z H Q)(t:tX RS K W q (oU f j aP) Z H Q):SY (tE K W q f) tj aP Z H Q:=by
 obtain⟨k,U,S,res,ok,gk,e,w⟩:=t;refine tX.bd ok gk e w λr S1 x k1 H1 bH g1 r1 e1 w1 _=>?_
 obtain⟨y,e2,e3⟩:=cy.mp e1;cases Rv.Bz e2;split at e3
 .exact⟨y,(show ah K k1 [x] [.str y] from r1).bc rfl,ml (by assumption),hj _ _ _ _ ⟨k1,U,S1,res,bH,g1,e3,w1⟩⟩
 .cases e3
def Xu{v1 v2:Expr}{rest:List Expr}(h:PJ X (v1::v2::rest) tj)(hj:∀aP Z H Q,tX RS K W q (j aP) Z H Q->tj aP Z H Q):PE X (.JoinedStr (v1::v2::rest) pos) (tE K W q (Af j)):=by
 intro aa s Z H Q I t;refine wpAny_JoinedStr (h Str.empty aa s Z H (λout H'=>Q (.str out) H') _ I (hj _ _ _ _ ?_) (nK _) λout s' H' h1 I' hQ=>⟨h1,.str out,H',I'.tok _,⟨_,rfl⟩,hQ⟩)
 obtain⟨k,U,S,res,ok,gk,e,w⟩:=t;refine tX.bd ok gk e w λz S1 z' k1 H1 bH g1 r1 e1 w1 _=>?_
 cases e1;cases r1;exact w1.now bH (show ah K k1 [_] [_] from .flat rfl .nil)
end
variable{S:aU}{n:Nat}{op:Operator}{h:Int->Int->Int}
def kZ(K:aL)(atr:List (ag×Str)):Prop:=∀p∈atr,qQ K p.1/\fY K p.1 p.2
noncomputable def vg(S:aU)(n:Nat):aj (ag×List (Str×D)):=(S.r[n]?).bind λc=>match c with
 |.ins C fs=>some (C,fs)
 |_=>none
def Im{p:ag×List (Str×D)}(h:vg S n=some p):S.r[n]?=some (.ins p.1 p.2):=by
 obtain⟨c,h1,h2⟩:=cy.mp h;cases c <;> cases h2;exact h1
def ba(atr:List (ag×Str))(g:Str)(f:GE):GE:=λU S=>bd (f U S) λr S1=>r.ref.bind λn=>(vg S1 n).bind λp=>if atr.contains (p.1,g)=true then(p.2.lookup g).map λd=>.ok (rd d) S1 else none
noncomputable def gw(f:Str)(v:D):List (Str×D)->List (Str×D)
 |[]=>[(f,v)]
 |(g,x)::r=>if g=f then(g,v)::r else(g,x)::gw f v r
section
variable{X:Cx}{K:aL}{W:XW}{q:Nat}{atr:List (ag×Str)}{g:Str}{f fv fo fe fi:GE}{e o value i:Expr}{pos pos' fL:Pos}{Z:St}{H:Hp}
theorem K5{k:Kn}{g:Str}{d:D}:∀{gs:List (Str×V)} {fs:List (Str×D)},gs.map (·.1)=fs.map (·.1)->ah K k (gs.map (·.2)) (fs.map (·.2))->fs.lookup g=some d->∃v,gs.lookup g=some v/\ah K k [v] [d]
 |[],[],_,_,e=>nomatch e
 |(x,v)::gs,(y,c)::fs,h,r,e=>by
  obtain⟨h1,h2⟩:=List.cons.inj (show x::gs.map (·.1)=y::fs.map (·.1) from h)
  obtain⟨a1,a2⟩:=ah.inv r;subst h1;rw[List.lookup_cons] at e ⊢;split at e
  .cases e;exact⟨v,rfl,a1⟩
  .exact K5 h2 a2 e
 |[],_::_,h,_,_=>nomatch h
 |_::_,[],h,_,_=>nomatch h
theorem Qt{k:Kn}{g:Str}{v:V}{d:D}(rv:ah K k [v] [d]):∀{gs:List (Str×V)} {fs:List (Str×D)},gs.map (·.1)=fs.map (·.1)->ah K k (gs.map (·.2)) (fs.map (·.2))->(dI g v gs).map (·.1)=(gw g d fs).map (·.1)/\ah K k ((dI g v gs).map (·.2)) ((gw g d fs).map (·.2))
 |[],[],_,_=>⟨rfl,rv⟩
 |(x,w)::gs,(y,c)::fs,h,r=>by
  obtain⟨h1,h2⟩:=List.cons.inj (show x::gs.map (·.1)=y::fs.map (·.1) from h)
  obtain⟨a1,a2⟩:=ah.inv r;subst h1;unfold dI gw;split
  .exact⟨congrArg (List.cons x) h2,.cons rv a2⟩
  .obtain⟨c1,c2⟩:=Qt rv h2 a2;exact⟨congrArg (List.cons x) c1,.cons a1 c2⟩
 |[],_::_,h,_=>nomatch h
 |_::_,[],h,_=>nomatch h
def e6q(ha:kZ K atr)(he:PE X e (tE K W q f))(hb:attributeBase e g X.env (eval e X.env)=eval e X.env)(hK:X.K=K):PE X (.Attribute e g pos) (tE K W q (ba atr g f)):=by
 subst hK;refine(e4r he hb).mono λZ H Q t=>?_
 obtain⟨k,U,S,res,ok,gk,e,w⟩:=t;refine tX.bd ok gk e w λr S1 x k1 H1 bH g1 r1 e1 w1 _=>?_
 obtain⟨n,e2,e3⟩:=cy.mp e1;cases Rv.oF e2;obtain⟨p,e4,e5⟩:=cy.mp e3;split at e5
 .rename_i hc
  obtain⟨h1,h2⟩:=ha _ (oP.mp hc);obtain⟨d,e6,rfl⟩:=c_.mp e5;obtain⟨a,dx,gs,rfl,h3,h4,h5,h6,h7⟩:=Ee bH r1 (Im e4);obtain⟨v,h8,h9⟩:=K5 h6 h7 e6;exact⟨a,_,dx,gs,v,rfl,h5,h1,h2,h8,w1.now bH h9⟩
 .cases e5
def b_.FR{k:Kn}{a C dx:ag}{gs:List (Str×V)}{fs:List (Str×D)}{v:V}{d:D}(ok:b_ K k H S)(hA:k.A[n]?=some a)(hF:k.F a=none)(h5:H a=some (.ins C dx gs))(h6:gs.map (·.1)=fs.map (·.1))(h7:ah K k (gs.map (·.2)) (fs.map (·.2)))(rv:ah K k [v] [d])(hq:Nat.ble q 1=true):
  b_ K k (upd H a (.ins C dx (dI g v gs))) ⟨S.s,S.r.set n (.ins C (gw g d fs))⟩/\Up q k H k (upd H a (.ins C dx (dI g v gs))):=by
 obtain⟨c1,c2⟩:=Qt (g:=g) rv h6 h7;refine ok.FT hA DM hF (λo z=>?_) ⟨hF,dx,_,aK,c1,c2⟩
 rw[h5] at z;cases z;have:=BJ hq
 match q,this with
 |0,_=>rfl
 |1,_=>rfl
def fB(q:Nat)(atr:List (ag×Str))(g:Str)(fv fo:GE):GS:=λU S=>mi U (fv U S) λr1 S1=>mi U (fo U S1) λr2 S2=>(rm S2 (oM r1)).bind λz=>r2.ref.bind λn=>(vg z.2 n).bind λp=>if(atr.contains (p.1,g)&&Nat.ble q 1&&Nat.blt p.2.length 1000)=true then some (.nx U ⟨z.2.s,z.2.r.set n (.ins p.1 (gw g z.1 p.2))⟩) else none
def e6r(ha:kZ K atr)(ho:PE X o (tE K W q fo))(hv:PE X value (tE K W q fv))(hs:swapsWith value (some (.Attribute o g pos')) pos.line X.env=pure false)(hK:X.K=K):PS X (.Assign [.Attribute o g pos'] value pos) (tS K W q (fB q atr g fv fo)):=by
 subst hK;refine(e4s ho hv hs).mono λD Z H t=>?_
 obtain⟨k,U,S,fr,ok,gk,e,w⟩:=t;refine tS.bd ok gk e w λr1 S1 y k1 H1 bH g1 q1 e1 w1=>?_
 obtain⟨k2,u2,cO,q2⟩:=t6 bH q1;refine tS.Ep cO (g1.up (u2 q)) e1 (w1.up (u2 q)) λr2 S2 x k3 H3 kJ g3 r3 e2 w3 u3=>?_
 obtain⟨⟨d,S3⟩,e3,e4⟩:=cy.mp e2;obtain⟨k4,u4,tR,r4⟩:=Ib kJ (q2.up u3) e3;obtain⟨n,e5,e6⟩:=cy.mp e4;cases Rv.oF e5;obtain⟨p,e7,e8⟩:=cy.mp e6;split at e8
 .rename_i hc
  cases e8;simp only[kO] at hc;obtain⟨⟨Jc,u_⟩,Mn⟩:=hc;obtain⟨h1,h2⟩:=ha _ (oP.mp Jc);obtain⟨a,dx,gs,rfl,h3,h4,h5,h6,h7⟩:=Ee tR (ah.mono (u4 q).le r3) (Im e7);have hl:gs.length<1000:=by
   have:=h7.length;rw[bj,bj] at this;rw[this];exact BJ Mn
  obtain⟨ox,u5⟩:=tR.FR (g:=g) h3 h4 h5 h6 h7 r4 u_;exact⟨a,_,dx,gs,rfl,h5,h1,h2,hl,bX.now (bX.up w3 ((u4 q).trans u5)) ox (g3.up ((u4 q).trans u5))⟩
 .cases e8
def LA(q:Nat)(h:Int->Int->Int)(atr:List (ag×Str))(g:Str)(fo fe:GE):GS:=λU S=>mi U (fo U S) λr S1=>r.ref.bind λn=>(vg S1 n).bind λp=>if atr.contains (p.1,g)=true then(match p.2.lookup g with
 |some (.int a)=>mi U (fe U S1) λr2 S2=>r2.int.bind λb=>(vg S2 n).bind λp2=>if(p2.1 == p.1&&Nat.ble q 1&&Nat.blt p2.2.length 1000)=true then some (.nx U ⟨S2.s,S2.r.set n (.ins p2.1 (gw g (.int (h a b)) p2.2))⟩) else none
 |_=>none) else none
def e0r(AZ:zT X op λx y H Q=>∃i j,x=.int i/\y=.int j/\Q (.int (h i j)) H)(ha:kZ K atr)(ho:PE X o (tE K W q fo))(hv:PE X value (tE K W q fe))(hK:X.K=K):PS X (.AugAssign (.Attribute o g fL) op value pos) (tS K W q (LA q h atr g fo fe)):=by
 subst hK;refine(WM ho hv AZ).mono λD Z H t=>?_
 obtain⟨k,U,S,fr,ok,gk,e,w⟩:=t;refine tS.bd ok gk e w λr S1 x k1 H1 bH g1 r1 e1 w1=>?_
 obtain⟨n,e2,e3⟩:=cy.mp e1;cases Rv.oF e2;obtain⟨p,e4,e5⟩:=cy.mp e3;split at e5
 case isFalse=>cases e5
 rename_i hc
 obtain⟨h1,h2⟩:=ha _ (oP.mp hc);obtain⟨a,dx,gs,rfl,h3,h4,h5,h6,h7⟩:=Ee bH r1 (Im e4);split at e5
 case h_2=>cases e5
 rename_i iv hl
 obtain⟨v,h8,h9⟩:=K5 h6 h7 hl;cases h9.bc rfl;refine⟨a,_,dx,gs,_,rfl,h5,h1,h2,h8,tS.Ep bH g1 e5 w1 λr2 S2 y k2 H2 cO g2 q2 e6 w2 u2=>?_⟩
 obtain⟨b,e7,e8⟩:=cy.mp e6;cases Rv.jN e7;cases(show ah X.K k2 [y] [.int b] from q2).bc rfl;obtain⟨p2,e9,LX⟩:=cy.mp e8;split at LX
 case isFalse=>cases LX
 rename_i hc
 cases LX;simp only[kO,beq_iff_eq] at hc;obtain⟨⟨Jc,u_⟩,Mn⟩:=hc;obtain⟨a',dx2,jr,z,h3',h4',T5,h6',T7⟩:=Ee cO (ah.mono u2.le r1) (Im e9);cases z;have hl:jr.length<1000:=by
  have:=T7.length;rw[bj,bj] at this;rw[this];exact BJ Mn
 obtain⟨ox,u5⟩:=cO.FR (g:=g) (v:=.int (h iv b)) (d:=.int (h iv b)) h3' h4' T5 h6' T7 (.flat rfl .nil) u_;exact⟨_,_,rfl,rfl,dx2,jr,Jc ▸ T5,hl,Jc ▸ bX.now (bX.up w2 u5) ox (g2.up u5)⟩
def LB(q:Nat)(h:Int->Int->Int)(fo fi fe:GE):GS:=λU S=>mi U (fo U S) λr1 S1=>mi U (fi U S1) λr2 S2=>(match oM r2,iK S2 (oM r1) with
 |.d di,some (.aw kvs)=>(lX di).bind λj=>(match aM kvs j with
  |some (.int a)=>mi U (fe U S2) λr3 S3=>r3.int.bind λb=>(iK S3 (oM r1)).bind λc=>if c.mb q=true then(match c with
   |.aw vt=>if vt.length<1000000 then some (.nx U (setB S3 (.aw (bL vt j (.int (h a b)))) (oM r1))) else none
   |_=>none) else none
  |_=>none)
 |_,_=>none)
def Za(hu:X.A.units+41<cLine):Dh X (λo i H Q=>∃a v,o=.ref a/\iC X.K H a i (some v)/\Q v H):=by
 intro aa s Z H o i ov iv Q I ro ri h;obtain⟨p,v,rfl,g,q⟩:=h;cases ro;exact PL (by lia) I g ri λw' s3 I3 oH=>⟨v,H,I3,oH,q⟩
def e0s(AZ:GV X op (MK h))(ho:PE X o (tE K W q fo))(hi:PE X i (tE K W q fi))(hv:PE X value (tE K W q fe))(hu:X.A.units+41<cLine)(hK:X.K=K)
  (ha:∀ov iv new,augStore i ov iv new=(do holding [new,ov,iv] (setItem ov iv new);release [new,ov,iv] [];pure .next)):PS X (.AugAssign (.Subscript o i fL) op value pos) (tS K W q (LB q h fo fi fe)):=by
 subst hK;refine(d7r ho hi (Za hu) hv AZ (TN hu) ha).mono λD Z H t=>?_
 obtain⟨k,U,S,fr,ok,gk,e,w⟩:=t;refine tS.bd ok gk e w λr1 S1 x k1 H1 bH g1 q1 e1 w1=>?_
 obtain⟨k2,u2,cO,q2⟩:=t6 bH q1;refine tS.Ep cO (g1.up (u2 q)) e1 (w1.up (u2 q)) λr2 S2 y k3 H3 kJ g3 r3 e2 w3 u3=>?_
 obtain⟨k4,u4,tR,q4⟩:=t6 kJ r3;have q5:=(q2.up u3).up (u4 q);split at e2
 case h_2=>cases e2
 rename_i di kvs hd hg
 rw[hd] at q4;obtain⟨j,e3,e4⟩:=cy.mp e2;obtain⟨a,rfl,hb,_⟩:=D0 tR q5 hg;split at e4
 case h_2=>cases e4
 rename_i iv E8
 have tp:Top X.K k4 H3 (.ref a) (.aw kvs):=.inr ⟨a,.aw kvs,rfl,rfl,hb⟩;obtain⟨p,o,z,g,hh⟩:=yp tR.le tp (.inl q4) e3;cases z;rcases hh with⟨_,z⟩|⟨v,d,rfl,z,rv⟩
 .rw[E8] at z;cases z
 rw[E8] at z;cases z;cases rv.bc rfl;refine⟨a,_,rfl,g,tS.Ep tR (g3.up (u4 q)) e4 (w3.up (u4 q)) λr5 S5 y5 k5 H5 ox g5 q6 e5 w5 u5=>?_⟩
 obtain⟨b,e6,e7⟩:=cy.mp e5;cases Rv.jN e6;cases(show ah X.K k5 [y5] [.int b] from q6).bc rfl;obtain⟨c,e8,e9⟩:=cy.mp e7;obtain⟨a',z,qK,NQ⟩:=D0 ox (q5.up u5) e8;cases z;split at e9
 case isFalse=>cases e9
 rename_i hm
 cases c with
 |lst _=>cases e9
 |aw vt=>
  dsimp only at e9;split at e9
  case isFalse=>cases e9
  rename_i hl
  cases e9;refine⟨_,_,rfl,rfl,SW (b:=.aw vt) (dv:=.int (h iv b)) (di:=di) (b':=.aw (bL vt j (.int (h iv b)))) ox.le qK ((show cZ X.K k4 y (.d di) from q4).up u5) (.flat rfl .nil) ?_ λo' h6=>?_⟩
  .unfold x_;dsimp only;rw[e3,C6,bK hl]
  .obtain⟨M4,u6⟩:=NQ q _ _ DM hm h6;exact bX.now (bX.up w5 u6) M4 (g5.up u6)
end
end L2
namespace L2
open PySem PySem.Spec PySem.W PyProof.Rows
variable{k k':Int->Int->Bool}{op:CmpOp}{j:GJ}{T:String}{m:Str}
def cx.le{k k':Nat}{A:PySem.Around}(h:cx k A)(e:k'<=k:=by decide):cx k' A:=h.mono e
def xY{X:Cx}:d_ X W0:=λ_ _ _ _ _ _ _ _ _ _ _ z=>z.elim
def CP:List Str->Bool
 |[]=>true
 |x::l => !l.contains x&&CP l
theorem IG:∀{l:List Str},CP l=true->l.Nodup
 |[],_=>.nil
 |x::l,h=>by
  obtain⟨h1,h2⟩:=C5.mp h;rw[Bool.not_eq_true',<-Bool.not_eq_true,oP] at h1;exact t_.mpr ⟨h1,IG h2⟩
section
variable{X:Cx}{K:fQ}{W:XW}{q:Nat}{a b c e o:Expr}{es rest:List Expr}{f g h:GE}{fs:GA}{ft fu:GT}{pos p apos bN:Pos}{x:Str}
def xv(i:Nat)(hN:X.N[i]?=some x)(hv:GZ X.env.scope x)(hd:(x == ("__debug__":Str))=false)(tL:(x == ("__classdict__":Str))=false):PE X (.Name x pos) (tE K W q (u7 i)):=e5d (Sm hN hv hd tL)
def xi{i:Int}{j}:PE X (.Constant (.int i) j pos) (tE K W q (gC (.int i))):=AB e3x
def xs{i:Str}{j}:PE X (.Constant (.str i) j pos) (tE K W q (gC (.str i))):=AB e3z
def xb{i:Bool}{j}:PE X (.Constant (.bool i) j pos) (tE K W q (gC (.bl i))):=AB f0n
def xn{j}:PE X (.Constant .none j pos) (tE K W q (gC .aH)):=AB e3y
def xty{n:String}(hm:X.mg x=none)(hv:bootBuiltins x=some (.type n))(hg:Gl X x)(hn:x≠"__name__")(hd:(x == ("__debug__":Str))=false):PE X (.Name x pos) (tE K W q (gC (.ty n))):=AB (f0v hg hm hv hn hd)
def qP(K:fQ)(op:Operator)(o:List D->aj Rv):Prop:=∀X:Cx,X.K=K->∃r,dF X (binaryOp op) r/\bY K (oE r) o
def NW:qP K .Add (o2 xg):=λX h=>⟨_,d9q K h,e5u⟩
def N0:qP K .Sub (o2 (dX wu λi j=>.int (i - j))):=λX h=>⟨_,e4m,e5v⟩
def NY:qP K .Mult (o2 xP):=λX h=>⟨_,d9s,e5y⟩
def Gs:qP K .FloorDiv (o2 (dX (λ_ j=>decide (0<j/\j<1073741824)) λi j=>.int (i / j))):=λX h=>⟨_,d7t,d9r⟩
def NX:qP K .Mod (o2 (dX (λ_ j=>decide (0<j)) λi j=>.int (i%j))):=λX h=>⟨_,e4n,e5w⟩
def NZ:qP K .Pow (o2 (dX (λi j=>decide (0<=j/\j<=1000000/\i.natAbs<2^64)) λi j=>.int (i^j.toNat))):=λX h=>⟨_,e4o,e5x⟩
def xo{op:Operator}{o:List D->aj Rv}(c:qP K op o)(ha:PE X a (tE K W q f))(hb:PE X b (tE K W q g))(hK:X.K=K):PE X (.BinOp a op b pos) (tE K W q (gO o (bQ f g))):=by
 obtain⟨r,h1,h2⟩:=c X hK;exact f0x h1 h2 ha hb
def N2(ha:PE X a (tE K W q f)):PE X (.UnaryOp .USub a pos) (tE K W q (gO (o1 xR) (aZ f))):=f0y e4p e5z ha
def k6(K:fQ)(op:CmpOp)(o:List D->aj Rv):Prop:=∀X:Cx,X.K=K->X.A.units+41<cLine->∃r,dF X (compareOp op) r/\bY K (oE r) o
def Yb:k6 K .Eq (o2 (IT false)):=λX h u=>⟨_,e6b K (by lia) h,f1b⟩
def Yg:k6 K .Lt (o2 (dX wu λi j=>.bl (decide (i<j)))):=λX h u=>⟨_,zr,Lx⟩
def Yf:k6 K .LtE (o2 (dX wu λi j=>.bl (decide (i<=j)))):=λX h u=>⟨_,zq,Lx⟩
def Yc:k6 K .Gt (o2 (dX wu λi j=>.bl (decide (j<i)))):=λX h u=>⟨_,f0s,Lx⟩
def Yd:k6 K .In (o2 (CJ false)):=λX h u=>⟨_,e6c K u h,TL false⟩
def LN:k6 K .NotIn (o2 (CJ true)):=λX h u=>⟨_,Xf K u h,TL true⟩
def Ye:k6 K .Is (o2 (CK false)):=λX h u=>⟨_,e6e,TM false⟩
def LL:k6 K .IsNot (o2 (CK true)):=λX h u=>⟨_,d9v,TM true⟩
def xc{o:List D->aj Rv}(c:k6 K op o)(ha:PE X a (tE K W q f))(hb:PE X b (tE K W q g))(hu:X.A.units+41<cLine)(hK:X.K=K)(hm:behindInMarks op b=false):PE X (.Compare a [op] [b] pos) (tE K W q (gO o (bQ f g))):=by
 obtain⟨r,h1,h2⟩:=c X hK hu;exact e5e h1 h2 ha hb hm
def yc{o:List D->aj Rv}(c:k6 K op o)(ha:PE X a (tE K W q f))(hb:PE X b (tE K W q g))(hu:X.A.units+41<cLine)(hK:X.K=K)(hm:behindInMarks op b=false):PT X (.Compare a [op] [b] pos) (tT K W q (gB (gO o (bQ f g)))):=by
 obtain⟨r,h1,h2⟩:=c X hK hu;exact T3 (d7v h1 ha hb hm) λ_ _ _ t=>IV (xh h2 t)
noncomputable def LC(c c':Int->Int->Bool)(f g h:GE):GE:=λU S=>bd (f U S) λr1 S1=>bd (g U S1) λr2 S2=>r1.int.bind λi=>r2.int.bind λj=>if c i j=true then bd (h U S2) λr3 S3=>r3.int.map λl=>.ok (rd (.bl (c' j l))) S3 else some (.ok (rd (.bl false)) S2)
def Zb{Z:St}{H:Hp}{Q:VK}(t:tE K W q (LC k k' f g h) Z H Q):So (sG λi j=>.bl (k i j)) (sG λi j=>.bl (k' i j)) (tE K W q f) (tE K W q g) (tE K W q h) Z H Q:=by
 obtain⟨n,U,S,res,ok,gk,e,w⟩:=t;refine tX.bd ok gk e w λr1 S1 x k1 H1 bH g1 q1 e1 w1 _=>tX.bd bH g1 e1 w1 λr2 S2 y k2 H2 cO g2 q2 e2 w2 _=>?_
 obtain⟨i,h1,e3⟩:=cy.mp e2;obtain⟨j,h2,e4⟩:=cy.mp e3;cases Rv.jN h1;cases Rv.jN h2;cases(show ah K k1 [x] [.int i] from q1).bc rfl;cases(show ah K k2 [y] [.int j] from q2).bc rfl;refine⟨i,j,rfl,rfl,k i j,rfl,?_⟩;split at e4
 .rename_i hk
  rw[hk];refine vi (tX.bd cO g2 e4 w2 λr3 S3 z k3 H3 kJ g3 q3 e5 w3 _=>?_)
  obtain⟨l,h3,rfl⟩:=c_.mp e5;cases Rv.jN h3;cases(show ah K k3 [z] [.int l] from q3).bc rfl;exact⟨_,_,rfl,rfl,w3.now kJ (show ah K k3 [_] [_] from .flat rfl .nil)⟩
 .rename_i hk
  cases e4;rw[Bool.not_eq_true] at hk;rw[hk];exact vh (w2.now cO (show ah K k2 [_] [_] from .flat rfl .nil))
def ych{Bf:CmpOp}(h1:∀X:Cx,dF X (compareOp op) (sG λi j=>.bl (k i j)))(h2:∀X:Cx,dF X (compareOp Bf) (sG λi j=>.bl (k' i j)))(ha:PE X a (tE K W q f))(hb:PE X b (tE K W q g))(hc:PE X c (tE K W q h))(hm:lastMarks [op,Bf] [b,c]=false):PT X (.Compare a [op,Bf] [b,c] pos) (tT K W q (gB (LC k k' f g h))):=T3 (Yi (h1 X) (h2 X) ha hb hc hm) λ_ _ _ t=>Zb t
def yt(ha:PE X a (tE K W q f))(hK:X.K=K)(ht:∀whole,isTrue a X.env whole=(do let v <-whole;standAt a.pos;holding [v] (truthy v))):PT X a (tT K W q (cb f)):=e5f hK ha ht
def ya1(h:PT X a (tT K W q ft)):PW X (.BoolOp .And [a] pos) (tT K W q ft):=d7o h
def yo1(h:PT X a (tT K W q ft)):PW X (.BoolOp .Or [a] pos) (tT K W q ft):=e4a h
def xix(ha:PE X a (tE K W q f))(hb:PE X b (tE K W q g))(hu:X.A.units+41<cLine)(hK:X.K=K)(hs:Lh b):PE X (.Subscript a b pos) (tE K W q (gO (o2 Jo) (bQ f g))):=f0z (MM K hu hK) f1d ha hb hs
def xsl{lo hi:aj Expr}{p2:Pos}{fl fh}(he:PE X e (tE K W q f))(hl:PO X lo (tX BQ K W q fl))(hu:PO X hi (tX BQ K W q fh))(hK:X.K=K):PE X (.Subscript e (.Slice lo hi none p2) pos) (tE K W q (Ap f fl fh)):=YW he hl hu hK
def zc{g:GE}{h:GA}(ha:PE X e (tE K W q g))(hr:PA X es (g9 K W q h))(hs:starEach (e::es) X.env=(false,eval e X.env)::starEach es X.env):PA X (e::es) (g9 K W q (pe g h)):=d8q ha hr hs
def xd{keys:List (aj Expr)}{values:List Expr}{gs:List (GE×GE)}(h:BP X pos keys values (JA K W q gs))(hu:X.A.units+41<cLine)(hK:X.K=K)(kI:keys.all (·.isSome)=true)(hl:keys.length=values.length)(h0:keys≠[])(AO:keys.length<=15):PE X (.Dict keys values pos) (tE K W q (ql (Ae gs))):=e0o hK h hu kI hl h0 AO
def GW(X:Cx)(K:fQ)(W:XW)(q:Nat)(es:List Expr)(j:GJ):Prop:=∃tj,PJ X es tj/\∀aP Z H Q,tX RS K W q (j aP) Z H Q->tj aP Z H Q
def jn:GW X K W q [] lR:=⟨_,e6p,λ_ _ _ _ t=>e0q t⟩
def jc(he:PE X e (tE K W q f))(hr:GW X K W q es j):GW X K W q (e::es) (oU f j):=by
 obtain⟨tj,h1,h2⟩:=hr;exact⟨_,e0p he h1,λ_ _ _ _ t=>Y' h2 t⟩
def xj{v1 v2:Expr}(h:GW X K W q (v1::v2::rest) j):PE X (.JoinedStr (v1::v2::rest) pos) (tE K W q (Af j)):=by
 obtain⟨tj,h1,h2⟩:=h;exact Xu h1 h2
def vV(K:fQ)(v:ai)(o:List D->aj Rv):Prop:=∀X:Cx,X.K=K->X.calm=true->X.A.units+41<cLine->∃r,bR X v r/\bY K r o
def MP:vV K (.builtin "len") (o1 eL):=λX h c u=>⟨_,Xn h,e6h⟩
def MO:vV K (.builtin "isinstance") (o2 cI):=λX h c u=>⟨_,Xo h,e6i⟩
def MN:vV K (.builtin "all") (o1 (IE λbs=>bs.all id)):=λX h c u=>⟨_,Xj K c h,Y4 _⟩
def MQ:vV K (.builtin "min") (o1 (pk dH)):=λX h c u=>⟨_,YX K c h,e0h _⟩
def Fh:vV K (.builtin "sorted") (o1 sL):=λX h c u=>⟨_,Wl c h,e0j⟩
def Fg:vV K (.type "list") (o1 lZ):=λX h c u=>⟨_,Wk c h,e0f⟩
def Ff:vV K (.type "dict") (o1 rZ):=λX h c u=>⟨_,Wg K u c h,Y5⟩
def xB{id:String}{o:List D->aj Rv}(k:vV K (.builtin id) o)(hm:X.mg x=none)(hv:bootBuiltins x=some (.builtin id))(ha:PA X (e::es) (g9 K W q fs))(hu:X.A.units+41<cLine)(hc:X.calm=true)(hK:X.K=K)(hg:Gl X x)(hn:x≠"__name__")(lT:(x == ("__debug__":Str))=false)
  (he:starEach (e::es) X.env=(false,eval e X.env)::starEach es X.env) (kS:(backTo pos (starEach es X.env)).any (·.1)=false):PE X (.Call (.Name x p) (e::es) [] pos) (tE K W q (gO o fs)):=by
 obtain⟨r,h1,h2⟩:=k X hK hc hu;exact(Yo h1 hg hm hv ha hn lT he kS).mono λ_ _ _ t=>xh h2 t
def xT{o:List D->aj Rv}(k:vV K (.type T) o)(hm:X.mg x=none)(hv:bootBuiltins x=some (.type T))(ha:PA X (e::es) (g9 K W q fs))(hu:X.A.units+41<cLine)(hc:X.calm=true)(hK:X.K=K)(hg:Gl X x)(hn:x≠"__name__")(lT:(x == ("__debug__":Str))=false)
  (he:starEach (e::es) X.env=(false,eval e X.env)::starEach es X.env) (kS:(backTo pos (starEach es X.env)).any (·.1)=false):PE X (.Call (.Name x p) (e::es) [] pos) (tE K W q (gO o fs)):=by
 obtain⟨r,h1,h2⟩:=k X hK hc hu;exact(WO h1 hg hm hv ha hn lT he kS).mono λ_ _ _ t=>xh h2 t
def JZ(K:fQ)(T:String)(m:Str)(o:List D->aj Rv):Prop:=∀X:Cx,X.K=K->X.A.units+41<cLine->∃id r,PlainAttrs T/\Slot T m id/\typeOf (.builtin id)=pure (.type "method_descriptor")/\J0 X id r/\bY K (sH r) o
def A':JZ K "list" "index" (o2 jM):=λX h u=>⟨_,_,PySem.F.plainAttrs_list,PySem.F.slot_list_index,PySem.F.type_list_index,YY K h,Y7⟩
def Fl:JZ K "dict" "get" (o2 sd):=λX h u=>⟨_,_,PySem.F.plainAttrs_dict,PySem.F.slot_dict_get,PySem.F.type_dict_get,d9y K u h,e0k⟩
def xM{o':List D->aj Rv}(k:JZ K T m o')(ho:PE X o (tE K W q f))(ha:PA X (e::es) (g9 K W q fs))(hu:X.A.units+41<cLine)(hK:X.K=K)
  (eJ:attributeBase o m X.env (eval o X.env)=eval o X.env)
  (vb:((backTo bN (starEach (e::es) X.env)).all (λx => !x.1)&&(backToKw bN (keywordEach [] X.env)).all (λx=>x.1.isSome) && decide ((e::es).length+([]:List Keyword).length+(if([]:List Keyword).isEmpty then 0 else 1)<30))=true)
  (eK:(apos.endLine == bN.line)=true) (hs:starEach (e::es) X.env=(false,eval e X.env)::starEach es X.env) (lU:(backTo bN (starEach es X.env)).any (·.1)=false):PE X (.Call (.Attribute o m apos) (e::es) [] bN) (tE K W q (IF T o' f fs)):=by
 subst hK;obtain⟨id,r,h1,h2,h3,h4,h5⟩:=k X rfl hu;exact(TH h1 h2 h3 h4 ho ha eJ vb eK hs lU).mono λ_ _ _ t=>Y6 h5 t
def Df(K:fQ)(T:String)(m:Str)(o:Bx->List D->aj (Bx×D)):Prop:=∀X:Cx,X.K=K->∃id r,PlainAttrs T/\Slot T m id/\typeOf (.builtin id)=pure (.type "method_descriptor")/\J0 X id r/\mT K r o
def yk:Df K "list" "append" tG:=λX h=>⟨_,_,PySem.F.plainAttrs_list,PySem.F.slot_list_append,PySem.F.type_list_append,WQ,Xp⟩
def yl:Df K "list" "insert" D5:=λX h=>⟨_,_,PySem.F.plainAttrs_list,PySem.F.slot_list_insert,PySem.F.type_list_insert,WV,Xq⟩
def ym:Df K "list" "remove" Il:=λX h=>⟨_,_,PySem.F.plainAttrs_list,PySem.F.slot_list_remove,PySem.F.type_list_remove,Xk,Xs⟩
def Gp:Df K "dict" "pop" km:=λX h=>⟨_,_,PySem.F.plainAttrs_dict,PySem.F.slot_dict_pop,PySem.F.type_dict_pop,d9x K,e0l⟩
def xU{o':Bx->List D->aj (Bx×D)}(k:Df K T m o')(ho:PE X o (tE K W q f))(ha:PA X (e::es) (g9 K W q fs))(hK:X.K=K)
  (eJ:attributeBase o m X.env (eval o X.env)=eval o X.env)
  (vb:((backTo bN (starEach (e::es) X.env)).all (λx => !x.1)&&(backToKw bN (keywordEach [] X.env)).all (λx=>x.1.isSome) && decide ((e::es).length+([]:List Keyword).length+(if([]:List Keyword).isEmpty then 0 else 1)<30))=true)
  (eK:(apos.endLine == bN.line)=true) (hs:starEach (e::es) X.env=(false,eval e X.env)::starEach es X.env) (lU:(backTo bN (starEach es X.env)).any (·.1)=false):PE X (.Call (.Attribute o m apos) (e::es) [] bN) (tE K W q (eI q T o' f fs)):=by
 subst hK;obtain⟨id,r,h1,h2,h3,h4,h5⟩:=k X rfl;exact(TH h1 h2 h3 h4 ho ha eJ vb eK hs lU).mono λ_ _ _ t=>e6k h5 t
def xf{atr:List (ag×Str)}(ha:kZ K atr)(he:PE X e (tE K W q f))(hb:attributeBase e m X.env (eval e X.env)=eval e X.env)(hK:X.K=K):PE X (.Attribute e m pos) (tE K W q (ba atr m f)):=e6q ha he hb hK
end
section
variable{X:Cx}{K:fQ}{W:XW}{q k n:Nat}{e o:Expr}{es:List Expr}{f:GE}{fs:GA}{m:GM}{pos p apos:Pos}{x y:Str}{st:Stmt}{fa C:ag}{fd:bJ}{ps:List Str}
def xC(D:aS K X.mg x st fa fd ps)(F:dA X.prog X.w X.K X.mg X.base (nN X.prog X.w) k fa fd ps (uI K q n m))(ha:PA X (e::es) (g9 K W q fs))(hr:cx k X.A)(hm:hZ m n)(hp:d_ X W)(hK:X.K=K)(hg:Gl X x)(lT:(x == ("__debug__":Str))=false)
  (he:starEach (e::es) X.env=(false,eval e X.env)::starEach es X.env) (kS:(backTo pos (starEach es X.env)).any (·.1)=false):PE X (.Call (.Name x p) (e::es) [] pos) (tE K W q (aq m fs)):=by
 subst hK;exact(d8a F hr hg D.mg D.fn.kp D.bd .nil (sC hp) ha lT he kS).mono λ_ _ _ t=>d8t hm t
def xN(M:Mk K C fa)(hx:X.mg x=some (.ref C))(B:Binds K fd ps [])(F:dA X.prog X.w X.K X.mg X.base (nN X.prog X.w) k fa fd ps (uI K q n m))(ha:PA X (e::es) (g9 K W q fs))(hr:cx (k+1) X.A)(hm:hZ m n)(hp:d_ X W)(hK:X.K=K)(hg:Gl X x)(lT:(x == ("__debug__":Str))=false)
  (he:starEach (e::es) X.env=(false,eval e X.env)::starEach es X.env) (kS:(backTo pos (starEach es X.env)).any (·.1)=false):PE X (.Call (.Name x p) (e::es) [] pos) (tE K W q (u0 C m fs)):=by
 subst hK;exact(d8c M F hr hg hx B .nil (sC hp) ha lT he kS).mono λ_ _ _ t=>d8u hm t
end
structure MethAt (K:fQ) (C:ag) (m qual:Str) (st:Stmt) (f:ag) (fd:bJ) (ps:List Str):Prop where
 fn:Fun K m qual st f fd
 mt:Meth K C m f
 bd:Binds K fd ps []
section
variable{X:Cx}{K:fQ}{W:XW}{q k n:Nat}{e o:Expr}{es:List Expr}{f:GE}{fs:GA}{m:GM}{pos p apos:Pos}{x y:Str}{st:Stmt}{fa C:ag}{fd:bJ}{ps:List Str}{pl:Sem Bool}
def xH(c:qQ K C)(D:MethAt K C x y st fa fd ps)(F:dA X.prog X.w X.K X.mg X.base (nN X.prog X.w) k fa fd ps (uI K q n m))(ho:PE X o (tE K W q f))(ha:PA X (e::es) (g9 K W q fs))(hr:cx k X.A)(hm:hZ m n)(hp:d_ X W)(hK:X.K=K)
  (lV:starEach (e::es) X.env=(false,eval e X.env)::starEach es X.env) (kS:(backTo pos (starEach es X.env)).any (·.1)=false)
  (ht:eval (.Call (.Attribute o x apos) (e::es) [] pos) X.env=(do
   let ov <-eval o X.env
   standAt apos.atName
   let (f,first) <-holding [ov] (getMethod ov x pl)
   callWith pos f first (backTo pos (starEach (e::es) X.env)) (backToKw pos (keywordEach [] X.env)))):PE X (.Call (.Attribute o x apos) (e::es) [] pos) (tE K W q (aV C x m f fs)):=by
 subst hK;exact(d8b ho c D.mt F hr D.bd .nil (sC hp) ha lV kS ht).mono λ_ _ _ t=>Rh hm t
def xH0(c:qQ K C)(D:MethAt K C x y st fa fd ps)(F:dA X.prog X.w X.K X.mg X.base (nN X.prog X.w) k fa fd ps (uI K q n m))(ho:PE X o (tE K W q f))(hr:cx k X.A)(hm:hZ m n)(hp:d_ X W)(hK:X.K=K)
  (ht:eval (.Call (.Attribute o x apos) [] [] pos) X.env=(do
   let ov <-eval o X.env
   standAt apos.atName
   let (f,first) <-holding [ov] (getMethod ov x pl)
   callWith pos f first (backTo pos (starEach [] X.env)) (backToKw pos (keywordEach [] X.env)))):PE X (.Call (.Attribute o x apos) [] [] pos) (tE K W q (aV C x m f gN)):=by
 subst hK;refine(Ym ho c D.mt F hr D.bd .nil (sC hp) ht).mono λZ H Q t=>?_
 refine ra (Rh hm t) λz H1 h=>?_
 obtain⟨a,dx,fs,h1,h2,h3,h4⟩:=h;exact⟨a,dx,fs,h1,h2,h3,Cs h4⟩
end
section
variable{X:Cx}{K:fQ}{W:XW}{q:Nat}{a b c e o l tg:Expr}{es:List Expr}{f g:GE}{fz:Bool}{pos p apos bN:Pos}
def xLV(Mx:X.mg "list"=none)(ho:PE X o (tE K W q f))(hc:X.calm=true)(EY:Gl X "list")(hs:starEach [.Call (.Attribute o "values" apos) [] [] bN] X.env=[(false,eval (.Call (.Attribute o "values" apos) [] [] bN) X.env)])
  (eJ:attributeBase o "values" X.env (eval o X.env)=eval o X.env) (eK:(apos.endLine == bN.line)=true):PE X (.Call (.Name "list" p) [.Call (.Attribute o "values" apos) [] [] bN] [] pos) (tE K W q (gO (o1 sO) (aZ f))):=(YT EY Mx ho hc hs eJ eK).mono λZ H Q t=>L5 (ra (xh e0g t) λxs H1 h=>by
 obtain⟨d,es,ep,rfl,h⟩:=h;exact⟨_,rfl,d,es,ep,rfl,h⟩)
def pgn(i:Nat){x:Str}(hN:CP X.N=true)(hi:X.N[i]?=some x)(hx:Loc X.env.scope x)(hf:X.fn x=true\/X.env.scope.names.lookup x=some .local):PG X (.Name x pos) (r_ i):=d7q (IG hN) hi hx hf
def pgt{es:List Expr}{k:Nat}{t:vW}{n:Nat}(h:Di X es t)(hn:(assignEach es X.env).length=n)(lV:(assignEach es X.env).findIdx? (·.1)=none)(hc:X.calm=true)(hK:X.K=K):PG X (.Tuple es k pos) (AN K n t):=hK ▸ e4g hc h hn lV
def wO(X:Cx)(K:fQ)(W:XW)(q:Nat)(tg iter:Expr)(src:nZ):Prop:=∃wi,PI X tg iter wi/\∀Z H R,tX (RI K q) K W q src Z H R->wi Z H R
def sA(he:PE X l (tE K W q g))(hK:X.K=K):wO X K W q tg l (bB fz dZ g):=⟨_,e5n he,λ_ _ _ t=>by rw[hK];exact e5o t⟩
def Nq(hm:X.mg "reversed"=none)(he:PE X l (tE K W q g))(hK:X.K=K)(hg:Gl X "reversed")(hs:starEach [l] X.env=[(false,eval l X.env)]):wO X K W q tg (.Call (.Name "reversed" p) [l] [] pos) (bB fz Bt g):=⟨_,e5i hg hm (H_ he oA (by rw[hs,starEach])) hs,λ_ _ _ t=>by rw[hK];exact d9f t⟩
def sEn{elts:List Expr}{x1:Nat}{fL:Pos}(hm:X.mg "enumerate"=none)(he:PE X l (tE K W q g))(hK:X.K=K)(hg:Gl X "enumerate")(hs:starEach [l] X.env=[(false,eval l X.env)]):wO X K W q (.Tuple elts x1 fL) (.Call (.Name "enumerate" p) [l] [] pos) (bB fz LZ g):=⟨_,d8z hg hm (H_ he oA (by rw[hs,starEach])) hs,λ_ _ _ t=>by rw[hK];exact e5p t⟩
def sI{elts:List Expr}{x1:Nat}{fL:Pos}(ho:PE X o (tE K W q g))(eJ:attributeBase o "items" X.env (eval o X.env)=eval o X.env)(eK:(apos.endLine == bN.line)=true):wO X K W q (.Tuple elts x1 fL) (.Call (.Attribute o "items" apos) [] [] bN) (bB fz xI g):=⟨_,YU ho eJ eK,λ_ _ _ t=>e0d t⟩
def sR1{fs:GA}(hm:X.mg "range"=none)(ha:PA X [a] (g9 K W q fs))(hg:Gl X "range")(hs:starEach [a] X.env=[(false,eval a X.env)]):wO X K W q tg (.Call (.Name "range" p) [a] [] pos) (jo l6 fs):=⟨_,WH hg hm ha hs,λ_ _ _ t=>d9g t⟩
def sRT{fs:GA}(hm:X.mg "range"=none)(ha:PA X [a,b,c] (g9 K W q fs))(hg:Gl X "range")(hs:starEach [a,b,c] X.env=[(false,eval a X.env),(false,eval b X.env),(false,eval c X.env)])(A0:starEach [b,c] X.env=[(false,eval b X.env),(false,eval c X.env)]):wO X K W q tg (.Call (.Name "range" p) [a,b,c] [] pos) (jo x8 fs):=⟨_,W9 hg hm ha hs A0,λ_ _ _ t=>d9h t⟩
def yn:uE X [] (tT K W0 q (jB true)):=λaa s Z H Q I t=>d8i aa s Z H Q I (by
 obtain⟨k,U,S,res,ok,gk,e,w⟩:=t;cases e;exact w.now ok rfl)
def y1{ft:GT}(h:PT X c (tT K W0 q ft)):uE X [c] (tT K W0 q ft):=d8j h
end
variable{x g:Str}{atr:List (ag×Str)}{mg:Str->aj ai}{tab:List (Str×ag)}{B0 C:ag}
section
variable{X:Cx}{K:fQ}{W:XW}{q:Nat}{tg iter elt:Expr}{ifs:List Expr}{scope:Scope}{t:TG}{gg:GG}{tt:Nat->GT}{te:Nat->GE}{src:nZ}{pos:Pos}{M:List Str}{n:Nat}{c8:List Nat}
def Sk(h:gH scope.names X.env.scope.names X.N M n c8=true)(hk:scope.kind=.function):dU X scope M n c8:=.of _ _ h rfl rfl hk
def xL(M:List Str)(s:wO X K W q tg iter src)(ht:lh K t gg)(hg:∀C s H fp,PG (fG X scope M C s H fp) tg t)(hT:∀m C s H fp,uE (fG X scope M C s H fp) ifs (tT K W0 m (tt m)))(hE:∀m C s H fp,PE (fG X scope M C s H fp) elt (tE K W0 m (te m)))
  (ok:gH scope.names X.env.scope.names X.N M n c8=true) (hk:scope.kind=.function) (hc:X.calm=true) (hs:∀x,foldedSetIterable iter X.env x=pure x):PE X (.ListComp elt [⟨tg,iter,ifs,0⟩] scope pos) (tE K W q (cq q src gg tt te n c8)):=by
 obtain⟨wi,h1,h2⟩:=s;exact d9j hc (Sk ok hk) h1 h2 ht hg hT hE hs
def wL{mu:Bool}{i:Nat}{px qz:Pos}(M:List Str)(s:wO X K W q tg iter src)(ht:lh K t gg)(hg:∀C s H fp,PG (fG X scope M C s H fp) tg t)(hT:∀m C s H fp,uE (fG X scope M C s H fp) ifs (tT K W0 m (tt m)))(hE:∀m C s H fp,PE (fG X scope M C s H fp) elt (tE K W0 m (te m)))
  (ok:gH scope.names X.env.scope.names X.N M n c8=true) (hN:CP X.N=true) (hk:scope.kind=.function) (AU:X.N[i]?=some x) (hx:Loc X.env.scope x) (hc:X.calm=true) (E7:swapsWith (.ListComp elt [⟨tg,iter,ifs,0⟩] scope pos) (some (.Name x px)) qz.line X.env=pure true) (hs:∀x,foldedSetIterable iter X.env x=pure x) (hf:X.fn x=true\/X.env.scope.names.lookup x=some .local) :
  PS X (.Assign [.Name x px] (.ListComp elt [⟨tg,iter,ifs,0⟩] scope pos) qz) (tS K W q (ar i mu (cq q src gg tt te n c8))):=by
 obtain⟨wi,h1,h2⟩:=s;exact d9k hc (Sk ok hk) (IG hN) AU hx h1 h2 ht hg hT hE E7 hs hf
end
section
variable{X:Cx}{K:fQ}{W:XW}{q:Nat}{tg iter e o i value:Expr}{body:List Stmt}{t:TG}{gg:GG}{src:nZ}{pos pos' fL:Pos}{f fv fo fi fe:GE}{x:Str}
def wF{fb:Nat->GS}(s:wO X K W q tg iter src)(ht:lh K t gg)(hg:PG X tg t)(hb:∀n,iO X body (tS K W n (fb n)))(hp:PassesOwn (model X.prog X.w) X.A X.env X.xe)(hc:X.calm=true)(hs:∀x,foldedSetIterable iter X.env x=pure x):PS X (.For tg iter body [] pos) (tS K W q (bf q src gg fb)):=by
 obtain⟨wi,h1,h2⟩:=s;exact e5q hp hc h1 h2 hg ht hb hs
def wS{mu:Bool}{i:Nat}(he:PE X e (tE K W q f))(hN:CP X.N=true)(hi:X.N[i]?=some x)(hx:Loc X.env.scope x)(hs:swapsWith e (some (.Name x pos')) pos.line X.env=pure false)(hf:X.fn x=true\/X.env.scope.names.lookup x=some .local):PS X (.Assign [.Name x pos'] e pos) (tS K W q (ar i mu f)):=e5h (IG hN) hi hx he hs hf
def wE(he:PE X e (tE K W q f))(hs:swapsWith e none pos.line X.env=pure false):PS X (.Expr e pos) (tS K W q (cV f)):=d8v he hs
def wP(he:PE X e (tE K W q fv))(ho:PE X o (tE K W q fo))(hi:PE X i (tE K W q fi))(hu:X.A.units+41<cLine)(hK:X.K=K)
  (ha:∀v,assign (.Subscript o i pos') X.env v=(do
   let ov <-holding [v] (eval o X.env)
   let iv <-holding [v,ov] (eval i X.env)
   standAt pos'
   holding [v,ov,iv] (setItem ov iv v)
   release [v,ov,iv] []))
  (hs:swapsWithSole [.Subscript o i pos'] e pos.line X.env=pure false) (hw:swappedStores [.Subscript o i pos'] e X.env=pure none)
  (h1:(assignEach [.Subscript o i pos'] X.env).map (·.2)=[assign (.Subscript o i pos') X.env]):PS X (.Assign [.Subscript o i pos'] e pos) (tS K W q (cf q fv fo fi)):=e6n he ho hi hu hK ha hs hw h1
def wA(ha:kZ K atr)(ho:PE X o (tE K W q fo))(hv:PE X value (tE K W q fv))(hs:swapsWith value (some (.Attribute o g pos')) pos.line X.env=pure false)(hK:X.K=K):PS X (.Assign [.Attribute o g pos'] value pos) (tS K W q (fB q atr g fv fo)):=e6r ha ho hv hs hK
def wAI(ha:kZ K atr)(ho:PE X o (tE K W q fo))(hv:PE X value (tE K W q fe))(hK:X.K=K):PS X (.AugAssign (.Attribute o g fL) .Add value pos) (tS K W q (LA q (λi j=>i+j) atr g fo fe)):=e0r (λaa s Z H x y v u Q I r1 r2 h=>e4t aa s Z H x y v u Q I r1 r2 (by
 obtain⟨i,j,rfl,rfl,h⟩:=h;exact⟨i,j,rfl,rfl,h⟩)) ha ho hv hK
def wAD{op:Operator}{h:Int->Int->Int}(AZ:∀X:Cx,GV X op (MK h))(ho:PE X o (tE K W q fo))(hi:PE X i (tE K W q fi))(hv:PE X value (tE K W q fe))(hu:X.A.units+41<cLine)(hK:X.K=K)
  (ha:∀ov iv new,augStore i ov iv new=(do holding [new,ov,iv] (setItem ov iv new);release [new,ov,iv] [];pure .next)):PS X (.AugAssign (.Subscript o i fL) op value pos) (tS K W q (LB q h fo fi fe)):=e0s (AZ X) ho hi hv hu hK ha
structure qS (K:fQ) (mg:Str->aj ai) (tab:List (Str×ag)) (B0:ag):Prop where
 all:∀p∈tab,mg p.1=some (.ref p.2)/\fW K p.2 (.ref B0::tI) none/\keepIn K (.ref p.2)=true
 G0:fW K B0 tI none
 mg0:mg "CarryError"=some (.ref B0)
def qS.ix(E:qS K mg tab B0){i:Nat}{n:Str}(h:tab[i]?=some (n,C)):mg n=some (.ref C)/\fW K C (.ref B0::tI) none/\keepIn K (.ref C)=true:=E.all (n,C) (vO h)
def wX{p cp:Pos}(j:Nat)(E:qS K X.mg tab B0)(he:PE X e (tE K W q fe))(hp:d_ X W)(hj:tab[j]?=some (x,C))(hc:X.calm=true)(hg:Gl X x)(lT:(x == ("__debug__":Str))=false)
  (lV:starEach [e] X.env=(false,eval e X.env)::starEach [] X.env) (hK:X.K=K):PS X (.Raise (some (.Call (.Name x p) [e] [] cp)) none pos) (tS K W q (qI C fe)):=by
 obtain⟨h1,h2,h4⟩:=E.ix hj;exact YF h2 E.G0 h4 h1 hp he hc hg lT lV hK
noncomputable def wT(tab:List (Str×ag))(C:ag):aj Bool:=if tab.any (λp=>p.2 == C)=true then some true else none
def wY{np hp:Pos}{b0:Stmt}{ku:List Stmt}{g f:GS}(E:qS K X.mg tab B0)(hb:∀(pn:List (ag×Obj)) (E:ai->av->Prop) (W:XW),d_ (X.dh pn E) W->iO (X.dh pn E) body (tS K W q f))(hS:∀e,iO (X.dw e) (b0::ku) (tS K W0 q g))
  (hg:Gl X "CarryError") (hK:X.K=K) (lV:X.stack=X.env::X.outer) (hf:X.env.frame=some X.env.locals) :
  PS X (.Try body [.ExceptHandler (some (.Name "CarryError" np)) none (b0::ku) hp] [] [] pos) (tS K W q (qo f [(wT tab,g)])):=by
 refine Sx hb (Rk E.mg0 (λC b h=>?_) hS Sw hg (by decide) hK) lV hf
 unfold wT at h;split at h
 .rename_i hC
  cases h;obtain⟨p,m,e⟩:=Oa.mp hC;cases(beq_iff_eq.mp e);refine((E.all p m).2.1.T2 E.G0 rfl).trans (congrArg some ?_);simp
 lia
end
def e0t{P:c7}{w:cB}{K:fQ}{base:bP}{k:Nat}{f:ag}{fd:bJ}{m:GM}(F:dA P w K mg base (nN P w) k f fd [x] (uI K 0 1 m)){n:Nat}(h:∀ns:List Int,ns.length<=n->∃S,m [.d (.lst (ns.map D.int))] ⟨[],[]⟩=some (.ok (.v (.d (.bl true))) S)):
  dA P w K mg base (nN P w) k f fd [x] (λvs H Q _=>∃(a:ag) (ns:List Int),vs=[.ref a]/\cS K H a (ns.map V.int)/\ns.length<=n/\∀H',Q (.bl true) H'):=⟨λvs H Q E h=>by obtain⟨a,ns,rfl,_⟩:=h;rfl,λA outer s H args us vs Q E hr e0 hb r hq=>by
 obtain⟨a,ns,rfl,hs,hl,q⟩:=hq;obtain⟨S,e⟩:=h ns hl;refine F.run A outer s H args us [.ref a] Q E hr e0 hb r ⟨rfl,⟨H,[],[]⟩,[.d (.lst (ns.map D.int))],⟨[],[]⟩,_,⟨az.refl _,.nil,⟨rfl,λ_ _ _ z=>nomatch z⟩,⟨rfl,λ_ _ _ z=>nomatch z⟩⟩,.cons (show ah K ⟨H,[],[]⟩ [.ref a] [.lst (ns.map D.int)] from .lst hs ?_ .nil) .nil,e,λv k' H' u ok r'=>?_⟩
 .exact Yy ns
 .cases(show ah K k' [v] [.bl true] from r').bc rfl;exact q H'⟩
def EH{N P:List Str}{sc:Scope}(h1:sc.kind=.function:=by rfl)(h2:sc.isCoroutine=false:=by rfl)(h3:sc.isGenerator=false:=by rfl)(h4:N.Nodup:=by decide +kernel)(h5:N.take P.length=P:=by rfl)(h6:∀x∈P,sc.names.lookup x=some .local \/ sc.names.lookup x=some .cell:=by decide +kernel)(h7:∀y∈sc.names,y.2≠.free:=by decide +kernel):gG N P sc:=⟨h1,h2,h3,h4,h5,h6,h7⟩
def RM{A:PySem.Around}{k:Nat}(hr:cx k A):A.units+41<PySem.cLine:=N7 (Nat.add_le_add_left (by decide:41<=64) _) hr.units
section
variable{X:Cx}{K:fQ}{W:XW}{q:Nat}{pos:Pos}{x:Str}
def xk{z:Str}(hm:∃t,X.mg x=some (.str z t))(hg:Gl X x)(hd:(x == ("__debug__":Str))=false):PE X (.Name x pos) (tE K W q (gC (.str z))):=AB (v:=.str z) (by
 intro aa s Z H Q I h;obtain⟨t,hm⟩:=hm;exact Cj I hg hm ⟨.str z,H,I,⟨t,rfl⟩,h⟩ hd)
def xki{n:Int}(hm:∃t,X.mg x=some (.int n t))(hg:Gl X x)(hd:(x == ("__debug__":Str))=false):PE X (.Name x pos) (tE K W q (gC (.int n))):=AB (v:=.int n) (by
 intro aa s Z H Q I h;obtain⟨t,hm⟩:=hm;exact Cj I hg hm ⟨.int n,H,I,⟨t,rfl⟩,h⟩ hd)
end
abbrev bA:=o2 xg
abbrev n5:=o2 (dX wu λi j=>.int (i - j))
abbrev kE:=o2 xP
abbrev uO:=o2 (dX (λ_ j=>decide (0<j/\j<1073741824)) λi j=>.int (i / j))
abbrev iG:=o2 (dX (λ_ j=>decide (0<j)) λi j=>.int (i%j))
abbrev En:=o2 (dX (λi j=>decide (0<=j/\j<=1000000/\i.natAbs<2^64)) λi j=>.int (i^j.toNat))
abbrev fT:=o2 (IT false)
abbrev iLt:Int->Int->Bool:=λi j=>decide (i<j)
abbrev MJ:Int->Int->Bool:=λi j=>decide (i<=j)
abbrev iGt:Int->Int->Bool:=λi j=>decide (j<i)
abbrev E9:Int->Int->Int:=λi j=>i+j
abbrev vB:=o2 (dX wu λi j=>.bl (iLt i j))
abbrev UI:=o2 (dX wu λi j=>.bl (MJ i j))
abbrev UH:=o2 (dX wu λi j=>.bl (iGt i j))
abbrev mL:=o2 (CJ false)
abbrev kK:=o2 (CJ true)
abbrev FD:=o2 (CK false)
abbrev rC:=o2 (CK true)
noncomputable abbrev Ng:List Bool->Bool:=λbs=>bs.all id
noncomputable def S6(e:DictEntry):Bool:=match e.key with|.str _ _=>true|_=>false
def errC_mk{K:fQ}{C:ag}{bm:List ai}{Jm:aj ai}{nm q:Str}{N:ag}{bs:List ai}{sn:List Str}{sub:List ai}{ab:Bool}{col:aj Bool}{dd:aj ag}{k0 k1 k2 k3 k5:aj ai}{on:ai}{CQ:aj ag}{es:Array DictEntry}{ep:Nat}{CS:Array (aj ai)}
  (l:K.lookup C=some (excClassObj nm q C N bs bm true sn sub ab col dd k0 k1 k2 k3 k5 "ValueError.__new__")) (d:K.lookup N=some ⟨on,CQ,.dict es ep,CS⟩) (s:es.toList.all S6=true) (i:nsFind es "__init__"=Jm):fW K C bm Jm:=by
 refine⟨_,_,_,_,_,_,_,_,_,_,_,_,_,_,_,_,_,_,_,l,d,λe he=>?_,i⟩
 have:=oO.1 s e (N4.2 he);unfold S6 at this;split at this
 .exact⟨_,_,by assumption⟩
 .cases this
instance instGE (n:Nat):OfNat GE n:=⟨u7 n⟩
abbrev gI(n:Int):GE:=gC (.int n)
abbrev gX(a b:GE):GE:=gO (o2 Jo) (bQ a b)
abbrev bG(o:List D->aj Rv)(a b:GE):GE:=gO o (bQ a b)
abbrev du(a b c:GE):GA:=pe a (bQ b c)
abbrev lQ(a b c d:GE):GA:=pe a (du b c d)
abbrev cA(a:GS):GS:=eQ a lS
abbrev jr(a b:GS):GS:=eQ a (cA b)
abbrev og(a b c:GS):GS:=eQ a (jr b c)
abbrev rn(a b c d:GS):GS:=eQ a (og b c d)
abbrev sg(a b c d e:GS):GS:=eQ a (rn b c d e)
instance instGG (n:Nat):OfNat GG n:=⟨ae n⟩
abbrev cC(f:GT)(g:GS):GS:=fJ f (cA g) lS
abbrev gQ(o:List D->aj Rv)(a b:GE):GT:=gB (bG o a b)
noncomputable def aQ(p n:Nat)(m:Nat->GS)(q:Nat):GM:=runM p n (m q)
end L2
namespace L2
open PySem Lean Meta
variable{s:List Cell}{z:List D}
def uU(e:Lean.Expr)(i:Nat)(k:Lean.Expr->aj (Lean.Expr×Bool)):SimpM Simp.Step:=do
 let a:=e.getAppArgs
 let r0 <-Simp.simp a[i]!
 let x:=(<-instantiateMVars r0.expr).cleanupAnnotations.headBeta
 let pr <-match r0.proof? with
  |none=>pure none
  |some p=>pure (some (<-mkCongrArg (.lam `z (<-inferType a[i]!) (mkAppN e.getAppFn (a.set! i (.bvar 0))) .default) p))
 match k x with
 |some (y,true)=>return .visit { expr:=y.headBeta,proof?:=pr}
 |some (y,false)=>return .done { expr:=y.headBeta,proof?:=pr}
 |none=>return .done { expr:=mkAppN e.getAppFn (a.set! i x),proof?:=pr}
def isOk(x:Lean.Expr):aj (Lean.Expr×Lean.Expr):=if x.isAppOfArity ``Option.some 2&&x.appArg!.isAppOfArity ``Rs.ok 3 then some (x.appArg!.appFn!.appArg!,x.appArg!.appArg!) else none
def EF(n:Name):Bool:=(n.getRoot == `L2 && !(#[``dq,``findS,``dR,``iH,``lW,``kF,``cI,``aU.cut,``aM,``g7,``bL,``iM,``lY,``dm,``nF,``fK,``oG,``eD,``dH,``aJ,``bq,``cX,``bd,``mi,``v9,``jM,``Cell.kl,``runM].contains n)) || (n.getRoot == `List&&n != ``List.toArray) || n.getRoot == `Option || n.getRoot == `Prod || n.getRoot == `GetElem? || n.getRoot == `OfNat || n.getRoot == `Nat || n.getRoot == `BEq || n == ``ite || n == ``dite || n.getRoot == `Bool || n.getRoot == `Decidable || n == ``and || n == ``or || n == ``not || n.getRoot == `id || n.getRoot == `HAppend || n.getRoot == `Append || n.getRoot == `instHAppendOfAppend
def e6s(e:Lean.Expr):MetaM Lean.Expr:=withCanUnfoldPred (λ_ c=>return EF c.name || c.name.isInternal || (<-isInstance c.name) || (<-isMatcher c.name)) (withDefault (whnf e))
def e6t(e:Lean.Expr):MetaM Bool:=do
 if e.isFVar || e.isLit then return true
 let .const n _:=e.getAppFn|return false
 if n == ``OfNat.ofNat then return true
 if n == ``Nat.succ then return false
 return (<-getEnv).isConstructor n
simproc_decl ev (_):=λe=>do
 let .const n ls:=e.getAppFn|return .continue
 let a:=e.getAppArgs
 if n == ``OfNat.ofNat&&a.size>=3&&(a[2]!.isAppOf ``instGG || a[2]!.isAppOf ``instGE) then return .visit { expr:=mkAppN (mkApp (mkConst (if a[2]!.isAppOf ``instGG then ``ae else ``u7)) a[1]!) (a.extract 3 a.size)}
 if n == ``Option.bind&&a.size == 4 then
  return <-uU e 2 λx=>if x.isAppOfArity ``Option.some 2 then some (mkApp a[3]! x.appArg!,true) else if x.isAppOfArity ``Option.none 1 then some (mkApp (.const ``Option.none (ls.drop 1)) a[1]!,false) else none
 if n == ``Option.map&&a.size == 4 then
  return <-uU e 3 λx=>if x.isAppOfArity ``Option.some 2 then some (mkApp2 (.const ``Option.some (ls.drop 1)) a[1]! (mkApp a[2]! x.appArg!).headBeta,true) else if x.isAppOfArity ``Option.none 1 then some (mkApp (.const ``Option.none (ls.drop 1)) a[1]!,false) else none
 if(n == ``bd || n == ``v9 || n == ``mi)&&a.size == 4 then
  return <-uU e 2 λx=>match isOk x with
   |some (v,S)=>some (mkApp2 a[3]! v S,true)
   |none=>if n != ``v9&&x.isAppOfArity ``Option.some 2&&x.appArg!.isAppOfArity ``Rs.ex 4 then
     let b:=x.appArg!.getAppArgs
     if n == ``mi then some (mkApp2 (.const ``Option.some [0]) (.const ``Fr []) (mkApp4 (.const ``Fr.ex []) b[1]! b[2]! a[1]! b[3]!),true) else some (mkApp2 (.const ``Option.some [0]) (mkApp (.const ``Rs []) a[1]!) (mkApp4 (.const ``Rs.ex []) a[1]! b[1]! b[2]! b[3]!),true)
    else none
 if n == ``ite then return <-reduceIte e
 if n == ``List.length&&a.size == 2 then
  let some (_,vs):=a[1]!.listLit?|return .continue
  return .done { expr:=mkNatLit vs.length}
 if n == ``runM&&a.size == 5 then
  let some (_,vs):=a[3]!.listLit?|return .continue
  let (some p,some k):=(a[0]!.nat?,a[1]!.nat?)|return .continue
  unless vs.length == p do return .continue
  let V:=mkConst ``Val
  let G <-mkListLit (mkApp (.const ``Option [0]) V) (vs.map (λv=>mkApp2 (.const ``Option.some [0]) V v)++List.replicate (k - p) (mkApp (.const ``Option.none [0]) V))
  let f <-mkAppM ``leave #[<-mkAppM ``List.length #[<-mkAppM ``aU.s #[a[4]!]]]
  return .visit { expr:=<-mkAppM ``Option.bind #[(mkApp2 a[2]! G a[4]!).headBeta,f]}
 if n.getRoot == `Nat || n.getRoot == `OfNat || n.getRoot == `BEq || n.getRoot == `Decidable || n == ``dite then return .continue
 unless EF n || n == ``getElem? || n == ``HAppend.hAppend do return .continue
 if <-isMatcher n then return .continue
 if(<-getEnv).isConstructor n then return .continue
 if n.getRoot == `L2&&(<-isReducible n) then
  let some e' <-withDefault (unfoldDefinition? e)|return .continue
  return .visit { expr:=e'.headBeta}
 let t <-whnfR (<-inferType e)
 if t.isAppOfArity ``Option 1&&n.getRoot == `L2 then
  let some e' <-withDefault (unfoldDefinition? e)|return .continue
  let e' <-whnfCore e'
  if(<-isMatcherApp e') then return .continue
  return .visit { expr:=e'}
 if t.isForall then return .continue
 let e' <-e6s e
 if e' != e&&(<-e6t e') then return .visit { expr:=e'}
 return .continue
def L3:List Simp.DSimproc:=[Nat.reduceAdd,Nat.reduceSub,Nat.reduceMul,Nat.reduceDiv,Nat.reduceMod,Int.reduceAdd,Int.reduceSub,Int.reduceMul,Int.reduceDiv,Int.reduceMod,Int.reduceNeg,Int.reduceToNat,Int.reduceBEq,Nat.reduceBEq]
def L4:List Simp.Simproc:=[reduceCtorEq,Nat.reduceLT,Nat.reduceLeDiff,Nat.reduceEqDiff,Int.reduceLT,Int.reduceLE,Int.reduceEq]
simproc_decl aO (_):=λe=>do
 for p in L3 do
  match <-p e with
  |.done x=>return .done { expr:=x}
  |.visit x=>return .visit { expr:=x}
  |.continue (some x)=>return .continue (some { expr:=x})
  |_=>pure ()
 for p in L4 do
  match <-p e with
  |.continue none=>pure ()
  |r=>return r
 return .continue
section
variable{α:Type}{l L M:List α}{c:α}{j:Nat}{S:aU}{r L':List Cell}
def eW:S.cut S.s.length=S:=by unfold aU.cut;rw[List.take_length]
def rW:aU.cut ⟨s++L',r⟩ s.length=⟨s,r⟩:=by unfold aU.cut;rw[List.take_left]
def cg:aU.cut ⟨s,r⟩ s.length=⟨s,r⟩:=by unfold aU.cut;rw[List.take_length]
def de:(l++L)[l.length]?=L[0]?:=by rw[ua (bV _),N6]
def Cq:(l++L)[l.length+j]?=L[j]?:=by rw[ua (JG _ _),Nat.add_sub_cancel_left]
def jx:(l++L).set l.length c=l++L.set 0 c:=by rw[List.set_append_right _ _ (bV _),N6]
def FQ:(l++L).set (l.length+j) c=l++L.set j c:=by rw[List.set_append_right _ _ (JG _ _),Nat.add_sub_cancel_left]
def A6:(l++L).length=l.length+L.length:=dz
def yG:(l++L)++M=l++(L++M):=qF _ _ _
def wm:(l.length<l.length)=False:=eq_false (kX _)
def lt2:(l.length+j<l.length)=False:=eq_false (by lia)
def fI{a b:Int}:g7 (.int a) (.int b)=(a == b):=rfl
def iJ{a b:Str}:g7 (.str a) (.str b)=(a == b):=rfl
def Fd{z:Str}:cI (.str z) (.ty "str")=some (rd (.bl true)):=rfl
def Fe:cI (.tup z) (.ty "tuple")=some (rd (.bl true)):=rfl
def ML{z:Str}:cI (.str z) (.ty "tuple")=some (rd (.bl false)):=rfl
def Uu:cI (.lst z) (.ty "list")=some (rd (.bl true)):=rfl
def Sl{n:Nat}{x:Cell}:aU.cut ⟨s.set n x,r⟩ s.length=⟨s.set n x,r⟩:=by
 unfold aU.cut;dsimp only;rw[GC (by rw[wz];exact bV _)]
def bZ{a:α}:dq (a::l) 0=some a:=uN (j:=0) rfl
def cH{a b:α}:dq (a::b::l) 1=some b:=uN (j:=1) rfl
def jT{a b c:α}:dq (a::b::c::l) 2=some c:=uN (j:=2) rfl
def v8{a b c d:α}:dq (a::b::c::d::l) 3=some d:=uN (j:=3) rfl
end
end L2
namespace L2
open PySem
section
variable{α:Type}{gg:GG}{tt:GT}{te:GE}{S:aU}{f:α->D}{U cs:Gm}{a:aj Val}
theorem IH(h:α->aj D)(G:Gm->Prop):∀(xs:List α) (U:Gm) (aP:List D),G U->aP.length+xs.length<=1000000->(∀x∈xs,∀U,G U->∃U',gg (f x) U=some U'/\G U'/\((h x=none/\tt U' S=some (.ok false S))\/∃r d,h x=some d/\tt U' S=some (.ok true S)/\te U' S=some (.ok r S)/\oM r=.d d))->
  bq gg tt te (xs.map f) U S aP=some (.ok (aP++xs.filterMap h) S)
 |[],U,aP,_,_,_=>by rw[GK,kY];rfl
 |x::xs,U,aP,g,hl,hx=>by
  obtain⟨U',e1,g',e2⟩:=hx x (.head _) U g;rw[l_] at hl;rw[cU];unfold bq;rw[e1,C6];rcases e2 with⟨e2,e3⟩|⟨r,d,e2,e3,e4,e5⟩
  .rw[e3,List.filterMap_cons_none e2];exact IH h G xs U' aP g' (by lia) λy m=>hx y (.tail _ m)
  .have e6:gD te U' S=some (.ok d S):=by unfold gD bd;rw[e4];show(rm S (oM r)).map _=_;rw[e5];rfl
   rw[e3,List.filterMap_cons_some e2];show v9 (gD te U' S) _=_;rw[e6];show(if aP.length<1000000 then _ else _)=_
   rw[bK (by lia),IH h G xs U' (aP++[d]) g' (by rw[dz,wB];lia) λy m=>hx y (.tail _ m),qF]
   rfl
def Mc{d:D}:ae 0 d (a::cs)=some (some (.d d)::cs):=by
 rfl
def xp(h:α->aj D)(xs:List α)(hl:xs.length<=1000000)(hx:∀x∈xs,(h x=none/\tt (some (.d (f x))::cs) S=some (.ok false S))\/∃r d,h x=some d/\tt (some (.d (f x))::cs) S=some (.ok true S)/\te (some (.d (f x))::cs) S=some (.ok r S)/\oM r=.d d):bq (ae 0) tt te (xs.map f) (a::cs) S []=some (.ok (xs.filterMap h) S):=by
 rw[IH h (λU=>∃a,U=a::cs) xs _ [] ⟨a,rfl⟩ (by rw[C3];lia) λx m U ⟨a,hU⟩=>⟨_,by rw[hU];exact Mc,⟨_,rfl⟩,hx x m⟩,GL]
def v_(h:α->D)(xs:List α)(hl:xs.length<=1000000)(hx:∀x∈xs,∃r,te (some (.d (f x))::cs) S=some (.ok r S)/\oM r=.d (h x)):bq (ae 0) (jB true) te (xs.map f) (a::cs) S []=some (.ok (xs.map h) S):=by
 rw[xp (λx=>some (h x)) xs hl λx m=>.inr (let ⟨r,h1,h2⟩:=hx x m;⟨r,_,rfl,rfl,h1,h2⟩),List.filterMap_eq_map']
theorem S7{body:GS}(I:List α->Gm->aU->Prop):∀(xs dn:List α) (U:Gm) (S:aU),I dn U S->(∀d x r,dn++xs=d++x::r->∀U S,I d U S->∃U1 U' S',gg (f x) U=some U1/\(body U1 S=some (.nx U' S')\/body U1 S=some (.ct U' S'))/\I (d++[x]) U' S')->∃U' S',aJ gg body (xs.map f) U S=some (.nx U' S')/\I (dn++xs) U' S'
 |[],dn,U,S,i,_=>⟨U,S,rfl,by rw[kY];exact i⟩
 |x::xs,dn,U,S,i,hx=>by
  obtain⟨U1,U',S',e1,e2,i'⟩:=hx dn x xs rfl U S i;obtain⟨U2,S2,e3,i2⟩:=S7 I xs (dn++[x]) U' S' i' λd y r e=>hx d y r (by rw[<-e,qF];rfl)
  grind [aJ]
def iE{body:GS}(I:List α->Gm->aU->Prop)(xs:List α)(i:I [] U S)(hx:∀d x r,xs=d++x::r->∀U S,I d U S->∃U1 U' S',gg (f x) U=some U1/\(body U1 S=some (.nx U' S')\/body U1 S=some (.ct U' S'))/\I (d++[x]) U' S'):∃U' S',aJ gg body (xs.map f) U S=some (.nx U' S')/\I xs U' S':=S7 I xs [] U S i λd x r e=>hx d x r e
theorem RN{β:Type}{body:GS}(st:β->aU->Gm×aU)(I:List α->β->Prop):∀(xs dn:List α) (b:β),I dn b->(∀d x r,dn++xs=d++x::r->∀b,I d b->∃b',I (d++[x]) b'/\∀S,∃U1,gg (f x) (st b S).1=some U1/\(body U1 (st b S).2=some (.nx (st b' S).1 (st b' S).2)\/body U1 (st b S).2=some (.ct (st b' S).1 (st b' S).2)))->
  ∃b',I (dn++xs) b'/\∀S,aJ gg body (xs.map f) (st b S).1 (st b S).2=some (.nx (st b' S).1 (st b' S).2)
 |[],dn,b,i,_=>⟨b,by rw[kY];exact i,λS=>rfl⟩
 |x::xs,dn,b,i,hx=>by
  obtain⟨b1,i1,h1⟩:=hx dn x xs rfl b i;obtain⟨b2,i2,h2⟩:=RN st I xs (dn++[x]) b1 i1 λd y r e=>hx d y r (by rw[<-e,qF];rfl)
  refine⟨b2,by rw[qF] at i2;exact i2,λS=>?_⟩
  obtain⟨U1,e1,e2⟩:=h1 S
  grind [aJ]
def S8{β:Type}{body:GS}(st:β->aU->Gm×aU)(I:List α->β->Prop)(xs:List α)(b:β)(i:I [] b)(hx:∀d x r,xs=d++x::r->∀b,I d b->∃b',I (d++[x]) b'/\∀S,∃U1,gg (f x) (st b S).1=some U1/\(body U1 (st b S).2=some (.nx (st b' S).1 (st b' S).2)\/body U1 (st b S).2=some (.ct (st b' S).1 (st b' S).2))):
  ∃b',I xs b'/\∀S,aJ gg body (xs.map f) (st b S).1 (st b S).2=some (.nx (st b' S).1 (st b' S).2):=RN st I xs [] b i λd x r e=>hx d x r e
def e6u(enc:α->D)(xs:List α):eD (xs.map enc)=((List.range xs.length).zip xs).map λ(p:Nat×α)=>D.tup [.int (p.1:Nat),enc p.2]:=by
 unfold eD;rw[bj];refine Ob λi=>?_
 rw[fU,fU];by_cases h:i<xs.length
 .have z:((List.range xs.length).zip xs)[i]?=some (i,xs[i]):=List.getElem?_zip_eq_some.mpr ⟨BI h,iN h⟩;rw[BI h,z];simp[h]
 .rw[BK (by simp;lia),BK (by simp;lia)]
  rfl
def f1g{body:GS}(enc:α->D)(I:List α->Gm->aU->Prop)(xs:List α)(i:I [] U S)(hx:∀d x r,xs=d++x::r->∀U S,I d U S->∃U1 U' S',gg (.tup [.int (d.length:Nat),enc x]) U=some U1/\body U1 S=some (.nx U' S')/\I (d++[x]) U' S'):∃U' S',aJ gg body (eD (xs.map enc)) U S=some (.nx U' S')/\I xs U' S':=by
 have hs:((List.range xs.length).zip xs).map Prod.snd=xs:=by rw[List.map_snd_zip];simp
 rw[e6u];obtain⟨U',S',e,p⟩:=iE (gg:=gg) (body:=body) (f:=λ(p:Nat×α)=>D.tup [.int (p.1:Nat),enc p.2]) (U:=U) (S:=S) (λpre U S=>I (pre.map Prod.snd) U S) ((List.range xs.length).zip xs) i (by
  intro q x post e U S p;have wk:xs=q.map Prod.snd++x.2::post.map Prod.snd:=by
   simp_all
  have hi:x.1=(q.map Prod.snd).length:=by
   have:((List.range xs.length).zip xs)[q.length]?=some x:=by rw[e,ua (bV _)];simp
   rw[List.getElem?_zip_eq_some] at this;have h1:=this.1;rw[eY] at h1;obtain⟨hl,h1⟩:=h1;rw[List.getElem_range] at h1;rw[bj];exact h1.symm
  obtain⟨U1,U2,S2,a,b,c⟩:=hx _ _ _ wk U S p;exact⟨U1,U2,S2,by rw[hi];exact a,.inl b,by rw[gF];exact c⟩)
 exact⟨U',S',e,by rw[hs] at p;exact p⟩
theorem RO{body:GS}{rv:Rv}{S':aU}(I:List α->Gm->aU->Prop){x:α}{r:List α}:∀(d dn:List α) (U:Gm) (S:aU),I dn U S->(∀d' y r',dn++d=d'++y::r'->∀U S,I d' U S->∃U1 U' S',gg (f y) U=some U1/\(body U1 S=some (.nx U' S')\/body U1 S=some (.ct U' S'))/\I (d'++[y]) U' S')->(∀U S,I (dn++d) U S->∃U1,gg (f x) U=some U1/\body U1 S=some (.rt rv S'))->aJ gg body ((d++x::r).map f) U S=some (.rt rv S')
 |[],dn,U,S,i,_,hs=>by
  obtain⟨U1,e1,e2⟩:=hs U S (by rw[kY];exact i)
  rw[GL,cU];unfold aJ;rw[e1,C6,e2];rfl
 |y::d,dn,U,S,i,hp,hs=>by
  obtain⟨U1,U',S',e1,e2,i'⟩:=hp dn y d rfl U S i;have e3:=RO I (x:=x) (r:=r) d (dn++[y]) U' S' i' (λd' z r' e=>hp d' z r' (by rw[<-e,qF];rfl)) (λU S h=>hs U S (by rw[qF] at h;exact h))
  grind [aJ]
end
end L2
namespace L2
open PySem PySem.Spec PySem.W PyProof.Rows
section
variable{X:Cx}
end
variable{a:List Str}
noncomputable def jy (l:List Str):List Str:=Classical.epsilon λs=>s.Perm l/\sortedS s=true
theorem FN:∀{p:Str} {l:List Str},risingS p l=true->(p::l).Pairwise λa b=>a.cps.toList<=b.cps.toList
 |p,[],_=>by simp
 |p,x::l,h=>by
  have h:(!ltCps x.cps.toList p.cps.toList&&risingS x l)=true:=h;rw[kO,ltCps_eq,Bool.not_eq_true',decide_eq_false_iff_not,List.not_lt] at h;have ih:=FN h.2;refine List.pairwise_cons.mpr ⟨λb m=>?_,ih⟩
  rcases y0a.mp m with rfl|m
  .exact h.1
  .exact List.le_trans h.1 ((List.pairwise_cons.mp ih).1 b m)
def S9(h:sortedS a=true):a.Pairwise λa b=>a.cps.toList<=b.cps.toList:=by
 cases a with
 |nil=>exact .nil
 |cons p l=>exact FN h
def Zc{b:List Str}(p:a.Perm b)(ha:sortedS a=true):jy b=a:=by
 have h:=Classical.epsilon_spec (p:=λs:List Str=>s.Perm b/\sortedS s=true) ⟨a,p,ha⟩
 exact(h.1.trans p.symm).eq_of_pairwise (λx y _ _ h1 h2=>Str.ext' (Array.toList_inj.mp (List.le_antisymm h1 h2))) (S9 h.2) (S9 ha)
section
variable{X:Cx}{K:aL}{H:Hp}{k:Kn}
theorem jz:∀{ss:List Str} {vs:List ai},Vals (ss.map V.str) vs↔StrsAre vs ss
 |[],vs=>⟨λh=>by cases h;exact .nil,λh=>by cases h;exact .nil⟩
 |s::ss,vs=>⟨λh=>by
   cases h with
   |cons r t=>obtain⟨t',rfl⟩:=r;exact .cons _ _ (jz.mp t),λh=>by
   cases h with
   |cons _ t h=>exact .cons ⟨t,rfl⟩ (jz.mpr h)⟩
def Zd(ns:List Str):ah K k (ns.map V.str) (ns.map D.str):=by
 induction ns with
 |nil=>exact .nil
 |cons a l ih=>exact .flat rfl ih
end
section
variable{prog:c7}{w:cB}{A:cR}{E:ai->av->Prop}{s:av}
def Xv{vs:List ai}{ss:List Str}{h0:bP}{Q:ai->av->Prop}(hS:StrsAre vs ss)(h1:vs.length<64)(h:∀h' c (out:Array ai),StrsAre out.toList (jy ss)->(jy ss).length=ss.length->(∀b o,h0.get? b=some o->h'.get? b=some o)->h'.get? h0.objs.size=some (seqObj "list" out c)->Q (.ref h0.objs.size) { s with heap:=h'}):
  wpAny (model prog w) A (call (.builtin "list.sort") [.ref h0.objs.size]) (λ_ s'=>Q (.ref h0.objs.size) s') E { s with heap:=h0.push (seqObj "list" vs.toArray 0)}:=by
 have ho:(h0.push (seqObj "list" vs.toArray 0)).get? h0.objs.size=some (seqObj "list" vs.toArray 0):=jP _ rfl;refine wpAny_call_entry slot_list_sort ⟨_,ho,rfl⟩ entry_list_sort (list_sort_treeK (s:={ s with heap:=h0.push (seqObj "list" vs.toArray 0)}) PyProof.Rows.strKind_oneLt ho hS.keysOf (λv1 v2 r e=>by subst e;exact keyKind_strs hS) h1 λkr p1 p2=>⟨_,rfl,?_⟩) (args_list_sort _)
 obtain⟨ss',a1,a2,a3⟩:=sorted_out_str hS p1 p2;obtain⟨e,he⟩:=sortedHeap_at (out:=Array.map (λx=>x.snd) (arrOf kr)) ho
 rw[<-Zc a2 a3] at a1 a2;refine h _ _ _ a1 a2.length_eq (λb o g=>?_) he
 have lt:b<h0.objs.size:=cQ g;rw[sortedHeap_old (g_ lt) (Nat.lt_trans lt (cQ ho))];exact dy _ g
end
variable{q:Nat}
section
variable{X:Cx}{K:aL}{H:Hp}{k:Kn}
def S_(K:aL):List V->Hp->VK->Prop:=λvs H Q=>∃(a:ag) (ss:List Str) (es:List (TK×V×V)) (ep:Nat),vs=[.ref a]/\H a=some (.dG es ep)/\iB es/\es.map (·.1)=ss.map TK.inr/\ss.length<64/\∀l,H l=none->Q (.ref l) (upd H l (.lst ((jy ss).map V.str)))
def Wm(hc:X.calm=true):bR X (.builtin "sorted") (S_ K):=by
 intro aa s Z H xs us Q I r h;obtain⟨a,ss,es,ep,rfl,hd,ht,he,EN,q⟩:=h;obtain⟨u,rfl,ru⟩:=Vals.one r;cases ru;refine Calls.call_function_entry kind_sorted plain_sorted entry_sorted (args_sorted1 _) ?_;unfold Builtin.«sorted»;refine aA (m:=checkCount "sorted" 1 1 _) (aX ?_);obtain⟨kvs,D1,D2,D3,D4,lo⟩:=Ad I hd ht;have l1:kvs.length=ss.length:=by have:=congrArg List.length (D3.trans he);simpa using this
 refine aA (kdu_collect (kdl_dict (knd:=PySem.strKind X.prog X.w) (kvs:=kvs) (ep:=ep) lo) (I.ok.hd hc) D1 D4 λh' tk aP kp hi=>?_)
 have rv:Vals (ss.map V.str) aP.toList:=by
  refine K3 (by have:=hi.1;rw[bj,<-l1,<-this];simp) λj y u e1 e2=>?_
  rw[fU] at e1;obtain⟨z,e3,rfl⟩:=c_.mp e1;obtain⟨k,v,k1,k2⟩:=hi.2 j u (by rw[<-zK];exact e2)
  have k3:(kvs.map (λp=>TK.inr p.1))[j]?=(ss.map TK.inr)[j]?:=by rw[D3,he]
  rw[fU,fU,k1,e3] at k3;cases(TK.inr.inj (Option.some.inj k3):k=z);exact Value.isStrOf_shape k2
 have hS:=jz.mp rv;have hlen:=rv.length;rw[bj] at hlen;have hz:aP.toList.length<=sizeLine:=by rw[sizeLine_eq];lia
 refine aA (wpAny_newList ?_ (by simpa using hz))
 have I0:Inv X aa Z H { s with heap:=h',toks:=tk}:=I.kept kp;refine aA (mh (wpAny_mono (Xv (s:={ s with heap:=h',toks:=tk}) (h0:=h') (vs:=aP.toList) (Q:=λv s'=>EP X aa Z Q v s') hS (by lia) λh2 c out a1 a3 Fj hg=>?_) (λ_ s' x=>?_) λ_ _ e=>e))
 .have a2:=jz.mpr a1;have I1:=I0.laid (h':=h2) (t':=tk) (o:=.lst ((jy ss).map V.str)) Fj (bV _) (show bC X.prog X.w _ h2 _ (.lst _) from⟨by rw[bj,a3,sizeLine_eq];lia,out.toList,c,a2,hg⟩)
  exact⟨.ref h'.objs.size,_,I1,rfl,q _ (I0.bx.fresh (bV _))⟩
 .exact aX ⟨_,rfl,x⟩
theorem Qu:∀{kvs:List (TK×D)} {ss:List Str},kvs.map (·.1.d)=ss.map D.str->kvs.map (·.1)=ss.map TK.inr
 |[],[],_=>rfl
 |[],_::_,h=>nomatch h
 |_::_,[],h=>nomatch h
 |(k,d)::l,z::ss,h=>by
  simp only[cU,List.cons.injEq] at h ⊢;exact⟨by cases k <;> simp only[TK.d] at h <;> grind,Qu h.2⟩
def Ze{kvs:List (TK×D)}{ss:List Str}(h:kvs.map (·.1)=ss.map TK.inr):fM kvs=true:=by
 unfold fM;refine oO.mpr λp m=>?_
 have h1:p.1∈kvs.map (·.1):=qC m
 rw[h] at h1;obtain⟨z,_,e⟩:=jQ.mp h1;rw[<-e];rfl
noncomputable def sM:D->aj Rv
 |.aw kvs=>(dR (kvs.map (·.1.d))).bind λss=>if ss.length<64 then some (.o (.lst ((jy ss).map D.str))) else none
 |_=>none
def Zp:bY K (S_ K) (o1 sM):=wq λk H x a y Q le t e res=>by
 unfold sM at e;split at e
 .rename_i kvs
  obtain⟨ss,h,e⟩:=cy.mp e;split at e
  .cases e;have hk:=Qu (HD h);have ht:=Ze hk;obtain⟨p,es,ep,rfl,h3,h4,h5,h6,h7⟩:=t.txt le ht;exact⟨p,ss,es,ep,rfl,h3,h4,h5.trans hk,by assumption,λl hl=>res.lst le (Zd _) hl⟩
  .cases e
 .cases e
def A4:vV K (.builtin "sorted") (o1 sM):=λX h c u=>⟨_,Wm c,Zp⟩
end
noncomputable def wN(tab:List (Str×ag))(c C:ag):aj Bool:=if tab.any (λp=>p.2 == C)=true then some (C == c) else none
def UX{X:Cx}{K:aL}{W:XW}{body:List Stmt}{pos:Pos}{B0 c:ag}{tab:List (Str×ag)}{x:Str}{np hp:Pos}{b0:Stmt}{ku:List Stmt}{g f:GS}(j:Nat)(E:qS K X.mg tab B0)(hb:∀(pn:List (ag×Obj)) (E:ai->av->Prop) (W:XW),d_ (X.dh pn E) W->iO (X.dh pn E) body (tS K W q f))(hS:∀e,iO (X.dw e) (b0::ku) (tS K W0 q g))
  (hj:tab[j]?=some (x,c)) (h0:(c == B0)=false) (hg:Gl X x) (lT:(x == ("__debug__":Str))=false) (hK:X.K=K) (lV:X.stack=X.env::X.outer) (hf:X.env.frame=some X.env.locals) :
  PS X (.Try body [.ExceptHandler (some (.Name x np)) none (b0::ku) hp] [] [] pos) (tS K W q (qo f [(wN tab c,g)])):=by
 obtain⟨e1,e2,_⟩:=E.ix hj;refine Sx hb (Rk e1 (λC b h=>?_) hS Sw hg lT hK) lV hf
 unfold wN at h;split at h
 .rename_i hC
  cases h;obtain⟨p,m,e⟩:=Oa.mp hC;cases(beq_iff_eq.mp e);refine((E.all p m).2.1.T2 e2 rfl).trans (congrArg some ?_);have n0:c≠B0:=λz=>by rw[z] at h0;simp at h0
  by_cases z:p.2=c
  .subst z;simp
  .rw[show(p.2 == c)=false from beq_false_of_ne z];simp[tI,Ne.symm z,n0]
 .cases h
def CO(p n:Nat)(m:(Nat->GM)->Nat->GS):Nat->Nat->GM
 |0=>λ_ _ _=>none
 |j+1=>aQ p n (m (CO p n m j))
def nH{p n j:Nat}{m:(Nat->GM)->Nat->GS}:hZ (CO p n m j q) p:=by
 cases j with
 |zero=>exact λ_ _ _ e=>nomatch e
 |succ j=>exact nI
variable{K:aL}
noncomputable def Jr:D->D->aj Rv
 |.int i,b=>(iD b).map λj=>rd (.bl (!(i == j)))
 |.str i,.str j=>some (rd (.bl (!(i == j))))
 |_,_=>none
def FJ:R2:=λx y H Q=>(∃i j,x=.int i/\y=.int j/\Q (.bl (!(i == j))) H)\/∃i j,x=.str i/\y=.str j/\Q (.bl (!(i == j))) H
def e6v{X:Cx}:dF X (compareOp .NotEq) FJ:=by
 intro aa s Z H x y u v Q I rx ry h;rcases h with⟨i,j,rfl,rfl,q⟩|⟨i,j,rfl,rfl,q⟩ <;> obtain⟨t,rfl⟩:=rx <;> obtain⟨t',rfl⟩:=ry
 .exact SeqAt.RcNeAt.int_int i t j t' X.prog X.w _ _ ⟨.bl _,H,I,rfl,q⟩
 .exact SeqAt.RcNeAt.str_str i t j t' X.prog X.w _ _ ⟨.bl _,H,I,rfl,q⟩
def e6w:bY K (oE FJ) (o2 Jr):=zp λk H x z a b y Q le t1 t2 e res=>by
 cases a with
 |int i=>
  obtain⟨j,h,rfl⟩:=c_.mp (show(iD b).map _=_ from e);cases LW h;cases t1.flat rfl;cases t2.flat rfl;exact .inl ⟨_,_,rfl,rfl,res.flat le rfl⟩
 |str i=>cases b with
  |str j=>
   cases e;cases t1.flat rfl;cases t2.flat rfl;exact .inr ⟨_,_,rfl,rfl,res.flat le rfl⟩
  |_=>cases e
 |_=>cases e
def LM:k6 K .NotEq (o2 Jr):=λX h u=>⟨_,e6v,e6w⟩
section
variable{K:fQ}{mg:Str->aj ai}{h:bP}{x y:Str}{st:Stmt}{f C:ag}{fd:bJ}{ps:List Str}
abbrev Ta(x y:Str)(st:Stmt)(ps:List Str):Prop:=∀(kV doc pm:ai) (an:aj ag) (eV ct:ai) (us:List ai),us.length=ps.length->bindArgs (PySem.W.fnOf x y (DX st) (yB st) (qH st) .none kV doc pm an eV ct) ⟨us,[]⟩=pure (ps.zip us)
def dM(X:K.In h)(G:h.Ns mainGlobals mg)(a:nsIn K mainGlobals x=some (some (.ref f)))(F:Fun K x x st f fd)(b:Ta x x st ps):aS K mg x st f fd ps:=⟨F,mg_of X G a,F.binds b⟩
def mM(a:findIn K (.ref C) x=some (some (.ref f)))(n:isFn K (.ref f)=true)(F:Fun K x y st f fd)(b:Ta x y st ps):MethAt K C x y st f fd ps:=⟨F,⟨a,n,F.kp⟩,F.binds b⟩
def kM{v:Tok->ai}{t:Tok}(X:K.In h)(G:h.Ns mainGlobals mg)(a:nsIn K mainGlobals x=some (some (v t))):∃t,mg x=some (v t):=⟨t,mg_of X G a⟩
end
section
variable{X:Cx}{aa:List (ag×Obj)}{Z:St}{H:Hp}{s:av}{A:cR}{a b:ag}{es wb:List (TK×V×V)}{ep qJ:Nat}{E:ai->av->Prop}
end
section
variable{X:Cx}{aa:List (ag×Obj)}{Z:St}{H:Hp}{s:av}
variable{K:aL}
end
end L2
namespace L2
open PySem Lean Meta
def dvR:List Name:=[``AI,``xu,``EA,``AJ,``wL,``wS,``wE,``wP,``wA,``wAI,``wAD,``wX,``wY,``UX,``wF,``uT,``xv,``xi,``xs,``xb,``xn,``xty,``xk,``xki,``xo,``N2,``xc,``xix,``xsl,``xd,``xj,``jn,``jc,``xB,``xT,``xM,``xU,``xf,``xC,``xN,``xH,``xH0,``xLV,``xL,``AH,``AF,``uS,``xq,``Ey,``Ez,``AG,``AE,``Bl,``zc,``AD,``PW.pt,``EC,``AL,``AK,``yc,``ych,``yt,``ya1,``yo1,``yn,``y1,``xt,``xr,``vA,``x6,``pgn,``pgt,``vy,``xZ,``yd,``BC,``vI,``yf,``sA,``Nq,``sEn,``sI,``sR1,``sRT,``NW,``N0,``NY,``Gs,``NX,``NZ,``Yb,``LM,``Yg,``Yf,``Yc,``Yd,``LN,``Ye,``LL,``MP,``MO,``MN,``MQ,``Fh,``Fg,``Ff,``A',``Fl,``yk,``yl,``ym,``Gp,``rV,``PyProof.Rows.Boot.min,``PyProof.Rows.Boot.sum,``zq,``zr,``A1,``FC,``cx.le,``nI,``nH,``xX,``xY,``A4]
def dvM(tg N c8:Lean.Expr):MetaM Lean.Expr:=do
 let nm (e:Lean.Expr):=e.getArg! 0
 let ts:=if tg.isAppOf ``Expr.Name then[nm tg] else((tg.getArg! 0).listLit?.map (·.2.map nm)).getD []
 let ns:=(((<-whnf N).listLit?).map (·.2)).getD []
 let cs:=((c8.listLit?.map (·.2)).getD []).map λi=>ns.getD ((i.nat?).getD 0) (mkNatLit 0)
 mkListLit (mkConst ``Str) (ts++cs)
def oa{α:Type}(f:α->MetaM Bool):List α->MetaM Bool
 |[]=>return false
 |x::l=>do if <-f x then return true else oa f l
def EB:Nat->MVarId->MetaM Unit
 |0,_=>failure
 |n+1,g0=>do
  let (_,g) <-g0.intros
  g.withContext do
  let t:=(<-instantiateMVars (<-g.getType)).cleanupAnnotations.headBeta
  let run (s:MetaM Syntax):MetaM Bool:=do
   let st <-saveState
   try
    let (gs,_) <-Lean.Elab.runTactic g (<-s)
    unless gs.isEmpty do failure
    return true
   catch _=>st.restore;return false
  let use (fix:Lean.Expr->MetaM Unit) (f:Lean.Expr):MetaM Bool:=do
   let s <-saveState
   try
    let y <-whnfR (<-inferType f)
    unless y.getForallBody.getAppFn.constName? == t.getAppFn.constName? do failure
    let (ms,_,ty) <-forallMetaTelescope y
    unless <-isDefEq ty t do failure
    let each (h:Lean.Expr->MetaM Unit):=oa (λm=>do
     unless <-m.mvarId!.isAssigned do h m
     return false) ms.toList
    discard <| each fix
    discard <| each λm=>do if <-isProp (<-inferType m) then EB n m.mvarId!
    g.assign (mkAppN f ms)
    return true
   catch _=>s.restore;return false
  let vK:=use λ_=>pure ()
  let c:=t.getAppFn.constName?.getD .anonymous
  if c == ``Eq then
   let l:=t.appFn!.appArg!
   if l.isAppOf ``CP || l.isAppOf ``gH then
    if <-run `(tactic| kernel_rfl) then return
   if <-(try g.refl;pure true catch _=>pure false) then return
  let env <-getEnv
  if c == ``dA then
   if <-oa (λd=>if d.isImplementationDetail then return false else vK d.toExpr) ((<-getLCtx).decls.toList.filterMap id) then return
   if <-oa (oa λ(k,i)=>do
    if k.getPrefix == `Carry&&(<-whnfR i.type).getForallBody.isAppOf ``dA then vK (<-mkConstWithFreshMVarLevels k) else return false) [env.constants.map₂.toList,env.constants.map₁.toList] then return
   failure
  if <-oa (λd=>do
   if d.isImplementationDetail then return false
   if <-vK d.toExpr then return true
   let some s:=d.type.getAppFn.constName?|return false
   unless isStructure env s&&s.getPrefix == `Carry do return false
   oa (λf=>do vK (<-mkProjection d.toExpr f)) (getStructureFields env s).toList) ((<-getLCtx).decls.toList.filterMap id) then return
  if <-oa (λr=>do
   let f <-mkConstWithFreshMVarLevels r
   if r == ``wX || r == ``UX then
    oa (λj=>use (λm=>do if(<-inferType m).isConstOf ``Nat then m.mvarId!.assign (mkNatLit j)) f) (List.range 12)
   else if r == ``xL || r == ``wL then
    use (λm=>do
     if(<-instantiateMVars (<-inferType m)).isAppOf ``List then
      let some lc:=t.find? (·.isAppOf ``Expr.ListComp)|failure
      let some gc:=t.find? (·.isAppOf ``cq)|failure
      let some co:=((lc.getArg! 1).listLit?.bind (·.2.head?))|failure
      m.mvarId!.assign (<-dvM (co.getArg! 0) (<-mkAppM ``Cx.N #[t.getArg! 0]) gc.appArg!)) f
   else vK f) dvR then return
  unless <-run `(tactic| first|rfl|exact Or.inl rfl|exact Or.inr rfl|exact Or.inr (Or.inl rfl)|exact Or.inr (Or.inr rfl)|decide|(intro _ _;rfl)|with_unfolding_all rfl) do failure
simproc_decl dv (iO _ _ _):=λe=>do
 let a:=e.getAppArgs
 let b <-withDefault (whnf a[1]!)
 let m <-mkFreshExprMVar (mkApp3 e.getAppFn a[0]! b a[2]!)
 withDefault (EB 200 m.mvarId!)
 return .done { expr:=mkConst ``True,proof?:=<-mkEqTrue (<-mkExpectedTypeHint (<-instantiateMVars m) e)}
end L2
namespace L2
open PySem PySem.Spec PyProof.Rows
variable{p n:Nat}{ps:List Str}{x qual:Str}{st:Stmt}
abbrev cv{A:Type}(Tx:aL->(Str->aj ai)->A->Prop)(k:Nat)(f:A->ag)(fd:A->bJ)(ps:List Str)(p:Nat)(M:Nat->GM):Prop:=∀{P:c7} {w:cB} {K:aL} {mg:Str->aj ai} {base:bP} {t:A} (T:Tx K mg t) (q:Nat),dA P w K mg base (nN P w) k (f t) (fd t) ps (uI K q p (M q))
def cz{A:Type}{Tx:aL->(Str->aj ai)->A->Prop}{k:Nat}{f:A->ag}{fd:A->bJ}{m:Nat->GS}(F:∀{K:aL} {mg:Str->aj ai} {t:A},Tx K mg t->Fun K x qual st (f t) (fd t))(N:List Str)
  (hb:∀{P:c7} {w:cB} {K:aL} {mg:Str->aj ai} {base:bP} {t:A} (T:Tx K mg t) (q:Nat) (eV:ai) (A:cR) (outer:List Env) (s:av) (H:Hp) (E:XK),cx k (A.deeper (envOfC qual (qH st) s.heap.objs.size (f t) eV))->(A.deeper (envOfC qual (qH st) s.heap.objs.size (f t) eV)).units+41<cLine->iO (mG (nN P w) P w K mg base N qual (qH st) (f t) eV A outer s H E) (yB st) (tS K (WF E) q (m q)):=by intros;simp only[dv])
  (S:gG N ps (qH st):=by exact EH) (hp:ps.length=p:=by rfl) (hn:N.length=n:=by rfl):cv Tx (k+1) f fd ps p (aQ p n m):=λT q=>Sv (F T) S hp hn λeV A outer s H E hr=>hb T q eV A outer s H E hr (RM hr)
def okR{A:Type}{Tx:aL->(Str->aj ai)->A->Prop}{c:Nat}{f:A->ag}{fd:A->bJ}{m:(Nat->GM)->Nat->GS}(F:∀{K:aL} {mg:Str->aj ai} {t:A},Tx K mg t->Fun K x qual st (f t) (fd t))(N:List Str)(j:Nat)
  (hb:∀{P:c7} {w:cB} {K:aL} {mg:Str->aj ai} {base:bP} {t:A} (T:Tx K mg t) (j:Nat) (r:Nat->GM) (G:∀q,dA P w K mg base (nN P w) (c+j) (f t) (fd t) ps (uI K q p (r q))) (tk:∀q,hZ (r q) p) (q:Nat) (eV:ai) (A:cR) (outer:List Env) (s:av) (H:Hp) (E:XK),cx (c+j) (A.deeper (envOfC qual (qH st) s.heap.objs.size (f t) eV))->(A.deeper (envOfC qual (qH st) s.heap.objs.size (f t) eV)).units+41<cLine->iO (mG (nN P w) P w K mg base N qual (qH st) (f t) eV A outer s H E) (yB st) (tS K (WF E) q (m r q)):=by intros;simp only[dv])
  (S:gG N ps (qH st):=by exact EH) (hp:ps.length=p:=by rfl) (hn:N.length=n:=by rfl):cv Tx (c+j) f fd ps p (CO p n m j):=by
 intro P w K mg base t T
 induction j with
 |zero=>exact λq=>⟨λ_ _ _ _ h=>(by obtain⟨_,_,_,_,_,_,_,e,_⟩:=h;cases e),λ_ _ _ _ _ _ _ _ _ _ _ _ _ h=>(by obtain⟨_,_,_,_,_,_,_,e,_⟩:=h;cases e)⟩
 |succ j ih=>exact λq=>Sv (F T) S hp hn λeV A outer s H E hr=>hb T j _ ih (λq=>nH) q eV A outer s H E hr (RM hr)
end L2
namespace Carry
open PySem L2
def SB(f:ag)(H H':Hp):Prop:=∀b o,H b=some o->b≠f->H' b=some o
structure zS where
 ns:List Int
 pl:Int
 F7:Int
 mode:Int
 num:Int
noncomputable def EG(sl:ag)(F:zS):HO:=.lst [.ref sl,.int F.pl,.int F.F7,.int F.mode,.int F.num]
structure FeedAt (H:Hp) (f sl:ag) (F:zS):Prop where
 fo:H f=some (EG sl F)
 so:H sl=some (.lst (F.ns.map V.int))
 pos:0<=F.pl
 len:F.ns.length<=63
noncomputable def cellOf(F:zS):Int:=if 0<F.ns.length then F.ns.getD (F.pl%F.ns.length).toNat 0+F.pl / F.ns.length*31 else F.pl
structure ao where
 name:Str
 long:Int
 ring:Bool
 outs:List Str
structure aE where
 af:List ao
 carts:List Str
noncomputable def zC(xs:List Str):List V:=xs.map V.str
def e6x(H:Hp)(v:V)(b:ao):Prop:=∃p o,v=.ref p/\H p=some (.tup [.str b.name,.int b.long,.bl b.ring,.ref o])/\H o=some (.lst (zC b.outs))
structure HouseAt (H:Hp) (p pb pc:ag) (refs:List V) (h:aE):Prop where
 top:H p=some (.tup [.ref pb,.ref pc])
 bl:H pb=some (.lst refs)
 ct:H pc=some (.lst (zC h.carts))
 each:Paired (e6x H) refs h.af
noncomputable def oq(xs:List Str)(k:Nat)(y:Str):List Str:=xs.take k++y::xs.drop k
theorem HL(xs:List Str)(k:Nat)(y:Str):(oq xs k y).length=xs.length+1:=by
 unfold oq;rw[dz,l_,zI,C1];lia
theorem l5{xs:List Str}{k:Nat}{y z:Str}:z∈oq xs k y↔z=y\/z∈xs:=by
 unfold oq;rw[jC,y0a];constructor
 .rintro(h|h|h)
  .exact .inr (List.mem_of_mem_take h)
  .exact .inl h
  .exact .inr (Of h)
 .rintro(h|h)
  .exact .inr (.inl h)
  .rw[<-List.take_append_drop k xs,jC] at h;rcases h with h|h
   .exact .inl h
   .exact .inr (.inr h)
seal PE PA PT PS iO
noncomputable def top(i:Nat):Stmt:=PySem.Challenge.pw_carry_k63_carts_and_late_ones.main.body.getD i (.Pass ⟨0,0,0,0⟩)
abbrev Xw:Stmt:=top 15
abbrev Vr:Stmt:=top 17
abbrev Vs:Stmt:=top 18
abbrev Vt:Stmt:=top 19
abbrev VS:Stmt:=top 20
abbrev VC:Stmt:=top 21
abbrev VD:Stmt:=top 22
abbrev VE:Stmt:=top 23
abbrev Xx:Stmt:=top 24
abbrev Xy:Stmt:=top 25
abbrev f1h:Stmt:=top 27
abbrev Zq:Stmt:=top 28
abbrev f1i:Stmt:=top 29
abbrev Zr:Stmt:=top 32
abbrev Ve:Stmt:=top 33
abbrev Zs:Stmt:=top 35
abbrev VF:Stmt:=top 36
abbrev Wn:Stmt:=top 37
abbrev e6y:Stmt:=top 38
abbrev Vf:Stmt:=top 39
abbrev U_:Stmt:=top 40
abbrev Vi:Stmt:=top 41
abbrev Zt:Stmt:=top 43
abbrev Xz:Stmt:=top 44
abbrev Zu:Stmt:=top 45
abbrev XA:Stmt:=top 46
abbrev XB:Stmt:=top 47
abbrev Zv:Stmt:=top 48
abbrev Zw:Stmt:=top 49
abbrev XC:Stmt:=top 50
abbrev Vg:Stmt:=top 51
abbrev VG:Stmt:=top 52
abbrev VT:Stmt:=top 53
abbrev XD:Stmt:=top 54
abbrev Zx:Stmt:=top 55
abbrev Zy:Stmt:=top 56
abbrev Vj:Stmt:=top 57
abbrev Zz:Stmt:=top 58
abbrev VU:Stmt:=top 59
abbrev ZA:Stmt:=top 60
abbrev ZC:Stmt:=top 61
abbrev ZD:Stmt:=top 62
abbrev XE:Stmt:=top 63
abbrev VH:Stmt:=top 64
abbrev Vu:Stmt:=top 65
abbrev f1j:Stmt:=top 66
abbrev ZE:Stmt:=kD (top 31) 0
abbrev Wo:Stmt:=kD (top 31) 1
abbrev Wq:Stmt:=kD (top 31) 2
abbrev VI:Stmt:=kD (top 31) 3
abbrev e0u:Stmt:=kD (top 31) 4
abbrev ZF:Stmt:=kD (top 31) 5
abbrev ZG:Stmt:=kD (top 31) 6
abbrev XF:Stmt:=kD (top 31) 7
abbrev Va:Stmt:=kD (top 31) 8
abbrev Vk:Stmt:=kD (top 31) 9
abbrev Vb:Stmt:=kD (top 31) 10
abbrev XG:Stmt:=kD (top 31) 11
abbrev Wr:Stmt:=kD (top 31) 12
abbrev Ws:Stmt:=kD (top 31) 13
abbrev VW:Stmt:=kD (top 31) 14
abbrev VX:Stmt:=kD (top 31) 15
abbrev ZH:Stmt:=kD (top 31) 16
abbrev e0v:Stmt:=kD (top 31) 17
abbrev ZI:Stmt:=kD (top 31) 18
abbrev VY:Stmt:=kD (top 31) 20
abbrev VZ:Stmt:=kD (top 31) 21
abbrev VJ:Stmt:=kD (top 31) 22
abbrev ZJ:Stmt:=kD (top 31) 23
abbrev V0:Stmt:=kD (top 31) 24
abbrev VL:Stmt:=kD (top 31) 25
noncomputable abbrev gd:List (Str×ag):=[("NoName",44),("NoSize",56),("NoOut",68),("NoHand",80),("NoMoment",92),("NoFlight",104),("NoBelt",116),("NoRoom",128),("NoBag",140)]
abbrev cHall:ag:=407
noncomputable abbrev atrs:List (ag×Str):=[(cHall,"built"),(cHall,"told_rounds"),(cHall,"now"),(cHall,"book"),(cHall,"halts"),(cHall,"places"),(cHall,"readings"),(cHall,"rounded"),(cHall,"gone"),(cHall,"carted")]
set_option genInjectivity false in
set_option genSizeOfSpec false in
structure aT where
 nv:ag
 m7:bJ
 iu:ag
 il:bJ
 iq:ag
 ig:bJ
 ip:ag
 ie:bJ
 kh:ag
 j_:bJ
 jg:ag
 i5:bJ
 je:ag
 i4:bJ
 ja:ag
 iY:bJ
 nE:ag
 nj:bJ
 nq:ag
 mY:bJ
 yN:ag
 yK:bJ
 pW:ag
 pA:bJ
 yM:ag
 yJ:bJ
 pX:ag
 pB:bJ
 fq:ag
 e_:bJ
 qj:ag
 pT:bJ
 jb:ag
 iZ:bJ
 lM:ag
 lG:bJ
 uX:ag
 uR:bJ
 fA:ag
 fm:bJ
 eG:ag
 eC:bJ
 gj:ag
 gb:bJ
 p_:ag
 pJ:bJ
 nA:ag
 m_:bJ
 qf:ag
 pQ:bJ
 nC:ag
 ng:bJ
 nD:ag
 nh:bJ
 qd:ag
 pO:bJ
 qe:ag
 pP:bJ
 nB:ag
 nc:bJ
 fy:ag
 fj:bJ
 jk:ag
 i9:bJ
 kg:ag
 j0:bJ
 nz:ag
 m9:bJ
 p7:ag
 pI:bJ
 qa:ag
 pK:bJ
 gh:ag
 f_:bJ
 qb:ag
 pL:bJ
 kf:ag
 jZ:bJ
 qg:ag
 pR:bJ
 qc:ag
 pM:bJ
 qh:ag
 pS:bJ
 ny:ag
 m8:bJ
 jl:ag
 i_:bJ
 ir:ag
 ik:bJ
 uW:ag
 uQ:bJ
 lJ:ag
 lD:bJ
 lI:ag
 lC:bJ
 lH:ag
 lB:bJ
 jh:ag
 i6:bJ
 r9:ag
 rY:bJ
 p5:ag
 pG:bJ
 p6:ag
 pH:bJ
 nu:ag
 m6:bJ
 eE:ag
 eA:bJ
 gf:ag
 fZ:bJ
 eF:ag
 eB:bJ
 nt:ag
 mZ:bJ
 lL:ag
 lF:bJ
 lK:ag
 lE:bJ
 kb:ag
 jW:bJ
 ke:ag
 jY:bJ
 pY:ag
 pC:bJ
 r6:ag
 rX:bJ
 pZ:ag
 pD:bJ
 j':ag
 jU:bJ
 ka:ag
 jV:bJ
 ji:ag
 i7:bJ
 p4:ag
 pF:bJ
 kc:ag
 jX:bJ
 jj:ag
 i8:bJ
structure Txt (K:aL) (mg:Str->aj ai) (t:aT):Prop where
 sW:aS K mg "is_name" Xw t.nv t.m7 ["thing"]
 mC:aS K mg "right_house" Vr t.iu t.il ["house"]
 my:aS K mg "check_carts" Vs t.iq t.ig ["carts","taken"]
 mr:aS K mg "check_belts" Vt t.ip t.ie ["belts","taken"]
 o8:aS K mg "take_name" VS t.kh t.j_ ["name","taken"]
 nR:aS K mg "check_outs" VC t.jg t.i5 ["belts","carts"]
 nQ:aS K mg "check_hand" VD t.je t.i4 ["house"]
 nO:aS K mg "belt_names" VE t.ja t.iY ["belts"]
 tm:aS K mg "reached" Xx t.nE t.nj ["house","belt"]
 sT:aS K mg "belt_of" Xy t.nq t.mY ["house","name"]
 Dc:aS K mg "far" f1h t.yN t.yK ["house","place","cart"]
 ud:aS K mg "begins" Zq t.pW t.pA ["house","cart"]
 C_:aS K mg "arm" f1i t.yM t.yJ ["house","belt","cart"]
 ue:aS K mg "copied" Zr t.pX t.pB ["house"]
 ky:aS K mg "check_closing" Ve t.fq t.e_ ["closing"]
 uC:aS K mg "wanted" Zs t.qj t.pT ["hall"]
 nP:aS K mg "busy_belts" VF t.jb t.iZ ["hall"]
 qX:aS K mg "off_belt" Wn t.lM t.lG ["house","belt","cart","busy"]
 zR:aS K mg "turn" e6y t.uX t.uR ["hall"]
 kA:aS K mg "stand_stopped" Vf t.fA t.fm ["bags","goals","stopped","whys"]
 jG:aS K mg "stand_yielding" U_ t.eG t.eC ["bags","goals","whys"]
 k9:aS K mg "stand_behind" Vi t.gj t.gb ["bags","goals","whys"]
 uo:aS K mg "_law_cell" Zt t.p_ t.pJ ["_law_script","_law_k"]
 sZ:aS K mg "_law_digit" Xz t.nA t.m_ ["_law_script","_law_k","_law_at","_law_many"]
 uy:aS K mg "_law_pick" Zu t.qf t.pQ ["_law_script","_law_k","_law_many"]
 s_:aS K mg "_law_other" XA t.nC t.ng ["_law_script","_law_k","_law_many"]
 tf:aS K mg "_law_third" XB t.nD t.nh ["_law_script","_law_k","_law_many"]
 uw:aS K mg "_law_name" Zv t.qd t.pO ["_law_script","_law_k","_law_n"]
 ux:aS K mg "_law_outs" Zw t.qe t.pP ["_law_script","_law_k","_law_names","_law_carts_here"]
 s9:aS K mg "_law_house" XC t.nB t.nc ["_law_script"]
 kz:aS K mg "_law_flight_name" Vg t.fy t.fj ["_law_script","_law_n"]
 nX:aS K mg "_law_bag_name" VG t.jk t.i9 ["_law_script","_law_n"]
 o7:aS K mg "_law_closing" VT t.kg t.j0 ["_law_script","_law_k"]
 sY:aS K mg "_law_deeds" XD t.nz t.m9 ["_law_script","_law_k","_law_house_here"]
 um:aS K mg "_law_call" Zx t.p7 t.pI ["_law_hall","_law_deed"]
 uq:aS K mg "_law_done" Zy t.qa t.pK ["_law_hall","_law_deed"]
 k8:aS K mg "_law_told_state" Vj t.gh t.f_ ["_law_hall"]
 ur:aS K mg "_law_fars" Zz t.qb t.pL ["_law_house_here","_law_cart"]
 o6:aS K mg "_law_cart_of" VU t.kf t.jZ ["_law_house_here","_law_state","_law_bag"]
 uz:aS K mg "_law_rows" ZA t.qg t.pR ["_law_house_here","_law_state"]
 uv:aS K mg "_law_late" ZC t.qc t.pM ["_law_house_here","_law_state"]
 uA:aS K mg "_law_same" ZD t.qh t.pS ["_law_found","_law_due"]
 sX:aS K mg "_law_carts" XE t.ny t.m8 ["_law_hall","_law_house_here","_law_state"]
 nY:aS K mg "_law_none_out" VH t.jl t.i_ ["_law_hall"]
 mB:aS K mg "_law_late_told" Vu t.ir t.ik ["_law_hall","_law_house_here","_law_state"]
 uB:aS K mg "law" f1j t.uW t.uQ ["_law_script"]
 ug:Fun K "__init__" "Hall.__init__" ZE t.lJ t.lD
 B_h_init:Binds K t.lD ["self","house","rounds"] []
 qU:MethAt K cHall "flight" "Hall.flight" Wo t.lI t.lC ["self","name","cart","closing"]
 qT:MethAt K cHall "change" "Hall.change" Wq t.lH t.lB ["self","name","closing"]
 nU:MethAt K cHall "call_off" "Hall.call_off" VI t.jh t.i6 ["self","name"]
 wK:MethAt K cHall "put" "Hall.put" e0u t.r9 t.rY ["self","bag","flight","belt"]
 uj:MethAt K cHall "read" "Hall.read" ZF t.p5 t.pG ["self","bag","flight"]
 uk:MethAt K cHall "stop" "Hall.stop" ZG t.p6 t.pH ["self","belt"]
 sV:MethAt K cHall "start" "Hall.start" XF t.nu t.m6 ["self","belt"]
 jE:MethAt K cHall "check_flight" "Hall.check_flight" Va t.eE t.eA ["self","name"]
 k7:MethAt K cHall "check_belt" "Hall.check_belt" Vk t.gf t.fZ ["self","name"]
 jF:MethAt K cHall "check_inside" "Hall.check_inside" Vb t.eF t.eB ["self","bag"]
 sU:MethAt K cHall "house" "Hall.house" XG t.nt t.mZ ["self"]
 qW:MethAt K cHall "rounds" "Hall.rounds" Wr t.lL t.lF ["self"]
 qV:MethAt K cHall "moment" "Hall.moment" Ws t.lK t.lE ["self"]
 oZ:MethAt K cHall "flights" "Hall.flights" VW t.kb t.jW ["self"]
 o5:MethAt K cHall "stopped" "Hall.stopped" VX t.ke t.jY ["self"]
 uf:MethAt K cHall "bags" "Hall.bags" ZH t.pY t.pC ["self"]
 wJ:MethAt K cHall "out" "Hall.out" e0v t.r6 t.rX ["self"]
 uh:MethAt K cHall "late" "Hall.late" ZI t.pZ t.pD ["self"]
 oX:MethAt K cHall "cart_of" "Hall.cart_of" VY t.j' t.jU ["self","bag"]
 oY:MethAt K cHall "catches" "Hall.catches" VZ t.ka t.jV ["self","bag"]
 nV:MethAt K cHall "in_order" "Hall.in_order" VJ t.ji t.i7 ["self"]
 ui:MethAt K cHall "move" "Hall.move" ZJ t.p4 t.pF ["self","moves"]
 o4:MethAt K cHall "move_on" "Hall.move_on" V0 t.kc t.jX ["self","bag","goal"]
 nW:MethAt K cHall "move_out" "Hall.move_out" VL t.jj t.i8 ["self","bag","cart"]
 C_Hall:qQ K cHall
 Mk_Hall:Mk K cHall t.lJ
 mg_Hall:mg "Hall"=some (.ref cHall)
 atr:kZ K atrs
 er:qS K mg gd 31
 b_len:mg "len"=none
 b_isinstance:mg "isinstance"=none
 b_int:mg "int"=none
 b_bool:mg "bool"=none
 b_str:mg "str"=none
 b_list:mg "list"=none
 b_tuple:mg "tuple"=none
 b_range:mg "range"=none
 b_enumerate:mg "enumerate"=none
 b_reversed:mg "reversed"=none
 b_all:mg "all"=none
 b_sorted:mg "sorted"=none
 b_dict:mg "dict"=none
 b_min:mg "min"=none
 c_LETTERS:∃t,mg "LETTERS"=some (.str "abcdefghijklmnopqrstuvwxyz" t)
 c_MOST_LETTERS:∃t,mg "MOST_LETTERS"=some (.int 8 t)
def Hi(n1:Nat):GE:=(bG mL 0 (gC (.str "abcdefghijklmnopqrstuvwxyz")))
def DG(q:Nat):GS:=(og (cC (cF (cb (gO (o2 cI) (bQ 0 (gC (.ty "str")))))) (ax (gC (.bl false)))) (cC (cF (gB (LC MJ MJ (gI 1) (gO (o1 eL) (aZ 0)) (gC (.int 8))))) (ax (gC (.bl false)))) (ax (gO (o1 (IE Ng)) (aZ (cq q (bB false dZ 0) 0 (λ_=>jB true) Hi 1 [])))))
def q_:=aQ 1 1 DG
theorem e3i:cv Txt 1 aT.nv aT.m7 ["thing"] 1 q_:=cz (λT=>T.sW.fn) ["thing"]
def Oz(n1:Nat):GE:=(gX 0 (gI 0))
def ON(q:Nat):GS:=(cA (ax (cq q (bB false dZ 0) 0 (λ_=>jB true) Oz 1 [])))
def vX:=aQ 1 1 ON
theorem d2u:cv Txt 1 aT.ja aT.iY ["belts"] 1 vX:=cz (λT=>T.nO.fn) ["belts"]
def BZ(n1:Nat):GS:=(cA (cC (gQ fT (gX 2 (gI 0)) 1) (ax (aW true (lQ (gX 2 (gI 0)) (gX 2 (gI 1)) (gX 2 (gI 2)) (gO (o1 lZ) (aZ (gX 2 (gI 3)))))))))
def PU(q:Nat):GS:=(jr (bf q (bB true dZ (gX 0 (gI 0))) 2 BZ) (ax (gC .aH)))
def z_:=aQ 2 3 PU
theorem e3j:cv Txt 1 aT.nq aT.mY ["house","name"] 2 z_:=cz (λT=>T.sT.fn) ["house","name","belt"]
def Kr(n2:Nat):GT:=(gQ mL 0 1)
def Ks(n2:Nat):GE:=(gX 1 0)
def B6(n1:Nat):GS:=(jr (ar 7 false (cq n1 (bB false dZ 6) 0 Kr Ks 1 [2])) (cC (cb 7) (cf n1 (bG bA 4 (gO (o1 (pk dH)) (aZ 7))) 2 3)))
def Qv(q:Nat):GS:=(og (ar 2 true (ql (Ae [(1,(gI 0))]))) (bf q (bB true Bt (gX 0 (gI 0))) (aY [3,4,5,6]) B6) (ax 2))
def DO:=aQ 2 8 Qv
theorem e6z:cv Txt 1 aT.pW aT.pA ["house","cart"] 2 DO:=cz (λT=>T.ud.fn) ["house","cart","known","name","long","ring","outs","behind"]
def Ow(q:Nat):GS:=(cA (cC (gQ vB 0 (gI 0)) (qI 92 (gC (.str "a flight closes at a moment from 0 on")))))
def Dp:=aQ 1 1 Ow
theorem c3m:cv Txt 1 aT.fq aT.e_ ["closing"] 1 Dp:=cz (λT=>T.ky.fn) ["closing"]
def BR(n1:Nat):GS:=(jr (ar 8 false (gX 1 4)) (fJ (gQ mL (gX 6 (gI 0)) 2) (cA (cf n1 (aW true (bQ (gC (.str "stopped")) (gX 6 (gI 0)))) 3 4)) (cA (cC (cM (cb (gO (o2 cI) (bQ 8 (gC (.ty "tuple"))))) (gQ mL (gX 8 (gI 0)) 2)) (cf n1 (aW true (bQ (gC (.str "stopped")) (gX 8 (gI 0)))) 3 4)))))
def Ox(q:Nat):GS:=(cA (bf q (bB true dZ 0) (aY [4,5,6,7]) BR))
def G5:=aQ 4 9 Ox
theorem c3n:cv Txt 1 aT.fA aT.fm ["bags","goals","stopped","whys"] 4 G5:=cz (λT=>T.kA.fn) ["bags","goals","stopped","whys","bag","flight","place","gone","goal"]
def J5(n1:Nat):GT:=(cM (gQ kK (gX 0 (gI 0)) 1) (cb (gO (o2 cI) (bQ (gX 2 (gX 0 (gI 0))) (gC (.ty "tuple"))))))
noncomputable def J6(n1:Nat):GE:=0
def Dk(n1:Nat):GS:=(jr (ar 9 false (gX 1 5)) (cC (kH (gQ kK 9 4) (gQ fT (gX 7 (gI 0)) (gX 9 (gI 0)))) (cf n1 5 4 9)))
def Dl(n1:Nat):GS:=(jr (ar 10 false (gX 4 (gX 1 5))) (cC (gQ (o2 Jr) 10 5) (cf n1 (aW true (bQ (gC (.str "yields")) 10)) 2 5)))
def Oq(q:Nat):GS:=(rn (ar 3 false (cq q (bB false dZ 0) 0 J5 J6 1 [2,1])) (ar 4 true rb) (bf q (bB true dZ 3) (aY [5,6,7,8]) Dk) (bf q (bB true dZ 3) (aY [5,6,7,8]) Dl))
def G2:=aQ 3 11 Oq
theorem c2y:cv Txt 1 aT.eG aT.eC ["bags","goals","whys"] 3 G2:=cz (λT=>T.jG.fn) ["bags","goals","whys","asking","chosen","bag","flight","place","gone","goal","other"]
def Dm(n1:Nat):GS:=(cA (cf n1 4 3 6))
def zY(n1:Nat):GS:=(jr (ar 9 false (IF "dict" (o2 sd) 3 (aZ (gX 1 4)))) (fJ (cM (gQ kK 4 2) (gQ mL 9 2)) (jr (cf n1 (aW true (bQ (gC (.str "behind")) 9)) 2 4) (ar 8 false (gC (.bl true)))) lS))
def G3(q:Nat):GS:=(jr (ar 8 false (gC (.bl false))) (bf q (bB true dZ 1) 4 zY))
def OA(q:Nat):GS:=(rn (ar 3 true rb) (bf q (bB true dZ 0) (aY [4,5,6,7]) Dm) (ar 8 false (gC (.bl true))) (cX (cb 8) (G3 q) 1000))
def G8:=aQ 3 10 OA
theorem c7m:cv Txt 1 aT.gj aT.gb ["bags","goals","whys"] 3 G8:=cz (λT=>T.k9.fn) ["bags","goals","whys","holder","bag","flight","place","gone","grown","other"]
def K6(q:Nat):GS:=(jr (cC (gQ vB 1 (gO (o1 eL) (aZ 0))) (ax (gX 0 1))) (ax (gI 0)))
def rP:=aQ 2 2 K6
theorem e7a:cv Txt 1 aT.p_ aT.pJ ["_law_script","_law_k"] 2 rP:=cz (λT=>T.uo.fn) ["_law_script","_law_k"]
def B7(n2:Nat):GT:=(cM (gQ mL 0 1) (gQ rC (gX 1 0) (gC .aH)))
def B8(n2:Nat):GE:=(gX 1 0)
def wU(n1:Nat):GS:=(rn (ar 4 false (gX (gX 0 (gI 0)) (bG n5 (bG n5 (gO (o1 eL) (aZ (gX 0 (gI 0)))) (gI 1)) 3))) (ar 5 true (cq n1 (bB false dZ (gX 4 (gI 3))) 0 B7 B8 1 [2])) (cC (gQ mL 1 (gX 4 (gI 3))) (cV (eI n1 "list" tG 5 (aZ (gI 0))))) (cf n1 (yS (gQ UH (gO (o1 eL) (aZ 5)) (gI 0)) (bG bA (gX 4 (gI 1)) (gO (o1 (pk dH)) (aZ 5))) (gC .aH)) 2 (gX 4 (gI 0))))
def Qw(q:Nat):GS:=(og (ar 2 true rb) (bf q (jo l6 (aZ (gO (o1 eL) (aZ (gX 0 (gI 0)))))) 3 wU) (ax 2))
def DP:=aQ 2 6 Qw
theorem e7b:cv Txt 1 aT.qb aT.pL ["_law_house_here","_law_cart"] 2 DP:=cz (λT=>T.ur.fn) ["_law_house_here","_law_cart","_law_table","_law_k","_law_belt","_law_some"]
def Dy(n3:Nat):GS:=(cA (cC (gQ fT (gX (gX (gX 1 (gC (.str "inside"))) 5) (gI 1)) (aW true (bQ (gX 3 (gI 0)) 4))) (cV (eI n3 "list" tG 2 (aZ 5)))))
def Dz(n2:Nat):GS:=(cA (bf n2 (bB true dZ (gX 1 (gC (.str "inside")))) 5 Dy))
def Hr(n1:Nat):GS:=(cA (bf n1 (jo l6 (aZ (gX 3 (gI 1)))) 4 Dz))
def Qx(q:Nat):GS:=(og (ar 2 true (aW false gN)) (bf q (bB true dZ (gX 0 (gI 0))) 3 Hr) (ax 2))
def Cf:=aQ 2 6 Qx
theorem e7c:cv Txt 1 aT.qg aT.pR ["_law_house_here","_law_state"] 2 Cf:=cz (λT=>T.uz.fn) ["_law_house_here","_law_state","_law_rows_here","_law_belt","_law_cell_here","_law_bag"]
def Pf(q:Nat):GS:=(cA (ax (ba atrs "told_rounds" 0)))
def Hs:=aQ 1 1 Pf
theorem e0w:cv Txt 1 aT.lL aT.lF ["self"] 1 Hs:=cz (λT=>T.qW.fn) ["self"]
def Pg(q:Nat):GS:=(cA (ax (ba atrs "now" 0)))
def Ht:=aQ 1 1 Pg
theorem e0x:cv Txt 1 aT.lK aT.lE ["self"] 1 Ht:=cz (λT=>T.qV.fn) ["self"]
noncomputable def dW (n1:Nat):GE:=(gX (ba atrs "book" 1) 0)
noncomputable def ko (q:Nat):GS:=(cA (ax (cq q (bB false dZ (gO (o1 sM) (aZ (ba atrs "book" 0)))) 0 (λ_=>jB true) dW 1 [0])))
noncomputable def dO:=aQ 1 1 ko
theorem d6g:cv Txt 1 aT.kb aT.jW ["self"] 1 dO:=cz (λT=>T.oZ.fn) ["self"]
def RP(q:Nat):GS:=(cA (ax (gO (o1 lZ) (aZ (ba atrs "gone" 0)))))
def D6:=aQ 1 1 RP
theorem f0l:cv Txt 1 aT.r6 aT.rX ["self"] 1 D6:=cz (λT=>T.wJ.fn) ["self"]
def OO(q:Nat):GS:=(sg (cV (eI q "dict" km (ba atrs "places" 0) (aZ 1))) (cV (eI q "dict" km (ba atrs "readings" 0) (aZ 1))) (cV (eI q "dict" km (ba atrs "rounded" 0) (aZ 1))) (cf q 2 (ba atrs "carted" 0) 1) (cV (eI q "list" tG (ba atrs "gone" 0) (aZ (aW true (du 1 2 (ba atrs "now" 0)))))))
def Dt:=aQ 3 3 OO
theorem d2v:cv Txt 1 aT.jj aT.i8 ["self","bag","cart"] 3 Dt:=cz (λT=>T.nW.fn) ["self","bag","cart"]
def O0(q:Nat):GS:=(jr (cC (kH (cF (cb (aq (q_ q) (aZ 0)))) (gQ mL 0 1)) (qI 44 (gC (.str "a belt or a cart has no name, or one that is taken")))) (cf q (gC (.bl true)) 1 0))
def B1:=aQ 2 2 O0
theorem d6h:cv Txt 2 aT.kh aT.j_ ["name","taken"] 2 B1:=cz (λT=>T.o8.fn) ["name","taken"]
def Dq(n2:Nat):GS:=(jr (cC (gQ kK 7 6) (qI 68 (Af (oU (gC (.str "belt ")) (oU (gO (o1 n_) (aZ 4)) (oU (gC (.str " has an out that is no cart, no belt behind it, or there twice")) lR)))))) (cV (eI n2 "list" Il 6 (aZ 7))))
def G9(n1:Nat):GS:=(sg (ar 4 false (gX 3 (gI 0))) (ar 5 false (yS (cb (gO (o2 cI) (bQ (gX 3 (gI 3)) (gC (.ty "list"))))) (gX 3 (gI 3)) (aW false gN))) (ar 6 true (bG bA (aq (vX n1) (aZ (Ap 0 (Cu (bG bA 2 (gI 1))) Ct))) 1)) (bf n1 (bB true dZ 5) 7 Dq) (cC (cF (cb 5)) (qI 68 (Af (oU (gC (.str "belt ")) (oU (gO (o1 n_) (aZ 4)) (oU (gC (.str " has no outs")) lR)))))))
def OP(q:Nat):GS:=(cA (bf q (bB true LZ 0) (aY [2,3]) G9))
def Hc:=aQ 2 8 OP
theorem d2w:cv Txt 2 aT.jg aT.i5 ["belts","carts"] 2 Hc:=cz (λT=>T.nR.fn) ["belts","carts","k","belt","name","outs","left","out"]
def Dv(n2:Nat):GS:=(cA (cf n2 (gC (.bl true)) 2 7))
def B2(n1:Nat):GS:=(cA (cC (kH (gQ fT 3 1) (gQ mL 3 2)) (bf n1 (bB true dZ 6) 7 Dv)))
def Ki(n1:Nat):GT:=(gQ mL 0 1)
noncomputable def Kj(n1:Nat):GE:=0
def PV(q:Nat):GS:=(og (ar 2 true rb) (bf q (bB true dZ (gX 0 (gI 0))) (aY [3,4,5,6]) B2) (ax (cq q (bB false dZ (bG bA (aq (vX q) (aZ (gX 0 (gI 0)))) (gX 0 (gI 1)))) 0 Ki Kj 1 [2])))
def HF:=aQ 2 8 PV
theorem e3k:cv Txt 2 aT.nE aT.nj ["house","belt"] 2 HF:=cz (λT=>T.tm.fn) ["house","belt","found","name","long","ring","outs","out"]
def TQ(q:Nat):GS:=(og (ar 3 false (aq (DO q) (bQ 0 2))) (cC (gQ kK (gX 1 (gI 0)) 3) (ax (gC .aH))) (ax (bG n5 (gX 3 (gX 1 (gI 0))) (gX 1 (gI 1)))))
def IP:=aQ 3 4 TQ
theorem f1x:cv Txt 2 aT.yN aT.yK ["house","place","cart"] 3 IP:=cz (λT=>T.Dc.fn) ["house","place","cart","known"]
def D7(n1:Nat):GS:=(cA (cC (cM (gQ mL 5 3) (kH (gQ FD 4 (gC .aH)) (gQ vB (gX 3 5) (gX 3 4)))) (ar 4 false 5)))
def TR(q:Nat):GS:=(rn (ar 3 false (aq (DO q) (bQ 0 2))) (ar 4 false (gC .aH)) (bf q (bB true dZ (gX (aq (z_ q) (bQ 0 1)) (gI 3))) 5 D7) (ax 4))
def IQ:=aQ 3 6 TR
theorem f1y:cv Txt 2 aT.yM aT.yJ ["house","belt","cart"] 3 IQ:=cz (λT=>T.C_.fn) ["house","belt","cart","known","best","out"]
def Kt(n1:Nat):GE:=(aq (z_ n1) (bQ 1 0))
def Qy(q:Nat):GS:=(jr (ar 1 false (cq q (bB false dZ (aq (vX q) (aZ (gX 0 (gI 0))))) 0 (λ_=>jB true) Kt 1 [0])) (ax (aW true (bQ 1 (gO (o1 lZ) (aZ (gX 0 (gI 1))))))))
def DQ:=aQ 1 2 Qy
theorem e7f:cv Txt 2 aT.pX aT.pB ["house"] 1 DQ:=cz (λT=>T.ue.fn) ["house","belts"]
def KL(q:Nat):GS:=(rn (ar 4 false (aq (rP q) (bQ 0 1))) (cC (gQ fT (bG iG (aq (rP q) (bQ 0 (gI 0))) (gI 2)) (gI 1)) (ax (bG iG (bG iG (bG uO 4 (gX (aW false (pe (gI 2) (lQ (gI 128) (gI 8192) (gI 524288) (gI 33554432)))) 2)) (gI 64)) 3))) (ar 5 false (bG iG (bG kE (bG bA (bG bA (bG bA (bG iG 4 (gI 1000003)) (bG kE 1 1)) (bG kE (gI 1009) 2)) (gI 7)) (gI 48271)) (gI 999983))) (ax (bG iG (bG iG (bG kE (bG bA (bG bA 5 (bG kE (gI 5) 1)) 2) (bG bA (gI 69621) (bG kE (gI 2) 2))) (gI 1000033)) 3)))
def h_:=aQ 4 6 KL
theorem e3l:cv Txt 2 aT.nA aT.m_ ["_law_script","_law_k","_law_at","_law_many"] 4 h_:=cz (λT=>T.sZ.fn) ["_law_script","_law_k","_law_at","_law_many","_law_cell_here","_law_mixed"]
def Kk(q:Nat):GS:=(og (ar 3 false (gX (gX 1 (gC (.str "inside"))) 2)) (fJ (gQ rC (gX 3 (gI 0)) (gC .aH)) (og (ar 4 false (gX (gX 1 (gC (.str "flights"))) (gX 3 (gI 0)))) (ar 5 false (gX (aq (DP q) (bQ 0 (gX 4 (gI 0)))) (gX (gX 3 (gI 1)) (gI 0)))) (cC (cM (gQ rC 5 (gC .aH)) (gQ UI (bG n5 (bG bA (gX 1 (gC (.str "now"))) 5) (gX (gX 3 (gI 1)) (gI 1))) (gX 4 (gI 1)))) (ax (gX 4 (gI 0))))) lS) (ax (gX (gX 0 (gI 1)) (gI 0))))
def z8:=aQ 3 6 Kk
theorem d6i:cv Txt 2 aT.kf aT.jZ ["_law_house_here","_law_state","_law_bag"] 3 z8:=cz (λT=>T.o6.fn) ["_law_house_here","_law_state","_law_bag","_law_row","_law_flight","_law_whole"]
def Ph(q:Nat):GS:=(rn (cC (kH (cF (cb (aq (q_ q) (aZ 1)))) (gQ mL 1 (ba atrs "book" 0))) (qI 44 (gC (.str "a flight has no name, or one that another flight has")))) (cC (gQ kK 2 (Ap (gX (ba atrs "built" 0) (gI 1)) (Cu (gI 1)) Ct)) (qI 68 (gC (.str "a flight's cart is none of the house, or the hand")))) (cV (aq (Dp q) (aZ 3))) (cf q (aW true (du 1 2 3)) (ba atrs "book" 0) 1))
def Hu:=aQ 4 4 Ph
theorem e0y:cv Txt 2 aT.lI aT.lC ["self","name","cart","closing"] 4 Hu:=cz (λT=>T.qU.fn) ["self","name","cart","closing"]
def Ot(q:Nat):GS:=(cA (cC (kH (cF (cb (aq (q_ q) (aZ 1)))) (gQ kK 1 (ba atrs "book" 0))) (qI 104 (gC (.str "no flight is called so")))))
def zZ:=aQ 2 2 Ot
theorem c2z:cv Txt 2 aT.eE aT.eA ["self","name"] 2 zZ:=cz (λT=>T.jE.fn) ["self","name"]
def OB(q:Nat):GS:=(cA (cC (gQ kK 1 (aq (vX q) (aZ (gX (ba atrs "built" 0) (gI 0))))) (qI 116 (gC (.str "no belt is called so")))))
def BV:=aQ 2 2 OB
theorem c7o:cv Txt 2 aT.gf aT.fZ ["self","name"] 2 BV:=cz (λT=>T.k7.fn) ["self","name"]
def J7(q:Nat):GS:=(cA (cC (kH (cF (cb (aq (q_ q) (aZ 1)))) (gQ kK 1 (ba atrs "places" 0))) (qI 140 (gC (.str "no bag in the house is called so")))))
def z5:=aQ 2 2 J7
theorem c3a:cv Txt 2 aT.eF aT.eB ["self","bag"] 2 z5:=cz (λT=>T.jF.fn) ["self","bag"]
def Kc(n1:Nat):GT:=(gQ mL 0 (ba atrs "halts" 1))
noncomputable def Kd(n1:Nat):GE:=0
def O1(q:Nat):GS:=(cA (ax (cq q (bB false dZ (aq (vX q) (aZ (gX (ba atrs "built" 0) (gI 0))))) 0 Kc Kd 1 [0])))
def B3:=aQ 1 1 O1
theorem d6j:cv Txt 2 aT.ke aT.jY ["self"] 1 B3:=cz (λT=>T.o5.fn) ["self"]
def J9(n1:Nat):GE:=(aW true (du (IF "list" (o2 jM) 2 (aZ (gX 1 (gI 0)))) (gX 1 (gI 1)) 0))
def J_(n1:Nat):GE:=(gX 0 (gI 2))
def Ke(q:Nat):GS:=(og (ar 1 false (aq (vX q) (aZ (gX (ba atrs "built" 0) (gI 0))))) (ar 2 false (cq q (bB false xI (ba atrs "places" 0)) (aY [0,1]) (λ_=>jB true) J9 2 [1])) (ax (cq q (bB false dZ (gO (o1 sL) (aZ 2))) 0 (λ_=>jB true) J_ 1 [])))
def BX:=aQ 1 3 Ke
theorem d2z:cv Txt 2 aT.ji aT.i7 ["self"] 1 BX:=cz (λT=>T.nV.fn) ["self","ranks","spots"]
def Kl(q:Nat):GS:=(rn (ar 3 false (gX (ba atrs "places" 0) 1)) (ar 4 false (aq (z_ q) (bQ (ba atrs "built" 0) (gX 3 (gI 0))))) (cC (cM (cb (gX 4 (gI 2))) (cM (gQ fT 3 (aW true (bQ (gX 4 (gI 0)) (bG n5 (gX 4 (gI 1)) (gI 1))))) (gQ fT 2 (aW true (bQ (gX 4 (gI 0)) (gI 0)))))) (LB q E9 (ba atrs "rounded" 0) 1 (gI 1))) (cf q 2 (ba atrs "places" 0) 1))
def yx:=aQ 3 5 Kl
theorem d6k:cv Txt 2 aT.kc aT.jX ["self","bag","goal"] 3 yx:=cz (λT=>T.o4.fn) ["self","bag","goal","was","belt"]
def G6(n1:Nat):GS:=(cA (cV (aq (B1 n1) (bQ 2 1))))
def OG(q:Nat):GS:=(jr (bf q (bB true dZ 0) 2 G6) (cC (cF (cb 0)) (qI 80 (gC (.str "a house has a cart at least, the hand")))))
def G_:=aQ 2 3 OG
theorem c9r:cv Txt 3 aT.iq aT.ig ["carts","taken"] 2 G_:=cz (λT=>T.my.fn) ["carts","taken","cart"]
def G7(n1:Nat):GS:=(og (cV (aq (B1 n1) (bQ 2 1))) (ar 6 false (yS (cb 4) (gI 2) (gI 1))) (cC (gQ vB 3 6) (qI 56 (Af (oU (gC (.str "belt ")) (oU (gO (o1 n_) (aZ 2)) (oU (gC (.str " has fewer than ")) (oU (gO (o1 n_) (aZ 6)) (oU (gC (.str " cells")) lR)))))))))
def OH(q:Nat):GS:=(cA (bf q (bB true dZ 0) (aY [2,3,4,5]) G7))
def Ha:=aQ 2 7 OH
theorem c9s:cv Txt 3 aT.ip aT.ie ["belts","taken"] 2 Ha:=cz (λT=>T.mr.fn) ["belts","taken","name","long","ring","outs","least"]
def J'(n1:Nat):GS:=(cA (cC (gQ kK 1 (aq (HF n1) (bQ 0 2))) (qI 80 (Af (oU (gC (.str "the hand can not be come to from belt ")) (oU (gO (o1 n_) (aZ 2)) lR))))))
def OQ(q:Nat):GS:=(jr (ar 1 false (gX (gX 0 (gI 1)) (gI 0))) (bf q (bB true dZ (aq (vX q) (aZ (gX 0 (gI 0))))) 2 J'))
def He:=aQ 1 3 OQ
theorem d3a:cv Txt 3 aT.je aT.i4 ["house"] 1 He:=cz (λT=>T.nQ.fn) ["house","hand","name"]
def DA(q:Nat):GS:=(rn (ar 4 false (aq (IQ q) (du 0 (gX 1 (gI 0)) 2))) (cC (gQ mL 4 (gX 0 (gI 1))) (ax 4)) (cC (cM (cb (gX 1 (gI 2))) (gQ mL 4 3)) (ax (aW true (bQ (gX 1 (gI 0)) (gI 0))))) (ax (aW true (bQ 4 (gI 0)))))
def t4:=aQ 4 5 DA
theorem e0z:cv Txt 3 aT.lM aT.lG ["house","belt","cart","busy"] 4 t4:=cz (λT=>T.qX.fn) ["house","belt","cart","busy","out"]
def Qz(q:Nat):GS:=(cA (ax (aq (h_ q) (lQ 0 1 (gI 0) 2))))
def mF:=aQ 3 3 Qz
theorem e7g:cv Txt 3 aT.qf aT.pQ ["_law_script","_law_k","_law_many"] 3 mF:=cz (λT=>T.uy.fn) ["_law_script","_law_k","_law_many"]
def PX(q:Nat):GS:=(cA (ax (aq (h_ q) (lQ 0 1 (gI 1) 2))))
def kR:=aQ 3 3 PX
theorem e3m:cv Txt 3 aT.nC aT.ng ["_law_script","_law_k","_law_many"] 3 kR:=cz (λT=>T.s_.fn) ["_law_script","_law_k","_law_many"]
def PY(q:Nat):GS:=(cA (ax (aq (h_ q) (lQ 0 1 (gI 2) 2))))
def o9:=aQ 3 3 PY
theorem e3n:cv Txt 3 aT.nD aT.nh ["_law_script","_law_k","_law_many"] 3 o9:=cz (λT=>T.tf.fn) ["_law_script","_law_k","_law_many"]
def Hv(n1:Nat):GS:=(jr (ar 4 false (gX (gX (gX 1 (gC (.str "inside"))) 3) (gI 0))) (cC (cM (gQ rC 4 (gC .aH)) (gQ fT (aq (z8 n1) (du 0 1 3)) (gX (gX 0 (gI 1)) (gI 0)))) (cV (eI n1 "list" tG 2 (aZ 3)))))
def QA(q:Nat):GS:=(og (ar 2 true (aW false gN)) (bf q (bB true dZ (aq (Cf q) (bQ 0 1))) 3 Hv) (ax 2))
def HM:=aQ 2 5 QA
theorem e7h:cv Txt 3 aT.qc aT.pM ["_law_house_here","_law_state"] 2 HM:=cz (λT=>T.uv.fn) ["_law_house_here","_law_state","_law_told","_law_bag","_law_flight"]
def Pj(q:Nat):GS:=(og (cV (aV cHall "check_flight" (zZ q) 0 (aZ 1))) (cV (aq (Dp q) (aZ 2))) (cf q (aW true (du 1 (gX (gX (ba atrs "book" 0) 1) (gI 1)) 2)) (ba atrs "book" 0) 1))
def Hw:=aQ 3 3 Pj
theorem e1a:cv Txt 3 aT.lH aT.lB ["self","name","closing"] 3 Hw:=cz (λT=>T.qT.fn) ["self","name","closing"]
def Dr(n1:Nat):GS:=(cA (cC (gQ fT (gX (ba atrs "readings" 0) 2) 1) (cf n1 (gC .aH) (ba atrs "readings" 0) 2)))
def OR(q:Nat):GS:=(og (cV (aV cHall "check_flight" (zZ q) 0 (aZ 1))) (cV (eI q "dict" km (ba atrs "book" 0) (aZ 1))) (bf q (bB true dZ (gO (o1 lZ) (aZ (ba atrs "readings" 0)))) 2 Dr))
def Hf:=aQ 2 3 OR
theorem d3b:cv Txt 3 aT.jh aT.i6 ["self","name"] 2 Hf:=cz (λT=>T.nU.fn) ["self","name","bag"]
def Co(q:Nat):GS:=(eQ (cV (aV cHall "check_belt" (BV q) 0 (aZ 3))) (sg (ar 4 false (aW true (bQ 3 (gI 0)))) (cC (gQ mL 4 (gO (o1 sO) (aZ (ba atrs "places" 0)))) (qI 128 (Af (oU (gC (.str "cell 0 of belt ")) (oU (gO (o1 n_) (aZ 3)) (oU (gC (.str " has a bag")) lR)))))) (cf q 4 (ba atrs "places" 0) 1) (cf q 2 (ba atrs "readings" 0) 1) (cf q (gI 0) (ba atrs "rounded" 0) 1)))
def w9(rest:GS)(q:Nat):GS:=(eQ (cC (kH (cF (cb (aq (q_ q) (aZ 1)))) (kH (gQ mL 1 (ba atrs "places" 0)) (gQ mL 1 (ba atrs "carted" 0)))) (qI 44 (gC (.str "a bag has no name, or one that a bag of this hall has or had")))) (eQ (cC (gQ rC 2 (gC .aH)) (cV (aV cHall "check_flight" (zZ q) 0 (aZ 2)))) rest))
def D8(q:Nat):GS:=(w9 (Co q) q)
def yC:=aQ 4 5 D8
theorem f0m:cv Txt 3 aT.r9 aT.rY ["self","bag","flight","belt"] 4 yC:=cz (λT=>T.wK.fn) ["self","bag","flight","belt","place"]
def QB(q:Nat):GS:=(og (cV (aV cHall "check_inside" (z5 q) 0 (aZ 1))) (cV (aV cHall "check_flight" (zZ q) 0 (aZ 2))) (cf q 2 (ba atrs "readings" 0) 1))
def HN:=aQ 3 3 QB
theorem e7i:cv Txt 3 aT.p5 aT.pG ["self","bag","flight"] 3 HN:=cz (λT=>T.uj.fn) ["self","bag","flight"]
def K7(q:Nat):GS:=(jr (cV (aV cHall "check_belt" (BV q) 0 (aZ 1))) (cf q (gC (.bl true)) (ba atrs "halts" 0) 1))
def DR:=aQ 2 2 K7
theorem e7j:cv Txt 3 aT.p6 aT.pH ["self","belt"] 2 DR:=cz (λT=>T.uk.fn) ["self","belt"]
def KN(q:Nat):GS:=(jr (cV (aV cHall "check_belt" (BV q) 0 (aZ 1))) (cC (gQ mL 1 (ba atrs "halts" 0)) (cV (eI q "dict" km (ba atrs "halts" 0) (aZ 1)))))
def B_:=aQ 2 2 KN
theorem e3o:cv Txt 3 aT.nu aT.m6 ["self","belt"] 2 B_:=cz (λT=>T.sV.fn) ["self","belt"]
def PZ(q:Nat):GS:=(cA (ax (aq (DQ q) (aZ (ba atrs "built" 0)))))
def HG:=aQ 1 1 PZ
theorem e3p:cv Txt 3 aT.nt aT.mZ ["self"] 1 HG:=cz (λT=>T.sU.fn) ["self"]
def Ku(n1:Nat):GE:=(aW true (lQ 0 (gX (ba atrs "readings" 1) 0) (gX (ba atrs "places" 1) 0) (gX (ba atrs "rounded" 1) 0)))
def QC(q:Nat):GS:=(cA (ax (cq q (bB false dZ (aV cHall "in_order" (BX q) 0 gN)) 0 (λ_=>jB true) Ku 1 [0])))
def yA:=aQ 1 1 QC
theorem e7k:cv Txt 3 aT.pY aT.pC ["self"] 1 yA:=cz (λT=>T.uf.fn) ["self"]
def O2(q:Nat):GS:=(rn (cC (gQ FD (gX (ba atrs "readings" 0) 1) (gC .aH)) (ax (gC (.bl false)))) (ar 2 false (gX (ba atrs "book" 0) (gX (ba atrs "readings" 0) 1))) (ar 3 false (aq (IP q) (du (ba atrs "built" 0) (gX (ba atrs "places" 0) 1) (gX 2 (gI 1))))) (ax (uZ (bG rC 3 (gC .aH)) (bG UI (bG bA (ba atrs "now" 0) 3) (gX 2 (gI 2))))))
def Dw:=aQ 2 4 O2
theorem d6l:cv Txt 3 aT.ka aT.jV ["self","bag"] 2 Dw:=cz (λT=>T.oY.fn) ["self","bag","flight","needed"]
def z9(n1:Nat):GS:=(cA (fJ (cb (gO (o2 cI) (bQ 3 (gC (.ty "tuple"))))) (cA (cV (aV cHall "move_on" (yx n1) 0 (bQ 2 3)))) (cA (cV (aV cHall "move_out" (Dt n1) 0 (bQ 2 3))))))
def QD(q:Nat):GS:=(jr (LA q E9 atrs "now" 0 (gI 1)) (bf q (bB true dZ 1) (aY [2,3]) z9))
def HP:=aQ 2 4 QD
theorem e7l:cv Txt 3 aT.p4 aT.pF ["self","moves"] 2 HP:=cz (λT=>T.ui.fn) ["self","moves","bag","goal"]
def OI(q:Nat):GS:=(eQ (ar 1 false (gX 0 (gI 0))) (eQ (ar 2 false (gX 0 (gI 1))) (eQ (ar 3 true rb) (sg (cV (aq (G_ q) (bQ 2 3))) (cV (aq (Ha q) (bQ 1 3))) (cV (aq (Hc q) (bQ 1 2))) (cV (aq (He q) (aZ 0))) (ax (gC (.bl true)))))))
def Hb:=aQ 1 4 OI
theorem c9t:cv Txt 4 aT.iu aT.il ["house"] 1 Hb:=cz (λT=>T.mC.fn) ["house","belts","carts","taken"]
def Ka(n1:Nat):GT:=(gQ fT (gX (gX 0 (gI 2)) (gI 1)) (gI 0))
def Kb(n1:Nat):GE:=(gX (gX 0 (gI 2)) (gI 0))
def OS(q:Nat):GS:=(cA (ax (bG bA (aV cHall "stopped" (B3 q) 0 gN) (cq q (bB false dZ (aV cHall "bags" (yA q) 0 gN)) 0 Ka Kb 1 []))))
def Hg:=aQ 1 1 OS
theorem d3c:cv Txt 4 aT.jb aT.iZ ["hall"] 1 Hg:=cz (λT=>T.nP.fn) ["hall"]
def K8(q:Nat):GS:=(eQ (ar 3 false (gC (.str "abcdefghijklmnopqrstuvwxyz"))) (eQ (ar 4 false (aq (mF q) (du 0 1 (gI 26)))) (sg (cC (gQ fT (aq (kR q) (du 0 1 (gI 3))) (gI 0)) (ax (bG kE (gX 3 (bG iG (bG bA 4 (bG uO 2 (gI 8))) (gI 26))) (bG bA (gI 1) (bG iG 2 (gI 8)))))) (ar 5 false (bG bA (gI 1) (aq (o9 q) (du 0 1 (gI 8))))) (ar 6 false (aq (kR q) (du 0 1 5))) (ar 7 false (gX 3 (aq (h_ q) (lQ 0 1 (gI 3) (gI 26))))) (ax (bG bA (bG bA (bG kE 7 6) (gX 3 (bG iG (bG bA (bG kE (gI 7) 2) 4) (gI 26)))) (bG kE 7 (bG n5 (bG n5 5 (gI 1)) 6)))))))
def t5:=aQ 3 8 K8
theorem e7m:cv Txt 4 aT.qd aT.pO ["_law_script","_law_k","_law_n"] 3 t5:=cz (λT=>T.uw.fn) ["_law_script","_law_k","_law_n","_law_letters","_law_base","_law_many","_law_spot","_law_rest"]
def wV(n1:Nat):GS:=(jr (ar 9 false (gX 5 (aq (h_ n1) (lQ 0 (bG bA (gI 6) 1) (bG bA (gI 1) 8) (gO (o1 eL) (aZ 5)))))) (cC (gQ kK 9 6) (cV (eI n1 "list" D5 6 (bQ (bG iG (bG iG (bG uO 7 (gX (aW false (du (gI 1) (gI 4) (gI 16))) 8)) (gI 4)) (bG bA (gO (o1 eL) (aZ 6)) (gI 1))) 9)))))
def Kv(n1:Nat):GT:=(gQ mL 0 1)
noncomputable def Kw(n1:Nat):GE:=0
def HQ(q:Nat):GS:=(eQ (ar 4 false (Ap 2 (Cu (bG bA 1 (gI 1))) Ct)) (eQ (ar 5 false (bG bA 4 3)) (sg (ar 6 true (aW false gN)) (ar 7 false (aq (o9 q) (du 0 (bG bA (gI 1) 1) (gI 64)))) (bf q (jo l6 (aZ (bG bA (gI 1) (aq (mF q) (du 0 (bG bA (gI 6) 1) (gI 3)))))) 8 wV) (cC (cM (gQ kK (gX 3 (gI 0)) 6) (gQ fT (gO (o1 eL) (aZ (cq q (bB false dZ 6) 0 Kv Kw 1 [4]))) (gI 0))) (cV (eI q "list" D5 6 (bQ (aq (h_ q) (lQ 0 (bG bA (gI 1) 1) (gI 3) (bG bA (gO (o1 eL) (aZ 6)) (gI 1)))) (gX 3 (gI 0)))))) (ax 6))))
def tF:=aQ 4 10 HQ
theorem e7n:cv Txt 4 aT.qe aT.pP ["_law_script","_law_k","_law_names","_law_carts_here"] 4 tF:=cz (λT=>T.ux.fn) ["_law_script","_law_k","_law_names","_law_carts_here","_law_later","_law_some","_law_outs_here","_law_spots","_law_j","_law_out"]
def Hj(q:Nat):GS:=(rn (ar 2 false (aq (mF q) (du 0 (bG bA 1 (gI 1)) (gI 10)))) (cC (gQ fT 2 (gI 0)) (ax (bG n5 (gO (o1 xR) (aZ (gI 1))) (bG iG (aq (rP q) (bQ 0 1)) (bG En (gI 10) (gI 8)))))) (cC (gQ fT 2 (gI 1)) (ax (bG iG (aq (rP q) (bQ 0 1)) (bG En (gI 10) (gI 9))))) (ax (aq (h_ q) (lQ 0 (bG bA 1 (gI 1)) (gI 3) (gI 30)))))
def yy:=aQ 2 3 Hj
theorem d6m:cv Txt 4 aT.kg aT.j0 ["_law_script","_law_k"] 2 yy:=cz (λT=>T.o7.fn) ["_law_script","_law_k","_law_kind"]
def wZ(q:Nat):GS:=(cA (fJ (gQ fT (gX 1 (gI 0)) (gC (.str "flight"))) (cA (cV (aV cHall "flight" (Hu q) 0 (du (gX 1 (gI 1)) (gX 1 (gI 2)) (gX 1 (gI 3)))))) (cA (fJ (gQ fT (gX 1 (gI 0)) (gC (.str "change"))) (cA (cV (aV cHall "change" (Hw q) 0 (bQ (gX 1 (gI 1)) (gX 1 (gI 2)))))) (cA (fJ (gQ fT (gX 1 (gI 0)) (gC (.str "off"))) (cA (cV (aV cHall "call_off" (Hf q) 0 (aZ (gX 1 (gI 1)))))) (cA (fJ (gQ fT (gX 1 (gI 0)) (gC (.str "put"))) (cA (cC (gQ vB (gO (o1 eL) (aZ (aV cHall "bags" (yA q) 0 gN))) (gI 8)) (cV (aV cHall "put" (yC q) 0 (du (gX 1 (gI 1)) (gX 1 (gI 2)) (gX 1 (gI 3))))))) (cA (fJ (gQ fT (gX 1 (gI 0)) (gC (.str "read"))) (cA (cV (aV cHall "read" (HN q) 0 (bQ (gX 1 (gI 1)) (gX 1 (gI 2)))))) (cA (fJ (gQ fT (gX 1 (gI 0)) (gC (.str "stop"))) (cA (cV (aV cHall "stop" (DR q) 0 (aZ (gX 1 (gI 1)))))) (cA (cC (gQ fT (gX 1 (gI 0)) (gC (.str "start"))) (cV (aV cHall "start" (B_ q) 0 (aZ (gX 1 (gI 1)))))))))))))))))))
def uM:=aQ 2 2 wZ
theorem e7o:cv Txt 4 aT.p7 aT.pI ["_law_hall","_law_deed"] 2 uM:=cz (λT=>T.um.fn) ["_law_hall","_law_deed"]
noncomputable def bS (n1:Nat):GS:=(cA (cf n1 (aW true (bQ 3 4)) 1 2))
noncomputable def bT (n1:Nat):GS:=(cA (cf n1 (aW false (du 7 8 9)) 5 6))
noncomputable def gp (q:Nat):GS:=(sg (ar 1 true rb) (bf q (bB true dZ (aV cHall "flights" (dO q) 0 gN)) (aY [2,3,4]) bS) (ar 5 true rb) (bf q (bB true dZ (aV cHall "bags" (yA q) 0 gN)) (aY [6,7,8,9]) bT) (ax (ql (Ae [((gC (.str "now")),(aV cHall "moment" (Ht q) 0 gN)),((gC (.str "flights")),1),((gC (.str "still")),(aV cHall "stopped" (B3 q) 0 gN)),((gC (.str "inside")),5),((gC (.str "gone")),(aV cHall "out" (D6 q) 0 gN))]))))
noncomputable def cw:=aQ 1 10 gp
theorem c7p:cv Txt 4 aT.gh aT.f_ ["_law_hall"] 1 cw:=cz (λT=>T.k8.fn) ["_law_hall","_law_flights","_law_name_here","_law_cart","_law_closing_here","_law_inside","_law_bag","_law_flight","_law_place","_law_count"]
def Kx(n1:Nat):GT:=(cM (gQ rC (gX (ba atrs "readings" 1) 0) (gC .aH)) (cF (cb (aV cHall "catches" (Dw n1) 1 (aZ 0)))))
noncomputable def Ky(n1:Nat):GE:=0
def QE(q:Nat):GS:=(cA (ax (cq q (bB false dZ (aV cHall "in_order" (BX q) 0 gN)) 0 Kx Ky 1 [0])))
def HR:=aQ 1 1 QE
theorem e7p:cv Txt 4 aT.pZ aT.pD ["self"] 1 HR:=cz (λT=>T.uh.fn) ["self"]
def Km(q:Nat):GS:=(og (cV (aV cHall "check_inside" (z5 q) 0 (aZ 1))) (cC (cb (aV cHall "catches" (Dw q) 0 (aZ 1))) (ax (gX (gX (ba atrs "book" 0) (gX (ba atrs "readings" 0) 1)) (gI 1)))) (ax (gX (gX (ba atrs "built" 0) (gI 1)) (gI 0))))
def yz:=aQ 2 2 Km
theorem d6n:cv Txt 4 aT.j' aT.jU ["self","bag"] 2 yz:=cz (λT=>T.oX.fn) ["self","bag"]
def wW(n1:Nat):GS:=(og (ar 8 false (aq (z_ n1) (bQ 1 (gX 6 (gI 0))))) (fJ (gQ vB (bG bA (gX 6 (gI 1)) (gI 1)) (gX 8 (gI 1))) (cA (ar 9 false (aW true (bQ (gX 6 (gI 0)) (bG bA (gX 6 (gI 1)) (gI 1)))))) (cA (fJ (cM (cb (gX 8 (gI 2))) (cM (gQ FD 5 (gC .aH)) (gQ vB 7 (aV cHall "rounds" (Hs n1) 0 gN)))) (cA (ar 9 false (aW true (bQ (gX 6 (gI 0)) (gI 0))))) (cA (ar 9 false (aq (t4 n1) (lQ 1 8 (aV cHall "cart_of" (yz n1) 0 (aZ 4)) 2))))))) (cV (eI n1 "list" tG 3 (aZ (aW true (bQ 4 9))))))
def QF(q:Nat):GS:=(sg (ar 1 false (aV cHall "house" (HG q) 0 gN)) (ar 2 false (aq (Hg q) (aZ 0))) (ar 3 true (aW false gN)) (bf q (bB true dZ (aV cHall "bags" (yA q) 0 gN)) (aY [4,5,6,7]) wW) (ax 3))
def HS:=aQ 1 10 QF
theorem e7q:cv Txt 5 aT.qj aT.pT ["hall"] 1 HS:=cz (λT=>T.uC.fn) ["hall","house","busy","told","bag","flight","place","gone","belt","goal"]
def Hk(n1:Nat):GE:=(aq (t5 n1) (du 1 (gI 11) 0))
def Hm(n1:Nat):GE:=(aq (t5 n1) (du 1 (gI 11) (bG bA (gI 10) 0)))
def rO(n1:Nat):GS:=(sg (ar 5 false (bG fT (aq (mF n1) (du 0 (bG bA (gI 1) 4) (gI 3))) (gI 0))) (ar 6 false (bG bA (gI 1) (aq (kR n1) (du 0 (bG bA (gI 1) 4) (gI 5))))) (cC (cM (gQ fT 4 (gI 0)) (cM (gQ vB (gO (o1 eL) (aZ 1)) (gI 3)) (gQ fT (aq (o9 n1) (du 0 (gI 0) (gI 3))) (gI 1)))) (ar 6 false (bG bA (gI 10) (aq (h_ n1) (lQ 0 (gI 0) (gI 3) (gI 14)))))) (cC (cb 5) (ar 6 false (bG bA 6 (gI 1)))) (cV (eI n1 "list" tG 3 (aZ (aW true (lQ (gX 1 4) 6 5 (aq (tF n1) (lQ 0 4 1 2))))))))
def P1(q:Nat):GS:=(sg (ar 1 false (cq q (jo l6 (aZ (bG bA (gI 1) (aq (mF q) (du 0 (gI 0) (gI 5)))))) 0 (λ_=>jB true) Hk 1 [0])) (ar 2 false (cq q (jo l6 (aZ (bG bA (gI 1) (aq (kR q) (du 0 (gI 0) (gI 4)))))) 0 (λ_=>jB true) Hm 1 [0])) (ar 3 true (aW false gN)) (bf q (jo l6 (aZ (gO (o1 eL) (aZ 1)))) 4 rO) (ax (aW true (bQ 3 2))))
def B':=aQ 1 7 P1
theorem e3q:cv Txt 5 aT.nB aT.nc ["_law_script"] 1 B':=cz (λT=>T.s9.fn) ["_law_script","_law_names","_law_carts_here","_law_belts","_law_k","_law_ring","_law_long"]
def J8(q:Nat):GS:=(jr (cC (gQ fT 1 (gI 6)) (ax (gC (.str "A")))) (ax (aq (t5 q) (du 0 (gX (aW false (du (gI 11) (gI 12) (gI 13))) (aq (h_ q) (lQ 0 (gI 12) (gI 4) (gI 3)))) 1))))
def BS:=aQ 2 2 J8
theorem c3o:cv Txt 5 aT.fy aT.fj ["_law_script","_law_n"] 2 BS:=cz (λT=>T.kz.fn) ["_law_script","_law_n"]
def Kf(q:Nat):GS:=(jr (cC (gQ fT 1 (gI 12)) (ax (gC (.str "b1")))) (ax (aq (t5 q) (du 0 (gX (aW false (du (gI 11) (gI 12) (gI 13))) (aq (h_ q) (lQ 0 (gI 13) (gI 4) (gI 3)))) 1))))
def BY:=aQ 2 2 Kf
theorem d3d:cv Txt 5 aT.jk aT.i9 ["_law_script","_law_n"] 2 BY:=cz (λT=>T.nX.fn) ["_law_script","_law_n"]
def K9(q:Nat):GS:=(og (ar 2 false (gC (.bl true))) (qo (cA (cV (aq (uM q) (bQ 0 1)))) [((wT gd),(cA (ar 2 false (gC (.bl false)))))]) (ax 2))
def DS:=aQ 2 3 K9
theorem e7r:cv Txt 5 aT.qa aT.pK ["_law_hall","_law_deed"] 2 DS:=cz (λT=>T.uq.fn) ["_law_hall","_law_deed","_law_done_here"]
def Ds(n1:Nat):GS:=(og (ar 2 false (gC (.bl false))) (qo (cA (cV (aV cHall "cart_of" (yz n1) 0 (aZ (gX 1 (gI 0)))))) [((wN gd 140),(cA (ar 2 false (gC (.bl true)))))]) (cC (cF (cb 2)) (ax (gC (.bl false)))))
def OT(q:Nat):GS:=(jr (bf q (bB true dZ (aV cHall "out" (D6 q) 0 gN)) 1 Ds) (ax (gC (.bl true))))
def Du:=aQ 1 3 OT
theorem d3e:cv Txt 5 aT.jl aT.i_ ["_law_hall"] 1 Du:=cz (λT=>T.nY.fn) ["_law_hall","_law_row","_law_refused"]
def QG(q:Nat):GS:=(eQ (cV (aq (Hb q) (aZ 1))) (eQ (fB q atrs "built" (aq (DQ q) (aZ 1)) 0) (eQ (fB q atrs "told_rounds" 2 0) (eQ (fB q atrs "now" (gI 0) 0) (eQ (fB q atrs "book" (kj rb) 0) (eQ (fB q atrs "halts" (kj rb) 0) (sg (fB q atrs "places" (kj rb) 0) (fB q atrs "readings" (kj rb) 0) (fB q atrs "rounded" (kj rb) 0) (fB q atrs "gone" (kj (aW false gN)) 0) (fB q atrs "carted" (kj rb) 0))))))))
def DT:=aQ 3 3 QG
theorem e7s:cv Txt 5 aT.lJ aT.lD ["self","house","rounds"] 3 DT:=cz (λT=>T.ug) ["self","house","rounds"]
def DU(n1:Nat):GS:=(cA (fJ (gQ mL 6 3) (cA (cV (eI n1 "list" tG 4 (aZ (aW true (lQ 6 8 8 (gX 3 6))))))) (jr (cV (eI n1 "list" tG 4 (aZ (aW true (lQ 6 8 (gX 2 6) (gC .aH)))))) (cV (eI n1 "list" tG 5 (aZ (aW true (bQ 6 (gX 2 6)))))))))
def Tb(q:Nat):GS:=(eQ (ar 1 false (aV cHall "bags" (yA q) 0 gN)) (eQ (ar 2 false (gO (o1 rZ) (aZ (aq (HS q) (aZ 0))))) (eQ (ar 3 true rb) (eQ (cV (aq (G5 q) (lQ 1 2 (aV cHall "stopped" (B3 q) 0 gN) 3))) (eQ (cV (aq (G2 q) (du 1 2 3))) (eQ (cV (aq (G8 q) (du 1 2 3))) (sg (ar 4 true (aW false gN)) (ar 5 true (aW false gN)) (bf q (bB true dZ 1) (aY [6,7,8,9]) DU) (cV (aV cHall "move" (HP q) 0 (aZ 5))) (ax 4))))))))
def Eg:=aQ 1 10 Tb
theorem f1k:cv Txt 6 aT.uX aT.uR ["hall"] 1 Eg:=cz (λT=>T.zR.fn) ["hall","bags","goals","whys","log","moves","bag","flight","place","gone"]
def Ho(n1:Nat):GE:=(gX 0 (gI 0))
def uK(q:Nat):GS:=(eQ (cC (gQ vB 3 (gI 3)) (ax (aW false (aZ 10)))) (eQ (cC (gQ fT 3 (gI 3)) (ax (aW false (aZ (aW true (du (gC (.str "change")) 5 (aq (yy q) (bQ 0 1)))))))) (eQ (cC (gQ fT 3 (gI 4)) (ax (aW false (aZ (aW true (bQ (gC (.str "off")) 5)))))) (sg (cC (gQ fT 3 (gI 5)) (ax (aW false (bQ (aW true (bQ (gC (.str "off")) 5)) 10)))) (fJ (gQ vB 3 (gI 11)) (jr (cC (gQ fT (aq (kR q) (du 0 (bG bA 1 (gI 1)) (gI 3))) (gI 0)) (ax (aW false (aZ (aW true (lQ (gC (.str "put")) 6 (gC .aH) 8)))))) (ax (aW false (aZ (aW true (lQ (gC (.str "put")) 6 5 8)))))) lS) (cC (gQ fT 3 (gI 11)) (ax (aW false (aZ (aW true (du (gC (.str "read")) 6 5)))))) (cC (gQ vB 3 (gI 14)) (ax (aW false (aZ (aW true (bQ (gX (aW false (bQ (gC (.str "stop")) (gC (.str "start")))) (bG n5 3 (gI 12))) 8)))))) (ax (aW false (aZ (aW true (bQ (gC (.str "turn")) (bG bA (gI 1) (aq (o9 q) (du 0 (bG bA 1 (gI 1)) (yS (gQ UH (gX (gX (gX 2 (gI 0)) (gI 0)) (gI 1)) (gI 9)) (gI 12) (gI 4))))))))))))))
def KO(rest:GS)(q:Nat):GS:=(eQ (ar 3 false (aq (mF q) (du 0 1 (gI 20)))) (eQ (ar 4 false (aq (o9 q) (du 0 1 (gI 10)))) (eQ (ar 5 false (aq (BS q) (bQ 0 (yS (gQ fT 4 (gI 9)) (gI 6) (bG iG 4 (gI 3)))))) (eQ (ar 6 false (aq (BY q) (bQ 0 (aq (kR q) (du 0 1 (gI 13)))))) (eQ (ar 7 false (cq q (bB false dZ (gX 2 (gI 0))) 0 (λ_=>jB true) Ho 1 [])) (eQ (ar 8 false (gX (bG bA (bG bA 7 7) (Ap (gX 2 (gI 1)) Ct (Cu (gI 1)))) (aq (o9 q) (du 0 (bG bA 1 (gI 1)) (bG bA (bG kE (gI 2) (gO (o1 eL) (aZ 7))) (gI 1)))))) (eQ (ar 9 false (bG bA (gX 2 (gI 1)) (Ap 7 Ct (Cu (gI 1))))) (eQ (ar 10 false (aW true (lQ (gC (.str "flight")) 5 (gX 9 (aq (kR q) (du 0 (bG bA 1 (gI 1)) (gO (o1 eL) (aZ 9))))) (aq (yy q) (bQ 0 1))))) rest))))))))
def tD(q:Nat):GS:=(KO (uK q) q)
def Aa:=aQ 3 11 tD
theorem e3r:cv Txt 6 aT.nz aT.m9 ["_law_script","_law_k","_law_house_here"] 3 Aa:=cz (λT=>T.sY.fn) ["_law_script","_law_k","_law_house_here","_law_kind","_law_mark","_law_flight","_law_bag","_law_belts","_law_belt","_law_carts_here","_law_told"]
def DB(r:Nat->GM)(n1:Nat):GS:=(cA (cC (cF (cb (aq (r n1) (bQ (gX 0 3) (gX 1 3))))) (ax (gC (.bl false)))))
def rQ(r:Nat->GM)(q:Nat):GS:=(rn (fJ (cb (gO (o2 cI) (bQ 1 (aW true (bQ (gC (.ty "tuple")) (gC (.ty "list"))))))) (rn (ar 2 false (yS (cb (gO (o2 cI) (bQ 1 (gC (.ty "tuple"))))) (gO (o2 cI) (bQ 0 (gC (.ty "tuple")))) (gO (o2 cI) (bQ 0 (gC (.ty "list")))))) (cC (kH (cF (cb 2)) (gQ (o2 Jr) (gO (o1 eL) (aZ 0)) (gO (o1 eL) (aZ 1)))) (ax (gC (.bl false)))) (bf q (jo l6 (aZ (gO (o1 eL) (aZ 1)))) 3 (DB r)) (ax (gC (.bl true)))) lS) (cC (gQ FD 1 (gC .aH)) (ax (bG FD 0 (gC .aH)))) (cC (cb (gO (o2 cI) (bQ 1 (gC (.ty "str"))))) (ax (uZ (gO (o2 cI) (bQ 0 (gC (.ty "str")))) (bG fT 0 1)))) (ax (uZ (gO (o2 cI) (bQ 0 (gC (.ty "int")))) (uZ (EJ (gO (o2 cI) (bQ 0 (gC (.ty "bool"))))) (bG fT 0 1)))))
def HU:=CO 2 4 rQ 5
theorem e7t:cv Txt 6 aT.qh aT.pS ["_law_found","_law_due"] 2 HU:=okR (c:=1) (λT=>T.uA.fn) ["_law_found","_law_due","_law_kind","_law_k"] 5
def Hq(n1:Nat):GS:=(cA (cC (cF (cb (aq (HU n1) (bQ (aV cHall "cart_of" (yz n1) 0 (aZ 3)) (aq (z8 n1) (du 1 2 3)))))) (ax (gC (.bl false)))))
def P4(q:Nat):GS:=(jr (bf q (bB true dZ (aq (Cf q) (bQ 1 2))) 3 Hq) (ax (gC (.bl true))))
def DH:=aQ 3 4 P4
theorem e3s:cv Txt 7 aT.ny aT.m8 ["_law_hall","_law_house_here","_law_state"] 3 DH:=cz (λT=>T.sX.fn) ["_law_hall","_law_house_here","_law_state","_law_bag"]
def OJ(q:Nat):GS:=(rn (ar 3 true (aV cHall "late" (HR q) 0 gN)) (cC (cF (cb (aq (HU q) (bQ 3 (aq (HM q) (bQ 1 2)))))) (ax (gC (.bl false)))) (cV (eI q "list" tG 3 (aZ (gC (.str "a"))))) (ax (gC (.bl true))))
def BW:=aQ 3 4 OJ
theorem c9u:cv Txt 7 aT.ir aT.ik ["_law_hall","_law_house_here","_law_state"] 3 BW:=cz (λT=>T.mB.fn) ["_law_hall","_law_house_here","_law_state","_law_told"]
noncomputable def iW (n3:Nat):GS:=(cA (cV (aq (Eg n3) (aZ 2))))
noncomputable def eS (n2:Nat):GS:=(cA (fJ (gQ fT (gX 4 (gI 0)) (gC (.str "turn"))) (cA (bf n2 (jo l6 (aZ (gX 4 (gI 1)))) 5 iW)) (cA (cV (aq (DS n2) (bQ 2 4))))))
noncomputable def eU (n1:Nat):GS:=(eQ (bf n1 (bB true dZ (aq (Aa n1) (du 0 3 1))) 4 eS) (sg (ar 6 false (aq (cw n1) (aZ 2))) (ar 7 false (bG fT (aq (h_ n1) (lQ 0 3 (gI 3) (gI 2))) (gI 0))) (cC (cM (cb 7) (cF (cb (aq (BW n1) (du 2 1 6))))) (ax (gC (.bl false)))) (cC (kH (cF (cb (aq (DH n1) (du 2 1 6)))) (cF (cb (aq (Du n1) (aZ 2))))) (ax (gC (.bl false)))) (cC (cM (cF (cb 7)) (cF (cb (aq (BW n1) (du 2 1 6))))) (ax (gC (.bl false))))))
noncomputable def qr (q:Nat):GS:=(rn (ar 1 false (aq (B' q) (aZ 0))) (ar 2 false (u0 cHall (DT q) (bQ 1 (aq (mF q) (du 0 (gI 14) (gI 3)))))) (bf q (jo x8 (du (gI 15) (bG bA (gI 23) (bG kE (gI 2) (aq (kR q) (du 0 (gI 14) (gI 20))))) (gI 2))) 3 eU) (ax (gC (.bl true))))
noncomputable def rM:=aQ 1 8 qr
theorem e7u:cv Txt 8 aT.uW aT.uQ ["_law_script"] 1 rM:=cz (λT=>T.uB.fn) ["_law_script","_law_house_here","_law_hall","_law_k","_law_deed","_law_count","_law_state","_law_first"]
variable{i n:Nat}
abbrev Pr(M:Nat->GM)(vs:List Val)(r:Rv):Prop:=∀q S,M q vs S=some (.ok r S)
noncomputable abbrev a_(ns:List Int):D:=.lst (ns.map D.int)
theorem qq0{α:Type _}{a:α}{l:List α}:(a::l)[0]?=some a:=rfl
theorem qq1{α:Type _}{a:α}{l:List α}:(a::l)[i+1]?=l[i]?:=rfl
theorem qq2{α:Type _}{a:α}{l:List α}:(a::l).length=l.length+1:=rfl
theorem qq3{α:Type _}:([]:List α).length=0:=rfl
theorem qq4{α:Type _}{x a:α}{l:List α}:(x::l).set 0 a=a::l:=rfl
theorem qq5{α:Type _}{x a:α}{l:List α}:(x::l).set (n+1) a=x::l.set n a:=rfl
theorem qq6{α β:Type _}{f:α->β}{a:α}{l:List α}:(a::l).map f=f a::l.map f:=rfl
theorem qq7{α β:Type _}{f:α->β}:([]:List α).map f=[]:=rfl
theorem qq8{α:Type _}{a:α}:List.replicate 0 a=[]:=rfl
theorem qq9{α:Type _}{a:α}:List.replicate (n+1) a=a::List.replicate n a:=rfl
theorem qqa{α:Type _}{a:α}{l:List α}:(a::l).take (i+1)=a::l.take i:=rfl
theorem qqb{α:Type _}{a:α}{l r:List α}:(a::l)++r=a::(l++r):=rfl
theorem qqc{α:Type _}(l:List α):[]++l=l:=rfl
theorem qqd{α:Type _}{l:List α}:l.take 0=[]:=rfl
theorem aI:(false=true)=False:=uc
theorem qqf(n:Nat):0+n=n:=Nat.zero_add n
theorem XH(ns:List Int)(k v:Int)(h1:(k<(ns.length:Int))=True)(h2:dq (ns.map D.int) k=some (.int v)):Pr rP [.d (a_ ns),.d (.int k)] (rd (.int v)):=by
 intro q S;unfold rP K6;simp only[↓ev,bj,h1,decide_true,h2,eW]
theorem XI(ns:List Int)(k:Int)(h1:(k<(ns.length:Int))=False):Pr rP [.d (a_ ns),.d (.int k)] (rd (.int 0)):=by
 intro q S;unfold rP K6;simp only[↓ev,bj,h1,decide_false,aI,eW]
theorem LD(ns:List Int)(k:Nat):∃v,Pr rP [.d (a_ ns),.d (.int k)] (rd (.int v)):=by
 by_cases h:k<ns.length
 .exact⟨_,XH ns k _ (br (by lia)) (uN (by rw[fU,iN h];rfl))⟩
 .exact⟨_,XI ns k (eq_false (by lia))⟩
noncomputable abbrev UG:List D:=[.int 2,.int 128,.int 8192,.int 524288,.int 33554432]
theorem LR(ns:List Int)(k a bW c0 c d:Int)(h0:Pr rP [.d (a_ ns),.d (.int 0)] (rd (.int c0)))(hk:Pr rP [.d (a_ ns),.d (.int k)] (rd (.int c)))(e:(c0%2 == 1)=true)
  (ha:dq UG a=some (.int d)) (d0:(0<d)=True) (d1:(d<1073741824)=True) (m0:(0<bW)=True):Pr h_ [.d (a_ ns),.d (.int k),.d (.int a),.d (.int bW)] (rd (.int (c / d%64%bW))):=by
 intro q S;unfold h_ KL;simp only[↓ev,hk,aO,h0,decide_true,aI,fI,e,ha,d0,d1,and_self,m0,eW]
theorem LS(ns:List Int)(k a bW c0 c:Int)(h0:Pr rP [.d (a_ ns),.d (.int 0)] (rd (.int c0)))(hk:Pr rP [.d (a_ ns),.d (.int k)] (rd (.int c)))(e:(c0%2 == 1)=false)
  (k0:0<=k) (k1:k<1000) (a0:0<=a) (a1:a<1000) (m0:(0<bW)=True):∃v,Pr h_ [.d (a_ ns),.d (.int k),.d (.int a),.d (.int bW)] (rd (.int (v%bW))):=by
 have mk:((-(2^64)<k/\k<2^64 \/ -(2^64)<k/\k<2^64)=True):=br (.inl ⟨by lia,by lia⟩)
 have m1:∀x:Int,(((-(2^64):Int)<1009/\(1009:Int)<2^64 \/ -(2^64)<x/\x<2^64)=True):=λx=>br (.inl ⟨by decide,by decide⟩)
 have m2:∀x:Int,((-(2^64)<x/\x<2^64\/(-(2^64):Int)<48271/\(48271:Int)<2^64)=True):=λx=>br (.inr ⟨by decide,by decide⟩)
 have m3:∀x:Int,(((-(2^64):Int)<5/\(5:Int)<2^64 \/ -(2^64)<x/\x<2^64)=True):=λx=>br (.inl ⟨by decide,by decide⟩)
 have m4:∀x:Int,(((-(2^64):Int)<2/\(2:Int)<2^64 \/ -(2^64)<x/\x<2^64)=True):=λx=>br (.inl ⟨by decide,by decide⟩)
 have m5:∀x:Int,((-(2^64)<x/\x<2^64\/(-(2^64):Int)<69621+2*a/\69621+2*a<2^64)=True):=λx=>br (.inr ⟨by lia,by lia⟩)
 refine⟨((c%1000003+k*k+1009*a+7)*48271%999983+5*k+a)*(69621+2*a)%1000033,?_⟩;intro q S;unfold h_ KL;simp only[↓ev,hk,aO,h0,decide_true,aI,fI,e,mk,m1,m2,m3,m4,m5,m0,eW]
def bw(ns:List Int)(k a:Nat)(bW:Int):Int:=match h_ 0 [.d (a_ ns),.d (.int k),.d (.int a),.d (.int bW)] ⟨[],[]⟩ with
 |some (.ok (.v (.d (.int v))) _)=>v
 |_=>0
theorem f1l:∀a:Nat,a<5->∃d:Int,dq UG (a:Int)=some (.int d)/\0<d/\d<1073741824
 |0,_=>⟨2,rfl,by decide,by decide⟩
 |1,_=>⟨128,rfl,by decide,by decide⟩
 |2,_=>⟨8192,rfl,by decide,by decide⟩
 |3,_=>⟨524288,rfl,by decide,by decide⟩
 |4,_=>⟨33554432,rfl,by decide,by decide⟩
 |n+5,h=>cJ h (by lia)
theorem ia(ns:List Int)(k a:Nat)(bW:Int)(hk:k<1000)(ha:a<5)(m0:0<bW):Pr h_ [.d (a_ ns),.d (.int k),.d (.int a),.d (.int bW)] (rd (.int (bw ns k a bW)))/\0<=bw ns k a bW/\bw ns k a bW<bW:=by
 obtain⟨c0,h0⟩:=LD ns 0;obtain⟨c,h1⟩:=LD ns k;obtain⟨v,e⟩:∃v,Pr h_ [.d (a_ ns),.d (.int k),.d (.int a),.d (.int bW)] (rd (.int (v%bW))):=by
  cases e:(c0%2 == 1) with
  |true=>
   obtain⟨d,d1,d2,d3⟩:=f1l a ha;exact⟨_,LR ns k a bW c0 c d h0 h1 e d1 (br d2) (br d3) (br m0)⟩
  |false=>exact LS ns k a bW c0 c h0 h1 e (by lia) (by lia) (by lia) (by lia) (br m0)
 have z:bw ns k a bW=v%bW:=by unfold bw;rw[e]
 rw[z];exact⟨e,Int.emod_nonneg _ (by lia),Int.emod_lt_of_pos _ m0⟩
theorem Aq(ns:List Int)(k:Nat)(bW:Int)(hk:k<1000)(m0:0<bW):Pr mF [.d (a_ ns),.d (.int k),.d (.int bW)] (rd (.int (bw ns k 0 bW))):=by
 have h:=(ia ns k 0 bW hk (by decide) m0).1
 have h:Pr h_ [.d (a_ ns),.d (.int k),.d (.int 0),.d (.int bW)] _:=h;intro q S;unfold mF Qz;simp only[↓ev,h,eW]
theorem yD(ns:List Int)(k:Nat)(bW:Int)(hk:k<1000)(m0:0<bW):Pr kR [.d (a_ ns),.d (.int k),.d (.int bW)] (rd (.int (bw ns k 1 bW))):=by
 have h:=(ia ns k 1 bW hk (by decide) m0).1
 have h:Pr h_ [.d (a_ ns),.d (.int k),.d (.int 1),.d (.int bW)] _:=h;intro q S;unfold kR PX;simp only[↓ev,h,eW]
theorem Ag(ns:List Int)(k:Nat)(bW:Int)(hk:k<1000)(m0:0<bW):Pr o9 [.d (a_ ns),.d (.int k),.d (.int bW)] (rd (.int (bw ns k 2 bW))):=by
 have h:=(ia ns k 2 bW hk (by decide) m0).1
 have h:Pr h_ [.d (a_ ns),.d (.int k),.d (.int 2),.d (.int bW)] _:=h;intro q S;unfold o9 PY;simp only[↓ev,h,eW]
variable{i:Nat}
noncomputable abbrev HH:Str:="abcdefghijklmnopqrstuvwxyz"
abbrev iQ:List Nat:=HH.cps.toList
theorem A5:iQ.length=26:=by decide +kernel
theorem RQ:(HH.length<=1000000)=True:=br (by decide +kernel)
theorem e7v:iQ.Nodup:=by decide +kernel
theorem Al(k:Int)(h0:0<=k)(h1:k<26):dq iQ k=some (iQ.getD k.toNat 0):=Yv 0 h0 (by rw[A5];exact h1)
theorem Fp:∀i:Nat,i<26->∀n:Nat,n<9->MulOk ⟨#[iQ.getD i 0]⟩ (n:Int):=by decide +kernel
theorem Fq:∀i:Nat,i<26->∀n:Nat,n<9->Txt.mul ⟨#[iQ.getD i 0]⟩ (n:Int)=⟨(List.replicate n (iQ.getD i 0)).toArray⟩:=by decide +kernel
theorem Ba(i:Nat)(hi:i<26)(n:Nat)(hn:n<9):MulOk ⟨#[iQ.getD i 0]⟩ (n:Int)/\Txt.mul ⟨#[iQ.getD i 0]⟩ (n:Int)=⟨(List.replicate n (iQ.getD i 0)).toArray⟩:=⟨Fp i hi n hn,Fq i hi n hn⟩
theorem RT(a b:List Nat):(⟨a.toArray⟩:Str)++(⟨b.toArray⟩:Str)=⟨(a++b).toArray⟩:=by
 show(⟨a.toArray++b.toArray⟩:Str)=_
 simp_all
theorem Fs(ns:List Int)(q n b m:Int)(c:Nat)(z:Str)(hp:Pr mF [.d (a_ ns),.d (.int q),.d (.int 26)] (rd (.int b)))(ho:Pr kR [.d (a_ ns),.d (.int q),.d (.int 3)] (rd (.int 0)))
  (we:dq iQ ((b+n / 8)%26)=some c) (em:1+n%8=m) (hm:MulOk ⟨#[c]⟩ m=True) (hz:Txt.mul ⟨#[c]⟩ m=z):Pr t5 [.d (a_ ns),.d (.int q),.d (.int n)] (rd (.str z)):=by
 intro q' S;unfold t5 K8;simp only[↓ev,aO,hp,ho,aI,fI,fV,and_self,decide_true,RQ,we,em,hm,hz,eW]
theorem Ft(ns:List Int)(q n b v t sp r:Int)(cr cc:Nat)(z1 z2 z3 z4:Str)(hp:Pr mF [.d (a_ ns),.d (.int q),.d (.int 26)] (rd (.int b)))(ho:Pr kR [.d (a_ ns),.d (.int q),.d (.int 3)] (rd (.int v)))(hv:(v == 0)=false)
  (ht:Pr o9 [.d (a_ ns),.d (.int q),.d (.int 8)] (rd (.int t))) (hs:Pr kR [.d (a_ ns),.d (.int q),.d (.int (1+t))] (rd (.int sp))) (hr:Pr h_ [.d (a_ ns),.d (.int q),.d (.int 3),.d (.int 26)] (rd (.int r)))
  (Mm:dq iQ r=some cr) (hac:dq iQ ((7*n+b)%26)=some cc) (h7:((-(2^64):Int)<7/\(7:Int)<2^64 \/ -(2^64)<n/\n<2^64)=True) (m1:MulOk ⟨#[cr]⟩ sp=True) (e1:Txt.mul ⟨#[cr]⟩ sp=z1) (m2:MulOk ⟨#[cr]⟩ (1+t - 1 - sp)=True) (e2:Txt.mul ⟨#[cr]⟩ (1+t - 1 - sp)=z2)
  (l1:(z1.length+(⟨#[cc]⟩:Str).length<=1000000)=True) (e3:z1++(⟨#[cc]⟩:Str)=z3) (l2:(z3.length+z2.length<=1000000)=True) (e4:z3++z2=z4):Pr t5 [.d (a_ ns),.d (.int q),.d (.int n)] (rd (.str z4)):=by
 intro q' S;unfold t5 K8;simp only[↓ev,aO,hp,ho,aI,fI,hv,ht,hs,hr,RQ,Mm,m1,e1,h7,decide_true,hac,l1,e3,m2,e2,l2,e4,eW]
def wo(ns:List Int)(q n:Nat):List Nat:=if bw ns q 1 3=0 then List.replicate (1+n%8) (iQ.getD (((bw ns q 0 26).toNat+n / 8)%26) 0)
 else List.replicate (bw ns q 1 (1+bw ns q 2 8)).toNat (iQ.getD (bw ns q 3 26).toNat 0)++iQ.getD ((7*n+(bw ns q 0 26).toNat)%26) 0::List.replicate ((bw ns q 2 8).toNat - (bw ns q 1 (1+bw ns q 2 8)).toNat) (iQ.getD (bw ns q 3 26).toNat 0)
def kq(ns:List Int)(q n:Nat):Str:=⟨(wo ns q n).toArray⟩
theorem w_(l:List Nat):(⟨l.toArray⟩:Str).length=l.length:=by show l.toArray.size=_;simp
theorem II(ns:List Int)(q:Nat)(hq:q<1000)(n:Nat)(hn:n<20):Pr t5 [.d (a_ ns),.d (.int q),.d (.int n)] (rd (.str (kq ns q n))):=by
 obtain⟨p1,p2,p3⟩:=ia ns q 0 26 hq (by decide) (by decide)
 obtain⟨o1,o2,o3⟩:=ia ns q 1 3 hq (by decide) (by decide)
 obtain⟨t1,t2,t3⟩:=ia ns q 2 8 hq (by decide) (by decide)
 obtain⟨r1,r2,r3⟩:=ia ns q 3 26 hq (by decide) (by decide)
 obtain⟨s1,s2,s3⟩:=ia ns q 1 (1+bw ns q 2 8) hq (by decide) (by lia)
 have hp:=Aq ns q 26 hq (by decide)
 have ho:=yD ns q 3 hq (by decide)
 have ht:=Ag ns q 8 hq (by decide)
 have hs:=yD ns q (1+bw ns q 2 8) hq (by lia)
 unfold kq wo;split
 .rename_i h
  rw[h] at ho;have ei:(((bw ns q 0 26).toNat+n / 8)%26:Nat)=((bw ns q 0 26+(n:Int) / 8)%26).toNat:=by lia
  rw[ei];obtain⟨q1,q2⟩:=Ba ((bw ns q 0 26+(n:Int) / 8)%26).toNat (by lia) (1+n%8) (by lia)
  exact Fs ns q n _ ((1+n%8:Nat):Int) _ _ hp ho (Al _ (by lia) (by lia)) (by lia) (br q1) q2
 .rename_i h
  have ei:((7*n+(bw ns q 0 26).toNat)%26:Nat)=((7*(n:Int)+bw ns q 0 26)%26).toNat:=by lia
  rw[ei];obtain⟨q1,q2⟩:=Ba (bw ns q 3 26).toNat (by lia) (bw ns q 1 (1+bw ns q 2 8)).toNat (by lia)
  obtain⟨q3,q4⟩:=Ba (bw ns q 3 26).toNat (by lia) ((bw ns q 2 8).toNat - (bw ns q 1 (1+bw ns q 2 8)).toNat) (by lia)
  rw[show(((bw ns q 1 (1+bw ns q 2 8)).toNat:Nat):Int)=bw ns q 1 (1+bw ns q 2 8) by lia] at q1 q2
  rw[show(((bw ns q 2 8).toNat - (bw ns q 1 (1+bw ns q 2 8)).toNat:Nat):Int)=1+bw ns q 2 8 - 1 - bw ns q 1 (1+bw ns q 2 8) by lia] at q3 q4
  refine Ft ns q n _ _ _ _ _ _ _ _ _ (⟨(List.replicate (bw ns q 1 (1+bw ns q 2 8)).toNat (iQ.getD (bw ns q 3 26).toNat 0)++[iQ.getD ((7*(n:Int)+bw ns q 0 26)%26).toNat 0]).toArray⟩:Str) _ hp ho (by simpa using h) ht hs r1 (Al _ r2 r3) (Al _ (by lia) (by lia)) (br (.inl ⟨by decide,by decide⟩)) (br q1) q2 (br q3) q4 (br ?_) ?_ (br ?_) ?_
  .rw[w_,sQ];show _+1<=_;lia
  .exact RT _ [_]
  .rw[w_,w_,dz,sQ,sQ];simp only[qq2,qq3];lia
  .rw[RT,qF];rfl
theorem HV{l:List Nat}(h:i<l.length):l.getD i 0∈l:=by
 simp_all
theorem QH(ns:List Int)(q:Nat)(hq:q<1000)(n:Nat):∀c∈wo ns q n,c∈iQ:=by
 obtain⟨r1,r2,r3⟩:=ia ns q 3 26 hq (by decide) (by decide)
 intro c hc;unfold wo at hc;split at hc
 .rw[List.eq_of_mem_replicate hc];exact HV (by rw[A5];lia)
 .rw[jC,y0a] at hc;rcases hc with hc|hc|hc
  .rw[List.eq_of_mem_replicate hc];exact HV (by rw[A5];lia)
  .rw[hc];exact HV (by rw[A5];lia)
  .rw[List.eq_of_mem_replicate hc];exact HV (by rw[A5];lia)
theorem Cw(ns:List Int)(q:Nat)(hq:q<1000)(n:Nat):1<=(wo ns q n).length/\(wo ns q n).length<=8:=by
 obtain⟨t1,t2,t3⟩:=ia ns q 2 8 hq (by decide) (by decide)
 obtain⟨s1,s2,s3⟩:=ia ns q 1 (1+bw ns q 2 8) hq (by decide) (by lia)
 unfold wo;split
 .rw[sQ];lia
 .rw[dz,l_,sQ,sQ];lia
theorem QI{j:Nat}(hi:i<26)(hj:j<26)(e:iQ.getD i 0=iQ.getD j 0):i=j:=by
 have h1:i<iQ.length:=by rw[A5];exact hi
 have h2:j<iQ.length:=by rw[A5];exact hj
 rw[BL,iN h1,BL,iN h2] at e;exact(Gv e7v).mp e
theorem Tc(ns:List Int)(q:Nat)(hq:q<1000)(n m:Nat)(hn:n<20)(hm:m<20)(e:kq ns q n=kq ns q m):n=m:=by
 obtain⟨p1,p2,p3⟩:=ia ns q 0 26 hq (by decide) (by decide)
 have e:wo ns q n=wo ns q m:=by
  grind [kq]
 unfold wo at e;split at e
 .have l:=congrArg List.length e;rw[sQ,sQ] at l;have z:iQ.getD (((bw ns q 0 26).toNat+n / 8)%26) 0=iQ.getD (((bw ns q 0 26).toNat+m / 8)%26) 0:=by
   simp_all
  have:=QI (by lia) (by lia) z
  lia
 .have e:=List.append_cancel_left e;rw[List.cons.injEq] at e;have:=QI (by lia) (by lia) e.1
  lia
theorem e1b:∀c∈iQ,(Builtin.Str.occurrences HH ⟨#[c]⟩ 0 HH.length 1).isEmpty=false:=by decide +kernel
theorem e7w(c:Nat)(h:c∈iQ):(Builtin.Str.occurrences (Str.ofString "abcdefghijklmnopqrstuvwxyz") (kF c) 0 (Str.ofString "abcdefghijklmnopqrstuvwxyz").length 1).isEmpty=false:=e1b c h
theorem QJ:∀n:Nat,(List.replicate n true).all id=true
 |0=>rfl
 |n+1=>by rw[List.replicate_succ,vP,QJ n];rfl
theorem KP:∀bs:List Bool,iH (bs.map D.bl)=some bs
 |[]=>rfl
 |b::bs=>by rw[cU];unfold iH;rw[KP bs];rfl
theorem P5(l:List Nat)(h1:1<=l.length)(h2:l.length<=8)(hc:∀c∈l,c∈iQ):Pr q_ [.d (.str ⟨l.toArray⟩)] (rd (.bl true)):=by
 have e:∀q S,bq (ae 0) (jB true) (Hi q) (l.map λc=>.str (kF c)) [none] S []=some (.ok ((List.replicate l.length true).map D.bl) S):=λq S=>by
  rw[v_ (λ_=>D.bl true) l (by lia) λc m=>⟨rd (.bl true),by
   have h:=e7w c (hc c m);unfold Hi;simp only[↓ev,aI,h,oQ],rfl⟩,List.map_replicate,List.map_const']
 have c1:(1<=((⟨l.toArray⟩:Str).length:Int))=True:=br (by rw[w_];lia)
 have c2:(((⟨l.toArray⟩:Str).length:Int)<=8)=True:=br (by rw[w_];lia)
 have c3:((⟨l.toArray⟩:Str).length<=1000000)=True:=br (by rw[w_];lia)
 intro q S;unfold q_ DG;simp only[↓ev,Fd,aI,c3,c1,decide_true,c2,e,KP,QJ,eW]
abbrev P0(M:Nat->GM)(vs:List Val)(r:Rv):Prop:=∀S,M 0 vs S=some (.ok r S)
noncomputable abbrev dS(xs:List Str):List D:=xs.map D.str
theorem jJ(x:Str):∀xs:List Str,((dS xs).any λz=>g7 z (.str x))=xs.contains x
 |[]=>rfl
 |y::r=>by
  rw[dS,cU,List.any_cons,<-dS,jJ x r,List.contains_cons,iJ]
  congr 1
  exact BEq.comm
theorem jS(n:Nat)(xs:List Str):(dS xs).all (fS n)=true:=by
 rw[oO];intro d hd;obtain⟨y,_,rfl⟩:=jQ.mp hd;cases n <;> rfl
theorem RU(xs:List Str)(i:Nat)(y:Str):(dS xs).take i++.str y::(dS xs).drop i=dS (oq xs i y):=by
 grind [oq,List.map_take,List.map_drop]
noncomputable abbrev bU(S:aU)(xs:List D):aU:=⟨S.s++[.o (.lst xs)],S.r⟩
section
variable{S:aU}{ns:List Int}{k j sp d ll:Int}{s2 s3 s4:aj Val}{gP:List D}{outs:List Str}{y:Str}{a9:aj Val}
theorem f1m(hl:(gP.length:Int)=ll)(hd:Pr h_ [.d (a_ ns),.d (.int (6+k)),.d (.int (1+j)),.d (.int ll)] (rd (.int d)))(ha:dq gP d=some (.str y))(hc:outs.contains y=true):
  wV 0 [some (.d (a_ ns)),some (.d (.int k)),s2,s3,s4,some (.d (.lst gP)),some (.c S.s.length),some (.d (.int sp)),some (.d (.int j)),a9] (bU S (dS outs))=some (.nx [some (.d (a_ ns)),some (.d (.int k)),s2,s3,s4,some (.d (.lst gP)),some (.c S.s.length),some (.d (.int sp)),some (.d (.int j)),some (.d (.str y))] (bU S (dS outs))):=by
 unfold wV;simp only[↓ev,hl,hd,ha,aO,de,jS,jJ,hc,mf,aI]
abbrev W3:List D:=[.int 1,.int 4,.int 16]
theorem e7x{w ol p:Int}{o2:List Str}(hl:(gP.length:Int)=ll)(hd:Pr h_ [.d (a_ ns),.d (.int (6+k)),.d (.int (1+j)),.d (.int ll)] (rd (.int d)))(ha:dq gP d=some (.str y))(hc:outs.contains y=false)
  (hw:dq W3 j=some (.int w)) (w0:(0<w)=True) (w1:(w<1073741824)=True) (el:((dS outs).length:Int)=ol) (o0:(0<ol+1)=True) (hp:sp / w%4%(ol+1)=p) (p0:(0<=p)=True) (p1:(p<2^62)=True) (p2:((dS outs).length<1000000)=True) (h2:(dS outs).take p.toNat++.str y::(dS outs).drop p.toNat=dS o2) :
  wV 0 [some (.d (a_ ns)),some (.d (.int k)),s2,s3,s4,some (.d (.lst gP)),some (.c S.s.length),some (.d (.int sp)),some (.d (.int j)),a9] (bU S (dS outs))=some (.nx [some (.d (a_ ns)),some (.d (.int k)),s2,s3,s4,some (.d (.lst gP)),some (.c S.s.length),some (.d (.int sp)),some (.d (.int j)),some (.d (.str y))] (bU S (dS o2))):=by
 unfold wV;simp only[↓ev,hl,hd,ha,aO,de,jS,jJ,hc,oQ,aI,hw,w0,w1,and_self,decide_true,el,o0,hp,p0,p1,p2,h2,jx]
end
theorem QK(ds:List D)(n:Nat):cutD ds (some (n:Int)) none=ds.drop n:=by
 unfold cutD;have e:HT.cK ds.length 0 (some (n:Int))=min n ds.length:=by
  unfold HT.cK;simp;lia
 have e2:HT.cK ds.length ds.length none=ds.length:=rfl;rw[e,e2];by_cases h:n<=ds.length
 .rw[Nat.min_eq_left h];exact GC (by rw[C1];exact bV _)
 .rw[Nat.min_eq_right (by lia),List.drop_eq_nil_of_le (bV _),List.drop_eq_nil_of_le (by lia),List.take_nil]
theorem XJ(xs:List Str)(k:Nat)(y:Str):(oq xs k y).Perm (y::xs):=by
 unfold oq;refine(List.perm_middle (l₁:=xs.take k) (l₂:=xs.drop k)).trans ?_;rw[List.take_append_drop]
theorem RV{xs:List Str}{k:Nat}{y:Str}(h:xs.Nodup)(hy:y∉xs):(oq xs k y).Nodup:=(XJ xs k y).nodup_iff.mpr (t_.mpr ⟨hy,h⟩)
structure qZ (later carts:List Str) (hd:Str) (outs:List Str):Prop where
 nd:outs.Nodup
 sub:∀o∈outs,o∈later++carts
 ne:outs≠[]
 hand:hd∈outs\/∃o∈outs,o∈later
 len:outs.length<=4
theorem Io{xs:List Str}{k:Int}(h0:0<=k)(h1:k<xs.length):dq (dS xs) k=some (.str (xs.getD k.toNat "")):=by
 have Mt:k.toNat<xs.length:=by lia
 have e:(dS xs)[k.toNat]?=some (.str (xs.getD k.toNat "")):=by simp[Mt]
 have z:=uN e
 rwa[show((k.toNat:Nat):Int)=k by lia] at z
theorem XM{xs:List Str}{i:Nat}(h:i<xs.length):xs.getD i ""∈xs:=by
 simp_all
theorem f1n:∀j:Nat,j<3->∃d:Int,dq W3 (j:Int)=some (.int d)/\0<d/\d<1073741824
 |0,_=>⟨1,rfl,by decide,by decide⟩
 |1,_=>⟨4,rfl,by decide,by decide⟩
 |2,_=>⟨16,rfl,by decide,by decide⟩
 |n+3,h=>cJ h (by lia)
abbrev qt(S:aU)(ns:List Int)(k sp:Int)(s2:aj Val)(carts later:List Str)(a8 a9:aj Val):Gm:=[some (.d (a_ ns)),some (.d (.int k)),s2,some (.d (.lst (dS carts))),some (.d (.lst (dS later))),some (.d (.lst (dS (later++carts)))),some (.c S.s.length),some (.d (.int sp)),a8,a9]
theorem e1c(ns:List Int)(k j:Nat)(sp:Int)(s2:aj Val)(carts later outs:List Str)(a9:aj Val)(hk:k<5)(hj:j<3)(sl:0<(later++carts).length)(Jw:(later++carts).length<=100)(nd:outs.Nodup)(sb:∀o∈outs,o∈later++carts)(ol:outs.length<=j):
  ∃o2 y,o2.Nodup/\(∀o∈o2,o∈later++carts)/\o2.length<=j+1/\o2≠[]/\∀S,wV 0 (qt S ns k sp s2 carts later (some (.d (.int j))) a9) (bU S (dS outs))=some (.nx (qt S ns k sp s2 carts later (some (.d (.int j))) (some (.d (.str y)))) (bU S (dS o2))):=by
 obtain⟨d1,d2,d3⟩:=ia ns (6+k) (1+j) ((later++carts).length:Int) (by lia) (by lia) (by lia)
 rw[show((6+k:Nat):Int)=6+(k:Int) by lia,show((1+j:Nat):Int)=1+(j:Int) by lia] at d1
 have ha:=Io (xs:=later++carts) d2 d3;have hm:(later++carts).getD (bw ns (6+k) (1+j) ((later++carts).length:Int)).toNat ""∈later++carts:=XM (by lia)
 generalize(later++carts).getD (bw ns (6+k) (1+j) ((later++carts).length:Int)).toNat ""=y at ha hm;have hl:((dS (later++carts)).length:Int)=((later++carts).length:Int):=by rw[bj]
 cases hc:outs.contains y with
 |true=>
  refine⟨outs,y,nd,sb,by lia,λz=>?_,λS=>f1m hl d1 ha hc⟩
  simp_all
 |false=>
  obtain⟨w,w1,w2,w3⟩:=f1n j hj;have o0:(0:Int)<(outs.length:Int)+1:=by lia
  have el:((dS outs).length:Int)=(outs.length:Int):=by rw[bj]
  have p0:0<=sp / w%4%((outs.length:Int)+1):=Int.emod_nonneg _ (by lia)
  have p1:sp / w%4%((outs.length:Int)+1)<(outs.length:Int)+1:=Int.emod_lt_of_pos _ o0;have hy:y∉outs:=by simpa using hc
  refine⟨_,y,RV (k:=(sp / w%4%((outs.length:Int)+1)).toNat) nd hy,λo ho=>?_,by rw[HL];lia,λz=>?_,λS=>e7x hl d1 ha hc w1 (br w2) (br w3) el (br o0) rfl (br p0) (br (by lia)) (br (by rw[bj];lia)) (RU _ _ _)⟩
  .rcases l5.mp ho with z|z
   .rw[z];exact hm
   .exact sb o z
  grind [HL]
theorem Pk(q:Nat)(S:aU)(outs later:List Str)(h:outs.length<=1000):bq (ae 0) (Kv q) (Kw q) (dS outs) [none,some (.d (.lst (dS later)))] S []=some (.ok (dS (outs.filter λo=>later.contains o)) S):=by
 rw[dS,xp (λo=>if later.contains o=true then some (.str o) else none) outs (by lia) λo m=>by
  unfold Kv Kw;cases hc:later.contains o with
  |true=>exact .inr ⟨rd (.str o),.str o,rfl,by simp only[↓ev,jS,aI,jJ,hc],by simp only[↓ev],rfl⟩
  |false=>exact .inl ⟨rfl,by simp only[↓ev,jS,aI,jJ,hc]⟩]
 congr 2
 induction outs with
 |nil=>rfl
 |cons o r ih=>
  grind
section
variable{S:aU}{ns:List Int}{k sp r:Int}{later carts o1 outs:List Str}{names:List D}{hand:Str}{a8 a9:aj Val}
structure wM (S:aU) (ns:List Int) (k sp r:Int) (later carts o1:List Str) (names:List D) (hand:Str) (a8 a9:aj Val):Prop where
 c1:cutD names (some (k+1)) none=dS later
 c2:((dS later).length+(dS carts).length<=1000000)=True
 ht:Pr o9 [.d (a_ ns),.d (.int (1+k)),.d (.int 64)] (rd (.int sp))
 hp:Pr mF [.d (a_ ns),.d (.int (6+k)),.d (.int 3)] (rd (.int r))
 hi:Nat.ble (1+r).natAbs 1000000000000=true
 ap:dS later++dS carts=dS (later++carts)
 hl:aJ (ae 8) (wV 0) (fK 0 (1+r).toNat) (qt S ns k sp (some (.d (.lst names))) carts later none none) (bU S [])=some (.nx (qt S ns k sp (some (.d (.lst names))) carts later a8 a9) (bU S (dS o1)))
 we:dq (dS carts) 0=some (.str hand)
theorem e1d(h:wM S ns k sp r later carts o1 names hand a8 a9)(hc:o1.contains hand=true):tF 0 [.d (a_ ns),.d (.int k),.d (.lst names),.d (.lst (dS carts))] S=some (.ok (.o (.lst (dS o1))) S):=by
 obtain⟨c1,c2,ht,hp,hi,ap,hl,we⟩:=h;unfold tF HQ;simp only[↓ev,c1,aO,c2,ap,aI,ht,hp,hi,fP,hl,qt,bU,we,de,jS,jJ,hc,mf,wm,rW]
theorem e1e(h:wM S ns k sp r later carts o1 names hand a8 a9)(hc:o1.contains hand=false)(hlen:o1.length<=1000){n:Int}(hn:((dS (o1.filter λo=>later.contains o)).length:Int)=n)(hz:(n == 0)=false):tF 0 [.d (a_ ns),.d (.int k),.d (.lst names),.d (.lst (dS carts))] S=some (.ok (.o (.lst (dS o1))) S):=by
 obtain⟨c1,c2,ht,hp,hi,ap,hl,we⟩:=h;have e:=λq S=>Pk q S o1 later hlen
 unfold tF HQ;simp only[↓ev,c1,aO,c2,ap,aI,ht,hp,hi,fP,hl,qt,bU,we,de,jS,jJ,hc,oQ,e,hn,fI,hz,wm,rW]
theorem ZU(h:wM S ns k sp r later carts o1 names hand a8 a9)(hc:o1.contains hand=false)(hlen:o1.length<=1000)(hn:((dS (o1.filter λo=>later.contains o)).length:Int)=0){d ol:Int}(el:((dS o1).length:Int)=ol)(hd:Pr h_ [.d (a_ ns),.d (.int (1+k)),.d (.int 3),.d (.int (ol+1))] (rd (.int d)))
  (p0:(0<=d)=True) (p1:(d<2^62)=True) (p2:((dS o1).length<1000000)=True) (h2:(dS o1).take d.toNat++.str hand::(dS o1).drop d.toNat=dS outs):tF 0 [.d (a_ ns),.d (.int k),.d (.lst names),.d (.lst (dS carts))] S=some (.ok (.o (.lst (dS outs))) S):=by
 obtain⟨c1,c2,ht,hp,hi,ap,hl,we⟩:=h;have e:=λq S=>Pk q S o1 later hlen
 unfold tF HQ;simp only[↓ev,c1,aO,c2,ap,aI,ht,hp,hi,fP,hl,qt,bU,we,de,jS,jJ,hc,oQ,e,hn,fI,fV,el,hd,p0,p1,p2,and_self,h2,jx,wm,rW]
end
theorem HW{n i:Nat}{d r:List Nat}(e:List.range n=d++i::r):d.length=i/\i<n:=by
 have h2:d.length<n:=by have:=congrArg List.length e;simp at this;lia
 have h1:=congrArg (λl=>l[d.length]?) e
 simp only[ua (bV _),N6,qq0] at h1;rw[BI h2] at h1;have:=Option.some.inj h1;exact⟨this,this ▸ h2⟩
theorem qw(n:Nat):fK 0 n=(List.range n).map λ(i:Nat)=>D.int (i:Int):=by
 unfold fK;simp only[Int.zero_add]
theorem e7y(ns:List Int)(k:Nat)(names carts:List Str)(hand:Str)(hk:k<5)(hl:names.length<=5)(hh:carts.head?=some hand)(hc:carts.length<=4):
  ∃outs,qZ (names.drop (k+1)) carts hand outs/\∀S,tF 0 [.d (a_ ns),.d (.int k),.d (.lst (dS names)),.d (.lst (dS carts))] S=some (.ok (.o (.lst (dS outs))) S):=by
 have hc0:0<carts.length:=by cases carts with|nil=>cases hh|cons a b=>simp
 obtain⟨r1,r2,r3⟩:=ia ns (6+k) 0 3 (by lia) (by decide) (by decide)
 have hp:=Aq ns (6+k) 3 (by lia) (by decide)
 have ht:=Ag ns (1+k) 64 (by lia) (by decide)
 rw[show((6+k:Nat):Int)=6+(k:Int) by lia] at hp
 rw[show((1+k:Nat):Int)=1+(k:Int) by lia] at ht
 have sl:0<(names.drop (k+1)++carts).length:=by rw[dz];lia
 have Jw:(names.drop (k+1)++carts).length<=100:=by rw[dz,C1];lia
 obtain⟨⟨o1,a8,a9⟩,⟨nd,sb,ol,one⟩,e1⟩:=S8 (gg:=ae 8) (body:=wV 0) (f:=λ(i:Nat)=>D.int (i:Int)) (λ(b:List Str×aj Val×aj Val) S=>(qt S ns k (bw ns (1+k) 2 64) (some (.d (.lst (dS names)))) carts (names.drop (k+1)) b.2.1 b.2.2,bU S (dS b.1)))
  (λpre b=>b.1.Nodup/\(∀o∈b.1,o∈names.drop (k+1)++carts)/\b.1.length<=pre.length/\(pre≠[]->b.1≠[])) (List.range (1+bw ns (6+k) 0 3).toNat) ([],none,none)
  ⟨JJ,λo m=>(by cases m),bV _,λz=>cJ rfl z⟩ (by
   rintro d i r eq ⟨outs,a8,a9⟩ ⟨nd,sb,ol,_⟩;obtain⟨hq,hi⟩:=HW eq;obtain⟨o2,y,n2,s2,l2,ne2,e2⟩:=e1c ns k i (bw ns (1+k) 2 64) (some (.d (.lst (dS names)))) carts (names.drop (k+1)) outs a9 hk (by lia) sl Jw nd sb (kx ol (Gw hq))
   exact⟨(o2,some (.d (.int i)),some (.d (.str y))),⟨n2,s2,by rw[dz,wB,hq];exact l2,λ_=>ne2⟩,λS=>⟨_,rfl,.inl (e2 S)⟩⟩)
 dsimp only at nd sb ol one e1;rw[zL] at ol;have one:o1≠[]:=one (by intro z;have:=congrArg List.length z;simp at this;lia)
 have e1:=λS=>(congrArg (λl=>aJ (ae 8) (wV 0) l _ _) (qw _)).trans (e1 S)
 have we:dq (dS carts) 0=some (.str hand):=by
  cases carts with
  |nil=>cases hh
  |cons a b=>cases hh;exact uN (xs:=D.str hand::b.map D.str) (j:=0) rfl
 have hm:hand∈names.drop (k+1)++carts:=rG _ (List.mem_of_mem_head? hh);have H:∀S,wM S ns k (bw ns (1+k) 2 64) (bw ns (6+k) 0 3) (names.drop (k+1)) carts o1 (dS names) hand a8 a9:=λS=>⟨by rw[show(k:Int)+1=((k+1:Nat):Int) by lia,QK,dS,dS,JK],br (by rw[bj,bj,C1];lia),ht,hp,Oh (by lia),gF.symm,e1 S,we⟩
 cases ET:o1.contains hand with
 |true=>exact⟨o1,⟨nd,sb,one,.inl (by simpa using ET),by lia⟩,λS=>e1d (H S) ET⟩
 |false=>
  by_cases hf:(o1.filter λo=>(names.drop (k+1)).contains o).length=0
  .obtain⟨d1,d2,d3⟩:=ia ns (1+k) 3 ((o1.length:Int)+1) (by lia) (by decide) (by lia)
   rw[show((1+k:Nat):Int)=1+(k:Int) by lia] at d1
   have hy:hand∉o1:=by simpa using ET
   refine⟨_,⟨RV (k:=(bw ns (1+k) 3 ((o1.length:Int)+1)).toNat) nd hy,λo ho=>?_,λz=>?_,.inl (l5.mpr (.inl rfl)),by rw[HL];lia⟩,λS=>ZU (H S) ET (by lia) (by rw[bj,hf];rfl) (by rw[bj]) d1 (br d2) (br (by lia)) (br (by rw[bj];lia)) (RU _ _ _)⟩
   .rcases l5.mp ho with z|z
    .rw[z];exact hm
    .exact sb o z
   grind [HL]
  .refine⟨o1,⟨nd,sb,one,.inr ?_,by lia⟩,λS=>e1e (H S) ET (by lia) rfl (by rw[bj];simp only[vR];lia)⟩
   simp_all
def ak(b:ao):D:=.tup [.str b.name,.int b.long,.bl b.ring,.lst (dS b.outs)]
def ay(h:aE):D:=.tup [.lst (h.af.map ak),.lst (dS h.carts)]
abbrev g8(S:aU)(ns:List Int)(names carts:List Str)(k:Int)(a5 a6:aj Val):Gm:=[some (.d (a_ ns)),some (.d (.lst (dS names))),some (.d (.lst (dS carts))),some (.c S.s.length),some (.d (.int k)),a5,a6]
section
variable{S:aU}{ns:List Int}{ki pv ov nl tv dv:Int}{names carts outs:List Str}{nm:Str}{bl:List D}{rg:Bool}{a5 a6:aj Val}
theorem hB0(hp:Pr mF [.d (a_ ns),.d (.int (1+ki)),.d (.int 3)] (rd (.int pv)))(hr:(pv == 0)=rg)(ho:Pr kR [.d (a_ ns),.d (.int (1+ki)),.d (.int 5)] (rd (.int ov)))(ha:dq (dS names) ki=some (.str nm))(hx:∀S,tF 0 [.d (a_ ns),.d (.int ki),.d (.lst (dS names)),.d (.lst (dS carts))] S=some (.ok (.o (.lst (dS outs))) S))(hb:(bl.length<1000000)=True)(e1:(ki == 0)=false):rO 0 (g8 S ns names carts ki a5 a6) (bU S bl)=some (.nx (g8 S ns names carts ki (some (.d (.bl rg))) (some (.d (.int (if rg=true then(1+ov)+1 else(1+ov)))))) (bU S (bl++[.tup [.str nm,.int (if rg=true then(1+ov)+1 else(1+ov)),.bl rg,.lst (dS outs)]]))):=by
 unfold rO g8 bU;cases rg with
 |true=>simp only[↓ev,hp,aI,fI,hr,aO,ho,e1,de,ha,hx,hb,jx]
 |false=>simp only[↓ev,hp,aI,fI,hr,aO,ho,e1,de,ha,hx,hb,jx]
theorem hB1(hp:Pr mF [.d (a_ ns),.d (.int (1+ki)),.d (.int 3)] (rd (.int pv)))(hr:(pv == 0)=rg)(ho:Pr kR [.d (a_ ns),.d (.int (1+ki)),.d (.int 5)] (rd (.int ov)))(ha:dq (dS names) ki=some (.str nm))(hx:∀S,tF 0 [.d (a_ ns),.d (.int ki),.d (.lst (dS names)),.d (.lst (dS carts))] S=some (.ok (.o (.lst (dS outs))) S))(hb:(bl.length<1000000)=True)(e1:(ki == 0)=true)(el:((dS names).length:Int)=nl)(e2:(nl<3)=False):rO 0 (g8 S ns names carts ki a5 a6) (bU S bl)=some (.nx (g8 S ns names carts ki (some (.d (.bl rg))) (some (.d (.int (if rg=true then(1+ov)+1 else(1+ov)))))) (bU S (bl++[.tup [.str nm,.int (if rg=true then(1+ov)+1 else(1+ov)),.bl rg,.lst (dS outs)]]))):=by
 unfold rO g8 bU;cases rg with
 |true=>simp only[↓ev,hp,aI,fI,hr,aO,ho,e1,el,e2,decide_false,de,ha,hx,hb,jx]
 |false=>simp only[↓ev,hp,aI,fI,hr,aO,ho,e1,el,e2,decide_false,de,ha,hx,hb,jx]
theorem hB2(hp:Pr mF [.d (a_ ns),.d (.int (1+ki)),.d (.int 3)] (rd (.int pv)))(hr:(pv == 0)=rg)(ho:Pr kR [.d (a_ ns),.d (.int (1+ki)),.d (.int 5)] (rd (.int ov)))(ha:dq (dS names) ki=some (.str nm))(hx:∀S,tF 0 [.d (a_ ns),.d (.int ki),.d (.lst (dS names)),.d (.lst (dS carts))] S=some (.ok (.o (.lst (dS outs))) S))(hb:(bl.length<1000000)=True)(e1:(ki == 0)=true)(el:((dS names).length:Int)=nl)(e2:(nl<3)=True)(ht:Pr o9 [.d (a_ ns),.d (.int 0),.d (.int 3)] (rd (.int tv)))(e3:(tv == 1)=false):rO 0 (g8 S ns names carts ki a5 a6) (bU S bl)=some (.nx (g8 S ns names carts ki (some (.d (.bl rg))) (some (.d (.int (if rg=true then(1+ov)+1 else(1+ov)))))) (bU S (bl++[.tup [.str nm,.int (if rg=true then(1+ov)+1 else(1+ov)),.bl rg,.lst (dS outs)]]))):=by
 unfold rO g8 bU;cases rg with
 |true=>simp only[↓ev,hp,aI,fI,hr,aO,ho,e1,el,e2,decide_true,ht,e3,de,ha,hx,hb,jx]
 |false=>simp only[↓ev,hp,aI,fI,hr,aO,ho,e1,el,e2,decide_true,ht,e3,de,ha,hx,hb,jx]
theorem hB3(hp:Pr mF [.d (a_ ns),.d (.int (1+ki)),.d (.int 3)] (rd (.int pv)))(hr:(pv == 0)=rg)(ho:Pr kR [.d (a_ ns),.d (.int (1+ki)),.d (.int 5)] (rd (.int ov)))(ha:dq (dS names) ki=some (.str nm))(hx:∀S,tF 0 [.d (a_ ns),.d (.int ki),.d (.lst (dS names)),.d (.lst (dS carts))] S=some (.ok (.o (.lst (dS outs))) S))(hb:(bl.length<1000000)=True)(e1:(ki == 0)=true)(el:((dS names).length:Int)=nl)(e2:(nl<3)=True)(ht:Pr o9 [.d (a_ ns),.d (.int 0),.d (.int 3)] (rd (.int tv)))(e3:(tv == 1)=true)(hd:Pr h_ [.d (a_ ns),.d (.int 0),.d (.int 3),.d (.int 14)] (rd (.int dv))):rO 0 (g8 S ns names carts ki a5 a6) (bU S bl)=some (.nx (g8 S ns names carts ki (some (.d (.bl rg))) (some (.d (.int (if rg=true then(10+dv)+1 else(10+dv)))))) (bU S (bl++[.tup [.str nm,.int (if rg=true then(10+dv)+1 else(10+dv)),.bl rg,.lst (dS outs)]]))):=by
 unfold rO g8 bU;cases rg with
 |true=>simp only[↓ev,hp,aI,fI,hr,aO,ho,e1,el,e2,decide_true,ht,e3,hd,de,ha,hx,hb,jx]
 |false=>simp only[↓ev,hp,aI,fI,hr,aO,ho,e1,el,e2,decide_true,ht,e3,hd,de,ha,hx,hb,jx]
end
theorem e1f(ns:List Int)(k:Nat)(names carts:List Str)(hand:Str)(bs:List ao)(a5 a6:aj Val)(hk:k<names.length)(hl:names.length<=5)(hh:carts.head?=some hand)(hc:carts.length<=4)(hb:bs.length<=100):
  ∃b:ao,b.name=names.getD k ""/\(1<=b.long/\b.long<=26/\(b.long<=6\/k=0/\names.length<3))/\(b.ring=true->2<=b.long)/\qZ (names.drop (k+1)) carts hand b.outs/\∃a5' Cd,∀S,rO 0 (g8 S ns names carts k a5 a6) (bU S (bs.map ak))=some (.nx (g8 S ns names carts k a5' Cd) (bU S ((bs++[b]).map ak))):=by
 have hp:=Aq ns (1+k) 3 (by lia) (by decide)
 have ho:=yD ns (1+k) 5 (by lia) (by decide)
 obtain⟨o1,o2,o3⟩:=ia ns (1+k) 1 5 (by lia) (by decide) (by decide)
 rw[show((1+k:Nat):Int)=1+(k:Int) by lia] at hp ho
 obtain⟨outs,ok,eo⟩:=e7y ns k names carts hand (by lia) hl hh hc
 have ha:=Io (xs:=names) (k:=(k:Int)) (by lia) (by lia)
 rw[JF] at ha;have ht:Pr o9 [.d (a_ ns),.d (.int 0),.d (.int 3)] _:=Ag ns 0 3 (by decide) (by decide)
 obtain⟨d1,d2,d3⟩:=ia ns 0 3 14 (by decide) (by decide) (by decide)
 have d1:Pr h_ [.d (a_ ns),.d (.int 0),.d (.int 3),.d (.int 14)] _:=d1;have el:((dS names).length:Int)=(names.length:Int):=by rw[bj]
 have yU:((bs.map ak).length<1000000)=True:=br (by rw[bj];lia)
 obtain⟨l',l1,e⟩:∃l':Int,(1<=l'/\l'<=25/\(l'<=5\/k=0/\names.length<3))/\∀S,rO 0 (g8 S ns names carts k a5 a6) (bU S (bs.map ak))=some (.nx (g8 S ns names carts k (some (.d (.bl (bw ns (1+k) 0 3 == 0)))) (some (.d (.int (if(bw ns (1+k) 0 3 == 0)=true then l'+1 else l'))))) (bU S (bs.map ak++[.tup [.str (names.getD k ""),.int (if(bw ns (1+k) 0 3 == 0)=true then l'+1 else l'),.bl (bw ns (1+k) 0 3 == 0),.lst (dS outs)]]))):=by
  cases e1:((k:Int) == 0) with
  |false=>exact⟨_,by lia,λS=>hB0 hp rfl ho ha eo yU e1⟩
  |true=>
   by_cases e2:(names.length:Int)<3
   .cases e3:(bw ns 0 2 3 == 1) with
    |false=>exact⟨_,by lia,λS=>hB2 hp rfl ho ha eo yU e1 el (br e2) ht e3⟩
    |true=>exact⟨_,by have:=beq_iff_eq.mp e1;lia,λS=>hB3 hp rfl ho ha eo yU e1 el (br e2) ht e3 d1⟩
   .exact⟨_,by lia,λS=>hB1 hp rfl ho ha eo yU e1 el (eq_false e2)⟩
 refine⟨ao.mk (names.getD k "") (if(bw ns (1+k) 0 3 == 0)=true then l'+1 else l') (bw ns (1+k) 0 3 == 0) outs,rfl,?_,λhr=>?_,ok,_,_,λS=>by rw[gF];exact e S⟩
 all_goals lia
theorem Wt(q:Nat)(S:aU)(ns:List Int)(n:Nat)(hn:n<=14):bq (ae 0) (jB true) (Hk q) (fK 0 n) [none,some (.d (a_ ns))] S []=some (.ok (dS ((List.range n).map (kq ns 11))) S):=by
 rw[qw,v_ (λk=>D.str (kq ns 11 k)) (List.range n) (by rw[zL];lia) λi m=>⟨rd (.str (kq ns 11 i)),by
  have h:Pr t5 [.d (a_ ns),.d (.int 11),.d (.int i)] _:=II ns 11 (by decide) i (by have:=tV.mp m;lia)
  unfold Hk;generalize(i:Int)=ii at *;simp only[↓ev,h],rfl⟩,dS,eP]
 rfl
theorem Wu(q:Nat)(S:aU)(ns:List Int)(n:Nat)(hn:n<=4):bq (ae 0) (jB true) (Hm q) (fK 0 n) [none,some (.d (a_ ns))] S []=some (.ok (dS ((List.range n).map λi=>kq ns 11 (10+i))) S):=by
 rw[qw,v_ (λk=>D.str (kq ns 11 (10+k))) (List.range n) (by rw[zL];lia) λi m=>⟨rd (.str (kq ns 11 (10+i))),by
  have h:Pr t5 [.d (a_ ns),.d (.int 11),.d (.int ((10+i:Nat):Int))] _:=II ns 11 (by decide) (10+i) (by have:=tV.mp m;lia)
  rw[show((10+i:Nat):Int)=10+(i:Int) by lia] at h
  unfold Hm;generalize(i:Int)=ii at *;simp only[↓ev,h],rfl⟩,dS,eP]
 rfl
theorem RW:∀{bs:List ao},(∀b∈bs,b.outs.length<=4)->(bs.map λx=>x.outs.length).sum<=4*bs.length
 |[],_=>bV _
 |b::bs,h=>by
  rw[cU,Oi,l_];have:=RW λb m=>h b (tW _ m)
  grind
theorem QL(ns:List Int)(l:List Nat)(nd:l.Nodup)(hl:∀i∈l,i<14):(l.map (kq ns 11)).Nodup:=by
 rw[List.Nodup,GN];exact nd.imp_of_mem λha hb ne z=>ne (Tc ns 11 (by decide) _ _ (by have:=hl _ ha;lia) (by have:=hl _ hb;lia) z)
theorem XN(S:aU)(ns:List Int)(n c:Int)(names carts:List Str)(a4 a5 a6:aj Val)(bs:List D)(hp:Pr mF [.d (a_ ns),.d (.int 0),.d (.int 5)] (rd (.int n)))(ho:Pr kR [.d (a_ ns),.d (.int 0),.d (.int 4)] (rd (.int c)))
  (i1:Nat.ble (1+n).natAbs 1000000000000=true) (i2:Nat.ble (1+c).natAbs 1000000000000=true) (nl:Int) (el:((dS names).length:Int)=nl) (i3:Nat.ble nl.natAbs 1000000000000=true)
  (e1:∀q S,bq (ae 0) (jB true) (Hk q) (fK 0 (1+n).toNat) [none,some (.d (a_ ns))] S []=some (.ok (dS names) S)) (e2:∀q S,bq (ae 0) (jB true) (Hm q) (fK 0 (1+c).toNat) [none,some (.d (a_ ns))] S []=some (.ok (dS carts) S))
  (e3:aJ (ae 4) (rO 0) (fK 0 nl.toNat) [some (.d (a_ ns)),some (.d (.lst (dS names))),some (.d (.lst (dS carts))),some (.c S.s.length),none,none,none] (bU S [])=some (.nx [some (.d (a_ ns)),some (.d (.lst (dS names))),some (.d (.lst (dS carts))),some (.c S.s.length),a4,a5,a6] (bU S bs))) :
  B' 0 [.d (a_ ns)] S=some (.ok (rd (.tup [.lst bs,.lst (dS carts)])) S):=by
 unfold B' P1;simp only[↓ev,hp,i1,fP,e1,aO,ho,i2,e2,aI,el,i3,e3,bU,de,jx,rW]
variable{ks:List Str}
noncomputable def findB(bs:List ao)(n:Str):aj ao:=bs.find? λb=>b.name == n
structure uH (h:aE):Prop where
 bl:h.af.length<=100
 ct:h.carts.length<=100
 ou:(h.af.map λx=>x.outs.length).sum<=900
def jR(carts:List Str):List ao->Prop
 |[]=>True
 |b::bs=>(∀o∈b.outs,o∈bs.map ao.name\/o∈carts)/\b.name∉bs.map ao.name/\b.name∉carts/\jR carts bs
theorem HX{carts:List Str}:∀{bs:List ao},jR carts bs->∀x∈bs,∀y∈bs,x.name=y.name->x=y
 |z::bs,f,x,hx,y,hy,e=>by
  rcases y0a.mp hx with xG|xG
  .rcases y0a.mp hy with CI|CI
   .lia
   .exact cJ (qC (f:=ao.name) CI) (by rw[<-e,xG];exact f.2.1)
  .rcases y0a.mp hy with CI|CI
   .exact cJ (qC (f:=ao.name) xG) (by rw[e,CI];exact f.2.1)
   .exact HX f.2.2.2 x xG y CI e
theorem DI{carts:List Str}:∀{bs:List ao},jR carts bs->∀c∈carts,c∉bs.map ao.name
 |[],_,c,_,h=>by cases h
 |b::bs,f,c,hc,h=>by
  rcases y0a.mp h with z|z
  .exact f.2.2.1 (by rw[<-z];exact hc)
  .exact DI f.2.2.2 c hc z
theorem B9{carts:List Str}:∀{xs ys:List ao},jR carts (xs++ys)->jR carts ys
 |[],_,f=>f
 |_::xs,ys,f=>B9 (xs:=xs) f.2.2.2
abbrev sx(x:Str):Prop:=Pr q_ [.d (.str x)] (rd (.bl true))
structure aB (h:aE):Prop where
 fwd:jR h.carts h.af
 sm:uH h
 nm:∀b∈h.af,sx b.name
 cm:∀c∈h.carts,sx c
 lg:∀b∈h.af,1<=b.long/\(b.ring=true->2<=b.long)
 hd:∀b∈h.af,h.carts.getD 0 ""∈b.outs\/∃o∈b.outs,o∈h.af.map ao.name
 cn:h.carts.Nodup
 c0:0<h.carts.length
 nd:∀b∈h.af,b.outs.Nodup
theorem Ah(bs:List ao)(h:bs.length<=1000000):Pr vX [.d (.lst (bs.map ak))] (.o (.lst (dS (bs.map ao.name)))):=by
 have e:∀q S,bq (ae 0) (jB true) (Oz q) (bs.map ak) [none] S []=some (.ok (dS (bs.map ao.name)) S):=λq S=>by
  rw[v_ (λb=>D.str (ao.name b)) bs h λb m=>⟨rd (.str b.name),by
   rfl,rfl⟩,dS,eP]
  rfl
 intro q S;unfold vX ON;simp only[↓ev,e,eW]
def qp(ks:List Str):List (TK×D):=ks.map λk=>(TK.inr k,.bl true)
noncomputable def iF(ks:List Str)(k:Str):List Str:=if ks.contains k then ks else ks++[k]
theorem Ar(x:Str):∀ks:List Str,(aM (qp ks) (.inr x)).isSome=ks.contains x
 |[]=>rfl
 |k::ks=>by
  grind [aM,qp]
theorem IJ(k:Str):∀ks:List Str,bL (qp ks) (.inr k) (.bl true)=qp (iF ks k)
 |[]=>rfl
 |j::ks=>by
  have ih:=IJ k ks
  grind [qp,bL,iF]
theorem LF(ks:List Str):(qp ks).length=ks.length:=by unfold qp;rw[bj]
theorem QM(ks:List Str)(k:Str):(iF ks k).length<=ks.length+1:=by
 unfold iF;split
 .lia
 .rw[dz,wB];exact bV _
theorem ZV{k n:Str}:n∈iF ks k↔n=k\/n∈ks:=by
 grind [iF]
theorem e7z{x:Str}{S:aU}{n:Nat}(hs:S.s[n]?=some (.o (.aw (qp ks))))(hn:sx x)(hx:ks.contains x=false)(hl:(ks.length<1000000)=True):B1 0 [.d (.str x),.c n] S=some (.ok (rd .aH) ⟨S.s.set n (.o (.aw (qp (iF ks x)))),S.r⟩):=by
 unfold B1 O0;simp only[↓ev,hn,aI,hs,Ar,hx,LF,hl,IJ,Sl]
variable{S:aU}{n:Nat}{ks carts:List Str}
noncomputable abbrev tk(S:aU)(n:Nat)(ks:List Str):aU:=⟨S.s.set n (.o (.aw (qp ks))),S.r⟩
theorem take1{x:Str}(hn:n<S.s.length)(hx:sx x)(h:x∉ks)(hl:ks.length<1000):B1 0 [.d (.str x),.c n] (tk S n ks)=some (.ok (rd .aH) (tk S n (ks++[x]))):=by
 have hc:ks.contains x=false:=by simpa using h
 rw[e7z (S:=tk S n ks) (n:=n) (wy hn) hx hc (br (by lia))]
 grind [iF,List.set_set]
theorem Wv{d0 a:aj Val}(hn:n<S.s.length)(nm:∀c∈carts,sx c)(nd:(ks++carts).Nodup)(hl:ks.length+carts.length<1000):
  ∃a',aJ (ae 2) (G6 0) (dS carts) [d0,some (.c n),a] (tk S n ks)=some (.nx [d0,some (.c n),a'] (tk S n (ks++carts))):=by
 obtain⟨U',S',e,a',rfl,rfl⟩:=iE (gg:=ae 2) (body:=G6 0) (f:=D.str) (U:=[d0,some (.c n),a]) (S:=tk S n ks) (λpre U S'=>∃a',U=[d0,some (.c n),a']/\S'=tk S n (ks++pre)) carts ⟨a,rfl,by rw[kY]⟩ (by
  rintro d x r eq U S' ⟨a',rfl,rfl⟩;have h1:x∉ks++d:=by
   grind
  have h2:=congrArg List.length eq;rw[dz,l_] at h2;have h:=take1 hn (nm x (by rw[eq];simp)) h1 (by rw[dz];lia)
  refine⟨[d0,some (.c n),some (.d (.str x))],[d0,some (.c n),some (.d (.str x))],_,rfl,.inl ?_,_,rfl,rfl⟩;rw[<-qF];unfold G6;simp only[↓ev,h,yG])
 exact⟨a',e⟩
theorem e1g(hn:n<S.s.length)(nm:∀c∈carts,sx c)(nd:(ks++carts).Nodup)(hl:ks.length+carts.length<1000)(h0:carts≠[]):G_ 0 [.d (.lst (dS carts)),.c n] (tk S n ks)=some (.ok (rd .aH) (tk S n (ks++carts))):=by
 obtain⟨a',e⟩:=Wv (d0:=some (.d (.lst (dS carts)))) (a:=none) hn nm nd hl;have z:(dS carts).isEmpty=false:=by cases carts with|nil=>exact cJ rfl h0|cons _ _=>rfl
 have lc:∀zg,(tk S n zg).cut (tk S n ks).s.length=tk S n zg:=λzg=>by unfold aU.cut;simp only[wz];rw[GC (by rw[wz];exact bV _)]
 unfold G_ OG;simp only[↓ev,fP,e,z,oQ,aI,lc]
variable{S:aU}{n:Nat}{ks:List Str}
theorem e8a{c:Cell}{zg:List Str}:(tk S n zg).cut (S.s.set n c).length=tk S n zg:=by
 grind [aU.cut,List.take_of_length_le]
theorem Ww{bs:List ao}{d0 a2 a3 a4 a5 a6:aj Val}(hn:n<S.s.length)(nm:∀b∈bs,sx b.name)(lg:∀b∈bs,1<=b.long/\(b.ring=true->2<=b.long))(nd:(ks++bs.map ao.name).Nodup)(hl:ks.length+bs.length<1000):
  ∃b2 b3 b4 b5 b6,aJ (aY [(ae 2),(ae 3),(ae 4),(ae 5)]) (G7 0) (bs.map ak) [d0,some (.c n),a2,a3,a4,a5,a6] (tk S n ks)=some (.nx [d0,some (.c n),b2,b3,b4,b5,b6] (tk S n (ks++bs.map ao.name))):=by
 obtain⟨U',S',e,b2,b3,b4,b5,b6,rfl,rfl⟩:=iE (gg:=aY [(ae 2),(ae 3),(ae 4),(ae 5)]) (body:=G7 0) (f:=ak) (U:=[d0,some (.c n),a2,a3,a4,a5,a6]) (S:=tk S n ks) (λpre U S'=>∃b2 b3 b4 b5 b6,U=[d0,some (.c n),b2,b3,b4,b5,b6]/\S'=tk S n (ks++pre.map ao.name)) bs ⟨a2,a3,a4,a5,a6,rfl,by rw[Gy,kY]⟩ (by
  rintro d x r eq U S' ⟨b2,b3,b4,b5,b6,rfl,rfl⟩;have h1:x.name∉ks++d.map ao.name:=by
   grind
  have h2:=congrArg List.length eq;rw[dz,l_] at h2;have mx:x∈bs:=by rw[eq];simp
  have h:=take1 hn (nm x mx) h1 (by rw[dz,bj];lia)
  obtain⟨l1,l2⟩:=lg x mx;have e1:∀b,aY [(ae 2),(ae 3),(ae 4),(ae 5)] (ak x) [d0,some (.c n),b2,b3,b4,b5,b]=some [d0,some (.c n),some (.d (.str x.name)),some (.d (.int x.long)),some (.d (.bl x.ring)),some (.d (.lst (dS x.outs))),b]:=λ_=>rfl
  refine⟨_,[d0,some (.c n),some (.d (.str x.name)),some (.d (.int x.long)),some (.d (.bl x.ring)),some (.d (.lst (dS x.outs))),some (.d (.int (if x.ring=true then 2 else 1)))],_,e1 _,.inl ?_,_,_,_,_,_,rfl,rfl⟩
  rw[gF,cU,Gy,<-qF];unfold G7;cases hr:x.ring with
  |true=>
   have z:(x.long<2)=False:=eq_false (by have:=l2 hr;lia)
   simp only[↓ev,h,yG,aO,z,decide_false,aI]
  |false=>
   have z:(x.long<1)=False:=eq_false (by lia)
   simp only[↓ev,h,yG,aI,aO,z,decide_false])
 exact⟨b2,b3,b4,b5,b6,e⟩
theorem e1h{bs:List ao}(hn:n<S.s.length)(nm:∀b∈bs,sx b.name)(lg:∀b∈bs,1<=b.long/\(b.ring=true->2<=b.long))(nd:(ks++bs.map ao.name).Nodup)(hl:ks.length+bs.length<1000):Ha 0 [.d (.lst (bs.map ak)),.c n] (tk S n ks)=some (.ok (rd .aH) (tk S n (ks++bs.map ao.name))):=by
 obtain⟨b2,b3,b4,b5,b6,e⟩:=Ww (d0:=some (.d (.lst (bs.map ak)))) (a2:=none) (a3:=none) (a4:=none) (a5:=none) (a6:=none) hn nm lg nd hl;unfold Ha OH;simp only[↓ev,fP,e,e8a]
variable{ks:List Str}
noncomputable abbrev iL(S:aU)(ks:List Str):aU:=⟨S.s++[.o (.aw (qp ks))],S.r⟩
def bO(b:Str)(ks:List Str)(x:ao):List Str:=if(x.name == b || ks.contains x.name)=true then x.outs.foldl iF ks else ks
theorem QO(outs:List Str):∀ks:List Str,(outs.foldl iF ks).length<=ks.length+outs.length:=by
 induction outs with
 |nil=>intro ks;exact bV _
 |cons o outs ih=>
  grind [QM]
section
variable{S:aU}{g0 g1 g3 g4 g5 g6 a:aj Val}
theorem Nf{o:Str}(hl:(ks.length<1000000)=True):Dv 0 [g0,g1,some (.c S.s.length),g3,g4,g5,g6,some (.d (.str o))] (iL S ks)=some (.nx [g0,g1,some (.c S.s.length),g3,g4,g5,g6,some (.d (.str o))] (iL S (iF ks o))):=by
 unfold Dv;simp only[↓ev,de,LF,hl,IJ,jx]
theorem ZW(outs ks:List Str)(h:ks.length+outs.length<1000000):∃a',aJ (ae 7) (Dv 0) (dS outs) [g0,g1,some (.c S.s.length),g3,g4,g5,g6,a] (iL S ks)=some (.nx [g0,g1,some (.c S.s.length),g3,g4,g5,g6,a'] (iL S (outs.foldl iF ks))):=by
 obtain⟨U',S',e,a',rfl,rfl⟩:=iE (gg:=ae 7) (body:=Dv 0) (f:=D.str) (U:=[g0,g1,some (.c S.s.length),g3,g4,g5,g6,a]) (S:=iL S ks) (λpre U S'=>∃a',U=[g0,g1,some (.c S.s.length),g3,g4,g5,g6,a']/\S'=iL S (pre.foldl iF ks)) outs ⟨a,rfl,rfl⟩ (by
  rintro d x r eq U S' ⟨a',rfl,rfl⟩;have h2:=congrArg List.length eq;rw[dz,l_] at h2;have:=QO d ks;refine⟨_,_,_,rfl,.inl (Nf (br (by lia))),_,rfl,by rw[Od];rfl⟩)
 exact⟨a',e⟩
theorem Wx(b:Str)(bs:List ao)(ks:List Str)(a3 a4 a5 a6 a7:aj Val)(h:ks.length+(bs.map λx=>x.outs.length).sum<1000000):∃b3 b4 b5 b6 b7,aJ (aY [(ae 3),(ae 4),(ae 5),(ae 6)]) (B2 0) (bs.map ak) [g0,some (.d (.str b)),some (.c S.s.length),a3,a4,a5,a6,a7] (iL S ks)=some (.nx [g0,some (.d (.str b)),some (.c S.s.length),b3,b4,b5,b6,b7] (iL S (bs.foldl (bO b) ks))):=by
 obtain⟨U',S',e,b3,b4,b5,b6,b7,rfl,rfl,_⟩:=iE (gg:=aY [(ae 3),(ae 4),(ae 5),(ae 6)]) (body:=B2 0) (f:=ak) (U:=[g0,some (.d (.str b)),some (.c S.s.length),a3,a4,a5,a6,a7]) (S:=iL S ks) (λpre U S'=>∃b3 b4 b5 b6 b7,U=[g0,some (.d (.str b)),some (.c S.s.length),b3,b4,b5,b6,b7]/\S'=iL S (pre.foldl (bO b) ks)/\(pre.foldl (bO b) ks).length<=ks.length+(pre.map λx=>x.outs.length).sum) bs ⟨a3,a4,a5,a6,a7,rfl,rfl,JG _ _⟩ (by
  rintro d x r eq U S' ⟨b3,b4,b5,b6,b7,rfl,rfl,hl⟩;rw[eq,gF,cU,List.sum_append,Oi] at h;have hf:=QO x.outs (d.foldl (bO b) ks);have e1:aY [(ae 3),(ae 4),(ae 5),(ae 6)] (ak x) [g0,some (.d (.str b)),some (.c S.s.length),b3,b4,b5,b6,b7]=some [g0,some (.d (.str b)),some (.c S.s.length),some (.d (.str x.name)),some (.d (.int x.long)),some (.d (.bl x.ring)),some (.d (.lst (dS x.outs))),b7]:=rfl;rw[Od,gF,List.sum_append];show ∃U1 U' S',_/\_/\∃b3 b4 b5 b6 b7,U'=_/\S'=iL S (bO b (d.foldl (bO b) ks) x)/\(bO b (d.foldl (bO b) ks) x).length<=_+(_+(x.outs.length+0));obtain⟨a',e2⟩:=ZW (S:=S) (g0:=g0) (g1:=some (.d (.str b))) (g3:=some (.d (.str x.name))) (g4:=some (.d (.int x.long))) (g5:=some (.d (.bl x.ring))) (g6:=some (.d (.lst (dS x.outs)))) (a:=b7) x.outs (d.foldl (bO b) ks) (by lia)
  generalize d.foldl (bO b) ks=ks1 at *;unfold bO;cases c1:x.name == b with
  |true=>
   refine⟨_,_,_,e1,.inl (by unfold B2;simp only[↓ev,aI,iJ,c1,fP,e2] <;> rfl),_,_,_,_,_,rfl,?_,?_⟩
   all_goals lia
  |false=>
   cases c2:ks1.contains x.name with
   |true=>
    refine⟨_,_,_,e1,.inl (by unfold B2;simp only[↓ev,aI,iJ,c1,de,Ar,c2,fP,e2] <;> rfl),_,_,_,_,_,rfl,?_,?_⟩
    .rw[Oj,bK rfl]
    .rw[Oj,bK rfl];lia
   |false=>
    refine⟨_,_,_,e1,.inl (by unfold B2;simp only[↓ev,aI,iJ,c1,de,Ar,c2] <;> rfl),_,_,_,_,_,rfl,?_,?_⟩
    all_goals lia)
 exact⟨b3,b4,b5,b6,b7,e⟩
theorem VM(q:Nat)(xs:List Str)(h:xs.length<=1000000):bq (ae 0) (Ki q) (Kj q) (dS xs) [none,some (.c S.s.length)] (iL S ks) []=some (.ok (dS (xs.filter λo=>ks.contains o)) (iL S ks)):=by
 rw[dS,xp (λo=>if ks.contains o=true then some (.str o) else none) xs (by lia) λo m=>by
  unfold Ki Kj;cases hc:ks.contains o with
  |true=>exact .inr ⟨rd (.str o),.str o,rfl,by simp only[↓ev,de,aI,Ar,hc],by simp only[↓ev],rfl⟩
  |false=>exact .inl ⟨rfl,by simp only[↓ev,de,aI,Ar,hc]⟩]
 congr 2
 induction xs with
 |nil=>rfl
 |cons o r ih=>
  grind
theorem XO{h:aE}(sm:uH h)(b:Str):P0 HF [.d (ay h),.d (.str b)] (.o (.lst (dS ((h.af.map ao.name++h.carts).filter λx=>(h.af.foldl (bO b) []).contains x)))):=by
 intro S;have h1:=sm.bl;have h2:=sm.ct;have h3:=sm.ou;obtain⟨b3,b4,b5,b6,b7,e⟩:=Wx (S:=S) (g0:=some (.d (ay h))) b h.af [] none none none none none (by rw[C3];lia)
 have hn:=Ah h.af (by lia)
 have hc:=λq=>VM (S:=S) (ks:=h.af.foldl (bO b) []) q (h.af.map ao.name++h.carts) (by rw[dz,bj];lia)
 have ap:dS (h.af.map ao.name)++dS h.carts=dS (h.af.map ao.name++h.carts):=gF.symm;have le:((dS (h.af.map ao.name)).length+(dS h.carts).length<=1000000)=True:=br (by rw[bj,bj,bj];lia)
 have hD:ay h=.tup [.lst (h.af.map ak),.lst (dS h.carts)]:=rfl;rw[show iL S []=⟨S.s++[.o (.aw [])],S.r⟩ from rfl] at e;rw[hD] at e ⊢;unfold HF PV;simp only[↓ev,aO,bZ,fP,e,iL,hn,cH,le,ap,hc,rW]
end
variable{outs:List Str}{b n:Str}{h:aE}
def Td(bs:List ao)(b:Str):List Str:=bs.foldl (bO b) []
inductive RR (bs:List ao) (outs:List Str):Str->Prop
 |base {n:Str}:n∈outs->RR bs outs n
 |step {m n:Str} {b:ao}:RR bs outs m->b∈bs->b.name=m->n∈b.outs->RR bs outs n
theorem jv:∀{ks:List Str} {n:Str},n∈outs.foldl iF ks↔n∈outs\/n∈ks:=by
 induction outs with
 |nil=>intro ks n;simp
 |cons o outs ih=>
  grind [ZV]
theorem XQ{ks:List Str}{x:ao}(h:n∈ks):n∈bO b ks x:=by
 unfold bO;split
 .exact jv.mpr (.inr h)
 .exact h
theorem XR{bs:List ao}:∀{ks:List Str} {n:Str},n∈ks->n∈bs.foldl (bO b) ks:=by
 induction bs with
 |nil=>intro ks n h;exact h
 |cons x bs ih=>intro ks n h;exact ih (XQ h)
theorem P6{carts:List Str}{b:Str}:∀{bs:List ao} {ks:List Str} {n:Str},jR carts bs->n∈bs.foldl (bO b) ks->n∈ks\/n∈bs.tail.map ao.name\/n∈carts
 |[],ks,n,_,h=>.inl h
 |x::bs,ks,n,f,h=>by
  rcases P6 f.2.2.2 h with z|z|z
  .unfold bO at z;split at z
   .rcases jv.mp z with z|z
    .rcases f.1 n z with z|z
     .exact .inr (.inl z)
     .exact .inr (.inr z)
    .exact .inl z
   .exact .inl z
  .refine .inr (.inl ?_);cases bs with
   |nil=>exact z
   |cons y bs=>exact tW _ z
  .exact .inr (.inr z)
theorem Kg{carts:List Str}{b:Str}:∀{bs:List ao} {ks:List Str},jR carts bs->∀x∈bs,(x.name=b\/x.name∈bs.foldl (bO b) ks)->∀o∈x.outs,o∈bs.foldl (bO b) ks
 |y::bs,ks,f,x,hx,hn,o,ho=>by
  rcases y0a.mp hx with rfl|hx
  .have h1:(x.name == b || ks.contains x.name)=true:=by
    rcases hn with hn|hn
    .lia
    .rcases P6 (b:=b) f hn with z|z|z
     .simp_all
     .exact cJ z f.2.1
     .exact cJ z f.2.2.1
   show o∈bs.foldl (bO b) (bO b ks x);refine XR ?_;unfold bO;rw[bK h1];exact jv.mpr (.inl ho)
  .exact Kg (ks:=bO b ks y) f.2.2.2 x hx hn o ho
theorem QP{Es:List ao}{b:ao}(hb:b∈Es)(hu:∀x∈Es,x.name=b.name->x=b):∀{bs:List ao} {ks:List Str},(∀x∈bs,x∈Es)->(∀n∈ks,RR Es b.outs n)->∀n∈bs.foldl (bO b.name) ks,RR Es b.outs n
 |[],ks,_,h,n,hn=>h n hn
 |x::bs,ks,hs,h,n,hn=>QP hb hu (λy hy=>hs y (tW _ hy)) (λm hm=>by
   unfold bO at hm;split at hm
   .rename_i hc
    rcases jv.mp hm with z|z
    .rw[Bool.or_eq_true,beq_iff_eq,oP] at hc;rcases hc with hc|hc
     .rw[hu x (hs x CZ) hc] at z;exact .base z
     .exact .step (h _ hc) (hs x CZ) rfl z
    simp_all
   simp_all) n hn
theorem XS(f:jR h.carts h.af){b:ao}(hb:b∈h.af)(n:Str):n∈Td h.af b.name↔RR h.af b.outs n:=by
 unfold Td;constructor
 .exact QP hb (λx hx e=>HX f x hx b hb e) (λ_ m=>m) (λ_ m=>by cases m) n
 .intro r
  induction r with
  |base m=>exact Kg f b hb (.inl rfl) _ m
  |step r hx hn hm ih=>exact Kg f _ hx (.inr (by rw[hn];exact ih)) _ hm
theorem ZX{bs:List ao}{w:ao}(hw:w∈bs)(r:RR bs outs w.name)(r2:RR bs w.outs n):RR bs outs n:=by
 induction r2 with
 |base m=>exact .step r hw rfl m
 |step _ hb hn hm ih=>exact .step ih hb hn hm
theorem Lo{h:aE}(g:aB h):∀{bs pre:List ao},h.af=pre++bs->∀b∈bs,RR h.af b.outs (h.carts.getD 0 "")
 |x::bs,pre,eq,b,hb=>by
  have CA:h.af=(pre++[x])++bs:=by rw[eq];simp
  rcases y0a.mp hb with rfl|hb
  .have Ja:b∈h.af:=by rw[eq];simp
   have fx:jR h.carts (b::bs):=B9 (by rw[<-eq];exact g.fwd)
   rcases g.hd b Ja with z|⟨o,z1,z2⟩
   .exact .base z
   .rcases fx.1 o z1 with y|y
    .obtain⟨w,hw,ew⟩:=jQ.mp y;exact ZX (w:=w) (by rw[CA];simp[hw]) (by rw[ew];exact .base z1) (Lo g CA w hw)
    .exact cJ z2 (DI g.fwd o y)
  .exact Lo g CA b hb
theorem Ai(g:aB h):h.carts.getD 0 ""∈h.carts/\dq (dS h.carts) 0=some (.str (h.carts.getD 0 "")):=by
 have:=g.c0;cases Jd:h.carts with
 |nil=>rw[Jd] at this;simp at this
 |cons c cs=>exact⟨by simp,uN (j:=0) rfl⟩
theorem e8b(g:aB h):P0 He [.d (ay h)] (rd .aH):=by
 intro S;have bl:=g.sm.bl;obtain⟨hc,i0⟩:=Ai g;have e1:=Ah h.af (by lia)
 obtain⟨U',S',e,a,rfl,rfl⟩:=iE (gg:=ae 2) (body:=J' 0) (f:=D.str) (U:=[some (.d (ay h)),some (.d (.str (h.carts.getD 0 ""))),none]) (S:=S) (λ_ U S'=>∃a,U=[some (.d (ay h)),some (.d (.str (h.carts.getD 0 ""))),a]/\S'=S) (h.af.map ao.name) ⟨_,rfl,rfl⟩ (by
  rintro d x r eq U S' ⟨a,rfl,rfl⟩;obtain⟨b,hb,rfl⟩:∃b∈h.af,b.name=x:=jQ.mp (by rw[eq];simp)
  have e1:=XO g.sm b.name;have hm:((h.af.map ao.name++h.carts).filter λx=>(h.af.foldl (bO b.name) []).contains x).contains (h.carts.getD 0 "")=true:=by
   rw[oP,wx];exact⟨rG _ hc,oP.mpr ((XS g.fwd hb _).mpr (Lo g (pre:=[]) rfl b hb))⟩
  refine⟨[some (.d (ay h)),some (.d (.str (h.carts.getD 0 ""))),some (.d (.str b.name))],_,_,rfl,.inl ?_,some (.d (.str b.name)),rfl,rfl⟩;unfold J';generalize((h.af.map ao.name++h.carts).filter λx=>(h.af.foldl (bO b.name) []).contains x)=l at *
  generalize h.carts.getD 0 ""=hand at *;simp only[↓ev,e1,jS,jJ,hm,mf,aI])
 have hD:ay h=.tup [.lst (h.af.map ak),.lst (dS h.carts)]:=rfl;generalize h.carts.getD 0 ""=hand at *;rw[hD] at e ⊢;unfold He OQ;simp only[↓ev,cH,i0,aO,bZ,e1,fP,e,eW]
theorem OU{x z:Str}:∀{ys:List Str} {j:Nat},ys[j]?=some z->x∈ys->x≠z->x∈ys.eraseIdx j
 |y::ys,0,e,hx,fD=>by
  simp_all
 |y::ys,j+1,e,hx,fD=>by
  rw[List.getElem?_cons_succ] at e;show x∈y::ys.eraseIdx j;rcases y0a.mp hx with rfl|hx
  .exact .head _
  .exact .tail _ (OU e hx fD)
 |[],_,_,hx,_=>by cases hx
theorem DJ{z:Str}{ys:List Str}(h:z∈ys):∃j,findS ys z=some j:=by
 cases q:findS ys z with
 |some j=>exact⟨j,rfl⟩
 |none=>
  grind [findS]
theorem ZY(L:List Str)(j:Nat):(dS L).eraseIdx j=dS (L.eraseIdx j):=by
 grind [List.eraseIdx_eq_take_drop_succ,List.map_take,List.map_drop]
section
variable{S:aU}{s0 s1 s2 s3 s4 s5 a7:aj Val}
theorem Nk{L:List Str}{x:Str}{j:Nat}(hc:L.contains x=true)(hj:findS L x=some j):Dq 0 [s0,s1,s2,s3,s4,s5,some (.c S.s.length),some (.d (.str x))] (bU S (dS L))=some (.nx [s0,s1,s2,s3,s4,s5,some (.c S.s.length),some (.d (.str x))] (bU S (dS (L.eraseIdx j)))):=by
 have h:=PN L;unfold Dq;simp only[↓ev,bU,de,jS,jJ,hc,mf,aI,h,hj,ZY,jx]
theorem e1i(outs L:List Str)(nd:outs.Nodup)(hs:∀o∈outs,o∈L):∃L' b7,aJ (ae 7) (Dq 0) (dS outs) [s0,s1,s2,s3,s4,s5,some (.c S.s.length),a7] (bU S (dS L))=some (.nx [s0,s1,s2,s3,s4,s5,some (.c S.s.length),b7] (bU S (dS L'))):=by
 obtain⟨U',S',e,L',b7,rfl,rfl,_⟩:=iE (gg:=ae 7) (body:=Dq 0) (f:=D.str) (U:=[s0,s1,s2,s3,s4,s5,some (.c S.s.length),a7]) (S:=bU S (dS L)) (λpre U S'=>∃L' b7,U=[s0,s1,s2,s3,s4,s5,some (.c S.s.length),b7]/\S'=bU S (dS L')/\∀o∈outs,o∉pre->o∈L') outs ⟨L,a7,rfl,rfl,λo ho _=>hs o ho⟩ (by
  rintro q x post eq U S' ⟨L',b7,rfl,rfl,hL⟩;have hxq:x∉q:=λz=>by
   grind
  have hx:x∈L':=hL x (by rw[eq];simp) hxq
  obtain⟨j,hj⟩:=DJ hx;refine⟨_,_,_,rfl,.inl (Nk (oP.mpr hx) hj),L'.eraseIdx j,some (.d (.str x)),rfl,rfl,λo ho hq=>?_⟩
  simp only[jC,qE,not_or] at hq;exact OU (B5 hj).1 (hL o ho hq.1) hq.2)
 exact⟨L',b7,e⟩
end
theorem ZZ(q:List ao)(x:ao)(post:List ao)(i:Int)(hi:i=(q.length:Nat)):cutD ((q++x::post).map ak) (some (i+1)) none=post.map ak:=by
 unfold cutD;have e4:HT.cK ((q++x::post).map ak).length 0 (some (i+1))=q.length+1:=by
  grind [HT.cK]
 have e5:HT.cK ((q++x::post).map ak).length ((q++x::post).map ak).length none=((q++x::post).map ak).length:=rfl;have e6:((q++x::post).map ak).drop (q.length+1)=post.map ak:=by
  rw[<-JK,show q++x::post=(q++[x])++post by simp,List.drop_left' (by simp)]
 grind
section
variable{S:aU}{h:aE}
theorem Z0{d0:List D}{cs:List Str}{i:Int}{x:ao}{post:List ao}{a4 a5 a6 a7:aj Val}(hs:cutD d0 (some (i+1)) none=post.map ak)(hp:post.length<=1000)(hc:cs.length<=1000)(nd:x.outs.Nodup)(sb:∀o∈x.outs,o∈post.map ao.name++cs)(ne:x.outs≠[]):
  ∃L' b7,G9 0 [some (.d (.lst d0)),some (.d (.lst (dS cs))),some (.d (.int i)),some (.d (ak x)),a4,a5,a6,a7] S=some (.nx [some (.d (.lst d0)),some (.d (.lst (dS cs))),some (.d (.int i)),some (.d (ak x)),some (.d (.str x.name)),some (.d (.lst (dS x.outs))),some (.c S.s.length),b7] (bU S (dS L'))):=by
 obtain⟨L',b7,e⟩:=e1i (S:=S) (s0:=some (.d (.lst d0))) (s1:=some (.d (.lst (dS cs)))) (s2:=some (.d (.int i))) (s3:=some (.d (ak x))) (s4:=some (.d (.str x.name))) (s5:=some (.d (.lst (dS x.outs)))) (a7:=a7) x.outs (post.map ao.name++cs) nd sb;have e1:=Ah post (by lia)
 have ap:dS (post.map ao.name)++dS cs=dS (post.map ao.name++cs):=gF.symm;have le:((dS (post.map ao.name)).length+(dS cs).length<=1000000)=True:=br (by rw[bj,bj,bj];lia)
 have z:(dS x.outs).isEmpty=false:=by cases hz:x.outs with|nil=>exact cJ hz ne|cons _ _=>rfl
 have hD:ak x=.tup [.str x.name,.int x.long,.bl x.ring,.lst (dS x.outs)]:=rfl;refine⟨L',b7,?_⟩;rw[hD] at e ⊢;unfold G9;simp only[↓ev,bZ,aO,v8,Uu,hs,e1,le,ap,fP,e,z,oQ,aI]
theorem XT(g:aB h)(ho:∀b∈h.af,b.outs≠[]):P0 Hc [.d (.lst (h.af.map ak)),.d (.lst (dS h.carts))] (rd .aH):=by
 intro S;have bl:=g.sm.bl;have ct:=g.sm.ct;have fw:=g.fwd;obtain⟨U',S',e,a2,a3,a4,a5,a6,a7,L,rfl,rfl⟩:=f1g (gg:=aY [(ae 2),(ae 3)]) (body:=G9 0) (U:=[some (.d (.lst (h.af.map ak))),some (.d (.lst (dS h.carts))),none,none,none,none,none,none]) (S:=S) ak (λpre U S'=>∃a2 a3 a4 a5 a6 a7 L,U=[some (.d (.lst (h.af.map ak))),some (.d (.lst (dS h.carts))),a2,a3,a4,a5,a6,a7]/\S'=⟨S.s++L,S.r⟩) h.af ⟨_,_,_,_,_,_,[],rfl,by rw[kY]⟩ (by
  rintro q x post eq U S' ⟨a2,a3,a4,a5,a6,a7,L,rfl,rfl⟩;have hb:x∈h.af:=by rw[eq];simp
  have hl:=congrArg List.length eq;rw[dz,l_] at hl;have fx:jR h.carts (x::post):=B9 (by rw[<-eq];exact fw)
  have hs:=ZZ q x post (q.length:Nat) rfl;rw[<-eq] at hs;obtain⟨L',b7,e⟩:=Z0 (S:=⟨S.s++L,S.r⟩) (a4:=a4) (a5:=a5) (a6:=a6) (a7:=a7) (cs:=h.carts) hs (by lia) (by lia) (g.nd x hb) (λo m=>by
   rcases fx.1 o m with z|z
   all_goals simp_all) (ho x hb)
  exact⟨_,_,_,rfl,e,_,_,_,_,_,_,L++[.o (.lst (dS L'))],rfl,by unfold bU;rw[qF]⟩)
 unfold Hc OP;simp only[↓ev,fP,e,rW]
theorem Pl(g:aB h):(h.carts++h.af.map ao.name).Nodup:=by
 refine oV.mpr ⟨g.cn,?_,λa ha b hb e=>DI g.fwd a ha (e ▸ hb)⟩
 have:∀{bs:List ao},jR h.carts bs->(bs.map ao.name).Nodup:=by
  intro bs
  induction bs with
  |nil=>intro _;exact .nil
  |cons b bs ih=>intro f;exact t_.mpr ⟨f.2.1,ih f.2.2.2⟩
 exact this g.fwd
theorem e1j(g:aB h):P0 Hb [.d (ay h)] (rd (.bl true)):=by
 intro S;have ho:∀b∈h.af,b.outs≠[]:=λb hb z=>by
  rcases g.hd b hb with y|⟨o,y,_⟩
  all_goals simp_all
 have bl:=g.sm.bl;have ct:=g.sm.ct;have nd:=Pl g;have c0:h.carts≠[]:=λz=>by have:=g.c0;rw[z] at this;cases this
 have ln:∀c,S.s.length<(S.s++[c]:List Cell).length:=λc=>by rw[dz];exact yq _
 have e1:=e1g (S:=⟨S.s++[.o (.aw [])],S.r⟩) (n:=S.s.length) (ks:=[]) (carts:=h.carts) (ln _) g.cm (by rw[GL];exact g.cn) (by rw[C3];lia) c0
 have e2:=e1h (S:=⟨S.s++[.o (.aw [])],S.r⟩) (n:=S.s.length) (ks:=h.carts) (bs:=h.af) (ln _) g.nm g.lg nd (by lia)
 have se:∀c:Cell,(S.s++[Cell.o (.aw [])]).set S.s.length c=S.s++[c]:=λc=>jx
 simp only[tk,se,qqc] at e1 e2;have k0:qp []=[]:=rfl;rw[k0] at e1;have e3:=XT g ho;have e4:=e8b g;have hD:ay h=.tup [.lst (h.af.map ak),.lst (dS h.carts)]:=rfl;rw[hD] at e4 ⊢;unfold Hb OI;simp only[↓ev,bZ,aO,cH,e1,e2,e3,e4,rW]
end
theorem P7(names carts:List Str)(nd:names.Nodup)(dj:∀x∈names,x∉carts):∀(bs:List ao) (j:Nat),j+bs.length=names.length->(∀i b,bs[i]?=some b->b.name=names.getD (j+i) ""/\∀o∈b.outs,o∈names.drop (j+i+1)++carts)->jR carts bs/\bs.map ao.name=names.drop j
 |[],j,hl,_=>⟨vS,by rw[List.drop_eq_nil_of_le (by simp at hl;lia)];rfl⟩
 |b::bs,j,hl,h=>by
  rw[l_] at hl;obtain⟨f,e⟩:=P7 names carts nd dj bs (j+1) (by lia) λi b hb=>by
   have:=h (i+1) b (by simpa using hb)
   rw[show j+(i+1)=j+1+i by lia] at this
   exact this
  obtain⟨h1,h2⟩:=h 0 b rfl;rw[Nat.add_zero] at h1 h2;have hj:j<names.length:=by lia
  have ed:names.drop j=names[j]::names.drop (j+1):=N8 hj;have en:b.name=names[j]:=by rw[h1,BL,iN hj];rfl
  have nd':(names.drop j).Nodup:=nd.sublist (List.drop_sublist _ _);rw[ed] at nd';refine⟨⟨λo ho=>?_,?_,?_,f⟩,by rw[cU,e,en,ed]⟩
  all_goals grind
noncomputable def kL(bs:List ao):Int:=(bs.map ao.long).sum
theorem F9:∀{bs:List ao},(∀b∈bs,b.long<=6)->kL bs<=6*bs.length
 |[],_=>by unfold kL;simp
 |b::bs,h=>by
  have h1:=h b (.head _);have h2:=F9 (bs:=bs) λx m=>h x (.tail _ m)
  unfold kL at *;rw[cU,Oi,l_];lia
theorem F8{bs:List ao}(hl:bs.length<=5)(h:∀(i:Nat) (b:ao),bs[i]?=some b->b.long<=26/\(b.long<=6\/i=0/\bs.length<3)):kL bs<=39:=by
 by_cases z:bs.length<3
 .clear hl;unfold kL;cases bs with
  |nil=>simp
  |cons a l=>
   have:=h 0 a rfl;cases l with
   |nil=>simp;lia
   |cons b l=>
    have:=h 1 b rfl;cases l with
    |nil=>simp;lia
    |cons c l=>simp at z;lia
 .have:=F9 (bs:=bs) λb m=>by
   obtain⟨i,hi⟩:=BH.mp m;have:=h i b hi;lia
  lia
theorem e1k(ns:List Int):∃h:aE,aB h/\kL h.af<=39/\0<h.af.length/\h.af.length<=5/\h.carts.length<=4/\P0 B' [.d (a_ ns)] (rd (ay h)):=by
 obtain⟨p1,p2,p3⟩:=ia ns 0 0 5 (by decide) (by decide) (by decide)
 obtain⟨q1,q2,q3⟩:=ia ns 0 1 4 (by decide) (by decide) (by decide)
 have hp:=Aq ns 0 5 (by decide) (by decide)
 have ho:=yD ns 0 4 (by decide) (by decide)
 have e1:=λq S=>Wt q S ns (1+bw ns 0 0 5).toNat (by lia)
 have e2:=λq S=>Wu q S ns (1+bw ns 0 1 4).toNat (by lia)
 have nl:((List.range (1+bw ns 0 0 5).toNat).map (kq ns 11)).length=(1+bw ns 0 0 5).toNat:=by simp
 have cl:((List.range (1+bw ns 0 1 4).toNat).map λi=>kq ns 11 (10+i)).length=(1+bw ns 0 1 4).toNat:=by simp
 have nnd:((List.range (1+bw ns 0 0 5).toNat).map (kq ns 11)).Nodup:=QL ns _ N9 λi m=>by have:=tV.mp m;lia
 have Yh:((List.range (1+bw ns 0 1 4).toNat).map λi=>kq ns 11 (10+i)).Nodup:=by
  rw[show(λi=>kq ns 11 (10+i))=kq ns 11∘(10+·) from rfl,<-eP]
  refine QL ns _ ?_ λi m=>?_
  .rw[List.Nodup,GN];exact N9.imp λne z=>ne (by lia)
  grind
 have dj:∀x∈(List.range (1+bw ns 0 0 5).toNat).map (kq ns 11),x∉(List.range (1+bw ns 0 1 4).toNat).map λi=>kq ns 11 (10+i):=λx hx hc=>by
  obtain⟨i,hi,rfl⟩:=jQ.mp hx;obtain⟨j,hj,e⟩:=jQ.mp hc;have h1:=tV.mp hi;have h2:=tV.mp hj;have:=Tc ns 11 (by decide) _ _ (by lia) (by lia) e
  lia
 have nmN:∀x∈(List.range (1+bw ns 0 0 5).toNat).map (kq ns 11),sx x:=λx hx=>by
  obtain⟨i,hi,rfl⟩:=jQ.mp hx;exact P5 _ (Cw ns 11 (by decide) i).1 (Cw ns 11 (by decide) i).2 (QH ns 11 (by decide) i)
 have nmC:∀x∈(List.range (1+bw ns 0 1 4).toNat).map (λi=>kq ns 11 (10+i)),sx x:=λx hx=>by
  obtain⟨i,hi,rfl⟩:=jQ.mp hx;exact P5 _ (Cw ns 11 (by decide) (10+i)).1 (Cw ns 11 (by decide) (10+i)).2 (QH ns 11 (by decide) (10+i))
 generalize(List.range (1+bw ns 0 0 5).toNat).map (kq ns 11)=names at *;generalize((List.range (1+bw ns 0 1 4).toNat).map λi=>kq ns 11 (10+i))=carts at *
 obtain⟨hand,hh⟩:∃x,carts.head?=some x:=by
  cases carts with
  |nil=>simp at cl;lia
  |cons a b=>exact⟨a,rfl⟩
 obtain⟨⟨bs,a4,a5,a6⟩,⟨bl,bp⟩,e3⟩:=S8 (gg:=ae 4) (body:=rO 0) (f:=λ(i:Nat)=>D.int (i:Int)) (λ(b:List ao×aj Val×aj Val×aj Val) S=>([some (.d (a_ ns)),some (.d (.lst (dS names))),some (.d (.lst (dS carts))),some (.c S.s.length),b.2.1,b.2.2.1,b.2.2.2],bU S (b.1.map ak)))
  (λpre b=>b.1.length=pre.length/\(∀i x,b.1[i]?=some x->x.name=names.getD i ""/\(1<=x.long/\x.long<=26/\(x.long<=6\/i=0/\names.length<3))/\(x.ring=true->2<=x.long)/\qZ (names.drop (i+1)) carts hand x.outs)) (List.range (names.length:Int).toNat) ([],none,none,none) ⟨rfl,λi b e=>(by simp at e)⟩ (by
   rintro q i post eq ⟨bs,a4,a5,a6⟩ ⟨bl,bp⟩;obtain⟨hq,hi⟩:=HW eq;dsimp only at bl bp;have hi:i<names.length:=by lia
   obtain⟨b,b1,b2,b3,b4,a5',Cd,e⟩:=e1f ns i names carts hand bs a5 a6 hi (by lia) hh (by lia) (by lia)
   refine⟨(bs++[b],some (.d (.int i)),a5',Cd),⟨by show(bs++[b]).length=_;rw[dz,dz,bl];rfl,λj b' qK=>?_⟩,λS=>⟨_,rfl,.inl (e S)⟩⟩
   have qK:(bs++[b])[j]?=some b':=qK;by_cases hj:j<bs.length
   .rw[vN hj] at qK;exact bp j b' qK
   .rw[ua (by lia)] at qK
    have:j - bs.length=0:=by
     have:=(eY.mp qK).1;simp at this;lia
    rw[this] at qK;cases qK;have ej:j=i:=by lia
    rw[ej];exact⟨b1,b2,b3,b4⟩)
 dsimp only at bl bp e3;rw[zL] at bl;have e3:=λS=>(congrArg (λl=>aJ (ae 4) (rO 0) l _ _) (qw _)).trans (e3 S)
 obtain⟨fw,en⟩:=P7 names carts nnd dj bs 0 (by lia) λi b hb=>by
  rw[Nat.zero_add];exact⟨(bp i b hb).1,(bp i b hb).2.2.2.sub⟩
 rw[List.drop_zero] at en;have gi:∀b∈bs,∃i,bs[i]?=some b:=λb hb=>BH.mp hb
 have hg:carts.getD 0 ""=hand:=by
  cases carts with
  |nil=>cases hh
  |cons a b=>cases hh;rfl
 refine⟨⟨bs,carts⟩,⟨fw,⟨by show bs.length<=100;lia,by show carts.length<=100;lia,?_⟩,λb hb=>?_,nmC,λb hb=>?_,λb hb=>?_,Yh,by show 0<carts.length;lia,λb hb=>?_⟩,F8 (bs:=bs) (by lia) λi b hi=>(by have:=bp i b hi;lia),by show 0<bs.length;lia,by show bs.length<=5;lia,by show carts.length<=4;lia,λS=>XN S ns _ _ names carts a4 a5 a6 _ hp ho (Oh (by lia)) (Oh (by lia)) (names.length:Int) (by rw[bj]) (Oh (by lia)) e1 e2 (e3 S)⟩
 .have:=RW (bs:=bs) λb hb=>by
   obtain⟨i,hi⟩:=gi b hb;exact(bp i b hi).2.2.2.len
  lia
 .exact nmN _ (by rw[<-en];exact qC hb)
 .obtain⟨i,hi⟩:=gi b hb;exact⟨(bp i b hi).2.1.1,(bp i b hi).2.2.1⟩
 .obtain⟨i,hi⟩:=gi b hb;show carts.getD 0 ""∈b.outs\/∃o∈b.outs,o∈bs.map ao.name;rw[hg,en];rcases(bp i b hi).2.2.2.hand with z|⟨o,z1,z2⟩
  .exact .inl z
  .exact .inr ⟨o,z1,Of z2⟩
 .obtain⟨i,hi⟩:=gi b hb;exact(bp i b hi).2.2.2.nd
section
variable{h:aE}
theorem f1o{q:Nat}{S:aU}{n:Str}{b:ao}{d0:aj Val}(hb:(b.name == n)=false):BZ q [d0,some (.d (.str n)),some (.d (ak b))] S=some (.nx [d0,some (.d (.str n)),some (.d (ak b))] S):=by
 unfold BZ ak;simp only[↓ev,bZ,aI,iJ,hb]
theorem e8c{q:Nat}{S:aU}{n:Str}{b:ao}{d0:aj Val}(hb:(b.name == n)=true):BZ q [d0,some (.d (.str n)),some (.d (ak b))] S=some (.rt (rd (ak b)) S):=by
 unfold BZ ak;simp only[↓ev,bZ,aI,iJ,hb,cH,jT,v8,aO]
theorem Cg(g:aB h){b:ao}(hb:b∈h.af):Pr z_ [.d (ay h),.d (.str b.name)] (rd (ak b)):=by
 intro q S;obtain⟨d,r,eq⟩:=List.append_of_mem hb;have e:aJ (ae 2) (BZ q) (h.af.map ak) [some (.d (ay h)),some (.d (.str b.name)),none] S=some (.rt (rd (ak b)) S):=by
  rw[eq];refine RO (f:=ak) (λ_ U S'=>∃a,U=[some (.d (ay h)),some (.d (.str b.name)),a]/\S'=S) d [] _ _ ⟨_,rfl,rfl⟩ ?_ ?_
  .rintro d' y r' e' U S' ⟨a,rfl,rfl⟩;refine⟨_,_,_,rfl,.inl (f1o ?_),_,rfl,rfl⟩;rw[vR];intro z;have hy:y∈d:=by rw[GL] at e';rw[e'];simp
   have e2:=HX g.fwd y (by rw[eq];simp[hy]) b hb z
   have nd:=(oV.mp (Pl g)).2.1
   grind
  .rintro U S' ⟨a,rfl,rfl⟩;exact⟨_,rfl,e8c (fV _)⟩
 have hD:ay h=.tup [.lst (h.af.map ak),.lst (dS h.carts)]:=rfl;rw[hD] at e ⊢;unfold z_ PU;simp only[↓ev,bZ,Nat.max_zero,e,eW]
theorem QQ(g:aB h):Pr DQ [.d (ay h)] (rd (ay h)):=by
 intro q S;have bl:=g.sm.bl;have hn:=Ah h.af (by lia)
 have e:∀q S,bq (ae 0) (jB true) (Kt q) (dS (h.af.map ao.name)) [none,some (.d (ay h))] S []=some (.ok (h.af.map ak) S):=λq S=>by
  rw[dS,eP,v_ ak h.af (by lia) λb m=>⟨rd (ak b),by
   have hb:=Cg g m;unfold Kt;simp only[↓ev,Function.comp,hb],rfl⟩]
 have hD:ay h=.tup [.lst (h.af.map ak),.lst (dS h.carts)]:=rfl;rw[hD] at e ⊢;unfold DQ Qy;simp only[↓ev,bZ,hn,e,aO,cH,eW]
end
theorem oS:atrs.contains (cHall,("built":Str))=true:=by decide +kernel
theorem OC:atrs.contains (cHall,("told_rounds":Str))=true:=by decide +kernel
theorem Eh:atrs.contains (cHall,("now":Str))=true:=by decide +kernel
theorem rR:atrs.contains (cHall,("book":Str))=true:=by decide +kernel
theorem Ci:atrs.contains (cHall,("halts":Str))=true:=by decide +kernel
theorem mE:atrs.contains (cHall,("places":Str))=true:=by decide +kernel
theorem qG:atrs.contains (cHall,("readings":Str))=true:=by decide +kernel
theorem DC:atrs.contains (cHall,("rounded":Str))=true:=by decide +kernel
theorem Lp:atrs.contains (cHall,("gone":Str))=true:=by decide +kernel
theorem Ca:atrs.contains (cHall,("carted":Str))=true:=by decide +kernel
section
variable{d0 d1 d2 d3 d4 d5 d6 d7 d8 d9 v:D}
theorem M6:gw "told_rounds" v [(("built":Str),d0)]=[(("built":Str),d0),(("told_rounds":Str),v)]:=by kernel_rfl
theorem M7:gw "now" v [(("built":Str),d0),(("told_rounds":Str),d1)]=[(("built":Str),d0),(("told_rounds":Str),d1),(("now":Str),v)]:=by kernel_rfl
theorem M8:gw "book" v [(("built":Str),d0),(("told_rounds":Str),d1),(("now":Str),d2)]=[(("built":Str),d0),(("told_rounds":Str),d1),(("now":Str),d2),(("book":Str),v)]:=by kernel_rfl
theorem M9:gw "halts" v [(("built":Str),d0),(("told_rounds":Str),d1),(("now":Str),d2),(("book":Str),d3)]=[(("built":Str),d0),(("told_rounds":Str),d1),(("now":Str),d2),(("book":Str),d3),(("halts":Str),v)]:=by kernel_rfl
theorem M_:gw "places" v [(("built":Str),d0),(("told_rounds":Str),d1),(("now":Str),d2),(("book":Str),d3),(("halts":Str),d4)]=[(("built":Str),d0),(("told_rounds":Str),d1),(("now":Str),d2),(("book":Str),d3),(("halts":Str),d4),(("places":Str),v)]:=by kernel_rfl
theorem M':gw "readings" v [(("built":Str),d0),(("told_rounds":Str),d1),(("now":Str),d2),(("book":Str),d3),(("halts":Str),d4),(("places":Str),d5)]=[(("built":Str),d0),(("told_rounds":Str),d1),(("now":Str),d2),(("book":Str),d3),(("halts":Str),d4),(("places":Str),d5),(("readings":Str),v)]:=by kernel_rfl
theorem Na:gw "rounded" v [(("built":Str),d0),(("told_rounds":Str),d1),(("now":Str),d2),(("book":Str),d3),(("halts":Str),d4),(("places":Str),d5),(("readings":Str),d6)]=[(("built":Str),d0),(("told_rounds":Str),d1),(("now":Str),d2),(("book":Str),d3),(("halts":Str),d4),(("places":Str),d5),(("readings":Str),d6),(("rounded":Str),v)]:=by kernel_rfl
theorem Nb:gw "gone" v [(("built":Str),d0),(("told_rounds":Str),d1),(("now":Str),d2),(("book":Str),d3),(("halts":Str),d4),(("places":Str),d5),(("readings":Str),d6),(("rounded":Str),d7)]=[(("built":Str),d0),(("told_rounds":Str),d1),(("now":Str),d2),(("book":Str),d3),(("halts":Str),d4),(("places":Str),d5),(("readings":Str),d6),(("rounded":Str),d7),(("gone":Str),v)]:=by kernel_rfl
theorem Nc:gw "carted" v [(("built":Str),d0),(("told_rounds":Str),d1),(("now":Str),d2),(("book":Str),d3),(("halts":Str),d4),(("places":Str),d5),(("readings":Str),d6),(("rounded":Str),d7),(("gone":Str),d8)]=[(("built":Str),d0),(("told_rounds":Str),d1),(("now":Str),d2),(("book":Str),d3),(("halts":Str),d4),(("places":Str),d5),(("readings":Str),d6),(("rounded":Str),d7),(("gone":Str),d8),(("carted":Str),v)]:=by kernel_rfl
end
def hF(hd:D)(r now:Int)(n:Nat):List (Str×D):=[("built",hd),("told_rounds",.int r),("now",.int now),("book",.ref (n+1)),("halts",.ref (n+2)),("places",.ref (n+3)),("readings",.ref (n+4)),("rounded",.ref (n+5)),("gone",.ref (n+6)),("carted",.ref (n+7))]
section
variable{S:aU}{h:aE}{r:Int}
theorem e8d(g:aB h):DT 0 [.d (.ref S.r.length),.d (ay h),.d (.int r)] ⟨S.s,S.r++[.ins cHall []]⟩=some (.ok (rd .aH) ⟨S.s,S.r++[.ins cHall (hF (ay h) r 0 S.r.length),.o (.aw []),.o (.aw []),.o (.aw []),.o (.aw []),.o (.aw []),.o (.lst []),.o (.aw [])]⟩):=by
 have e1:=e1j g;have e2:=QQ g;generalize ay h=hd at *;unfold DT QG hF;simp only[↓ev,e1,e2,de,oS,jx,OC,M6,Eh,M7,A6,yG,rR,M8,Ci,M9,mE,M_,qG,M',DC,Na,aO,aI,Lp,Nb,Ca,Nc,eW]
end
theorem e1l(a b:Str):decide ((TK.inr a:TK)=TK.inr b)=(a == b):=by
 lia
theorem DK{α:Type}(e:TK×α)(es:List (TK×α))(k:TK)(v:α):bL (e::es) k v=if e.1=k then(e.1,v)::es else e::bL es k v:=rfl
section
variable{α:Type}{k:α->Str}{v:α->D}{xs:List α}{b:Str}{y:D}
def td(k:α->Str)(v:α->D)(xs:List α):List (TK×D):=xs.map λx=>(.inr (k x),v x)
theorem n4:(td k v xs).length=xs.length:=bj ..
theorem Ei(b:Str):∀xs:List α,aM (td k v xs) (.inr b)=(xs.find? λx=>k x == b).map v
 |[]=>rfl
 |x::xs=>by
  have ih:=Ei b xs;unfold aM td at *;rw[cU,GF,GF];dsimp only;rw[e1l];cases(k x == b) with
  |true=>rfl
  |false=>exact ih
theorem jK{x:α}(nd:(xs.map k).Nodup)(hx:x∈xs):aM (td k v xs) (.inr (k x))=some (v x):=by
 rw[Ei];have:xs.find? (λz=>k z == k x)=some x:=by
  induction xs with
  |nil=>cases hx
  |cons z zs ih=>
   grind
 simp_all
theorem e8e(b:Str)(xs:List α):(b∉xs.map k/\aM (td k v xs) (.inr b)=none)\/∃x∈xs,k x=b/\aM (td k v xs) (.inr b)=some (v x):=by
 rw[Ei];cases e:xs.find? (λx=>k x == b) with
 |none=>
  simp_all
 |some x=>exact .inr ⟨x,JM e,by have:=JN e;exact beq_iff_eq.mp this,rfl⟩
theorem Ej(h:b∉xs.map k):bL (td k v xs) (.inr b) y=td k v xs++[(.inr b,y)]:=by
 induction xs with
 |nil=>rfl
 |cons x xs ih=>
  grind [td,DK]
theorem Ek(nd:(xs.map k).Nodup)(h:b∈xs.map k):bL (td k v xs) (.inr b) y=td k (λx=>if k x=b then y else v x) xs:=by
 induction xs with
 |nil=>cases h
 |cons x xs ih=>
  rw[cU,t_] at nd;unfold td at *;rw[cU,cU,DK];dsimp only;by_cases e:k x=b
  .rw[bK (by rw[e]),bK e]
   congr 1
   refine qD λz m=>?_
   rw[bD λe2=>nd.1 (by rw[e,<-e2];exact qC m)]
  .rw[bD (λe2=>e (TK.inr.inj e2)),bD e,ih nd.2]
   rcases y0a.mp h with z|z
   .exact cJ z.symm e
   .exact z
theorem D9:dC (td k v xs) b=td k v (xs.filter λx=>decide (k x≠b)):=by
 unfold dC td;rw[List.filter_map]
 congr 1
 refine List.filter_congr λx _=>?_
 unfold jw;dsimp only[Function.comp];exact decide_eq_decide.mpr (not_congr ⟨λz=>TK.inr.inj z,λz=>congrArg TK.inr z⟩)
theorem Ip:(td k v xs).map (·.1.d)=dS (xs.map k):=by
 unfold td dS;rw[eP,eP];refine qD λx _=>?_
 simp[TK.d]
theorem As:fM (td k v xs)=true:=by
 unfold td fM;rw[GD];exact oO.mpr λx _=>rfl
end
section
variable{hd:D}{r nw v:Int}{n:Nat}
theorem o_:List.lookup ("built":Str) (hF hd r nw n)=some (hd):=by kernel_rfl
theorem Vl:List.lookup ("told_rounds":Str) (hF hd r nw n)=some (.int r):=by kernel_rfl
theorem IK:List.lookup ("now":Str) (hF hd r nw n)=some (.int nw):=by kernel_rfl
theorem tH:List.lookup ("book":Str) (hF hd r nw n)=some (.ref (n+1)):=by kernel_rfl
theorem DV:List.lookup ("halts":Str) (hF hd r nw n)=some (.ref (n+2)):=by kernel_rfl
theorem mV:List.lookup ("places":Str) (hF hd r nw n)=some (.ref (n+3)):=by kernel_rfl
theorem q9:List.lookup ("readings":Str) (hF hd r nw n)=some (.ref (n+4)):=by kernel_rfl
theorem Hx:List.lookup ("rounded":Str) (hF hd r nw n)=some (.ref (n+5)):=by kernel_rfl
theorem RX:List.lookup ("gone":Str) (hF hd r nw n)=some (.ref (n+6)):=by kernel_rfl
theorem DL:List.lookup ("carted":Str) (hF hd r nw n)=some (.ref (n+7)):=by kernel_rfl
theorem e8f:gw "now" (.int v) (hF hd r nw n)=hF hd r v n:=by kernel_rfl
end
variable{hd:D}
section
variable{hd:D}{r nw:Int}{n:Nat}
theorem P8:Cell.kl cHall ("flight":Str) (.ins cHall (hF hd r nw n))=true:=by kernel_rfl
theorem P9:Cell.kl cHall ("change":Str) (.ins cHall (hF hd r nw n))=true:=by kernel_rfl
theorem O3:Cell.kl cHall ("call_off":Str) (.ins cHall (hF hd r nw n))=true:=by kernel_rfl
theorem RY:Cell.kl cHall ("read":Str) (.ins cHall (hF hd r nw n))=true:=by kernel_rfl
theorem RZ:Cell.kl cHall ("stop":Str) (.ins cHall (hF hd r nw n))=true:=by kernel_rfl
theorem QR:Cell.kl cHall ("start":Str) (.ins cHall (hF hd r nw n))=true:=by kernel_rfl
theorem Te:Cell.kl cHall ("put":Str) (.ins cHall (hF hd r nw n))=true:=by kernel_rfl
theorem wR:Cell.kl cHall ("check_flight":Str) (.ins cHall (hF hd r nw n))=true:=by kernel_rfl
theorem yw:Cell.kl cHall ("check_belt":Str) (.ins cHall (hF hd r nw n))=true:=by kernel_rfl
theorem z6:Cell.kl cHall ("check_inside":Str) (.ins cHall (hF hd r nw n))=true:=by kernel_rfl
theorem Z4:Cell.kl cHall ("house":Str) (.ins cHall (hF hd r nw n))=true:=by kernel_rfl
theorem P_:Cell.kl cHall ("rounds":Str) (.ins cHall (hF hd r nw n))=true:=by kernel_rfl
theorem XU:Cell.kl cHall ("moment":Str) (.ins cHall (hF hd r nw n))=true:=by kernel_rfl
theorem Wy:Cell.kl cHall ("flights":Str) (.ins cHall (hF hd r nw n))=true:=by kernel_rfl
theorem Kz:Cell.kl cHall ("stopped":Str) (.ins cHall (hF hd r nw n))=true:=by kernel_rfl
theorem Aj:Cell.kl cHall ("bags":Str) (.ins cHall (hF hd r nw n))=true:=by kernel_rfl
theorem Tf:Cell.kl cHall ("out":Str) (.ins cHall (hF hd r nw n))=true:=by kernel_rfl
theorem e1m:Cell.kl cHall ("late":Str) (.ins cHall (hF hd r nw n))=true:=by kernel_rfl
theorem DD:Cell.kl cHall ("cart_of":Str) (.ins cHall (hF hd r nw n))=true:=by kernel_rfl
theorem DE:Cell.kl cHall ("catches":Str) (.ins cHall (hF hd r nw n))=true:=by kernel_rfl
theorem O4:Cell.kl cHall ("in_order":Str) (.ins cHall (hF hd r nw n))=true:=by kernel_rfl
theorem e1n:Cell.kl cHall ("move":Str) (.ins cHall (hF hd r nw n))=true:=by kernel_rfl
theorem Wz:Cell.kl cHall ("move_on":Str) (.ins cHall (hF hd r nw n))=true:=by kernel_rfl
theorem V1:Cell.kl cHall ("move_out":Str) (.ins cHall (hF hd r nw n))=true:=by kernel_rfl
end
structure Row where
 bag:Str
 b:Str
 i:Int
 fl:aj Str
 gn:Int
instance:Inhabited Row:=⟨"","",0,none,0⟩
structure Hl where
 now:Int
 book:List (Str×Str×Int)
 halts:List Str
 rows:List Row
 gone:List (Str×Str×Int)
def aN:aj Str->D
 |none=>.aH
 |some x=>.str x
abbrev pl(b:Str)(i:Int):D:=.tup [.str b,.int i]
def t3(p:Str×Str×Int):D:=.tup [.str p.1,.str p.2.1,.int p.2.2]
def lq(l:List (Str×Str×Int)):List (TK×D):=td (·.1) t3 l
def iw(l:List Row):List (TK×D):=td Row.bag (λr=>pl r.b r.i) l
def iy(l:List Row):List (TK×D):=td Row.bag (λr=>aN r.fl) l
def mq(l:List Row):List (TK×D):=td Row.bag (λr=>.int r.gn) l
def AA(l:List (Str×Str×Int)):List (TK×D):=td (·.1) (λp=>.str p.2.1) l
def wc(l:List (Str×Str×Int)):List D:=l.map t3
abbrev hR(hd:D)(r:Int)(x:Hl):List Cell:=[.ins cHall (hF hd r x.now 0),.o (.aw (lq x.book)),.o (.aw (qp x.halts)),.o (.aw (iw x.rows)),.o (.aw (iy x.rows)),.o (.aw (mq x.rows)),.o (.lst (wc x.gone)),.o (.aw (AA x.gone))]
noncomputable abbrev hS(hd:D)(r:Int)(x:Hl)(s:List Cell):aU:=⟨s,hR hd r x⟩
section
variable{s:List Cell}{h:aE}{r:Int}{x:Hl}{q:Nat}{b:Str}
theorem Z5(g:aB h):HG q [.d (.ref 0)] (hS (ay h) r x s)=some (.ok (rd (ay h)) (hS (ay h) r x s)):=by
 have e2:=QQ g;unfold HG PZ;generalize ay h=hd at *;simp only[↓ev,hR,oS,o_,e2,cg]
theorem P':Hs q [.d (.ref 0)] (hS hd r x s)=some (.ok (rd (.int r)) (hS hd r x s)):=by
 unfold Hs Pf;simp only[↓ev,hR,OC,Vl,cg]
theorem Tg:D6 q [.d (.ref 0)] (hS hd r x s)=some (.ok (.o (.lst (wc x.gone))) (hS hd r x s)):=by
 unfold D6 RP;simp only[↓ev,hR,Lp,RX,aO,cg]
theorem Cb(g:aB h){v:Bool}(hb:(h.af.map ao.name).contains b=v):BV q [.d (.ref 0),.d (.str b)] (hS (ay h) r x s)=some (if v=true then .ok (rd .aH) (hS (ay h) r x s) else .ex 116 none (hS (ay h) r x s)):=by
 have bl:=g.sm.bl;have hn:=Ah h.af (by lia)
 unfold BV OB ay;cases v with
 |true=>simp only[↓ev,hR,oS,o_,bZ,hn,jS,jJ,hb,mf,aI,cg]
 |false=>simp only[↓ev,hR,oS,o_,bZ,hn,jS,jJ,hb,oQ,cg,aI]
theorem Cy{α:Type}{k:α->Str}{v:α->D}{xs:List α}{b:Str}:(aM (td k v xs) (.inr b)).isSome=(xs.map k).contains b:=by
 grind [e8e]
theorem Z8(q:Nat)(ns:List Str)(hl:ns.length<=1000):bq (ae 0) (Kc q) (Kd q) (dS ns) [none,some (.d (.ref 0))] (hS hd r x s) []=some (.ok (dS (ns.filter λn=>x.halts.contains n)) (hS hd r x s)):=by
 rw[dS,xp (λo=>if x.halts.contains o=true then some (.str o) else none) ns (by lia) λo m=>by
  have v:=Ar o x.halts;unfold Kc Kd;cases hc:x.halts.contains o with
  |true=>
   rw[hc] at v;exact .inr ⟨rd (.str o),.str o,rfl,by simp only[↓ev,hR,Ci,DV,aO,aI,v],by simp only[↓ev],rfl⟩
  |false=>
   rw[hc] at v;exact .inl ⟨rfl,by simp only[↓ev,hR,Ci,DV,aO,aI,v]⟩]
 congr 2
 induction ns with
 |nil=>rfl
 |cons o ns ih=>
  grind
noncomputable def cP(h:aE)(x:Hl):List Str:=(h.af.map ao.name).filter λn=>x.halts.contains n
theorem KQ(g:aB h):B3 q [.d (.ref 0)] (hS (ay h) r x s)=some (.ok (.o (.lst (dS (cP h x)))) (hS (ay h) r x s)):=by
 have bl:=g.sm.bl;have hn:=Ah h.af (by lia)
 have e:=λq=>Z8 (s:=s) (r:=r) (x:=x) (hd:=ay h) q (h.af.map ao.name) (by rw[bj];lia)
 unfold B3 O1 cP ay at *;simp only[↓ev,hR,oS,o_,bZ,hn,e,cg]
end
variable{h:aE}{b:Str}{S:aU}
noncomputable def rk(h:aE)(b:Str):Int:=((findS (h.af.map ao.name) b).getD 0:Nat)
theorem K_:∀xs:List Str,dR (dS xs)=some xs
 |[]=>rfl
 |x::xs=>by
  have ih:=K_ xs;show(dR (D.str x::dS xs))=_;unfold dR;rw[ih];rfl
theorem e8g(hb:b∈h.af.map ao.name):jM (.lst (dS (h.af.map ao.name))) (.str b)=some (rd (.int (rk h b))):=by
 obtain⟨j,hj⟩:=DJ hb;show(dR (dS _)).bind _=_;unfold rk;rw[K_,C6,hj];rfl
theorem e8h{c:Str}(hb:b∈h.af.map ao.name)(hc:c∈h.af.map ao.name)(e:rk h b=rk h c):b=c:=by
 obtain⟨j,hj⟩:=DJ hb;obtain⟨k,hk⟩:=DJ hc;unfold rk at e;rw[hj,hk] at e;have e:((j:Nat):Int)=(k:Nat):=e;have e:j=k:=by lia
 have h1:=(B5 hj).1;have h2:=(B5 hk).1
 lia
def k_(h:aE)(r:Row):Prop:=∃bt∈h.af,bt.name=r.b/\0<=r.i/\r.i<bt.long/\0<=r.gn
theorem k_.nm{r:Row}(o:k_ h r):r.b∈h.af.map ao.name:=by
 obtain⟨bt,hb,e,_⟩:=o;rw[<-e];exact qC hb
def qy(h:aE)(r:Row):D:=.tup [.int (rk h r.b),.int r.i,.str r.bag]
def jO(h:aE)(r:Row):Int×Int:=(rk h r.b,r.i)
def ord(h:aE)(rows:List Row):List Row:=if rows.length<2 then rows else(dm (rows.map (jO h))).map λj=>rows.getD j default
theorem QS(h:aE):∀rows:List Row,lY (rows.map (qy h))=some (rows.map (jO h))
 |[]=>rfl
 |r::rows=>by
  have ih:=QS h rows;show lY (D.tup [.int (rk h r.b),.int r.i,.str r.bag]::rows.map (qy h))=_;show(lY (rows.map (qy h))).map _=_;rw[ih];rfl
theorem QT{rows:List Row}(nd:(rows.map (jO h)).Nodup):(ord h rows).Perm rows:=by
 unfold ord;split
 .rfl
 .rename_i hl
  obtain⟨p,_⟩:=DN nd (by rw[bj];lia)
  rw[bj] at p;refine(p.map _).trans ?_;have:(List.range rows.length).map (λj=>rows.getD j default)=rows:=by
   refine Ob λi=>?_
   rw[fU];by_cases hi:i<rows.length
   .rw[BI hi,iN hi];simp[hi]
   .rw[BK (by simp;lia),BK (by lia)]
    rfl
  rw[this]
theorem e8i(rows:List Row):(List.range (iw rows).length).map (λi=>D.tup ((((iw rows)[i]?).map λp=>[p.1.d,p.2]).getD []))=rows.map λr=>.tup [.str r.bag,pl r.b r.i]:=by
 unfold iw;refine Ob λi=>?_
 rw[n4,fU,fU];by_cases hi:i<rows.length
 .rw[BI hi,iN hi];unfold td;rw[C7,C7,fU,iN hi];simp[TK.d]
 .rw[BK (by simp;lia),BK (by lia)]
  rfl
section
variable{s:List Cell}{h:aE}{r:Int}{x:Hl}{q:Nat}
theorem e1o(q:Nat)(rows:List Row)(hl:rows.length<=1000)(ho:∀w∈rows,k_ h w):bq (aY [(ae 0),(ae 1)]) (jB true) (J9 q) (rows.map λw=>.tup [.str w.bag,pl w.b w.i]) [none,none,some (.d (.lst (dS (h.af.map ao.name))))] S []=some (.ok (rows.map (qy h)) S):=by
 rw[IH (λw=>some (qy h w)) (λU=>∃a b,U=[a,b,some (.d (.lst (dS (h.af.map ao.name))))]) rows _ [] ⟨_,_,rfl⟩ (by rw[C3];lia) λw m U ⟨a,b,hU⟩=>⟨[some (.d (.str w.bag)),some (.d (pl w.b w.i)),some (.d (.lst (dS (h.af.map ao.name))))],by rw[hU];rfl,⟨_,_,rfl⟩,.inr ⟨rd (qy h w),qy h w,rfl,rfl,by
   have hi:=e8g (ho w m).nm;unfold J9 qy;simp only[↓ev,bZ,hi,cH,aO],rfl⟩⟩,List.filterMap_eq_map',GL]
theorem e1p(q:Nat)(l:List Row)(hl:l.length<=1000):bq (ae 0) (jB true) (J_ q) (l.map (qy h)) [none] S []=some (.ok (dS (l.map Row.bag)) S):=by
 rw[v_ (λw=>.str w.bag) l (by lia) λw m=>⟨rd (.str w.bag),by unfold J_ qy;simp only[↓ev,jT],rfl⟩]
 unfold dS;rw[eP];rfl
theorem R0(g:aB h)(nd:(x.rows.map (jO h)).Nodup)(hl:x.rows.length<64)(ho:∀w∈x.rows,k_ h w):BX q [.d (.ref 0)] (hS (ay h) r x s)=some (.ok (.o (.lst (dS ((ord h x.rows).map Row.bag)))) (hS (ay h) r x s)):=by
 have bl:=g.sm.bl;have hn:=Ah h.af (by lia)
 have e1:=λq=>e1o (S:=hS (ay h) r x s) q x.rows (by lia) ho
 have e2:=e8i x.rows;have pl:=(QT nd).length_eq;have e3:=λq=>e1p (h:=h) (S:=hS (ay h) r x s) q (ord h x.rows) (by lia)
 have e0:fM (iw x.rows)=true:=As;by_cases lt:x.rows.length<2
 .have h1:((x.rows.map (qy h)).length<2)=True:=br (by rw[bj];exact lt)
  have h2:ord h x.rows=x.rows:=bK lt;rw[h2] at e3 ⊢;unfold BX Ke ay at *;generalize(x.rows.map (qy h))=l1 at *;simp only[↓ev,hR,oS,o_,bZ,hn,aO,mE,mV,e0,e2,e1,h1,e3,cg]
 .have h1:((x.rows.map (qy h)).length<2)=False:=eq_false (by rw[bj];exact lt)
  have h2:=QS h x.rows;have h3:((x.rows.map (jO h)).Nodup/\(x.rows.map (jO h)).length<64)=True:=br ⟨nd,by rw[bj];exact hl⟩
  have h4:nF (x.rows.map (qy h)) (dm (x.rows.map (jO h)))=(ord h x.rows).map (qy h):=by
   unfold ord nF;rw[bD lt,eP];refine qD λj m=>?_
   have p:=(DN nd (by rw[bj];lia)).1
   have hj:j<x.rows.length:=by
    have:=tV.mp (p.mem_iff.mp m)
    rwa[bj] at this
   simp[hj]
  unfold BX Ke ay at *;generalize(x.rows.map (qy h))=l1 at *;generalize((ord h x.rows).map (qy h))=l2 at *;generalize(x.rows.map (jO h))=ks at *;simp only[↓ev,hR,oS,o_,bZ,hn,aO,mE,mV,e0,e2,e1,h1,h2,h3,h4,e3,cg]
end
variable{hd:D}
structure Ok (h:aE) (n:Nat) (x:Hl):Prop where
 rw:∀w∈x.rows,k_ h w/\sx w.bag/\∀f,w.fl=some f->f∈x.book.map (·.1)
 nd:(x.rows.map Row.bag++x.gone.map (·.1)).Nodup
 un:(x.rows.map λw=>(w.b,w.i)).Nodup
 bk:∀p∈x.book,p.2.1∈h.carts.drop 1
 bn:(x.book.map (·.1)).Nodup
 gi:∀p∈x.gone,sx p.1
 rl:x.rows.length<=8
 sz:x.book.length+x.halts.length+x.rows.length+x.gone.length<=n
noncomputable def bM(w:Row):D:=.tup [.str w.bag,aN w.fl,pl w.b w.i,.int w.gn]
section
variable{s:List Cell}{h:aE}{r:Int}{x:Hl}{q n:Nat}{w:Row}
theorem Ok.nb(o:Ok h n x):(x.rows.map Row.bag).Nodup:=(oV.mp o.nd).1
theorem Ok.nk(o:Ok h n x):(x.rows.map (jO h)).Nodup:=by
 have e:=o.un;rw[List.Nodup,GN] at e ⊢;refine e.imp_of_mem λ{a b} ma mb ne z=>ne ?_
 have h1:=congrArg Prod.fst z;have h2:=congrArg Prod.snd z;rw[show a.b=b.b from e8h (o.rw a ma).1.nm (o.rw b mb).1.nm h1,show a.i=b.i from h2]
theorem Ok.perm(o:Ok h n x):(ord h x.rows).Perm x.rows:=QT o.nk
theorem Ok.mem(o:Ok h n x):w∈ord h x.rows↔w∈x.rows:=o.perm.mem_iff
theorem XX(q:Nat)(nb:(x.rows.map Row.bag).Nodup)(l:List Row)(hl:l.length<=1000)(hm:∀w∈l,w∈x.rows):bq (ae 0) (jB true) (Ku q) (dS (l.map Row.bag)) [none,some (.d (.ref 0))] (hS hd r x s) []=some (.ok (l.map bM) (hS hd r x s)):=by
 rw[show dS (l.map Row.bag)=l.map λw=>.str w.bag by unfold dS;rw[eP];rfl,v_ bM l (by lia) λw m=>⟨rd (bM w),by
  have h1:aM (iw x.rows) (.inr w.bag)=_:=jK nb (hm w m);have h2:aM (iy x.rows) (.inr w.bag)=_:=jK nb (hm w m);have h3:aM (mq x.rows) (.inr w.bag)=_:=jK nb (hm w m);unfold Ku bM;generalize aN w.fl=ff at *;simp only[↓ev,hR,qG,q9,aO,h2,mE,mV,h1,DC,Hx,h3],rfl⟩]
theorem El(g:aB h)(o:Ok h n x):yA q [.d (.ref 0)] (hS (ay h) r x s)=some (.ok (.o (.lst ((ord h x.rows).map bM))) (hS (ay h) r x s)):=by
 have rl:=o.rl;have e1:=λq=>R0 (s:=s) (r:=r) (q:=q) g o.nk (by lia) λw m=>(o.rw w m).1
 have e2:=λq=>XX (s:=s) (r:=r) (hd:=ay h) q o.nb (ord h x.rows) (by rw[o.perm.length_eq];lia) λw m=>o.mem.mp m
 generalize ay h=hd at *;unfold yA QC;simp only[↓ev,hR,cY,O4,e1,e2,cg]
theorem e1q(q:Nat)(hn:sx w.bag)(hw:w∈x.rows)(nb:(x.rows.map Row.bag).Nodup):z5 q [.d (.ref 0),.d (.str w.bag)] (hS hd r x s)=some (.ok (rd .aH) (hS hd r x s)):=by
 have h1:aM (iw x.rows) (.inr w.bag)=_:=jK nb hw;unfold z5 J7;simp only[↓ev,hn,aI,hR,mE,mV,aO,h1,mf,cg]
end
noncomputable def qN(kn:List (Str×Int)):List (TK×D):=kn.map λp=>(.inr p.1,.int p.2)
noncomputable def atS(kn:List (Str×Int))(n:Str):aj Int:=(kn.find? λp=>p.1 == n).map (·.2)
theorem R1(x:Str):atS [] x=none:=rfl
theorem Ac(k:Str)(v:Int)(kn:List (Str×Int))(x:Str):atS ((k,v)::kn) x=if k=x then some v else atS kn x:=by
 grind [atS]
theorem HY(k:Str)(v:Int)(x:Str):∀kn:List (Str×Int),atS (kn++[(k,v)]) x=(atS kn x).or (if k=x then some v else none)
 |[]=>by rw[GL,Ac,R1,Option.none_or]
 |(k',v')::kn=>by
  rw[List.cons_append,Ac,Ac,HY k v x kn];split
  .rfl
  .rfl
theorem D_(x:Str):∀kn:List (Str×Int),aM (qN kn) (.inr x)=(atS kn x).map .int
 |[]=>rfl
 |(k,v)::kn=>by
  have ih:=D_ x kn
  grind [Ac,aM,qN]
theorem pg0{a:TK}{y:D}:bL [] a y=[(a,y)]:=rfl
theorem R3:∀(kn:List (Str×Int)) (k:Str) (v:Int),atS kn k=none->bL (qN kn) (.inr k) (.int v)=qN (kn++[(k,v)])
 |[],_,_,_=>rfl
 |(k',v')::kn,k,v,h=>by
  rw[Ac] at h;have e:¬k'=k:=λz=>by rw[bK z] at h;cases h
  rw[bD e] at h;show bL ((TK.inr k',D.int v')::qN kn) (.inr k) (.int v)=(TK.inr k',D.int v')::qN (kn++[(k,v)]);rw[<-R3 kn k v h,DK,bD (λz=>e (TK.inr.inj z))]
def cW(kn:List (Str×Int))(outs:List Str):List Int:=outs.filterMap (atS kn)
def aR(au:Str):List ao->List (Str×Int)
 |[]=>[(au,0)]
 |b::bs=>if cW (aR au bs) b.outs=[] then aR au bs else aR au bs++[(b.name,b.long+dH (cW (aR au bs) b.outs))]
theorem QU(au:Str):∀bs:List ao,(aR au bs).length<=bs.length+1
 |[]=>bV _
 |b::bs=>by
  have:=QU au bs;unfold aR;split
  .rw[l_];lia
  .rw[dz,wB,l_];lia
theorem HZ{au:Str}:∀{bs:List ao} {n:Str},n≠au->n∉bs.map ao.name->atS (aR au bs) n=none
 |[],n,h1,_=>by
  show atS [(au,0)] n=none
  grind [Ac,R1]
 |b::bs,n,h1,h2=>by
  rw[cU] at h2;have h3:n≠b.name:=λz=>h2 (by rw[z];exact .head _)
  have ih:=HZ (au:=au) (bs:=bs) h1 λz=>h2 (.tail _ z)
  unfold aR;split
  .exact ih
  .rw[HY,ih,bD (λz=>h3 z.symm)];rfl
theorem e1r(kn:List (Str×Int)):∀outs:List Str,(outs.filterMap λo=>(atS kn o).map D.int)=(cW kn outs).map D.int
 |[]=>rfl
 |o::outs=>by
  grind [cW]
abbrev oz(S:aU)(kn:List (Str×Int)):aU:=⟨S.s++[.o (.aw (qN kn))],S.r⟩
section
variable{S:aU}{kn:List (Str×Int)}{outs:List Str}{g0 g1 a7:aj Val}{x:ao}
theorem QV(q:Nat)(h:outs.length<=1000):bq (ae 0) (Kr q) (Ks q) (dS outs) [none,some (.c S.s.length)] (oz S kn) []=some (.ok ((cW kn outs).map D.int) (oz S kn)):=by
 rw[dS,xp (λo=>(atS kn o).map D.int) outs (by lia) λo m=>by
  have v:=D_ o kn;unfold Kr Ks;cases hc:atS kn o with
  |some w=>
   rw[hc] at v;exact .inr ⟨rd (.int w),.int w,rfl,by simp only[↓ev,de,aI,v,wG],by simp only[↓ev,de,v],rfl⟩
  |none=>
   rw[hc] at v;exact .inl ⟨rfl,by simp only[↓ev,de,aI,v,zM]⟩,e1r]
theorem e8j(ho:x.outs.length<=1000)(hb:cW kn x.outs=[]):B6 0 [g0,g1,some (.c S.s.length),some (.d (.str x.name)),some (.d (.int x.long)),some (.d (.bl x.ring)),some (.d (.lst (dS x.outs))),a7] (oz S kn)=some (.nx [g0,g1,some (.c S.s.length),some (.d (.str x.name)),some (.d (.int x.long)),some (.d (.bl x.ring)),some (.d (.lst (dS x.outs))),some (.d (.lst []))] (oz S kn)):=by
 have e:=λq=>QV (S:=S) (kn:=kn) q ho
 rw[hb] at e;unfold B6;simp only[↓ev,e,aO,aI]
theorem e1s(ho:x.outs.length<=1000){i:Int}{is:List Int}(hb:cW kn x.outs=i::is)(hn:atS kn x.name=none)(hl:((qN kn).length<1000000)=True):B6 0 [g0,g1,some (.c S.s.length),some (.d (.str x.name)),some (.d (.int x.long)),some (.d (.bl x.ring)),some (.d (.lst (dS x.outs))),a7] (oz S kn)=some (.nx [g0,g1,some (.c S.s.length),some (.d (.str x.name)),some (.d (.int x.long)),some (.d (.bl x.ring)),some (.d (.lst (dS x.outs))),some (.d (.lst ((i::is).map D.int)))] (oz S (kn++[(x.name,x.long+dH (i::is))]))):=by
 have e:=λq=>QV (S:=S) (kn:=kn) q ho
 rw[hb] at e;have p:=R3 kn x.name (x.long+dH (i::is)) hn;have z:((i::is).map D.int).isEmpty=false:=rfl;have m:=HC (i::is);have ne:((i::is)=[])=False:=eq_false (List.cons_ne_nil _ _);generalize(i::is).map D.int=l at *;unfold B6;simp only[↓ev,e,aO,z,oQ,m,ne,de,hl,p,jx]
theorem QW{h:aE}(g:aB h){au:Str}(hc:au∈h.carts):P0 DO [.d (ay h),.d (.str au)] (.o (.aw (qN (aR au h.af)))):=by
 intro S;have bl:=g.sm.bl;have ou:=g.sm.ou;have f:=g.fwd;obtain⟨U',S',e,a3,a4,a5,a6,a7,rfl,rfl⟩:=iE (gg:=aY [(ae 3),(ae 4),(ae 5),(ae 6)]) (body:=B6 0) (f:=ak) (U:=[some (.d (ay h)),some (.d (.str au)),some (.c S.s.length),none,none,none,none,none]) (S:=oz S (aR au [])) (λpre U S'=>∃a3 a4 a5 a6 a7,U=[some (.d (ay h)),some (.d (.str au)),some (.c S.s.length),a3,a4,a5,a6,a7]/\S'=oz S (aR au pre.reverse)) h.af.reverse ⟨_,_,_,_,_,rfl,rfl⟩ (by
  rintro q x post eq U S' ⟨a3,a4,a5,a6,a7,rfl,rfl⟩;have eb:h.af=post.reverse++x::q.reverse:=by
   simp_all
  have fx:jR h.carts (x::q.reverse):=B9 (by rw[<-eb];exact f)
  have ho:x.outs.length<=1000:=by
   grind
  have hn:atS (aR au q.reverse) x.name=none:=HZ (λz=>fx.2.2.1 (z ▸ hc)) fx.2.1
  have hl:(aR au q.reverse).length<=1000:=by
   grind [QU]
  rw[List.reverse_append,List.reverse_singleton,List.singleton_append];have ebg:aR au (x::q.reverse)=if cW (aR au q.reverse) x.outs=[] then aR au q.reverse else aR au q.reverse++[(x.name,x.long+dH (cW (aR au q.reverse) x.outs))]:=by
   rfl
  rw[ebg];generalize aR au q.reverse=kn at *;cases hb:cW kn x.outs with
  |nil=>exact⟨_,_,_,rfl,.inl (e8j ho hb),_,_,_,_,_,rfl,by rw[bK rfl]⟩
  |cons i is=>exact⟨_,_,_,rfl,.inl (e1s ho hb hn (br (by unfold qN;rw[bj];lia))),_,_,_,_,_,rfl,by rw[bD (List.cons_ne_nil _ _)]⟩)
 rw[List.reverse_reverse,List.map_reverse,show oz S (aR au [])=⟨S.s++[.o (.aw [(.inr au,.int 0)])],S.r⟩ from rfl] at e;have hD:ay h=.tup [.lst (h.af.map ak),.lst (dS h.carts)]:=rfl;have tl:∀c:Cell,(S.s++[c]).take S.s.length=S.s:=λc=>List.take_left
 rw[hD] at e ⊢;unfold DO Qv;simp only[↓ev,A6,de,aO,List.foldl_cons,pg0,List.foldl_nil,tl,bZ,fP,e,wm,rW]
end
variable{au:Str}{kn:List (Str×Int)}{outs:List Str}{best:aj Str}
theorem K'{carts:List Str}:∀{bs:List ao},jR carts bs->∀b∈bs,∀o∈b.outs,o∈bs.map ao.name\/o∈carts
 |x::bs,f,b,hb,o,ho=>by
  rcases y0a.mp hb with rfl|hb
  .rcases f.1 o ho with z|z
   .exact .inl (.tail _ z)
   .exact .inr z
  .rcases K' f.2.2.2 b hb o ho with z|z
   .exact .inl (.tail _ z)
   .exact .inr z
theorem B4{x:ao}{bs:List ao}{n:Str}(h:n≠x.name):atS (aR au (x::bs)) n=atS (aR au bs) n:=by
 grind [aR,HY]
theorem KA{kn':List (Str×Int)}(h:∀o∈outs,atS kn o=atS kn' o):cW kn outs=cW kn' outs:=by
 unfold cW
 induction outs with
 |nil=>rfl
 |cons o outs ih=>
  have:=ih λz hz=>h z (.tail _ hz)
  rw[vL,vL,h o (.head _),this]
theorem Iq{carts:List Str}{au:Str}(hc:au∈carts):∀{bs:List ao},jR carts bs->∀b∈bs,atS (aR au bs) b.name=if cW (aR au bs) b.outs=[] then none else some (b.long+dH (cW (aR au bs) b.outs))
 |x::bs,f,b,hb=>by
  rcases y0a.mp hb with rfl|hb
  .have ho:∀o∈b.outs,o≠b.name:=λo ho z=>by
    rcases f.1 o ho with y|y
    .exact f.2.1 (by rw[<-z];exact y)
    .exact f.2.2.1 (by rw[<-z];exact y)
   have e:=KA (kn:=aR au (b::bs)) (kn':=aR au bs) (outs:=b.outs) λo m=>B4 (ho o m)
   rw[e]
   conv=>lhs;unfold aR
   have hn:atS (aR au bs) b.name=none:=HZ (λz=>f.2.2.1 (by rw[z];exact hc)) f.2.1
   split
   .exact hn
   .rw[HY,hn,bK rfl];rfl
  .have hn:b.name≠x.name:=λz=>f.2.1 (by rw[<-z];exact qC (f:=ao.name) hb)
   have ho:∀o∈b.outs,o≠x.name:=λo ho z=>by
    rcases K' f.2.2.2 b hb o ho with y|y
    .exact f.2.1 (by rw[<-z];exact y)
    .exact f.2.2.1 (by rw[<-z];exact y)
   have e:=KA (kn:=aR au (x::bs)) (kn':=aR au bs) (outs:=b.outs) λo m=>B4 (ho o m)
   rw[e,B4 hn];exact Iq hc f.2.2.2 b hb
theorem Lq{carts:List Str}{au:Str}(hc:au∈carts):∀{bs:List ao},jR carts bs->atS (aR au bs) au=some 0
 |[],_=>by show atS [(au,0)] au=some 0;rw[Ac,bK rfl]
 |x::bs,f=>by rw[B4 (λz=>f.2.2.1 (by rw[<-z];exact hc))];exact Lq hc f.2.2.2
theorem Z9{carts:List Str}{c:Str}{bs:List ao}(f:jR carts bs)(hc:c∈carts)(h:c≠au):atS (aR au bs) c=none:=HZ h (DI f c hc)
def AM(h:aE)(au n:Str)(c:Int):D:=match atS (aR au h.af) n with
 |none=>.aH
 |some v=>.int (v - c)
def pd(kn:List (Str×Int))(best:aj Str)(o:Str):aj Str:=match atS kn o with
 |none=>best
 |some v=>match best with
  |none=>some o
  |some p=>if v<(atS kn p).getD 0 then some o else best
def gZ(kn:List (Str×Int))(outs:List Str):aj Str:=outs.foldl (pd kn) none
def b2i(kn:List (Str×Int))(best:aj Str):Prop:=∀p,best=some p->∃v,atS kn p=some v
theorem Pm(h:b2i kn best)(o:Str):b2i kn (pd kn best o):=by
 intro p e;unfold pd at e;cases q:atS kn o with
 |none=>rw[q] at e;exact h p e
 |some v=>
  rw[q] at e;dsimp only at e;cases best with
  |none=>cases e;exact⟨v,q⟩
  |some p'=>
   dsimp only at e;split at e
   .simp_all
   .exact h p e
theorem R4{kn:List (Str×Int)}:∀{outs:List Str} {best:aj Str},b2i kn best->b2i kn (outs.foldl (pd kn) best)
 |[],_,h=>h
 |o::outs,best,h=>R4 (outs:=outs) (Pm h o)
theorem La{kn:List (Str×Int)}:∀{outs:List Str} {best:aj Str},b2i kn best->
  (outs.foldl (pd kn) best=none↔best=none/\cW kn outs=[])/\
  ∀a,outs.foldl (pd kn) best=some a->(best=some a\/a∈outs)/\∃v,atS kn a=some v/\(∀o∈outs,∀w,atS kn o=some w->v<=w)/\∀p w,best=some p->atS kn p=some w->v<=w
 |[],best,h=>by
  refine⟨⟨λe=>⟨e,rfl⟩,λe=>e.1⟩,λa e=>?_⟩
  obtain⟨v,hv⟩:=h a e;refine⟨.inl e,v,hv,λo m=>(by cases m),λp w e1 e2=>?_⟩
  have e:best=some a:=e;rw[e] at e1;cases e1;rw[hv] at e2;cases e2;exact Oc _
 |o::outs,best,h=>by
  obtain⟨i1,i2⟩:=La (outs:=outs) (Pm h o);rw[List.foldl_cons];constructor
  .rw[i1];unfold pd cW;cases q:atS kn o with
   |none=>rw[List.filterMap_cons_none q]
   |some v=>
    rw[List.filterMap_cons_some q];constructor
    .rintro⟨e,_⟩;exfalso;cases best with
     |none=>cases e
     |some p=>dsimp only at e;split at e <;> cases e
    .rintro⟨_,e⟩;cases e
  .intro a e;obtain⟨j1,v,j2,j3,j4⟩:=i2 a e;cases q:atS kn o with
   |none=>
    have es:pd kn best o=best:=by unfold pd;rw[q]
    rw[es] at j1 j4;refine⟨?_,v,j2,λo' m w e'=>?_,j4⟩
    all_goals grind
   |some u=>
    cases best with
    |none=>
     have es:pd kn none o=some o:=by unfold pd;rw[q]
     rw[es] at j1 j4;refine⟨.inr ?_,v,j2,λo' m w e'=>?_,λp w e'=>(by cases e')⟩
     all_goals grind
    |some p=>
     obtain⟨pv,hp⟩:=h p rfl;by_cases om:u<pv
     .have es:pd kn (some p) o=some o:=by unfold pd;rw[q];dsimp only;rw[hp,JO,bK om]
      rw[es] at j1 j4;refine⟨.inr ?_,v,j2,λo' m w e'=>?_,λp' w e1 e2=>?_⟩
      all_goals grind
     .have es:pd kn (some p) o=some p:=by unfold pd;rw[q];dsimp only;rw[hp,JO,bD om]
      rw[es] at j1 j4;refine⟨?_,v,j2,λo' m w e'=>?_,j4⟩
      all_goals grind
theorem ju{v:Int}:v∈cW kn outs↔∃o∈outs,atS kn o=some v:=BF
theorem mW:gZ kn outs=none↔cW kn outs=[]:=by
 have:=(La (kn:=kn) (outs:=outs) (best:=none) (λp e=>by cases e)).1
 grind [gZ]
theorem XY{a:Str}(e:gZ kn outs=some a):a∈outs/\atS kn a=some (dH (cW kn outs)):=by
 obtain⟨j1,v,j2,j3,_⟩:=(La (kn:=kn) (outs:=outs) (best:=none) (λp e=>by cases e)).2 a e
 have ha:a∈outs:=by
  lia
 have fD:cW kn outs≠[]:=λz=>by rw[mW.mpr z] at e;cases e
 obtain⟨m1,m2⟩:=HA fD;obtain⟨o,ho,eo⟩:=ju.mp m1;have c1:=j3 o ho _ eo;have c2:=m2 v (ju.mpr ⟨a,ha,j2⟩)
 grind
section
variable{h:aE}{au n:Str}{c:Int}
theorem f1p(g:aB h)(hc:au∈h.carts):P0 IP [.d (ay h),.d (.tup [.str n,.int c]),.d (.str au)] (rd (AM h au n c)):=by
 intro S;have e:=QW g hc;have v:=D_ n (aR au h.af);unfold IP TQ AM;generalize ay h=hd at *;cases hk:atS (aR au h.af) n with
 |none=>
  rw[hk] at v;simp only[↓ev,e,aO,bZ,v,zM,oQ,eW]
 |some w=>
  rw[hk] at v;simp only[↓ev,e,aO,bZ,v,wG,mf,aI,cH,eW]
theorem Z_{S:aU}(ok:b2i kn best)(o:Str){g0 g1 g2:aj Val}:D7 0 [g0,g1,g2,some (.d (.aw (qN kn))),some (.d (aN best)),some (.d (.str o))] S=some (.nx [g0,g1,g2,some (.d (.aw (qN kn))),some (.d (aN (pd kn best o))),some (.d (.str o))] S):=by
 have v:=D_ o kn;unfold D7 pd;cases hk:atS kn o with
 |none=>
  rw[hk] at v;simp only[↓ev,aI,v,zM]
 |some w=>
  rw[hk] at v;cases best with
  |none=>
   unfold aN;simp only[↓ev,aI,v,wG,aO]
  |some p=>
   obtain⟨u,hu⟩:=ok p rfl;have v2:=D_ p kn;rw[hu] at v2;unfold aN;by_cases hl:w<u
   .have oi:=br hl;simp only[↓ev,aI,v,wG,v2,oi,decide_true,aO,hu]
   .have oi:=eq_false hl;simp only[↓ev,aI,v,wG,v2,oi,decide_false,hu]
end
section
variable{h:aE}{au n:Str}{c:Int}
theorem Γ{S:aU}{kn:List (Str×Int)}{outs:List Str}{g0 g1 g2 a:aj Val}:∃a',aJ (ae 5) (D7 0) (dS outs) [g0,g1,g2,some (.d (.aw (qN kn))),some (.d .aH),a] S=some (.nx [g0,g1,g2,some (.d (.aw (qN kn))),some (.d (aN (gZ kn outs))),a'] S):=by
 obtain⟨U',S',e,a',rfl,rfl⟩:=iE (gg:=ae 5) (body:=D7 0) (f:=D.str) (U:=[g0,g1,g2,some (.d (.aw (qN kn))),some (.d .aH),a]) (S:=S) (λpre U S'=>∃a',U=[g0,g1,g2,some (.d (.aw (qN kn))),some (.d (aN (gZ kn pre))),a']/\S'=S) outs ⟨a,rfl,rfl⟩ (by
  rintro d x r eq U S' ⟨a',rfl,rfl⟩;have ok:b2i kn (gZ kn d):=R4 λp z=>by cases z
  refine⟨_,_,_,rfl,.inl (Z_ ok x),some (.d (.str x)),?_,rfl⟩;unfold gZ;rw[Od];rfl)
 exact⟨a',e⟩
theorem IS(g:aB h){b:ao}(hb:b∈h.af)(hc:au∈h.carts):P0 IQ [.d (ay h),.d (.str b.name),.d (.str au)] (rd (aN (gZ (aR au h.af) b.outs))):=by
 intro S;have e1:=QW g hc;have e2:=Cg g hb;obtain⟨a',e⟩:=Γ (S:=S) (kn:=aR au h.af) (outs:=b.outs) (g0:=some (.d (ay h))) (g1:=some (.d (.str b.name))) (g2:=some (.d (.str au))) (a:=none);have hD:ak b=.tup [.str b.name,.int b.long,.bl b.ring,.lst (dS b.outs)]:=rfl;rw[hD] at e2;unfold IQ TR;generalize ay h=hd at *;simp only[↓ev,e1,aO,e2,v8,fP,e,eW]
end
noncomputable abbrev df(h:aE):Str:=h.carts.getD 0 ""
def rj(h:aE)(ct:Str)(nw cl:Int)(b:Str)(i:Int):Bool:=match atS (aR ct h.af) b with
 |none=>false
 |some v=>decide (nw+(v - i)<=cl)
noncomputable def qk(x:Hl)(w:Row):aj (Str×Int):=w.fl.bind λf=>(x.book.find? λp=>p.1 == f).map (·.2)
def iX(h:aE)(x:Hl)(w:Row):Bool:=match qk x w with
 |none=>false
 |some (ct,cl)=>rj h ct x.now cl w.b w.i
def cL(h:aE)(x:Hl)(w:Row):Str:=match qk x w with
 |none=>df h
 |some (ct,cl)=>if rj h ct x.now cl w.b w.i=true then ct else df h
section
variable{s:List Cell}{h:aE}{r:Int}{x:Hl}{n:Nat}{w:Row}
theorem KR(o:Ok h n x)(hw:w∈x.rows):(w.fl=none/\qk x w=none)\/∃f ct cl,w.fl=some f/\qk x w=some (ct,cl)/\ct∈h.carts/\aM (lq x.book) (.inr f)=some (.tup [.str f,.str ct,.int cl]):=by
 unfold qk;cases hf:w.fl with
 |none=>exact .inl ⟨rfl,rfl⟩
 |some f=>
  have v:aM (lq x.book) (.inr f)=_:=Ei f x.book;cases e:x.book.find? (λp=>p.1 == f) with
  |none=>
   obtain⟨p,hp,ep⟩:=jQ.mp ((o.rw w hw).2.2 f hf);have:=N_.mp e p hp;rw[ep,fV] at this;exact cJ rfl this
  |some p=>
   have e1:=JN e;have e1:p.1=f:=beq_iff_eq.mp e1;refine .inr ⟨f,p.2.1,p.2.2,rfl,by rw[C6,e];rfl,Of (o.bk p (JM e)),?_⟩
   rw[v,e,<-e1];rfl
theorem R5(g:aB h)(o:Ok h n x)(hw:w∈x.rows):Dw 0 [.d (.ref 0),.d (.str w.bag)] (hS (ay h) r x s)=some (.ok (rd (.bl (iX h x w))) (hS (ay h) r x s)):=by
 have h1:aM (iw x.rows) (.inr w.bag)=_:=jK o.nb hw;have h2:aM (iy x.rows) (.inr w.bag)=_:=jK o.nb hw;unfold Dw O2 iX;rcases KR o hw with⟨e1,e2⟩|⟨f,ct,cl,e1,e2,hc,hk⟩
 .rw[e1] at h2;rw[e2];unfold aN at h2;generalize ay h=hd at *;simp only[↓ev,hR,qG,q9,aO,h2,aI,cg]
 .rw[e1] at h2;rw[e2];unfold aN at h2;have e:=f1p (n:=w.b) (c:=w.i) g hc;unfold AM at e;dsimp only;unfold rj;cases hv:atS (aR ct h.af) w.b with
  |none=>
   rw[hv] at e;generalize ay h=hd at *;simp only[↓ev,hR,qG,q9,aO,h2,aI,rR,tH,hk,oS,o_,mE,mV,h1,cH,e,cg]
  |some v=>
   rw[hv] at e;generalize ay h=hd at *;simp only[↓ev,hR,qG,q9,aO,h2,aI,rR,tH,hk,oS,o_,mE,mV,h1,cH,e,Eh,IK,jT,cg]
theorem Th(g:aB h)(o:Ok h n x)(hw:w∈x.rows):yz 0 [.d (.ref 0),.d (.str w.bag)] (hS (ay h) r x s)=some (.ok (rd (.str (cL h x w))) (hS (ay h) r x s)):=by
 have h2:aM (iy x.rows) (.inr w.bag)=_:=jK o.nb hw;have e1:=λq=>e1q (s:=s) (r:=r) q (hd:=ay h) (o.rw w hw).2.1 hw o.nb
 have e2:=R5 (s:=s) (r:=r) g o hw;obtain⟨_,ha⟩:=Ai g;have hD:ay h=.tup [.lst (h.af.map ak),.lst (dS h.carts)]:=rfl;rw[hD] at e1 e2 ⊢;unfold yz Km cL;unfold iX at e2;rcases KR o hw with⟨e3,e4⟩|⟨f,ct,cl,e3,e4,hc,hk⟩
 .rw[e4] at e2 ⊢;unfold df;generalize h.carts.getD 0 ""=wg at *;simp only[↓ev,hR,cY,z6,e1,DE,e2,aI,oS,o_,cH,ha,cg]
 .rw[e4] at e2 ⊢;rw[e3] at h2;unfold aN at h2;dsimp only at e2 ⊢;unfold df;generalize h.carts.getD 0 ""=wg at *;cases hb:rj h ct x.now cl w.b w.i with
  |true=>
   rw[hb] at e2;simp only[↓ev,hR,cY,z6,e1,DE,e2,rR,tH,aO,qG,q9,h2,hk,cH,cg]
  |false=>
   rw[hb] at e2;simp only[↓ev,hR,cY,z6,e1,DE,e2,aI,oS,o_,cH,ha,cg]
theorem Lb(g:aB h):∀{bs pre:List ao},h.af=pre++bs->∀b∈bs,∃v,atS (aR (df h) h.af) b.name=some v
 |x::bs,pre,eq,b,hb=>by
  have CA:h.af=(pre++[x])++bs:=by rw[eq];simp
  rcases y0a.mp hb with rfl|hb
  .have Ja:b∈h.af:=by rw[eq];simp
   have fx:jR h.carts (b::bs):=B9 (by rw[<-eq];exact g.fwd)
   have key:∀o∈b.outs,∀v,atS (aR (df h) h.af) o=some v->∃v,atS (aR (df h) h.af) b.name=some v:=λo m v e=>by
    have hm:=ju.mpr ⟨o,m,e⟩;rw[Iq (Ai g).1 g.fwd b Ja,bD λz=>by rw[z] at hm;cases hm]
    exact⟨_,rfl⟩
   rcases g.hd b Ja with z|⟨o,z1,z2⟩
   .exact key _ z _ (Lq (Ai g).1 g.fwd)
   .rcases fx.1 o z1 with y|y
    .obtain⟨w,hw,rfl⟩:=jQ.mp y;obtain⟨v,e⟩:=Lb g CA w hw;exact key _ z1 v e
    .exact cJ z2 (DI g.fwd o y)
  .exact Lb g CA b hb
theorem R6(g:aB h)(o:Ok h n x)(hw:w∈x.rows):cL h x w∈h.carts/\∃v,atS (aR (cL h x w) h.af) w.b=some v:=by
 obtain⟨bt,hb,eb,_⟩:=(o.rw w hw).1;have hh:df h∈h.carts/\∃v,atS (aR (df h) h.af) w.b=some v:=⟨(Ai g).1,by rw[<-eb];exact Lb g (pre:=[]) (bs:=h.af) rfl bt hb⟩
 unfold cL;rcases KR o hw with⟨e3,e4⟩|⟨f,ct,cl,e3,e4,hc,hk⟩
 .rw[e4];exact hh
 .rw[e4];dsimp only;split
  .rename_i AR
   refine⟨hc,?_⟩;unfold rj at AR;cases hv:atS (aR ct h.af) w.b with
   |none=>rw[hv] at AR;cases AR
   |some v=>exact⟨v,rfl⟩
  .exact hh
end
variable{bt:ao}{o:Str}{busy:List Str}
abbrev Goal:=Str×aj Int
def gD:Goal->D
 |(c,none)=>.str c
 |(b,some i)=>pl b i
section
variable{s:List Cell}{h:aE}{r:Int}{x:Hl}{n:Nat}{w:Row}{ct:Str}
theorem e8k(g:aB h)(hb:bt∈h.af)(hc:ct∈h.carts)(ho:gZ (aR ct h.af) bt.outs=some o)(hi:h.carts.contains o=true){busy:D}:P0 t4 [.d (ay h),.d (ak bt),.d (.str ct),.d busy] (rd (.str o)):=by
 intro S;have e:=IS g hb hc;rw[ho] at e;have hD:ay h=.tup [.lst (h.af.map ak),.lst (dS h.carts)]:=rfl;have hB:ak bt=.tup [.str bt.name,.int bt.long,.bl bt.ring,.lst (dS bt.outs)]:=rfl;rw[hD] at e ⊢;rw[hB];unfold t4 DA;unfold aN at e;simp only[↓ev,bZ,e,aO,cH,jS,aI,jJ,hi,eW]
theorem e8l(g:aB h)(hb:bt∈h.af)(hc:ct∈h.carts)(ho:gZ (aR ct h.af) bt.outs=some o)(hi:h.carts.contains o=false)(hy:busy.contains o=false):P0 t4 [.d (ay h),.d (ak bt),.d (.str ct),.d (.lst (dS busy))] (rd (pl o 0)):=by
 intro S;have e:=IS g hb hc;rw[ho] at e;have hD:ay h=.tup [.lst (h.af.map ak),.lst (dS h.carts)]:=rfl;have hB:ak bt=.tup [.str bt.name,.int bt.long,.bl bt.ring,.lst (dS bt.outs)]:=rfl;rw[hD] at e ⊢;rw[hB];unfold t4 DA;unfold aN at e;cases hr:bt.ring with
 |true=>simp only[↓ev,bZ,e,aO,cH,jS,aI,jJ,hi,jT,hy,eW]
 |false=>simp only[↓ev,bZ,e,aO,cH,jS,aI,jJ,hi,jT,eW]
theorem e8m(g:aB h)(hb:bt∈h.af)(hc:ct∈h.carts)(ho:gZ (aR ct h.af) bt.outs=some o)(hi:h.carts.contains o=false)(hr:bt.ring=true)(hy:busy.contains o=true):P0 t4 [.d (ay h),.d (ak bt),.d (.str ct),.d (.lst (dS busy))] (rd (pl bt.name 0)):=by
 intro S;have e:=IS g hb hc;rw[ho] at e;have hD:ay h=.tup [.lst (h.af.map ak),.lst (dS h.carts)]:=rfl;have hB:ak bt=.tup [.str bt.name,.int bt.long,.bl bt.ring,.lst (dS bt.outs)]:=rfl;rw[hD] at e ⊢;rw[hB,hr];unfold t4 DA;unfold aN at e;simp only[↓ev,bZ,e,aO,cH,jS,aI,jJ,hi,jT,hy,eW]
theorem e8n(g:aB h)(hb:bt∈h.af)(hc:ct∈h.carts)(ho:gZ (aR ct h.af) bt.outs=some o)(hi:h.carts.contains o=false)(hr:bt.ring=false):P0 t4 [.d (ay h),.d (ak bt),.d (.str ct),.d (.lst (dS busy))] (rd (pl o 0)):=by
 intro S;have e:=IS g hb hc;rw[ho] at e;have hD:ay h=.tup [.lst (h.af.map ak),.lst (dS h.carts)]:=rfl;have hB:ak bt=.tup [.str bt.name,.int bt.long,.bl bt.ring,.lst (dS bt.outs)]:=rfl;rw[hD] at e ⊢;rw[hB,hr];unfold t4 DA;unfold aN at e;simp only[↓ev,bZ,e,aO,cH,jS,aI,jJ,hi,jT,eW]
def ib(h:aE)(x:Hl):List Str:=cP h x++(ord h x.rows).filterMap λw=>if(w.i == 0)=true then some w.b else none
theorem XZ(q:Nat)(l:List Row)(hl:l.length<=1000){S:aU}:bq (ae 0) (Ka q) (Kb q) (l.map bM) [none] S []=some (.ok (dS (l.filterMap λw=>if(w.i == 0)=true then some w.b else none)) S):=by
 rw[xp (λw=>(if(w.i == 0)=true then some w.b else none).map D.str) l (by lia) λw m=>by
  unfold Ka Kb bM;generalize aN w.fl=ff at *;cases hc:(w.i == 0) with
  |true=>exact .inr ⟨rd (.str w.b),.str w.b,rfl,by simp only[↓ev,jT,cH,aI,fI,hc],by simp only[↓ev,jT,bZ],rfl⟩
  |false=>exact .inl ⟨rfl,by simp only[↓ev,jT,cH,aI,fI,hc]⟩]
 congr 2
 unfold dS;rw[List.map_filterMap]
theorem e8o(g:aB h)(o:Ok h n x):Hg 0 [.d (.ref 0)] (hS (ay h) r x s)=some (.ok (.o (.lst (dS (ib h x)))) (hS (ay h) r x s)):=by
 have rl:=o.rl;have e1:=λq=>KQ (s:=s) (r:=r) (q:=q) (x:=x) g
 have e2:=λq=>El (s:=s) (r:=r) (q:=q) g o
 have e3:=λq=>XZ (S:=hS (ay h) r x s) q (ord h x.rows) (by rw[o.perm.length_eq];lia)
 have hl:((dS (cP h x)).length+(dS ((ord h x.rows).filterMap λw=>if(w.i == 0)=true then some w.b else none)).length<=1000000)=True:=br (by
  have h1:(cP h x).length<=(h.af.map ao.name).length:=wD _ _;have h2:=GP (λw:Row=>if(w.i == 0)=true then some w.b else none) (ord h x.rows)
  have h3:=o.perm.length_eq;have h4:=g.sm.bl
  grind)
 generalize ay h=hd at *;unfold Hg OS ib;rw[dS,gF,<-dS,<-dS];simp only[↓ev,hR,cY,Kz,e1,Aj,e2,e3,hl,cg]
def xS(h:aE)(x:Hl)(bt:ao)(o:Str):Goal:=if h.carts.contains o=true then(o,none) else if(bt.ring&&(ib h x).contains o)=true then(bt.name,some 0) else(o,some 0)
def qm(h:aE)(r:Int)(x:Hl)(w:Row)(bt:ao):Goal:=if w.i+1<bt.long then(bt.name,some (w.i+1)) else if bt.ring=true/\w.fl=none/\w.gn<r then(bt.name,some 0) else xS h x bt ((gZ (aR (cL h x w) h.af) bt.outs).getD "")
def aF(h:aE)(r:Int)(x:Hl)(w:Row):Goal:=match findB h.af w.b with
 |none=>(w.b,none)
 |some bt=>qm h r x w bt
theorem KS(g:aB h)(hb:bt∈h.af):findB h.af bt.name=some bt:=by
 unfold findB;cases e:h.af.find? (λb=>b.name == bt.name) with
 |none=>
  grind
 |some c=>
  have h1:=JN e;rw[HX g.fwd c (JM e) bt hb (beq_iff_eq.mp h1)]
theorem Ti(g:aB h)(o:Ok h n x)(hw:w∈x.rows)(hb:bt∈h.af)(eb:bt.name=w.b):∃a,gZ (aR (cL h x w) h.af) bt.outs=some a/\a∈bt.outs:=by
 obtain⟨hc,v,hv⟩:=R6 g o hw;have bg:=Iq hc g.fwd bt hb;rw[eb,hv] at bg;have fD:¬cW (aR (cL h x w) h.af) bt.outs=[]:=λz=>by rw[bK z] at bg;cases bg
 cases e:gZ (aR (cL h x w) h.af) bt.outs with
 |none=>exact cJ (mW.mp e) fD
 |some a=>exact⟨a,rfl,(XY e).1⟩
theorem Δ(g:aB h)(hb:bt∈h.af)(hc:ct∈h.carts)(ho:gZ (aR ct h.af) bt.outs=some o):P0 t4 [.d (ay h),.d (ak bt),.d (.str ct),.d (.lst (dS (ib h x)))] (rd (gD (xS h x bt o))):=by
 unfold xS;cases e1:h.carts.contains o with
 |true=>exact e8k g hb hc ho e1
 |false=>
  rw[bD (by decide)]
  cases e2:bt.ring with
  |false=>exact e8n g hb hc ho e1 e2
  |true=>
   cases e3:(ib h x).contains o with
   |true=>exact e8m g hb hc ho e1 e2 e3
   |false=>exact e8l g hb hc ho e1 e3
end
section
variable{s:List Cell}{h:aE}{r:Int}{x:Hl}{n:Nat}{w:Row}{bt:ao}{aP:List D}{a8 a9:aj Val}{bz:D}
abbrev wS(hd:D)(r:Int)(x:Hl)(s:List Cell)(aP:List D):aU:=⟨s++[.o (.lst aP)],hR hd r x⟩
theorem NS(g:aB h)(hb:bt∈h.af)(eb:bt.name=w.b)(hl:(w.i+1<bt.long)=True)(ha:(aP.length<1000000)=True):wW 0 [some (.d (.ref 0)),some (.d (ay h)),some (.d bz),some (.c s.length),some (.d (.str w.bag)),some (.d (aN w.fl)),some (.d (pl w.b w.i)),some (.d (.int w.gn)),a8,a9] (wS (ay h) r x s aP)=some (.nx [some (.d (.ref 0)),some (.d (ay h)),some (.d bz),some (.c s.length),some (.d (.str w.bag)),some (.d (aN w.fl)),some (.d (pl w.b w.i)),some (.d (.int w.gn)),some (.d (ak bt)),some (.d (pl bt.name (w.i+1)))] (wS (ay h) r x s (aP++[.tup [.str w.bag,pl bt.name (w.i+1)]]))):=by
 have e4:=Cg g hb;have hB:ak bt=.tup [.str bt.name,.int bt.long,.bl bt.ring,.lst (dS bt.outs)]:=rfl;rw[hB] at e4 ⊢;rw[eb] at e4 ⊢;generalize ay h=hd at *;generalize aN w.fl=ff at *;unfold wW;simp only[↓ev,bZ,e4,aO,cH,hl,decide_true,de,ha,jx]
theorem NT(g:aB h)(hb:bt∈h.af)(eb:bt.name=w.b)(hl:(w.i+1<bt.long)=False)(hr:bt.ring=true)(hf:w.fl=none)(hg:(w.gn<r)=True)(ha:(aP.length<1000000)=True):wW 0 [some (.d (.ref 0)),some (.d (ay h)),some (.d bz),some (.c s.length),some (.d (.str w.bag)),some (.d (aN w.fl)),some (.d (pl w.b w.i)),some (.d (.int w.gn)),a8,a9] (wS (ay h) r x s aP)=some (.nx [some (.d (.ref 0)),some (.d (ay h)),some (.d bz),some (.c s.length),some (.d (.str w.bag)),some (.d (aN w.fl)),some (.d (pl w.b w.i)),some (.d (.int w.gn)),some (.d (ak bt)),some (.d (pl bt.name 0))] (wS (ay h) r x s (aP++[.tup [.str w.bag,pl bt.name 0]]))):=by
 have e4:=Cg g hb;have e5:=λq s=>P' (s:=s) (hd:=ay h) (r:=r) (q:=q) (x:=x)
 have hB:ak bt=.tup [.str bt.name,.int bt.long,.bl bt.ring,.lst (dS bt.outs)]:=rfl;rw[hB,hr] at e4 ⊢;rw[eb] at e4 ⊢;rw[hf];generalize ay h=hd at *;unfold wW aN;simp only[↓ev,bZ,e4,aO,cH,hl,decide_false,aI,jT,hR,cY,P_,e5,hg,decide_true,de,ha,jx]
theorem NU(g:aB h)(o:Ok h n x)(hw:w∈x.rows)(hb:bt∈h.af)(eb:bt.name=w.b)(hl:(w.i+1<bt.long)=False){goal:D}(ho:P0 t4 [.d (ay h),.d (ak bt),.d (.str (cL h x w)),.d bz] (rd goal))(hc:bt.ring=false\/(∃f,w.fl=some f)\/w.fl=none/\¬w.gn<r)(ha:(aP.length<1000000)=True):wW 0 [some (.d (.ref 0)),some (.d (ay h)),some (.d bz),some (.c s.length),some (.d (.str w.bag)),some (.d (aN w.fl)),some (.d (pl w.b w.i)),some (.d (.int w.gn)),a8,a9] (wS (ay h) r x s aP)=some (.nx [some (.d (.ref 0)),some (.d (ay h)),some (.d bz),some (.c s.length),some (.d (.str w.bag)),some (.d (aN w.fl)),some (.d (pl w.b w.i)),some (.d (.int w.gn)),some (.d (ak bt)),some (.d goal)] (wS (ay h) r x s (aP++[.tup [.str w.bag,goal]]))):=by
 have e4:=Cg g hb;have e5:=λq s=>P' (s:=s) (hd:=ay h) (r:=r) (q:=q) (x:=x)
 have e6:=λs=>Th (s:=s) (r:=r) g o hw
 have hB:ak bt=.tup [.str bt.name,.int bt.long,.bl bt.ring,.lst (dS bt.outs)]:=rfl;rw[hB] at e4 ho ⊢;rw[eb] at e4 ho ⊢;generalize ay h=hd at *;generalize cL h x w=ct at *;unfold wW;cases er:bt.ring with
 |false=>
  rw[er] at e4 ho;generalize aN w.fl=ff at *;simp only[↓ev,bZ,e4,aO,cH,hl,decide_false,aI,jT,hR,cY,DD,e6,ho,de,ha,jx]
 |true=>
  rw[er] at e4 ho;rcases hc with z|⟨f,hf⟩|⟨hf,hg⟩
  .rw[er] at z;cases z
  .rw[hf];unfold aN;simp only[↓ev,bZ,e4,aO,cH,hl,decide_false,aI,jT,hR,cY,DD,e6,ho,de,ha,jx]
  .rw[hf];unfold aN;have hg:=eq_false hg;simp only[↓ev,bZ,e4,aO,cH,hl,decide_false,aI,jT,hR,cY,P_,e5,hg,DD,e6,ho,de,ha,jx]
theorem e8p(g:aB h)(o:Ok h n x)(hw:w∈x.rows)(ha:aP.length<1000)(s:List Cell):∃b8 b9,wW 0 [some (.d (.ref 0)),some (.d (ay h)),some (.d (.lst (dS (ib h x)))),some (.c s.length),some (.d (.str w.bag)),some (.d (aN w.fl)),some (.d (pl w.b w.i)),some (.d (.int w.gn)),a8,a9] (wS (ay h) r x s aP)=some (.nx [some (.d (.ref 0)),some (.d (ay h)),some (.d (.lst (dS (ib h x)))),some (.c s.length),some (.d (.str w.bag)),some (.d (aN w.fl)),some (.d (pl w.b w.i)),some (.d (.int w.gn)),b8,b9] (wS (ay h) r x s (aP++[.tup [.str w.bag,gD (aF h r x w)]]))):=by
 obtain⟨bt,hb,eb,_,_⟩:=(o.rw w hw).1;have Ml:(aP.length<1000000)=True:=br (by lia)
 have eg:aF h r x w=qm h r x w bt:=by unfold aF;rw[<-eb,KS g hb]
 rw[eg];unfold qm;by_cases hl:w.i+1<bt.long
 .rw[bK hl];exact⟨_,_,NS g hb eb (br hl) Ml⟩
 .rw[bD hl];by_cases hc:bt.ring=true/\w.fl=none/\w.gn<r
  .rw[bK hc];exact⟨_,_,NT g hb eb (eq_false hl) hc.1 hc.2.1 (br hc.2.2) Ml⟩
  .rw[bD hc];obtain⟨a,ea,_⟩:=Ti g o hw hb eb;rw[ea,JO];refine⟨_,_,NU g o hw hb eb (eq_false hl) (Δ g hb (R6 g o hw).1 ea) ?_ Ml⟩;cases er:bt.ring with
   |false=>exact .inl rfl
   |true=>
    cases ef:w.fl with
    |some f=>exact .inr (.inl ⟨f,rfl⟩)
    |none=>exact .inr (.inr ⟨rfl,λz=>hc ⟨er,ef,z⟩⟩)
def sP(h:aE)(r:Int)(x:Hl)(w:Row):D:=.tup [.str w.bag,gD (aF h r x w)]
theorem Θ(g:aB h)(o:Ok h n x):HS 0 [.d (.ref 0)] (hS (ay h) r x s)=some (.ok (.o (.lst ((ord h x.rows).map (sP h r x)))) (hS (ay h) r x s)):=by
 have rl:=o.rl;have e1:=λq s=>Z5 (s:=s) (r:=r) (q:=q) (x:=x) g
 have e2:=λs=>e8o (s:=s) (r:=r) g o
 have e3:=λq s=>El (s:=s) (r:=r) (q:=q) g o
 have pl:=o.perm.length_eq;obtain⟨U',S',e,⟨a4,a5,a6,a7,a8,a9,rfl⟩,rfl⟩:=iE (gg:=aY [(ae 4),(ae 5),(ae 6),(ae 7)]) (body:=wW 0) (f:=bM) (U:=[some (.d (.ref 0)),some (.d (ay h)),some (.d (.lst (dS (ib h x)))),some (.c s.length),none,none,none,none,none,none]) (S:=wS (ay h) r x s []) (λpre U S'=>(∃a4 a5 a6 a7 a8 a9,U=[some (.d (.ref 0)),some (.d (ay h)),some (.d (.lst (dS (ib h x)))),some (.c s.length),a4,a5,a6,a7,a8,a9])/\S'=wS (ay h) r x s (pre.map (sP h r x))) (ord h x.rows) ⟨⟨_,_,_,_,_,_,rfl⟩,rfl⟩ (by
  rintro d w post eq U S' ⟨⟨a4,a5,a6,a7,a8,a9,rfl⟩,rfl⟩;have hw:w∈x.rows:=o.mem.mp (by rw[eq];simp)
  have hd:d.length<1000:=by
   grind
  obtain⟨b8,b9,e⟩:=e8p (r:=r) (a8:=a8) (a9:=a9) g o hw (aP:=d.map (sP h r x)) (by rw[bj];exact hd) s
  refine⟨_,_,_,rfl,.inl e,⟨_,_,_,_,_,_,rfl⟩,?_⟩;rw[gF];rfl)
 generalize ay h=hd at *;generalize dS (ib h x)=bz at *;unfold HS QF;simp only[↓ev,hR,cY,Z4,e1,aO,e2,aI,Aj,e3,fP,e,wm,de,rW]
end
variable{W W':List (Str×D)}{b:Str}{S:aU}{n:Nat}
noncomputable def cD(W:List (Str×D)):List (TK×D):=td (·.1) (·.2) W
noncomputable def cG(G:Row->Goal)(L:List Row):List (TK×D):=td Row.bag (λw=>gD (G w)) L
abbrev tw(S:aU)(n:Nat)(W:List (Str×D)):aU:=⟨S.s.set n (.o (.aw (cD W))),S.r⟩
theorem LG{y:D}(h:b∉W.map (·.1)):bL (cD W) (.inr b) y=cD (W++[(b,y)]):=by
 unfold cD;rw[Ej h];unfold td;rw[gF];rfl
theorem Cz:(aM (cD W) (.inr b)).isSome=(W.map (·.1)).contains b:=Cy
theorem LY(hn:n<S.s.length):(S.s.set n (.o (.aw (cD W))))[n]?=some (.o (.aw (cD W))):=wy hn
theorem LH:(S.s.set n (.o (.aw (cD W)))).set n (.o (.aw (cD W')))=S.s.set n (.o (.aw (cD W'))):=JL ..
theorem e8q:(tw S n W').cut (S.s.set n (.o (.aw (cD W)))).length=tw S n W':=by
 grind [aU.cut,List.take_of_length_le]
noncomputable def vE(st:List Str)(G:Row->Goal)(w:Row):aj D:=if st.contains w.b=true then some (.tup [.str "stopped",.str w.b]) else match G w with
 |(b,some _)=>if st.contains b=true then some (.tup [.str "stopped",.str b]) else none
 |(_,none)=>none
def cT(st:List Str)(G:Row->Goal)(L:List Row):List (Str×D):=L.filterMap λw=>(vE st G w).map λy=>(w.bag,y)
section
variable{S:aU}{n:Nat}{st:List Str}{G:Row->Goal}{L:List Row}{w:Row}{W:List (Str×D)}{a8 bg:aj Val}
theorem Ξ(hn:n<S.s.length)(hv:aM (cG G L) (.inr w.bag)=some (gD (G w)))(hW:w.bag∉W.map (·.1))(hl:W.length<1000):∃b8,BR 0 [bg,some (.d (.aw (cG G L))),some (.d (.lst (dS st))),some (.c n),some (.d (.str w.bag)),some (.d (aN w.fl)),some (.d (pl w.b w.i)),some (.d (.int w.gn)),a8] (tw S n W)=some (.nx [bg,some (.d (.aw (cG G L))),some (.d (.lst (dS st))),some (.c n),some (.d (.str w.bag)),some (.d (aN w.fl)),some (.d (pl w.b w.i)),some (.d (.int w.gn)),b8] (tw S n (W++((vE st G w).map λy=>(w.bag,y)).toList))):=by
 have ta:=LY (W:=W) hn;have ts:=λW'=>LH (S:=S) (n:=n) (W:=W) (W':=W')
 have hp:=λy=>LG (y:=y) hW
 have oi:((cD W).length<1000000)=True:=br (by unfold cD;rw[n4];lia)
 unfold vE;cases h1:st.contains w.b with
 |true=>
  refine⟨some (.d (gD (G w))),?_⟩;generalize gD (G w)=gg at *;generalize aN w.fl=ff at *;show _=some (Fr.nx _ (tw S n (W++[(w.bag,_)])));unfold BR;simp only[↓ev,hv,aO,bZ,jS,aI,jJ,h1,ta,oi,hp,ts]
 |false=>
  rw[bD (by decide)]
  generalize aN w.fl=ff at *;obtain⟨c,gi⟩:∃c,G w=c:=⟨_,rfl⟩;rw[gi] at hv ⊢;obtain⟨c,i⟩:=c;cases i with
  |none=>
   refine⟨some (.d (.str c)),?_⟩;show _=some (Fr.nx _ (tw S n (W++[])));rw[kY];unfold BR;unfold gD at hv;simp only[↓ev,hv,aO,bZ,jS,aI,jJ,h1,ML]
  |some i=>
   refine⟨some (.d (pl c i)),?_⟩;unfold BR;unfold gD at hv;dsimp only at hv ⊢;cases h2:st.contains c with
   |true=>
    show _=some (Fr.nx _ (tw S n (W++[(w.bag,_)])));simp only[↓ev,hv,aO,bZ,jS,aI,jJ,h1,Fe,h2,ta,oi,hp,ts]
   |false=>
    show _=some (Fr.nx _ (tw S n (W++[])));rw[kY];simp only[↓ev,hv,aO,bZ,jS,aI,jJ,h1,Fe,h2]
theorem WA(st:List Str)(G:Row->Goal)(L:List Row):∀b∈(cT st G L).map (·.1),b∈L.map Row.bag:=λb m=>by
 obtain⟨p,hp,rfl⟩:=jQ.mp m;obtain⟨w,hw,e⟩:=BF.mp hp;obtain⟨y,_,rfl⟩:=c_.mp e;exact qC hw
theorem H0{d post:List Row}(eq:L=d++w::post)(nd:(L.map Row.bag).Nodup):w.bag∉d.map Row.bag:=by
 grind
theorem e1u(hn:n<S.s.length)(nd:(L.map Row.bag).Nodup)(hl:L.length<100):G5 0 [.d (.lst (L.map bM)),.d (.aw (cG G L)),.d (.lst (dS st)),.c n] (tw S n [])=some (.ok (rd .aH) (tw S n (cT st G L))):=by
 obtain⟨U',S',e,⟨a4,a5,a6,a7,a8,rfl⟩,rfl⟩:=iE (gg:=aY [(ae 4),(ae 5),(ae 6),(ae 7)]) (body:=BR 0) (f:=bM) (U:=[some (.d (.lst (L.map bM))),some (.d (.aw (cG G L))),some (.d (.lst (dS st))),some (.c n),none,none,none,none,none]) (S:=tw S n []) (λpre U S'=>(∃a4 a5 a6 a7 a8,U=[some (.d (.lst (L.map bM))),some (.d (.aw (cG G L))),some (.d (.lst (dS st))),some (.c n),a4,a5,a6,a7,a8])/\S'=tw S n (cT st G pre)) L ⟨⟨_,_,_,_,_,rfl⟩,rfl⟩ (by
  rintro d w post eq U S' ⟨⟨a4,a5,a6,a7,a8,rfl⟩,rfl⟩;have hw:w∈L:=by rw[eq];simp
  have hv:aM (cG G L) (.inr w.bag)=some (gD (G w)):=jK nd hw;have hd:d.length<100:=by
   grind
  obtain⟨b8,e⟩:=Ξ (st:=st) (a8:=a8) (bg:=some (.d (.lst (L.map bM)))) hn hv (W:=cT st G d) (λm=>H0 eq nd (WA st G d _ m)) (N7 (GP _ _) (by lia))
  refine⟨_,_,_,rfl,.inl e,⟨_,_,_,_,_,rfl⟩,?_⟩
  grind [cT])
 have cu:=e8q (S:=S) (n:=n) (W:=[]) (W':=cT st G L);generalize cT st G L=W2 at *;unfold G5 Ox;simp only[↓ev,fP,e,cu]
end
abbrev bu:=Str×Int
noncomputable def kC(p:bu):TK:=.tp [.inr p.1,.inl p.2]
theorem Tj{p q:bu}(e:kC p=kC q):p=q:=by
 grind [kC]
def ic(C:List (bu×Str)):List (TK×D):=C.map λe=>(kC e.1,.str e.2)
noncomputable def look(C:List (bu×Str))(k:bu):aj Str:=(C.find? λe=>e.1 == k).map (·.2)
noncomputable def lA:List (bu×Str)->bu->Str->List (bu×Str)
 |[],k,v=>[(k,v)]
 |e::es,k,v=>if e.1=k then(e.1,v)::es else e::lA es k v
theorem Ab{e:bu×Str}{es:List (bu×Str)}{k:bu}:look (e::es) k=if e.1=k then some e.2 else look es k:=by
 grind [look]
theorem QX(k:bu)(v:Str)(k':bu):∀C:List (bu×Str),look (lA C k v) k'=if k=k' then some v else look C k'
 |[]=>by show look [(k,v)] k'=_;rw[Ab]
 |e::es=>by
  unfold lA;by_cases h:e.1=k
  .rw[bK h,Ab,Ab,h];split <;> rfl
  .rw[bD h,Ab,QX k v k' es,Ab]
   lia
theorem Em(k:bu):∀C:List (bu×Str),aM (ic C) (kC k)=(look C k).map D.str
 |[]=>rfl
 |e::es=>by
  have ih:=Em k es
  grind [Ab,aM,ic,Tj]
theorem LI(k:bu)(v:Str):∀C:List (bu×Str),bL (ic C) (kC k) (.str v)=ic (lA C k v)
 |[]=>rfl
 |e::es=>by
  have ih:=LI k v es
  grind [ic,DK,lA,Tj]
theorem QY(k:bu)(v:Str):∀C:List (bu×Str),(lA C k v).length<=C.length+1
 |[]=>by unfold lA;exact bV _
 |e::es=>by
  have ih:=QY k v es;unfold lA;split
  .rw[l_,l_];lia
  .rw[l_,l_];lia
noncomputable def gk(G:Row->Goal)(w:Row):bu:=((G w).1,(G w).2.getD 0)
def ask(G:Row->Goal)(W:List (Str×D))(L:List Row):List Row:=L.filter λw => !(W.map (·.1)).contains w.bag&&(G w).2.isSome
theorem TU{G:Row->Goal}{w:Row}(h:(G w).2.isSome=true):gD (G w)=pl (gk G w).1 (gk G w).2:=by
 unfold gk gD;generalize G w=p at *;obtain⟨c,i⟩:=p;cases i with
 |none=>cases h
 |some i=>rfl
theorem kp{o:Str}{j:Int}:qB [.str o,.int j]=some [.inr o,.inl j]:=by simp[qB,t9]
def Ew(G:Row->Goal)(C:List (bu×Str))(w:Row):List (bu×Str):=if look C (gk G w)=none\/w.b=(gk G w).1 then lA C (gk G w) w.bag else C
section
variable{S:aU}{n m:Nat}{G:Row->Goal}{L:List Row}{w:Row}{W:List (Str×D)}{C:List (bu×Str)}{a8 a9 G1 g0 g3:aj Val}{t rr:List Cell}
theorem e8s(hv:aM (cG G L) (.inr w.bag)=some (gD (G w)))(hs:(G w).2.isSome=true)(ht:t[m]?=some (.o (.aw (ic C))))(hl:C.length<1000):Dk 0 [g0,some (.d (.aw (cG G L))),some (.c n),g3,some (.c m),some (.d (.str w.bag)),some (.d (aN w.fl)),some (.d (pl w.b w.i)),some (.d (.int w.gn)),a9,G1] ⟨t,rr⟩=some (.nx [g0,some (.d (.aw (cG G L))),some (.c n),g3,some (.c m),some (.d (.str w.bag)),some (.d (aN w.fl)),some (.d (pl w.b w.i)),some (.d (.int w.gn)),some (.d (gD (G w))),G1] ⟨t.set m (.o (.aw (ic (Ew G C w)))),rr⟩):=by
 rw[TU hs] at hv ⊢;have v:=Em (gk G w) C;have pu:=LI (gk G w) w.bag C;have oi:((ic C).length<1000000)=True:=br (by unfold ic;rw[bj];lia)
 have lt:(m<t.length)=True:=br (eY.mp ht).1;have se:t.set m (.o (.aw (ic C)))=t:=by
  obtain⟨h1,h2⟩:=eY.mp ht;rw[<-h2,Ol]
 unfold Ew;unfold kC at v pu;generalize aN w.fl=ff at *;unfold Dk;cases hk:look C (gk G w) with
 |none=>
  rw[bK (.inl rfl)];rw[hk] at v;simp only[↓ev,hv,aO,ht,v,zM,oQ,oi,pu]
 |some b=>
  rw[hk] at v;cases he:(w.b == (gk G w).1) with
  |true=>
   rw[bK (.inr (beq_iff_eq.mp he))];simp only[↓ev,hv,aO,ht,v,wG,mf,aI,bZ,iJ,he,oi,pu]
  |false=>
   rw[bD (by rw[not_or];exact⟨λz=>(by cases z),λz=>(by rw[z,fV] at he;cases he)⟩),se]
   simp only[↓ev,hv,aO,ht,v,wG,mf,aI,bZ,iJ,he]
theorem Φ(q:Nat)(nd:(L.map Row.bag).Nodup)(hl:L.length<=1000)(hn:t[n]?=some (.o (.aw (cD W)))):bq (ae 0) (J5 q) (J6 q) (L.map bM) [none,some (.c n),some (.d (.aw (cG G L)))] ⟨t,rr⟩ []=some (.ok ((ask G W L).map bM) ⟨t,rr⟩):=by
 rw[xp (λw=>if(!(W.map (·.1)).contains w.bag&&(G w).2.isSome)=true then some (bM w) else none) L (by lia) λw m=>by
  have v:aM (cG G L) (.inr w.bag)=_:=jK nd m;have i:=Cz (W:=W) (b:=w.bag);unfold J5 J6;cases h1:(W.map (·.1)).contains w.bag with
  |true=>
   refine .inl ⟨rfl,?_⟩;rw[h1] at i;unfold bM;generalize aN w.fl=ff at *;generalize gD (G w)=gg at *;simp only[↓ev,bZ,hn,i,mf,aI]
  |false=>
   rw[h1] at i;cases h2:(G w).2 with
   |none=>
    have e:gD (G w)=.str (G w).1:=by unfold gD;generalize G w=p at *;obtain⟨c,j⟩:=p;cases h2;rfl
    rw[e] at v;refine .inl ⟨rfl,?_⟩;unfold bM;generalize aN w.fl=ff at *;simp only[↓ev,bZ,hn,i,oQ,v,ML]
   |some j=>
    have e:gD (G w)=pl (G w).1 j:=by unfold gD;generalize G w=p at *;obtain⟨c,j⟩:=p;cases h2;rfl
    rw[e] at v;refine .inr ⟨rd (bM w),bM w,rfl,?_,?_,rfl⟩
    .unfold bM;generalize aN w.fl=ff at *;simp only[↓ev,bZ,hn,i,oQ,v,Fe]
    rfl]
 congr 2
 unfold ask;clear nd hl
 induction L with
 |nil=>rfl
 |cons w L ih=>
  rw[vL,zJ,ih];cases(!(W.map (·.1)).contains w.bag&&(G w).2.isSome) <;> rfl
end
variable{G:Row->Goal}
def oW(G:Row->Goal)(d:List Row)(C:List (bu×Str)):Prop:=(∀k b,look C k=some b->∃c∈d,c.bag=b/\gk G c=k/\((∃z∈d,gk G z=k/\z.b=k.1)->c.b=k.1))/\(∀w∈d,look C (gk G w)≠none)/\C.length<=d.length
theorem e8t:oW G [] []:=⟨λk b e=>(by cases e),λw m=>(by cases m),bV _⟩
theorem e1v{d:List Row}{C:List (bu×Str)}(o:oW G d C)(w:Row):oW G (d++[w]) (Ew G C w):=by
 obtain⟨o1,o2,o3⟩:=o;have me:∀{z},z∈d++[w]↔z∈d\/z=w:=λ{z}=>by rw[jC,qE]
 unfold Ew;by_cases hc:look C (gk G w)=none\/w.b=(gk G w).1
 .rw[bK hc];refine⟨λk b e=>?_,λz m=>?_,?_⟩
  all_goals grind [QX,QY]
 .rw[bD hc];rw[not_or] at hc;refine⟨λk b e=>?_,λz m=>?_,by rw[dz];lia⟩
  .obtain⟨c,mc,e1,e2,e3⟩:=o1 k b e;refine⟨c,me.mpr (.inl mc),e1,e2,λ⟨z,mz,e4,e5⟩=>e3 ?_⟩
   rcases me.mp mz with mz|rfl
   .exact⟨z,mz,e4,e5⟩
   .exact cJ (by rw[e4];exact e5) hc.2
  .rcases me.mp m with m|rfl
   .exact o2 z m
   .exact hc.1
def fR(G:Row->Goal)(C:List (bu×Str))(w:Row):aj (Str×D):=match look C (gk G w) with
 |none=>none
 |some c=>if c=w.bag then none else some (w.bag,.tup [.str "yields",.str c])
section
variable{S:aU}{n m:Nat}{G:Row->Goal}{L A:List Row}{w:Row}{W:List (Str×D)}{C:List (bu×Str)}{a8 a9 G1 g0 g3:aj Val}{t rr:List Cell}
theorem e8u(hv:aM (cG G L) (.inr w.bag)=some (gD (G w)))(hs:(G w).2.isSome=true)(hm:t[m]?=some (.o (.aw (ic C))))(hn:t[n]?=some (.o (.aw (cD W))))(hW:w.bag∉W.map (·.1))(hl:W.length<1000){c:Str}(hk:look C (gk G w)=some c):Dl 0 [g0,some (.d (.aw (cG G L))),some (.c n),g3,some (.c m),some (.d (.str w.bag)),some (.d (aN w.fl)),some (.d (pl w.b w.i)),some (.d (.int w.gn)),a9,G1] ⟨t,rr⟩=some (.nx [g0,some (.d (.aw (cG G L))),some (.c n),g3,some (.c m),some (.d (.str w.bag)),some (.d (aN w.fl)),some (.d (pl w.b w.i)),some (.d (.int w.gn)),a9,some (.d (.str c))] ⟨t.set n (.o (.aw (cD (W++(fR G C w).toList)))),rr⟩):=by
 rw[TU hs] at hv;have v:=Em (gk G w) C;rw[hk] at v;have hp:=λy=>LG (y:=y) hW
 have oi:((cD W).length<1000000)=True:=br (by unfold cD;rw[n4];lia)
 have lt:(n<t.length)=True:=br (eY.mp hn).1;have se:t.set n (.o (.aw (cD W)))=t:=by
  obtain⟨h1,h2⟩:=eY.mp hn;rw[<-h2,Ol]
 unfold fR;rw[hk];dsimp only;unfold kC at v;generalize aN w.fl=ff at *;unfold Dl;cases he:(c == w.bag) with
 |true=>
  rw[bK (beq_iff_eq.mp he)];show _=some (Fr.nx _ ⟨t.set n (.o (.aw (cD (W++[])))),rr⟩);rw[kY,se];simp only[↓ev,hv,hm,v,aO,he,mf,aI]
 |false=>
  rw[bD (by rw[vR] at he;exact he)]
  show _=some (Fr.nx _ ⟨t.set n (.o (.aw (cD (W++[(w.bag,.tup [.str "yields",.str c])])))),rr⟩);simp only[↓ev,hv,hm,v,aO,he,oQ,hn,oi,hp]
theorem rS:w∈ask G W L↔w∈L/\w.bag∉W.map (·.1)/\(G w).2.isSome=true:=by
 unfold ask;rw[wx,kO,Bool.not_eq_true',Om,ne_eq,oP]
theorem Ψ(C:List (bu×Str))(A:List Row):∀b∈(A.filterMap (fR G C)).map (·.1),b∈A.map Row.bag:=λb m=>by
 grind [fR]
theorem e1w(nd:(L.map Row.bag).Nodup)(hl:L.length<100)(hA:∀w∈A,w∈L/\(G w).2.isSome=true)(IX:A.length<100)(t:List Cell):∃C,oW G A C/\∃a5 a6 a7 a8 a9,aJ (aY [(ae 5),(ae 6),(ae 7),(ae 8)]) (Dk 0) (A.map bM) [g0,some (.d (.aw (cG G L))),some (.c n),g3,some (.c t.length),none,none,none,none,none,none] ⟨t++[.o (.aw [])],rr⟩=some (.nx [g0,some (.d (.aw (cG G L))),some (.c n),g3,some (.c t.length),a5,a6,a7,a8,a9,none] ⟨t++[.o (.aw (ic C))],rr⟩):=by
 obtain⟨U',S',e,⟨a5,a6,a7,a8,a9,rfl⟩,C,oC,rfl⟩:=iE (gg:=aY [(ae 5),(ae 6),(ae 7),(ae 8)]) (body:=Dk 0) (f:=bM) (U:=[g0,some (.d (.aw (cG G L))),some (.c n),g3,some (.c t.length),none,none,none,none,none,none]) (S:=⟨t++[.o (.aw [])],rr⟩) (λpre U S'=>(∃a5 a6 a7 a8 a9,U=[g0,some (.d (.aw (cG G L))),some (.c n),g3,some (.c t.length),a5,a6,a7,a8,a9,none])/\∃C,oW G pre C/\S'=⟨t++[.o (.aw (ic C))],rr⟩) A ⟨⟨_,_,_,_,_,rfl⟩,[],e8t,rfl⟩ (by
  rintro d w post eq U S' ⟨⟨a5,a6,a7,a8,a9,rfl⟩,C,oC,rfl⟩;obtain⟨hw,hs⟩:=hA w (by rw[eq];simp)
  have hd:d.length<100:=by
   grind
  have:=oC.2.2;refine⟨_,_,_,rfl,.inl (e8s (jK nd hw) hs de (by lia)),⟨_,_,_,_,_,rfl⟩,Ew G C w,e1v oC w,?_⟩
  rw[jx];rfl)
 exact⟨C,oC,a5,a6,a7,a8,a9,e⟩
theorem e1x(nd:(L.map Row.bag).Nodup)(MY:(A.map Row.bag).Nodup)(hA:∀w∈A,w∈L/\w.bag∉W.map (·.1)/\(G w).2.isSome=true)(IX:A.length<100)(Mj:W.length<100)(oC:oW G A C){t:List Cell}(hn:t[n]?=some (.o (.aw (cD W))))(hm:t[m]?=some (.o (.aw (ic C))))(nm:n≠m){a5 a6 a7 a8 a9:aj Val}:∃b5 b6 b7 b8 Ao,aJ (aY [(ae 5),(ae 6),(ae 7),(ae 8)]) (Dl 0) (A.map bM) [g0,some (.d (.aw (cG G L))),some (.c n),g3,some (.c m),a5,a6,a7,a8,a9,none] ⟨t,rr⟩=some (.nx [g0,some (.d (.aw (cG G L))),some (.c n),g3,some (.c m),b5,b6,b7,b8,a9,Ao] ⟨t.set n (.o (.aw (cD (W++A.filterMap (fR G C))))),rr⟩):=by
 have lt:=(eY.mp hn).1;have se:t.set n (.o (.aw (cD (W++[]))))=t:=by
  obtain⟨h1,h2⟩:=eY.mp hn;rw[kY,<-h2,Ol]
 obtain⟨U',S',e,⟨b5,b6,b7,b8,Ao,rfl⟩,rfl⟩:=iE (gg:=aY [(ae 5),(ae 6),(ae 7),(ae 8)]) (body:=Dl 0) (f:=bM) (U:=[g0,some (.d (.aw (cG G L))),some (.c n),g3,some (.c m),a5,a6,a7,a8,a9,none]) (S:=⟨t,rr⟩) (λpre U S'=>(∃b5 b6 b7 b8 Ao,U=[g0,some (.d (.aw (cG G L))),some (.c n),g3,some (.c m),b5,b6,b7,b8,a9,Ao])/\S'=⟨t.set n (.o (.aw (cD (W++pre.filterMap (fR G C))))),rr⟩) A ⟨⟨_,_,_,_,_,rfl⟩,by rw[GK,se]⟩ (by
  rintro d w post eq U S' ⟨⟨b5,b6,b7,b8,Ao,rfl⟩,rfl⟩;have Ur:w∈A:=by rw[eq];simp
  obtain⟨hw,hwW,hs⟩:=hA w Ur;have hd:d.length<100:=by
   have:=congrArg List.length eq;rw[dz] at this;lia
  obtain⟨c,hc⟩:=Option.ne_none_iff_exists'.mp (oC.2.1 w Ur);have hlen:=GP (fR G C) d;refine⟨_,_,_,rfl,.inl (e8u (jK nd hw) hs (by rw[C0 nm];exact hm) (by rw[wy lt]) (W:=W++d.filterMap (fR G C)) (λz=>?_) (by rw[dz];lia) hc),⟨_,_,_,_,_,rfl⟩,?_⟩
  .rw[gF,jC] at z;rcases z with z|z
   .exact hwW z
   .exact H0 eq MY (Ψ C d _ z)
  .rw[JL,List.filterMap_append,qF,show List.filterMap (fR G C) [w]=(fR G C w).toList by rw[vL,GK];cases fR G C w <;> rfl])
 exact⟨b5,b6,b7,b8,Ao,e⟩
theorem e1y(hn:n<S.s.length)(nd:(L.map Row.bag).Nodup)(hl:L.length<100)(Mj:W.length<100):∃C,oW G (ask G W L) C/\G2 0 [.d (.lst (L.map bM)),.d (.aw (cG G L)),.c n] (tw S n W)=some (.ok (rd .aH) (tw S n (W++(ask G W L).filterMap (fR G C)))):=by
 have ta:=LY (W:=W) hn;have hA:∀w∈ask G W L,w∈L/\w.bag∉W.map (·.1)/\(G w).2.isSome=true:=λw m=>rS.mp m
 have IX:(ask G W L).length<100:=N7 (wD _ _) hl;have MY:((ask G W L).map Row.bag).Nodup:=nd.sublist (List.Sublist.map _ JI);have e1:=λq=>Φ (G:=G) (rr:=S.r) q nd (by lia) ta
 obtain⟨C,oC,a5,a6,a7,a8,a9,e2⟩:=e1w (n:=n) (rr:=S.r) (g0:=some (.d (.lst (L.map bM)))) (g3:=some (.d (.lst ((ask G W L).map bM)))) nd hl (λw m=>⟨(hA w m).1,(hA w m).2.2⟩) IX (S.s.set n (.o (.aw (cD W))))
 have om:n<(S.s.set n (.o (.aw (cD W)))).length:=by rw[wz];exact hn
 obtain⟨b5,b6,b7,b8,Ao,e3⟩:=e1x (n:=n) (m:=(S.s.set n (.o (.aw (cD W)))).length) (rr:=S.r) (g0:=some (.d (.lst (L.map bM)))) (g3:=some (.d (.lst ((ask G W L).map bM)))) (a5:=a5) (a6:=a6) (a7:=a7) (a8:=a8) (a9:=a9) nd MY hA IX Mj oC (t:=S.s.set n (.o (.aw (cD W)))++[.o (.aw (ic C))]) (by rw[vN om];exact ta) de (by lia)
 refine⟨C,oC,?_⟩;generalize(ask G W L).filterMap (fR G C)=Y at *;rw[List.set_append_left _ _ om,LH] at e3;have cu:aU.cut ⟨S.s.set n (.o (.aw (cD (W++Y))))++[.o (.aw (ic C))],S.r⟩ (S.s.set n (.o (.aw (cD W)))).length=tw S n (W++Y):=by
  grind [aU.cut]
 generalize(ask G W L).map bM=al at *;unfold G2 Oq;simp only[↓ev,fP,e1,aO,e2,e3,cu]
end
variable{C:List (bu×Str)}
noncomputable def iP(L:List Row):List (bu×Str):=L.map λw=>((w.b,w.i),w.bag)
theorem QZ{k:bu}{v:Str}:∀{C:List (bu×Str)},k∉C.map (·.1)->lA C k v=C++[(k,v)]
 |[],_=>rfl
 |e::es,h=>by
  rw[cU,y0a,not_or] at h;unfold lA;rw[bD λz=>h.1 z.symm,QZ h.2]
  rfl
theorem Ω{k:bu}{b:Str}(nd:(C.map (·.1)).Nodup)(h:(k,b)∈C):look C k=some b:=by
 induction C with
 |nil=>cases h
 |cons e es ih=>
  grind [Ab]
def hold(G:Row->Goal)(L:List Row)(w:Row):aj Str:=match(G w).2 with
 |none=>none
 |some i=>look (iP L) ((G w).1,i)
noncomputable def Er(o:Str):D:=.tup [.str "behind",.str o]
def lr(G:Row->Goal)(L:List Row)(X:List (Str×D))(w:Row)(o:Str):Prop:=w.bag∉X.map (·.1)/\hold G L w=some o/\o∈X.map (·.1)
inductive oR (G:Row->Goal) (L:List Row) (W:List (Str×D)):List (Str×D)->Prop
 |base:oR G L W W
 |step {X:List (Str×D)} {w:Row} {o:Str}:oR G L W X->w∈L->lr G L X w o->oR G L W (X++[(w.bag,Er o)])
theorem oR.trans{G:Row->Goal}{L:List Row}{W X Y:List (Str×D)}(a:oR G L W X)(b:oR G L X Y):oR G L W Y:=by
 induction b with
 |base=>exact a
 |step _ hw hc ih=>exact .step ih hw hc
section
variable{S:aU}{n m:Nat}{G:Row->Goal}{L:List Row}{w:Row}{W X:List (Str×D)}{a5 a6 a7 a9 g0:aj Val}{t rr:List Cell}{gr:Bool}
theorem e8v{d:List Row}(ht:t[m]?=some (.o (.aw (ic (iP d)))))(hl:d.length<1000)(hk:(w.b,w.i)∉d.map λw=>(w.b,w.i)){g1 g2 a8:aj Val}:Dm 0 [g0,g1,g2,some (.c m),some (.d (.str w.bag)),some (.d (aN w.fl)),some (.d (pl w.b w.i)),some (.d (.int w.gn)),a8,a9] ⟨t,rr⟩=some (.nx [g0,g1,g2,some (.c m),some (.d (.str w.bag)),some (.d (aN w.fl)),some (.d (pl w.b w.i)),some (.d (.int w.gn)),a8,a9] ⟨t.set m (.o (.aw (ic (iP (d++[w]))))),rr⟩):=by
 have pu:=LI (w.b,w.i) w.bag (iP d);rw[QZ (by unfold iP;rw[eP];exact hk),show iP d++[((w.b,w.i),w.bag)]=iP (d++[w]) by unfold iP;rw[gF];rfl] at pu
 have oi:((ic (iP d)).length<1000000)=True:=br (by unfold ic iP;rw[bj,bj];lia)
 have lt:(m<t.length)=True:=br (eY.mp ht).1;unfold kC at pu;dsimp only at pu;generalize aN w.fl=ff at *;unfold Dm;simp only[↓ev,ht,oi,pu]
theorem γ{t:List Cell}{n:Nat}{c:Cell}(h:t[n]?=some c):t.set n c=t:=by
 obtain⟨h1,h2⟩:=eY.mp h;rw[<-h2,Ol]
theorem e8w{c:Str}:aM (ic C) (.inr c)=none:=by
 grind [aM,ic,kC]
theorem e8x{α:Type}{k:α->Str}{v:α->D}{xs:List α}:aM (td k v xs) TK.aH=none:=by
 grind [aM,td]
theorem f1q(hv:aM (cG G L) (.inr w.bag)=some (gD (G w)))(hm:t[m]?=some (.o (.aw (ic (iP L)))))(hn:t[n]?=some (.o (.aw (cD X))))(hc:∀o,¬lr G L X w o):∃b9,zY 0 [g0,some (.d (.aw (cG G L))),some (.c n),some (.c m),some (.d (.str w.bag)),a5,a6,a7,some (.d (.bl gr)),a9] ⟨t,rr⟩=some (.nx [g0,some (.d (.aw (cG G L))),some (.c n),some (.c m),some (.d (.str w.bag)),a5,a6,a7,some (.d (.bl gr)),b9] ⟨t,rr⟩):=by
 have i:=Cz (W:=X) (b:=w.bag);have nn:aM (cD X) TK.aH=none:=e8x;unfold lr hold at hc;unfold zY;generalize G w=p at *;obtain⟨c,j⟩:=p;cases j with
 |none=>
  unfold gD at hv;have v:=e8w (C:=iP L) (c:=c);refine⟨some (.d .aH),?_⟩;cases h1:(X.map (·.1)).contains w.bag with
  |true=>
   rw[h1] at i;simp only[↓ev,hm,hv,v,aO,hn,i,mf,aI]
  |false=>
   rw[h1] at i;simp only[↓ev,hm,hv,v,aO,hn,i,oQ,aI,nn,zM]
 |some j=>
  unfold gD at hv;dsimp only at hc hv;have v:=Em (c,j) (iP L);unfold kC at v;dsimp only at v;cases hk:look (iP L) (c,j) with
  |none=>
   rw[hk] at v;refine⟨some (.d .aH),?_⟩;cases h1:(X.map (·.1)).contains w.bag with
   |true=>
    rw[h1] at i;simp only[↓ev,hm,hv,v,aO,hn,i,mf,aI]
   |false=>
    rw[h1] at i;simp only[↓ev,hm,hv,v,aO,hn,i,oQ,aI,nn,zM]
  |some o=>
   rw[hk] at v;refine⟨some (.d (.str o)),?_⟩;cases h1:(X.map (·.1)).contains w.bag with
   |true=>
    rw[h1] at i;simp only[↓ev,hm,hv,v,aO,hn,i,mf,aI]
   |false=>
    rw[h1] at i;have i2:=Cz (W:=X) (b:=o);have h2:(X.map (·.1)).contains o=false:=by
     rw[Om];intro z;exact hc o ⟨λy=>(by rw[oP.mpr y] at h1;cases h1),hk,oP.mp z⟩
    rw[h2] at i2;simp only[↓ev,hm,hv,v,aO,hn,i,oQ,aI,i2]
theorem e8y(hv:aM (cG G L) (.inr w.bag)=some (gD (G w)))(hm:t[m]?=some (.o (.aw (ic (iP L)))))(hn:t[n]?=some (.o (.aw (cD X)))){o:Str}(hc:lr G L X w o)(hl:X.length<1000):zY 0 [g0,some (.d (.aw (cG G L))),some (.c n),some (.c m),some (.d (.str w.bag)),a5,a6,a7,some (.d (.bl gr)),a9] ⟨t,rr⟩=some (.nx [g0,some (.d (.aw (cG G L))),some (.c n),some (.c m),some (.d (.str w.bag)),a5,a6,a7,some (.d (.bl true)),some (.d (.str o))] ⟨t.set n (.o (.aw (cD (X++[(w.bag,Er o)])))),rr⟩):=by
 have i:=Cz (W:=X) (b:=w.bag);have i2:=Cz (W:=X) (b:=o);obtain⟨c1,c2,c3⟩:=hc;rw[show(X.map (·.1)).contains w.bag=false by rw[Om];exact λz=>c1 (oP.mp z)] at i
 rw[oP.mpr c3] at i2;have hp:=LG (y:=Er o) c1;have oi:((cD X).length<1000000)=True:=br (by unfold cD;rw[n4];lia)
 have lt:(n<t.length)=True:=br (eY.mp hn).1;unfold hold at c2;unfold zY;generalize G w=p at *;obtain⟨c,j⟩:=p;cases j with
 |none=>cases c2
 |some j=>
  unfold gD at hv;dsimp only at c2 hv;have v:=Em (c,j) (iP L);unfold kC at v;dsimp only at v;rw[c2] at v;unfold Er at hp ⊢;simp only[↓ev,hm,hv,v,aO,hn,i,oQ,aI,i2,oi,hp]
end
variable{X:List (Str×D)}{w:Row}{L:List Row}
noncomputable def nk(X:List (Str×D))(w:Row):Bool := !(X.map (·.1)).contains w.bag
theorem ow:nk X w=true↔w.bag∉X.map (·.1):=by
 grind [nk]
def mu(L:List Row)(X:List (Str×D)):Nat:=(L.filter (nk X)).length
theorem e1z{y:D}(hw:w∈L)(h:w.bag∉X.map (·.1)):mu L (X++[(w.bag,y)])<mu L X:=by
 unfold mu;have e:L.filter (nk (X++[(w.bag,y)]))=(L.filter (nk X)).filter λz=>decide (z.bag≠w.bag):=by
  rw[List.filter_filter];refine List.filter_congr λz _=>?_
  rw[Gz,ow,kO,ow,decide_eq_true_iff,gF,jC,List.map_singleton,qE];exact⟨λz=>⟨λy=>z (.inr y),λy=>z (.inl y)⟩,λz y=>y.elim z.2 z.1⟩
 rw[e,List.length_filter_lt_length_iff_exists];exact⟨w,wx.mpr ⟨hw,ow.mpr h⟩,by simp⟩
theorem oR.BD{G:Row->Goal}{W:List (Str×D)}(a:oR G L W X):X.length+mu L X<=W.length+mu L W:=by
 induction a with
 |base=>exact bV _
 |@step X w o _ hw hc ih=>
  have:=e1z (y:=Er o) hw hc.1;rw[dz];simp;lia
theorem TV:mu L X<=L.length:=wD _ _
section
variable{S:aU}{n m:Nat}{G:Row->Goal}{L:List Row}{w:Row}{W X:List (Str×D)}{a4 a5 a6 a7 a9 g0:aj Val}{t rr:List Cell}
theorem π(nd:(L.map Row.bag).Nodup)(hl:L.length<100)(hX:X.length<200)(nm:n≠m)(hm:t[m]?=some (.o (.aw (ic (iP L)))))(hn:t[n]?=some (.o (.aw (cD X)))):∃X' gr b4 b9,oR G L X X'/\(gr=true->X.length<X'.length)/\(gr=false->X'=X/\∀w∈L,∀o,¬lr G L X w o)/\aJ (ae 4) (zY 0) (dS (L.map Row.bag)) [g0,some (.d (.aw (cG G L))),some (.c n),some (.c m),a4,a5,a6,a7,some (.d (.bl false)),a9] ⟨t,rr⟩=some (.nx [g0,some (.d (.aw (cG G L))),some (.c n),some (.c m),b4,a5,a6,a7,some (.d (.bl gr)),b9] ⟨t.set n (.o (.aw (cD X'))),rr⟩):=by
 have lt:=(eY.mp hn).1;rw[show dS (L.map Row.bag)=L.map λw=>.str w.bag by unfold dS;rw[eP];rfl]
 obtain⟨U',S',e,X',gr,b4,b9,rfl,rfl,i1,i2,i3⟩:=iE (gg:=ae 4) (body:=zY 0) (f:=λw:Row=>.str w.bag) (U:=[g0,some (.d (.aw (cG G L))),some (.c n),some (.c m),a4,a5,a6,a7,some (.d (.bl false)),a9]) (S:=⟨t,rr⟩) (λpre U S'=>∃X' gr b4 b9,U=[g0,some (.d (.aw (cG G L))),some (.c n),some (.c m),b4,a5,a6,a7,some (.d (.bl gr)),b9]/\S'=⟨t.set n (.o (.aw (cD X'))),rr⟩/\oR G L X X'/\(gr=true->X.length<X'.length)/\(gr=false->X'=X/\∀w∈pre,∀o,¬lr G L X w o)) L ⟨X,false,_,_,rfl,by rw[γ hn],.base,λz=>(by cases z),λ_=>⟨rfl,λw m=>(by cases m)⟩⟩ (by
  rintro d w post eq U S' ⟨X',gr,b4,b9,rfl,rfl,i1,i2,i3⟩;have hw:w∈L:=by rw[eq];simp
  have hv:aM (cG G L) (.inr w.bag)=some (gD (G w)):=jK nd hw;have Uk:(t.set n (.o (.aw (cD X'))))[m]?=some (.o (.aw (ic (iP L)))):=by rw[C0 nm];exact hm
  have Ji:(t.set n (.o (.aw (cD X'))))[n]?=some (.o (.aw (cD X'))):=wy lt;have tt:=i1.BD;have ml:=TV (L:=L) (X:=X);by_cases hc:∃o,lr G L X' w o
  .obtain⟨o,hc⟩:=hc;refine⟨_,_,_,rfl,.inl (e8y hv Uk Ji hc (by lia)),_,true,_,_,rfl,by rw[JL],.step i1 hw hc,λ_=>?_,λz=>(by cases z)⟩
   have:=(oR.step i1 hw hc).BD;rw[dz];have h2:X.length<=X'.length:=by
    grind
   simp;lia
  .obtain⟨c9,e⟩:=f1q (gr:=gr) (a5:=a5) (a6:=a6) (a7:=a7) (a9:=b9) (g0:=g0) (rr:=rr) hv Uk Ji λo z=>hc ⟨o,z⟩
   refine⟨_,_,_,rfl,.inl e,X',gr,_,_,rfl,rfl,i1,i2,λz=>⟨(i3 z).1,λw' mw o co=>?_⟩⟩
   rcases jC.mp mw with mw|mw
   .exact(i3 z).2 w' mw o co
   .rw[qE.mp mw] at co;exact hc ⟨o,by rw[(i3 z).1];exact co⟩)
 exact⟨X',gr,b4,b9,i1,i2,i3,e⟩
theorem ρ(nd:(L.map Row.bag).Nodup)(hl:L.length<100)(hX:X.length<200)(nm:n≠m)(hm:t[m]?=some (.o (.aw (ic (iP L)))))(hn:t[n]?=some (.o (.aw (cD X)))){a8:aj Val}:∃X' gr b4 b9,oR G L X X'/\(gr=true->X.length<X'.length)/\(gr=false->X'=X/\∀w∈L,∀o,¬lr G L X w o)/\G3 0 [g0,some (.d (.aw (cG G L))),some (.c n),some (.c m),a4,a5,a6,a7,a8,a9] ⟨t,rr⟩=some (.nx [g0,some (.d (.aw (cG G L))),some (.c n),some (.c m),b4,a5,a6,a7,some (.d (.bl gr)),b9] ⟨t.set n (.o (.aw (cD X'))),rr⟩):=by
 obtain⟨X',gr,b4,b9,i1,i2,i3,e⟩:=π (G:=G) (a4:=a4) (a5:=a5) (a6:=a6) (a7:=a7) (a9:=a9) (g0:=g0) (rr:=rr) nd hl hX nm hm hn;refine⟨X',gr,b4,b9,i1,i2,i3,?_⟩;have k:(cG G L).map (·.1.d)=dS (L.map Row.bag):=Ip
 unfold G3;simp only[↓ev,aO,k,fP,e]
theorem Qa(nd:(L.map Row.bag).Nodup)(hl:L.length<100)(nm:n≠m):∀(f:Nat) {X:List (Str×D)} {t:List Cell} {a4 a9:aj Val},X.length+mu L X<200->mu L X+2<=f->t[m]?=some (.o (.aw (ic (iP L))))->t[n]?=some (.o (.aw (cD X)))->∃X' b4 b9,oR G L X X'/\(∀w∈L,∀o,¬lr G L X' w o)/\cX (cb (u7 8)) (G3 0) f [g0,some (.d (.aw (cG G L))),some (.c n),some (.c m),a4,a5,a6,a7,some (.d (.bl true)),a9] ⟨t,rr⟩=some (.nx [g0,some (.d (.aw (cG G L))),some (.c n),some (.c m),b4,a5,a6,a7,some (.d (.bl false)),b9] ⟨t.set n (.o (.aw (cD X'))),rr⟩)
 |0,X,t,a4,a9,h1,h2,hm,hn=>by lia
 |f+1,X,t,a4,a9,h1,h2,hm,hn=>by
  have lt:=(eY.mp hn).1;obtain⟨X',gr,b4,b9,i1,i2,i3,e⟩:=ρ (G:=G) (a4:=a4) (a5:=a5) (a6:=a6) (a7:=a7) (a8:=some (.d (.bl true))) (a9:=a9) (g0:=g0) (rr:=rr) nd hl (by lia) nm hm hn
  have tt:=i1.BD;cases gr with
  |true=>
   have l1:=i2 rfl;obtain⟨Y,c4,c9,j1,j2,e2⟩:=Qa nd hl nm f (X:=X') (t:=t.set n (.o (.aw (cD X')))) (a4:=b4) (a9:=b9) (by lia) (by lia) (by rw[C0 nm];exact hm) (wy lt)
   rw[JL] at e2;refine⟨Y,c4,c9,i1.trans j1,j2,?_⟩;unfold cX;simp only[↓ev,e,e2]
  |false=>
   obtain⟨j1,j2⟩:=i3 rfl;subst j1;obtain⟨f',rfl⟩:∃f',f=f'+1:=⟨f - 1,by lia⟩
   refine⟨X',b4,b9,i1,j2,?_⟩;unfold cX;simp only[↓ev,e];rfl
end
section
variable{S:aU}{n:Nat}{G:Row->Goal}{L:List Row}{W:List (Str×D)}{g0 g1 g2:aj Val}{t rr:List Cell}
theorem e2a(un:(L.map λw=>(w.b,w.i)).Nodup)(hl:L.length<100)(t:List Cell):∃b4 b5 b6 b7,aJ (aY [(ae 4),(ae 5),(ae 6),(ae 7)]) (Dm 0) (L.map bM) [g0,g1,g2,some (.c t.length),none,none,none,none,none,none] ⟨t++[.o (.aw [])],rr⟩=some (.nx [g0,g1,g2,some (.c t.length),b4,b5,b6,b7,none,none] ⟨t++[.o (.aw (ic (iP L)))],rr⟩):=by
 obtain⟨U',S',e,⟨b4,b5,b6,b7,rfl⟩,rfl⟩:=iE (gg:=aY [(ae 4),(ae 5),(ae 6),(ae 7)]) (body:=Dm 0) (f:=bM) (U:=[g0,g1,g2,some (.c t.length),none,none,none,none,none,none]) (S:=⟨t++[.o (.aw [])],rr⟩) (λpre U S'=>(∃b4 b5 b6 b7,U=[g0,g1,g2,some (.c t.length),b4,b5,b6,b7,none,none])/\S'=⟨t++[.o (.aw (ic (iP pre)))],rr⟩) L ⟨⟨_,_,_,_,rfl⟩,rfl⟩ (by
  rintro d w post eq U S' ⟨⟨b4,b5,b6,b7,rfl⟩,rfl⟩;have hd:d.length<100:=by
   grind
  have hk:(w.b,w.i)∉d.map λw=>(w.b,w.i):=by
   grind
  refine⟨_,_,_,rfl,.inl (e8v de (by lia) hk),⟨_,_,_,_,rfl⟩,?_⟩
  rw[jx];rfl)
 exact⟨b4,b5,b6,b7,e⟩
theorem σ(hn:n<S.s.length)(nd:(L.map Row.bag).Nodup)(un:(L.map λw=>(w.b,w.i)).Nodup)(hl:L.length<100)(Mj:W.length<100):∃X,oR G L W X/\(∀w∈L,∀o,¬lr G L X w o)/\G8 0 [.d (.lst (L.map bM)),.d (.aw (cG G L)),.c n] (tw S n W)=some (.ok (rd .aH) (tw S n X)):=by
 have ta:=LY (W:=W) hn;have om:n<(S.s.set n (.o (.aw (cD W)))).length:=by rw[wz];exact hn
 obtain⟨b4,b5,b6,b7,e1⟩:=e2a (g0:=some (.d (.lst (L.map bM)))) (g1:=some (.d (.aw (cG G L)))) (g2:=some (.c n)) (rr:=S.r) un hl (S.s.set n (.o (.aw (cD W))));have ml:=TV (L:=L) (X:=W);obtain⟨X,c4,c9,i1,i2,e2⟩:=Qa (G:=G) (n:=n) (m:=(S.s.set n (.o (.aw (cD W)))).length) (g0:=some (.d (.lst (L.map bM)))) (a5:=b5) (a6:=b6) (a7:=b7) (rr:=S.r) nd hl (by lia) 1000 (X:=W) (t:=S.s.set n (.o (.aw (cD W)))++[.o (.aw (ic (iP L)))]) (a4:=b4) (a9:=none) (by lia) (by lia) de (by rw[vN om];exact ta)
 refine⟨X,i1,i2,?_⟩;rw[List.set_append_left _ _ om,LH] at e2;have cu:aU.cut ⟨S.s.set n (.o (.aw (cD X)))++[.o (.aw (ic (iP L)))],S.r⟩ (S.s.set n (.o (.aw (cD W)))).length=tw S n X:=by
  grind [aU.cut]
 unfold G8 OA;simp only[↓ev,aO,fP,e1,e2,cu]
end
variable{a bag o:Str}{x j gn:Int}{z:Row}
theorem CB{b:Str}{y:Int}:g7 (pl a x) (pl b y)=(a == b&&(x == y)):=by
 show iI [.str a,.int x] [.str b,.int y]=_;show(g7 (.str a) (.str b)&&(g7 (.int x) (.int y)&&true))=_;rw[iJ,fI,Bool.and_true]
theorem Fz:fS 40 (pl a x)=true:=rfl
noncomputable def fO(bag o:Str)(j gn:Int)(z:Row):Row:=if z.bag=bag then{ z with b:=o,i:=j,gn:=gn} else z
theorem H9:(fO bag o j gn z).bag=z.bag:=by unfold fO;split <;> rfl
theorem e2b:(fO bag o j gn z).fl=z.fl:=by unfold fO;split <;> rfl
theorem v3{α β:Type}{f:α->β}{l:List α}(nd:(l.map f).Nodup){a b:α}(ha:a∈l)(hb:b∈l)(e:f a=f b):a=b:=by
 induction l with
 |nil=>cases ha
 |cons z l ih=>
  grind
section
variable{rows:List Row}{bag o:Str}{j gn:Int}{w:Row}
theorem Tn(nb:(rows.map Row.bag).Nodup)(hb:bag∈rows.map Row.bag):bL (iw rows) (.inr bag) (pl o j)=iw (rows.map (fO bag o j gn)):=by
 unfold iw;rw[Ek nb hb];unfold td;rw[eP];refine qD λz _=>?_
 dsimp only[Function.comp];rw[H9];unfold fO;split <;> rfl
theorem e9a(nb:(rows.map Row.bag).Nodup)(hb:bag∈rows.map Row.bag):bL (mq rows) (.inr bag) (.int gn)=mq (rows.map (fO bag o j gn)):=by
 unfold mq;rw[Ek nb hb];unfold td;rw[eP];refine qD λz _=>?_
 dsimp only[Function.comp];rw[H9];unfold fO;split <;> rfl
theorem e2c(nb:(rows.map Row.bag).Nodup)(hw:w∈rows):mq (rows.map (fO w.bag o j w.gn))=mq rows:=by
 unfold mq td;rw[eP];refine qD λz mz=>?_
 dsimp only[Function.comp];rw[H9];unfold fO;split
 .rename_i e
  rw[v3 nb mz hw e]
 .rfl
theorem To:iy (rows.map (fO bag o j gn))=iy rows:=by
 unfold iy td;rw[eP];refine qD λz _=>?_
 dsimp only[Function.comp];rw[H9,e2b]
end
section
variable{s:List Cell}{h:aE}{r:Int}{x:Hl}{w:Row}{bt:ao}{o c:Str}{j:Int}
noncomputable def mO(bt:ao)(i:Int)(o:Str)(j:Int):Bool:=bt.ring&&((i == bt.long - 1)&&(o == bt.name&&(j == 0)))
theorem e9b(g:aB h)(nb:(x.rows.map Row.bag).Nodup)(hw:w∈x.rows)(hb:bt∈h.af)(eb:bt.name=w.b)(hl:x.rows.length<1000):yx 0 [.d (.ref 0),.d (.str w.bag),.d (pl o j)] (hS (ay h) r x s)=some (.ok (rd .aH) (hS (ay h) r { x with rows:=x.rows.map (fO w.bag o j (if mO bt w.i o j=true then w.gn+1 else w.gn))} s)):=by
 have e:=Cg g hb;have hB:ak bt=.tup [.str bt.name,.int bt.long,.bl bt.ring,.lst (dS bt.outs)]:=rfl;rw[hB] at e;have hm:=qC (f:=Row.bag) hw;have h1:aM (iw x.rows) (.inr w.bag)=_:=jK nb hw;have h2:aM (mq x.rows) (.inr w.bag)=_:=jK nb hw;have l1:((iw x.rows).length<1000000)=True:=br (by unfold iw;rw[n4];lia)
 have l2:((mq x.rows).length<1000000)=True:=br (by unfold mq;rw[n4];lia)
 rw[<-eb] at h1;generalize ay h=hd at *;have yes:mO bt w.i o j=true->yx 0 [.d (.ref 0),.d (.str w.bag),.d (pl o j)] (hS hd r x s)=some (.ok (rd .aH) (hS hd r { x with rows:=x.rows.map (fO w.bag o j (if mO bt w.i o j=true then w.gn+1 else w.gn))} s)):=λhc=>by
  rw[bK hc];have p1:=Tn (o:=o) (j:=j) (gn:=w.gn+1) nb hm;have p2:=e9a (o:=o) (j:=j) (gn:=w.gn+1) nb hm;have p3:=To (rows:=x.rows) (bag:=w.bag) (o:=o) (j:=j) (gn:=w.gn+1);unfold mO at hc;rw[kO,kO] at hc;obtain⟨c1,c2,c3⟩:=hc;unfold yx Kl;rw[c1] at e;simp only[↓ev,hS,hR,mE,mV,aO,h1,oS,o_,bZ,e,jT,cH,Fz,aI,CB,fV,c2,c3,DC,Hx,h2,l2,p2,l1,p1,cg,p3]
 have no:mO bt w.i o j=false->yx 0 [.d (.ref 0),.d (.str w.bag),.d (pl o j)] (hS hd r x s)=some (.ok (rd .aH) (hS hd r { x with rows:=x.rows.map (fO w.bag o j (if mO bt w.i o j=true then w.gn+1 else w.gn))} s)):=λhc=>by
  rw[bD (by rw[hc];decide)]
  have p1:=Tn (o:=o) (j:=j) (gn:=w.gn) nb hm;have p2:=e2c (o:=o) (j:=j) nb hw;have p3:=To (rows:=x.rows) (bag:=w.bag) (o:=o) (j:=j) (gn:=w.gn);unfold mO at hc;unfold yx Kl;cases er:bt.ring with
  |false=>
   rw[er] at e;simp only[↓ev,hS,hR,mE,mV,aO,h1,oS,o_,bZ,e,jT,aI,l1,p1,cg,p3,p2]
  |true=>
   rw[er] at e hc;rw[Bool.true_and] at hc;cases c2:(w.i == bt.long - 1) with
   |false=>simp only[↓ev,hS,hR,mE,mV,aO,h1,oS,o_,bZ,e,jT,cH,Fz,aI,CB,fV,c2,l1,p1,cg,p3,p2]
   |true=>
    rw[c2,Bool.true_and] at hc;simp only[↓ev,hS,hR,mE,mV,aO,h1,oS,o_,bZ,e,jT,cH,Fz,aI,CB,fV,c2,hc,l1,p1,cg,p3,p2]
 lia
end
section
variable{s:List Cell}{h:aE}{r:Int}{x:Hl}{w:Row}{c:Str}
theorem e9c{l:List (Str×Str×Int)}{b:Str}{nw:Int}(hb:b∉l.map (·.1)):bL (AA l) (.inr b) (.str c)=AA (l++[(b,c,nw)]):=by
 unfold AA;rw[Ej hb];unfold td;rw[gF];rfl
theorem e2d{hd:D}(nb:(x.rows.map Row.bag).Nodup)(hw:w∈x.rows)(hg:w.bag∉x.gone.map (·.1))(hl:x.gone.length<2000):Dt 0 [.d (.ref 0),.d (.str w.bag),.d (.str c)] (hS hd r x s)=some (.ok (rd .aH) (hS hd r { x with rows:=x.rows.filter λz=>decide (z.bag≠w.bag),gone:=x.gone++[(w.bag,c,x.now)]} s)):=by
 have h1:aM (iw x.rows) (.inr w.bag)=_:=jK nb hw;have h2:aM (mq x.rows) (.inr w.bag)=_:=jK nb hw;have h3:aM (iy x.rows) (.inr w.bag)=_:=jK nb hw;have d1:dC (iw x.rows) w.bag=iw (x.rows.filter λz=>decide (z.bag≠w.bag)):=D9
 have d2:dC (mq x.rows) w.bag=mq (x.rows.filter λz=>decide (z.bag≠w.bag)):=D9
 have d3:dC (iy x.rows) w.bag=iy (x.rows.filter λz=>decide (z.bag≠w.bag)):=D9
 have p1:=e9c (c:=c) (nw:=x.now) hg;have l1:((AA x.gone).length<1000000)=True:=br (by unfold AA;rw[n4];lia)
 have l2:((wc x.gone).length<1000000)=True:=br (by unfold wc;rw[bj];lia)
 have p2:wc x.gone++[.tup [.str w.bag,.str c,.int x.now]]=wc (x.gone++[(w.bag,c,x.now)]):=by unfold wc;rw[gF];rfl
 have t1:fM (iw x.rows)=true:=As;have t2:fM (mq x.rows)=true:=As;have t3:fM (iy x.rows)=true:=As;generalize aN w.fl=ff at *;unfold Dt OO;simp only[↓ev,hS,hR,mE,mV,aO,t1,h1,d1,qG,q9,t3,h3,d3,DC,Hx,t2,h2,d2,Ca,DL,l1,p1,Lp,RX,Eh,IK,l2,p2,cg]
end
variable{z:Row}
def sy(h:aE)(G:Row->Goal)(z:Row):aj Row:=match(G z).2 with
 |none=>none
 |some j=>some { z with b:=(G z).1,i:=j,gn:=match findB h.af z.b with
  |none=>z.gn
  |some bt=>if mO bt z.i (G z).1 j=true then z.gn+1 else z.gn}
def jL(h:aE)(G:Row->Goal)(p:Row->Bool)(rows:List Row):List Row:=rows.filterMap λz=>if p z=true then sy h G z else some z
noncomputable def gu(G:Row->Goal)(nw:Int)(w:Row):aj (Str×Str×Int):=match(G w).2 with
 |none=>some (w.bag,(G w).1,nw)
 |some _=>none
def gY(h:aE)(G:Row->Goal)(p:Row->Bool)(M:List Row)(x:Hl):Hl:={ x with now:=x.now+1,rows:=jL h G p x.rows,gone:=x.gone++M.filterMap (gu G (x.now+1))}
section
variable{s:List Cell}{h:aE}{r:Int}{x:Hl}{w:Row}{G:Row->Goal}{p p':Row->Bool}{rows:List Row}
theorem Q0{α β:Type}{f g:α->aj β}{l:List α}(h:∀x∈l,f x=g x):l.filterMap f=l.filterMap g:=by
 induction l with
 |nil=>rfl
 |cons x l ih=>rw[vL,vL,h x (.head _),ih λy m=>h y (.tail _ m)]
theorem Ir{z':Row}(e:sy h G z=some z'):z'.bag=z.bag/\z'.fl=z.fl:=by
 unfold sy at e;split at e
 .cases e
 .cases e;exact⟨rfl,rfl⟩
theorem Lc(p:Row->Bool)(rows:List Row):((jL h G p rows).map Row.bag).Sublist (rows.map Row.bag):=by
 unfold jL
 induction rows with
 |nil=>exact .slnil
 |cons z rows ih=>
  grind [Ir]
theorem e2e(hz:z∈rows)(hp:p z=false):z∈jL h G p rows:=BF.mpr ⟨z,hz,by rw[hp];rfl⟩
theorem e2f(nb:(rows.map Row.bag).Nodup)(hw:w∈rows)(hp:p w=false)(MD:∀z,p' z=(p z || z.bag == w.bag))(hG:(G w).2=none):(jL h G p rows).filter (λz=>decide (z.bag≠w.bag))=jL h G p' rows:=by
 unfold jL;rw[List.filter_filterMap];refine Q0 λz mz=>?_
 rw[MD z];by_cases e:z.bag=w.bag
 .have ez:=v3 nb mz hw e;subst ez;rw[hp,fV,Oj,bD (by decide),bK rfl,show sy h G z=none by unfold sy;rw[hG]]
  show Option.filter _ (some z)=none;unfold Option.filter;simp
 .rw[show(z.bag == w.bag)=false by rw[vR];exact e,Bool.or_false]
  split
  .cases em:sy h G z with
   |none=>rfl
   |some z'=>
    unfold Option.filter;dsimp only;exact bK (vQ (by rw[(Ir em).1];exact e))
  .unfold Option.filter;dsimp only;exact bK (vQ e)
theorem e9d(nb:(rows.map Row.bag).Nodup)(hw:w∈rows)(hp:p w=false)(MD:∀z,p' z=(p z || z.bag == w.bag)){j:Int}(hG:(G w).2=some j){bt:ao}(hb:findB h.af w.b=some bt):(jL h G p rows).map (fO w.bag (G w).1 j (if mO bt w.i (G w).1 j=true then w.gn+1 else w.gn))=jL h G p' rows:=by
 obtain⟨gv,Ue⟩:∃gv,(if mO bt w.i (G w).1 j=true then w.gn+1 else w.gn)=gv:=⟨_,rfl⟩
 rw[Ue];unfold jL;rw[List.map_filterMap];refine Q0 λz mz=>?_
 rw[MD z];by_cases e:z.bag=w.bag
 .have ez:=v3 nb mz hw e;subst ez;rw[hp,fV,Oj,bD (by decide),bK rfl]
  unfold sy fO;rw[hG,hb,C7,bK rfl];dsimp only;rw[Ue]
 .rw[show(z.bag == w.bag)=false by rw[vR];exact e,Bool.or_false]
  split
  .cases em:sy h G z with
   |none=>rfl
   |some z'=>
    rw[C7];unfold fO;rw[bD (by rw[(Ir em).1];exact e)]
  .rw[C7];unfold fO;rw[bD e]
end
variable{S2:aU}{hd:D}
noncomputable def mm(d:List Row)(z:Row):Bool:=(d.map Row.bag).contains z.bag
noncomputable def qO(G:Row->Goal)(w:Row):D:=.tup [.str w.bag,gD (G w)]
section
variable{s:List Cell}{h:aE}{r:Int}{x:Hl}{w:Row}{G:Row->Goal}{n:Nat}{M:List Row}{g1 a2 a3:aj Val}
theorem f1r{j:Int}(hG:(G w).2=some j)(e:yx 0 [.d (.ref 0),.d (.str w.bag),.d (pl (G w).1 j)] (hS hd r x s)=some (.ok (rd .aH) S2)):z9 0 [some (.d (.ref 0)),g1,some (.d (.str w.bag)),some (.d (gD (G w)))] (hS hd r x s)=some (.nx [some (.d (.ref 0)),g1,some (.d (.str w.bag)),some (.d (gD (G w)))] S2):=by
 have e1:gD (G w)=pl (G w).1 j:=by unfold gD;generalize G w=p at *;obtain⟨c,i⟩:=p;cases hG;rfl
 rw[e1];unfold z9;simp only[↓ev,Fe,hR,cY,Wz,e]
theorem e9e(hG:(G w).2=none)(e:Dt 0 [.d (.ref 0),.d (.str w.bag),.d (.str (G w).1)] (hS hd r x s)=some (.ok (rd .aH) S2)):z9 0 [some (.d (.ref 0)),g1,some (.d (.str w.bag)),some (.d (gD (G w)))] (hS hd r x s)=some (.nx [some (.d (.ref 0)),g1,some (.d (.str w.bag)),some (.d (gD (G w)))] S2):=by
 have e1:gD (G w)=.str (G w).1:=by unfold gD;generalize G w=p at *;obtain⟨c,i⟩:=p;cases hG;rfl
 rw[e1];unfold z9;simp only[↓ev,ML,aI,hR,cY,V1,e]
theorem Q1(d:List Row)(w z:Row):mm (d++[w]) z=(mm d z || z.bag == w.bag):=by
 grind [mm]
theorem e2g(g:aB h)(o:Ok h n x)(hM:∀w∈M,w∈x.rows)(nM:(M.map Row.bag).Nodup)(T9:M.length<=x.rows.length)(hn:n<1000):∃b2 b3,aJ (aY [(ae 2),(ae 3)]) (z9 0) (M.map (qO G)) [some (.d (.ref 0)),g1,none,none] (hS (ay h) r { x with now:=x.now+1} s)=some (.nx [some (.d (.ref 0)),g1,b2,b3] (hS (ay h) r (gY h G (mm M) M x) s)):=by
 obtain⟨U',S',e,⟨b2,b3,rfl⟩,rfl⟩:=iE (gg:=aY [(ae 2),(ae 3)]) (body:=z9 0) (f:=qO G) (U:=[some (.d (.ref 0)),g1,none,none]) (S:=hS (ay h) r { x with now:=x.now+1} s) (λpre U S'=>(∃b2 b3,U=[some (.d (.ref 0)),g1,b2,b3])/\S'=hS (ay h) r (gY h G (mm pre) pre x) s) M ⟨⟨_,_,rfl⟩,by
   have e1:gY h G (mm []) [] x={ x with now:=x.now+1}:=by
    unfold gY jL;rw[GK,kY,show(λz:Row=>if mm [] z=true then sy h G z else some z)=some from funext λz=>by rw[bD (by unfold mm;simp)],List.filterMap_some]
   rw[e1]⟩ (by
  rintro d w post eq U S' ⟨⟨b2,b3,rfl⟩,rfl⟩;have hw:w∈x.rows:=hM w (by rw[eq];simp)
  have hwd:w.bag∉d.map Row.bag:=H0 eq nM;have hp:mm d w=false:=by unfold mm;rw[Om];exact λz=>hwd (oP.mp z)
  have nb:((gY h G (mm d) d x).rows.map Row.bag).Nodup:=o.nb.sublist (Lc _ _);have Us:w∈(gY h G (mm d) d x).rows:=e2e hw hp;have ll:(gY h G (mm d) d x).rows.length<=x.rows.length:=by
   have:=(Lc (h:=h) (G:=G) (mm d) x.rows).length_le;rw[bj,bj] at this;exact this
  have rl:=o.rl;have sz:=o.sz;obtain⟨bt,hb,eb,_⟩:=(o.rw w hw).1;have fb:=KS g hb;rw[eb] at fb;cases hG:(G w).2 with
  |some j=>
   refine⟨_,_,_,rfl,.inl (f1r hG (e9b g nb Us hb eb (by lia))),⟨_,_,rfl⟩,?_⟩
   unfold gY;dsimp only;rw[e9d o.nb hw hp (Q1 d w) hG fb,List.filterMap_append,show List.filterMap (gu G (x.now+1)) [w]=[] by rw[vL,GK];unfold gu;rw[hG],kY]
  |none=>
   have hgd:w.bag∉(gY h G (mm d) d x).gone.map (·.1):=by
    unfold gY;dsimp only;rw[gF,jC];rintro(z|z)
    .exact(oV.mp o.nd).2.2 _ (qC hw) _ z rfl
    grind [gu]
   have EY:(gY h G (mm d) d x).gone.length<2000:=by
    grind [gY]
   refine⟨_,_,_,rfl,.inl (e9e hG (e2d nb Us hgd EY)),⟨_,_,rfl⟩,?_⟩;unfold gY;dsimp only;rw[e2f o.nb hw hp (Q1 d w) hG,List.filterMap_append,show List.filterMap (gu G (x.now+1)) [w]=[(w.bag,(G w).1,x.now+1)] by rw[vL,GK];unfold gu;rw[hG],qF])
 exact⟨b2,b3,e⟩
end
section
variable{s:List Cell}{h:aE}{r:Int}{x:Hl}{w:Row}{G:Row->Goal}{n m:Nat}{M L:List Row}{X:List (Str×D)}{hd:D}
theorem hlen{nw':Int}{m:Nat}:Nat.blt (hF hd r nw' m).length 1000=true:=rfl
theorem e9f(g:aB h)(o:Ok h n x)(hM:∀w∈M,w∈x.rows)(nM:(M.map Row.bag).Nodup)(T9:M.length<=x.rows.length)(hn:n<1000)(hs:s[m]?=some (.o (.lst (M.map (qO G))))):HP 0 [.d (.ref 0),.c m] (hS (ay h) r x s)=some (.ok (rd .aH) (hS (ay h) r (gY h G (mm M) M x) (s.set m (.z (.lst (M.map (qO G))))))):=by
 obtain⟨b2,b3,e⟩:=e2g (G:=G) (r:=r) (s:=s.set m (.z (.lst (M.map (qO G))))) (g1:=some (.c m)) g o hM nM T9 hn;generalize M.map (qO G)=ml at *;generalize ay h=hd at *;unfold HP QD;simp only[↓ev,hS,hR,Eh,IK,fV,hlen,e8f,hs,fP,e,Sl]
noncomputable def rq(X:List (Str×D))(G:Row->Goal)(w:Row):D:=match X.find? λp=>p.1 == w.bag with
 |some p=>.tup [.str w.bag,pl w.b w.i,pl w.b w.i,p.2]
 |none=>.tup [.str w.bag,pl w.b w.i,gD (G w),.aH]
abbrev tS(hd:D)(r:Int)(x:Hl)(s:List Cell)(X:List (Str×D))(lg mv:List D):aU:=⟨s++[.o (.aw (cD X)),.o (.lst lg),.o (.lst mv)],hR hd r x⟩
theorem e2h(X:List (Str×D))(w:Row):(X.find? (λp=>p.1 == w.bag)=none/\nk X w=true/\aM (cD X) (.inr w.bag)=none)\/∃p,X.find? (λp=>p.1 == w.bag)=some p/\nk X w=false/\aM (cD X) (.inr w.bag)=some p.2:=by
 have v:aM (cD X) (.inr w.bag)=_:=Ei w.bag X;have i:=Cz (W:=X) (b:=w.bag);rw[v] at i ⊢;unfold nk;rw[<-i];cases X.find? (λp=>p.1 == w.bag) with
 |none=>exact .inl ⟨rfl,rfl,rfl⟩
 |some p=>exact .inr ⟨p,rfl,rfl,rfl⟩
theorem e9g{lg mv:List D}{g1:aj Val}(hv:aM (cG G L) (.inr w.bag)=some (gD (G w)))(l1:lg.length<1000)(l2:mv.length<1000):DU 0 [some (.d (.ref 0)),g1,some (.d (.aw (cG G L))),some (.c s.length),some (.c (s.length+1)),some (.c (s.length+2)),some (.d (.str w.bag)),some (.d (aN w.fl)),some (.d (pl w.b w.i)),some (.d (.int w.gn))] (tS hd r x s X lg mv)=some (.nx [some (.d (.ref 0)),g1,some (.d (.aw (cG G L))),some (.c s.length),some (.c (s.length+1)),some (.c (s.length+2)),some (.d (.str w.bag)),some (.d (aN w.fl)),some (.d (pl w.b w.i)),some (.d (.int w.gn))] (tS hd r x s X (lg++[rq X G w]) (if nk X w=true then mv++[qO G w] else mv))):=by
 have Ux:(lg.length<1000000)=True:=br (by lia)
 have l2':(mv.length<1000000)=True:=br (by lia)
 unfold rq qO;generalize aN w.fl=ff at *;generalize gD (G w)=gg at *;unfold DU;rcases e2h X w with⟨e1,e2,e3⟩|⟨p,e1,e2,e3⟩
 .rw[e1,e2,bK rfl];simp only[↓ev,tS,de,aI,e3,zM,Cq,hv,aO,Ux,FQ,l2']
 .rw[e1,e2,bD (by decide)]
  dsimp only;generalize p.2=py at *;simp only[↓ev,tS,de,aI,e3,wG,Cq,aO,Ux,FQ]
theorem e2i{g1:aj Val}(nd:(L.map Row.bag).Nodup)(hl:L.length<100):∃a6 a7 a8 a9,aJ (aY [(ae 6),(ae 7),(ae 8),(ae 9)]) (DU 0) (L.map bM) [some (.d (.ref 0)),g1,some (.d (.aw (cG G L))),some (.c s.length),some (.c (s.length+1)),some (.c (s.length+2)),none,none,none,none] (tS hd r x s X [] [])=some (.nx [some (.d (.ref 0)),g1,some (.d (.aw (cG G L))),some (.c s.length),some (.c (s.length+1)),some (.c (s.length+2)),a6,a7,a8,a9] (tS hd r x s X (L.map (rq X G)) ((L.filter (nk X)).map (qO G)))):=by
 obtain⟨U',S',e,⟨a6,a7,a8,a9,rfl⟩,rfl⟩:=iE (gg:=aY [(ae 6),(ae 7),(ae 8),(ae 9)]) (body:=DU 0) (f:=bM) (U:=[some (.d (.ref 0)),g1,some (.d (.aw (cG G L))),some (.c s.length),some (.c (s.length+1)),some (.c (s.length+2)),none,none,none,none]) (S:=tS hd r x s X [] []) (λpre U S'=>(∃a6 a7 a8 a9,U=[some (.d (.ref 0)),g1,some (.d (.aw (cG G L))),some (.c s.length),some (.c (s.length+1)),some (.c (s.length+2)),a6,a7,a8,a9])/\S'=tS hd r x s X (pre.map (rq X G)) ((pre.filter (nk X)).map (qO G))) L ⟨⟨_,_,_,_,rfl⟩,rfl⟩ (by
  rintro d w post eq U S' ⟨⟨a6,a7,a8,a9,rfl⟩,rfl⟩;have hd:d.length<100:=by
   grind
  have hf:=wD (nk X) d;refine⟨_,_,_,rfl,.inl (e9g (jK nd (by rw[eq];simp)) (by rw[bj];lia) (by rw[bj];lia)),⟨_,_,_,_,rfl⟩,?_⟩
  grind)
 exact⟨a6,a7,a8,a9,e⟩
theorem R7:∀L:List Row,iM (L.map (qO G))=some (cG G L)
 |[]=>rfl
 |w::L=>by
  have ih:=R7 L;rw[cU];show(lX (.str w.bag)).bind (λk=>(iM (L.map (qO G))).map ((k,gD (G w))::·))=_
  rw[ih];rfl
theorem e2j(nd:(L.map Row.bag).Nodup):(cG G L).foldl (λa p=>bL a p.1 p.2) []=cG G L:=by
 have key:∀(M N:List Row),((N++M).map Row.bag).Nodup->(cG G M).foldl (λa p=>bL a p.1 p.2) (cG G N)=cG G (N++M):=by
  intro M
  induction M with
  |nil=>intro N _;rw[kY];rfl
  |cons w M ih=>
   intro N nd;have hw:w.bag∉N.map Row.bag:=by
    grind
   have e:bL (cG G N) (.inr w.bag) (gD (G w))=cG G (N++[w]):=by
    grind [cG,Ej,td]
   show(cG G M).foldl _ (bL (cG G N) (.inr w.bag) (gD (G w)))=_
   simp_all
 exact key L [] nd
end
def uJ(h:aE)(r:Int)(x:Hl)(X:List (Str×D)):Prop:=∃C,oW (aF h r x) (ask (aF h r x) (cT (cP h x) (aF h r x) (ord h x.rows)) (ord h x.rows)) C/\oR (aF h r x) (ord h x.rows) (cT (cP h x) (aF h r x) (ord h x.rows)++(ask (aF h r x) (cT (cP h x) (aF h r x) (ord h x.rows)) (ord h x.rows)).filterMap (fR (aF h r x) C)) X/\∀w∈ord h x.rows,∀o,¬lr (aF h r x) (ord h x.rows) X w o
def cN(h:aE)(x:Hl)(X:List (Str×D)):List Row:=(ord h x.rows).filter (nk X)
def jA(h:aE)(r:Int)(x:Hl)(X:List (Str×D)):Hl:=gY h (aF h r x) (mm (cN h x X)) (cN h x X) x
section
variable{s:List Cell}{h:aE}{r:Int}{x:Hl}{n:Nat}
theorem Cp{s:List Cell}{rr:List Cell}{W W':List (Str×D)}:tw ⟨s++[.o (.aw (cD W))],rr⟩ s.length W'=⟨s++[.o (.aw (cD W'))],rr⟩:=by
 simp_all
theorem e9h(g:aB h)(o:Ok h n x)(hn:n<1000):∃X,uJ h r x X/\Eg 0 [.d (.ref 0)] (hS (ay h) r x s)=some (.ok (.o (.lst ((ord h x.rows).map (rq X (aF h r x))))) (hS (ay h) r (jA h r x X) s)):=by
 have rl:=o.rl;have pl:=o.perm.length_eq;have nd:((ord h x.rows).map Row.bag).Nodup:=(o.perm.map _).nodup_iff.mpr o.nb;have un:((ord h x.rows).map λw=>(w.b,w.i)).Nodup:=(o.perm.map _).nodup_iff.mpr o.un
 have e1:=λq s=>El (s:=s) (r:=r) (q:=q) g o
 have e2:=λs=>Θ (s:=s) (r:=r) g o
 have e3:=λq s=>KQ (s:=s) (r:=r) (q:=q) (x:=x) g
 have ln:s.length<(s++[Cell.o (.aw (cD []))]).length:=by rw[dz];exact yq _
 have e5:=e1u (S:=⟨s++[.o (.aw (cD []))],hR (ay h) r x⟩) (n:=s.length) (st:=cP h x) (G:=aF h r x) (L:=ord h x.rows) ln nd (by lia)
 rw[Cp,Cp] at e5;have lw:(cT (cP h x) (aF h r x) (ord h x.rows)).length<=(ord h x.rows).length:=GP _ _;obtain⟨C,oC,e6⟩:=e1y (S:=⟨s++[.o (.aw (cD []))],hR (ay h) r x⟩) (n:=s.length) (W:=cT (cP h x) (aF h r x) (ord h x.rows)) (G:=aF h r x) (L:=ord h x.rows) ln nd (by lia) (by lia)
 rw[Cp,Cp] at e6;have ly:((ask (aF h r x) (cT (cP h x) (aF h r x) (ord h x.rows)) (ord h x.rows)).filterMap (fR (aF h r x) C)).length<=(ord h x.rows).length:=kx (GP _ _) (wD _ _);obtain⟨X,i1,i2,e7⟩:=σ (S:=⟨s++[.o (.aw (cD []))],hR (ay h) r x⟩) (n:=s.length) (W:=cT (cP h x) (aF h r x) (ord h x.rows)++(ask (aF h r x) (cT (cP h x) (aF h r x) (ord h x.rows)) (ord h x.rows)).filterMap (fR (aF h r x) C)) (G:=aF h r x) (L:=ord h x.rows) ln nd un (by lia) (by rw[dz];lia)
 rw[Cp,Cp] at e7;obtain⟨a6,a7,a8,a9,e8⟩:=e2i (s:=s) (hd:=ay h) (r:=r) (x:=x) (X:=X) (G:=aF h r x) (L:=ord h x.rows) (g1:=some (.d (.lst ((ord h x.rows).map bM)))) nd (by lia)
 have e4:=e9f (r:=r) (G:=aF h r x) (M:=cN h x X) (m:=s.length+2) (s:=s++[.o (.aw (cD X)),.o (.lst ((ord h x.rows).map (rq X (aF h r x)))),.o (.lst ((cN h x X).map (qO (aF h r x))))]) g o (λw m=>o.mem.mp (wx.mp m).1) (nd.sublist (List.Sublist.map _ JI)) (by rw[<-pl];exact wD _ _) hn Cq
 rw[FQ] at e4;refine⟨X,⟨C,oC,i1,i2⟩,?_⟩;have pw:=R7 (G:=aF h r x) (ord h x.rows);have fg:=e2j (G:=aF h r x) nd;have ll:((cG (aF h r x) (ord h x.rows)).length<1000)=True:=br (by unfold cG;rw[n4];lia)
 have ew:(ord h x.rows).map (sP h r x)=(ord h x.rows).map (qO (aF h r x)):=rfl;have w0:cD []=[]:=rfl;rw[w0] at e5;unfold jA;rw[ew] at e2;clear i1 i2 oC;generalize cT (cP h x) (aF h r x) (ord h x.rows)=W1 at *;generalize W1++(ask (aF h r x) W1 (ord h x.rows)).filterMap (fR (aF h r x) C)=W2 at *;generalize gY h (aF h r x) (mm (cN h x X)) (cN h x X) x=x2 at *;unfold cN at e4;generalize(ord h x.rows).map (qO (aF h r x))=l1 at *;generalize((ord h x.rows).filter (nk X)).map (qO (aF h r x))=l2 at *;generalize(ord h x.rows).map (rq X (aF h r x))=l3 at *;generalize(ord h x.rows).map bM=l4 at *;generalize cG (aF h r x) (ord h x.rows)=gs at *;generalize ay h=hd at *;unfold Eg Tb;simp only[↓ev,hR,cY,Aj,e1,aO,e2,pw,ll,fg,Kz,e3,e5,e6,e7,aI,A6,yG,fP,e8,e1n,e4,lt2,Cq,rW]
end
variable{G:Row->Goal}{j:Int}
theorem R8{α:Type}[DecidableEq α]:∀{l1 l2:List α},l1.Nodup->(∀a∈l1,a∈l2)->l1.length<=l2.length
 |[],_,_,_=>nK _
 |a::l1,l2,nd,h=>by
  rw[t_] at nd;have ha:=h a (.head _);have ih:=R8 (l1:=l1) (l2:=l2.erase a) nd.2 λb m=>by
   grind
  grind
section
variable{h:aE}{r:Int}{x:Hl}{n:Nat}{X:List (Str×D)}{w z:Row}
theorem e2k(g:aB h)(o:Ok h n x)(hw:w∈x.rows):((aF h r x w).2=none->(aF h r x w).1∈h.carts)/\∀j,(aF h r x w).2=some j->∃bt∈h.af,bt.name=(aF h r x w).1/\0<=j/\j<bt.long:=by
 obtain⟨bt,hb,eb,i0,i1,_⟩:=(o.rw w hw).1;have lo:=(g.lg bt hb).1;have eg:aF h r x w=qm h r x w bt:=by unfold aF;rw[<-eb,KS g hb]
 rw[eg];unfold qm;split
 .exact⟨λz=>(by cases z),λj e=>⟨bt,hb,rfl,by cases e;lia,by cases e;assumption⟩⟩
 .split
  .exact⟨λz=>(by cases z),λj e=>⟨bt,hb,rfl,by cases e;lia,by cases e;lia⟩⟩
  .obtain⟨a,ea,ha⟩:=Ti g o hw hb eb;rw[ea,JO];unfold xS;split
   .simp_all
   .rename_i hc
    split
    .exact⟨λz=>(by cases z),λj e=>⟨bt,hb,rfl,by cases e;lia,by cases e;lia⟩⟩
    .have hm:a∈h.af.map ao.name:=(K' g.fwd bt hb a ha).resolve_right λz=>hc (oP.mpr z)
     obtain⟨b2,xA,e2⟩:=jQ.mp hm;have l2:=(g.lg b2 xA).1;exact⟨λz=>(by cases z),λj e=>⟨b2,xA,e2,by cases e;lia,by cases e;lia⟩⟩
theorem oR.sub{L:List Row}{W X:List (Str×D)}(a:oR G L W X):∀b∈W.map (·.1),b∈X.map (·.1):=by
 induction a with
 |base=>exact λ_ m=>m
 |step _ _ _ ih=>exact λb m=>by rw[gF];exact jC.mpr (.inl (ih b m))
theorem Ak(o:Ok h n x):w∈cN h x X↔w∈x.rows/\w.bag∉X.map (·.1):=by
 unfold cN;rw[wx,o.mem,ow]
theorem υ(o:Ok h n x)(t:uJ h r x X):∃C:List (bu×Str),∀w∈cN h x X,(aF h r x w).2.isSome=true->look C (gk (aF h r x) w)=some w.bag:=by
 obtain⟨C,oC,gr,fn⟩:=t;refine⟨C,λw hw hs=>?_⟩
 obtain⟨hr,hX⟩:=(Ak o).mp hw;have h1:w.bag∉(cT (cP h x) (aF h r x) (ord h x.rows)).map (·.1):=λm=>hX (gr.sub _ (by rw[gF];exact jC.mpr (.inl m)))
 have ha:w∈ask (aF h r x) (cT (cP h x) (aF h r x) (ord h x.rows)) (ord h x.rows):=rS.mpr ⟨o.mem.mpr hr,h1,hs⟩;obtain⟨c,hc⟩:=Option.ne_none_iff_exists'.mp (oC.2.1 w ha);rw[hc];by_cases e:c=w.bag
 .rw[e]
 .refine cJ (gr.sub w.bag ?_) hX
  grind [fR]
theorem TX(e:(G w).2=some j):gk G w=((G w).1,j):=by unfold gk;rw[e];rfl
theorem WB(o:Ok h n x)(t:uJ h r x X)(hw:w∈cN h x X)(hz:z∈cN h x X){k:Int}(ew:(aF h r x w).2=some j)(ez:(aF h r x z).2=some k)(e:((aF h r x w).1,j)=((aF h r x z).1,k)):w=z:=by
 obtain⟨C,hC⟩:=υ o t;have h1:=hC w hw (by rw[ew];rfl)
 have h2:=hC z hz (by rw[ez];rfl)
 rw[TX ew,e,<-TX ez,h2] at h1;exact v3 o.nb ((Ak o).mp hw).1 ((Ak o).mp hz).1 (Option.some.inj h1).symm
theorem e2l(un:(x.rows.map λw=>(w.b,w.i)).Nodup)(o:Ok h n x)(hz:z∈x.rows)(ew:(G w).2=some j)(e:((G w).1,j)=(z.b,z.i)):hold G (ord h x.rows) w=some z.bag:=by
 unfold hold;rw[ew];dsimp only;rw[e];refine Ω ?_ (jQ.mpr ⟨z,o.mem.mpr hz,rfl⟩);unfold iP;rw[eP];exact(o.perm.map _).nodup_iff.mpr un
theorem χ(o:Ok h n x)(t:uJ h r x X)(hw:w∈cN h x X)(hz:z∈x.rows)(ew:(aF h r x w).2=some j)(e:((aF h r x w).1,j)=(z.b,z.i)):z∈cN h x X:=by
 obtain⟨C,oC,gr,fn⟩:=t;obtain⟨hr,hX⟩:=(Ak o).mp hw;refine(Ak o).mpr ⟨hz,λm=>fn w (o.mem.mpr hr) z.bag ⟨hX,e2l o.un o hz ew e,m⟩⟩
theorem Lr(o:Ok h n x)(hz:z∈x.rows):mm (cN h x X) z=true↔z∈cN h x X:=by
 unfold mm;rw[oP,jQ];constructor
 .rintro⟨u,hu,e⟩;rw[<-v3 o.nb ((Ak o).mp hu).1 hz e];exact hu
 .exact λm=>⟨z,m,rfl⟩
end
section
variable{h:aE}{r:Int}{x:Hl}{n:Nat}{X:List (Str×D)}{w z z':Row}
theorem Q2(o:Ok h n x)(hz:z'∈(jA h r x X).rows):∃z∈x.rows,z'.bag=z.bag/\z'.fl=z.fl/\((z∉cN h x X/\z'=z)\/(z∈cN h x X/\sy h (aF h r x) z=some z')):=by
 obtain⟨z,MI,e⟩:=BF.mp hz;refine⟨z,MI,?_⟩;split at e
 .rename_i hm
  obtain⟨e1,e2⟩:=Ir e;exact⟨e1,e2,.inr ⟨(Lr o MI).mp hm,e⟩⟩
 .rename_i hm
  cases e;exact⟨rfl,rfl,.inl ⟨λm=>hm ((Lr o MI).mpr m),rfl⟩⟩
theorem e9j{G:Row->Goal}(e:sy h G z=some z')(h0:0<=z.gn):0<=z'.gn:=by
 grind [sy]
theorem LJ{G:Row->Goal}(e:sy h G z=some z'):∃j,(G z).2=some j/\z'.b=(G z).1/\z'.i=j:=by
 grind [sy]
theorem R9{nw:Int}{p:Str×Str×Int}(o:Ok h n x)(hp:p∈(cN h x X).filterMap (gu (aF h r x) nw)):∃u∈x.rows,u∈cN h x X/\(aF h r x u).2=none/\p=(u.bag,(aF h r x u).1,nw):=by
 grind [Ak,gu]
theorem R_{G:Row->Goal}{nw:Int}:∀M:List Row,((M.filterMap (gu G nw)).map (·.1)).Sublist (M.map Row.bag)
 |[]=>.slnil
 |u::M=>by
  have ih:=R_ (G:=G) (nw:=nw) M;rw[cU];cases e:(G u).2 with
  |none=>
   rw[List.filterMap_cons_some (b:=(u.bag,(G u).1,nw)) (by unfold gu;rw[e])]
   exact ih.cons₂ _
  |some j=>
   rw[List.filterMap_cons_none (by unfold gu;rw[e])]
   exact ih.cons _
theorem Ok.turn(g:aB h)(o:Ok h n x)(t:uJ h r x X):Ok h n (jA h r x X):=by
 have nM:((cN h x X).map Row.bag).Nodup:=(((o.perm.map _).nodup_iff.mpr o.nb:((ord h x.rows).map Row.bag).Nodup)).sublist (List.Sublist.map _ JI);have sb:((jA h r x X).rows.map Row.bag).Sublist (x.rows.map Row.bag):=Lc _ _;have vw:∀b∈((cN h x X).filterMap (gu (aF h r x) (x.now+1))).map (·.1),∃u∈x.rows,u∈cN h x X/\(aF h r x u).2=none/\b=u.bag:=λb m=>by
  obtain⟨p,hp,rfl⟩:=jQ.mp m;obtain⟨u,h1,h2,h3,rfl⟩:=R9 o hp;exact⟨u,h1,h2,h3,rfl⟩
 have dj:∀b∈(jA h r x X).rows.map Row.bag,b∉((cN h x X).filterMap (gu (aF h r x) (x.now+1))).map (·.1):=λb mb mo=>by
  obtain⟨z',Jl,rfl⟩:=jQ.mp mb;obtain⟨u,hu,hum,hn,e⟩:=vw _ mo;obtain⟨z,hz,eb,_,st⟩:=Q2 o Jl;have ezu:z=u:=v3 o.nb hz hu (by rw[<-eb,e])
  grind [LJ]
 have ndo:(((cN h x X).filterMap (gu (aF h r x) (x.now+1))).map (·.1)).Nodup:=by
  exact nM.sublist (R_ _)
 have nd:((jA h r x X).rows.map Row.bag++(jA h r x X).gone.map (·.1)).Nodup:=by
  have o1:=oV.mp o.nd;have eg:(jA h r x X).gone.map (·.1)=x.gone.map (·.1)++((cN h x X).filterMap (gu (aF h r x) (x.now+1))).map (·.1):=by
   show(x.gone++_).map _=_
   simp_all
  rw[eg,oV];refine⟨o1.1.sublist sb,oV.mpr ⟨o1.2.1,ndo,λa ma b mb e=>?_⟩,λa ma b mb e=>?_⟩
  .obtain⟨u,hu,_,_,eu⟩:=vw b mb;exact o1.2.2 u.bag (qC hu) a ma (by rw[e,eu])
  .rcases jC.mp mb with mb|mb
   .exact o1.2.2 a (sb.subset ma) b mb e
   .exact dj a ma (by rw[e];exact mb)
 refine⟨λz' Jl=>?_,nd,?_,o.bk,o.bn,λp hp=>?_,?_,?_⟩
 .obtain⟨z,hz,eb,ef,st⟩:=Q2 o Jl;obtain⟨k1,k2,k3⟩:=o.rw z hz;refine⟨?_,by rw[eb];exact k2,by rw[ef];exact k3⟩
  rcases st with⟨_,rfl⟩|⟨_,s2⟩
  .exact k1
  .obtain⟨j,ej,e1,e2⟩:=LJ s2;obtain⟨bt,hb,e3,e4,e5⟩:=(e2k g o hz).2 j ej;obtain⟨_,_,_,_,_,Mc⟩:=k1;exact⟨bt,hb,by rw[e1];exact e3,by rw[e2];exact e4,by rw[e2];exact e5,e9j s2 Mc⟩
 .show((jL h (aF h r x) (mm (cN h x X)) x.rows).map _).Nodup;unfold jL;rw[List.Nodup,GN,List.pairwise_filterMap];have un:=o.un;have nb:=o.nb;rw[List.Nodup,GN] at un nb;refine(un.and nb).imp_of_mem λ{a b} ma mb ne a' ea b' eb' e=>?_
  grind [LJ,Lr,χ,WB]
 .rcases jC.mp (show p∈x.gone++(cN h x X).filterMap (gu (aF h r x) (x.now+1)) from hp) with m|m
  .exact o.gi p m
  .obtain⟨u,hu,_,_,rfl⟩:=R9 o m;exact(o.rw u hu).2.1
 .have:=sb.length_le;rw[bj,bj] at this;exact kx this o.rl
 .have:=R8 nd (l2:=x.rows.map Row.bag++x.gone.map (·.1)) λa m=>by
   rcases jC.mp m with m|m
   .exact jC.mpr (.inl (sb.subset m))
   .have m:a∈(x.gone++(cN h x X).filterMap (gu (aF h r x) (x.now+1))).map (·.1):=m
    rw[gF,jC] at m;rcases m with m|m
    .exact jC.mpr (.inr m)
    .obtain⟨u,hu,_,_,e⟩:=vw a m;exact jC.mpr (.inl (by rw[e];exact qC hu))
  rw[dz,dz,bj,bj,bj,bj] at this;have sz:=o.sz;show x.book.length+x.halts.length+_+_<=n;lia
end
variable{l:List Str}
abbrev mn(z:Str)(v:Bool):Prop:=Pr q_ [.d (.str z)] (rd (.bl v))
def Dn(h:aE)(r:Int)(n:Nat)(x:Hl)(s:List Cell)(res:aj (Rs Rv)):Prop:=(∃x',res=some (.ok (rd .aH) (hS (ay h) r x' s))/\Ok h (n+1) x')\/∃C,res=some (.ex C none (hS (ay h) r x s))/\wT gd C=some true
section
variable{s:List Cell}{h:aE}{r:Int}{x:Hl}{n q:Nat}{f ct b:Str}{cl:Int}{v:Bool}
theorem Ea{hd:D}(q:Nat)(hv:mn f v):zZ q [.d (.ref 0),.d (.str f)] (hS hd r x s)=some (if(v&&(x.book.map (·.1)).contains f)=true then .ok (rd .aH) (hS hd r x s) else .ex 104 none (hS hd r x s)):=by
 have i:(aM (lq x.book) (.inr f)).isSome=_:=Cy;unfold zZ Ot;cases v with
 |false=>simp only[↓ev,hv,cg,hR,aI]
 |true=>
  cases hc:(x.book.map (·.1)).contains f with
  |true=>rw[hc] at i;simp only[↓ev,hv,aI,hR,rR,tH,aO,i,mf,cg]
  |false=>rw[hc] at i;simp only[↓ev,hv,aI,hR,rR,tH,aO,i,oQ,cg]
theorem Qb(q:Nat){S:aU}:Dp q [.d (.int cl)] S=some (if cl<0 then .ex 92 none S else .ok (rd .aH) S):=by
 unfold Dp Ow;by_cases hl:cl<0
 .rw[bK hl];have hl:=br hl;simp only[↓ev,hl,decide_true,eW]
 .rw[bD hl];have hl:=eq_false hl;simp only[↓ev,hl,decide_false,aI,eW]
theorem Ok.up(o:Ok h n x):Ok h (n+1) x:=⟨o.rw,o.nd,o.un,o.bk,o.bn,o.gi,o.rl,Nat.le_succ_of_le o.sz⟩
theorem BU(h:l.contains b=true):b∈l:=oP.mp h
theorem KC(h:l.contains b=false):b∉l:=λm=>by rw[oP.mpr m] at h;cases h
theorem ψ(g:aB h)(o:Ok h n x)(hn:n<1000)(hv:mn f v):Dn h r n x s (Hu 0 [.d (.ref 0),.d (.str f),.d (.str ct),.d (.int cl)] (hS (ay h) r x s)):=by
 have i:(aM (lq x.book) (.inr f)).isSome=_:=Cy;have cu:cutD (dS h.carts) (some 1) none=dS (h.carts.drop 1):=by rw[show(1:Int)=((1:Nat):Int) from rfl,QK,dS,dS,JK]
 have e1:=λq S=>Qb (cl:=cl) (S:=S) q
 have hD:ay h=.tup [.lst (h.af.map ak),.lst (dS h.carts)]:=rfl;unfold Dn;rw[hD];unfold Hu Ph;cases v with
 |false=>
  refine .inr ⟨44,?_,rfl⟩;simp only[↓ev,hv,cg,hR]
 |true=>
  cases h1:(x.book.map (·.1)).contains f with
  |true=>
   rw[h1] at i;refine .inr ⟨44,?_,rfl⟩;simp only[↓ev,hv,aI,hR,rR,tH,aO,i,cg]
  |false=>
   rw[h1] at i;cases h2:(h.carts.drop 1).contains ct with
   |false=>
    refine .inr ⟨68,?_,rfl⟩;simp only[↓ev,hv,aI,hR,rR,tH,aO,i,oS,o_,cH,cu,jS,jJ,h2,oQ,cg]
   |true=>
    by_cases hl:cl<0
    .simp only[bK hl] at e1;refine .inr ⟨92,?_,rfl⟩;simp only[↓ev,hv,aI,hR,rR,tH,aO,i,oS,o_,cH,cu,jS,jJ,h2,mf,e1,cg]
    .simp only[bD hl] at e1;have hf:=KC h1;have p:bL (lq x.book) (.inr f) (.tup [.str f,.str ct,.int cl])=lq (x.book++[(f,ct,cl)]):=by
      unfold lq;rw[Ej hf];unfold td;rw[gF];rfl
     have sz:=o.sz;have l1:((lq x.book).length<1000000)=True:=br (by unfold lq;rw[n4];lia)
     refine .inl ⟨{ x with book:=x.book++[(f,ct,cl)]},?_,λw m=>⟨(o.rw w m).1,(o.rw w m).2.1,λf' e=>?_⟩,o.nd,o.un,λp m=>?_,?_,o.gi,o.rl,?_⟩
     .simp only[↓ev,hS,hR,hv,aI,rR,tH,aO,i,oS,o_,cH,cu,jS,jJ,h2,mf,e1,l1,p,cg]
     .rw[gF];exact jC.mpr (.inl ((o.rw w m).2.2 f' e))
     .rcases jC.mp m with m|m
      .exact o.bk p m
      .rw[qE.mp m];exact BU h2
     .rw[gF,oV];refine⟨o.bn,by simp,λa ma b mb e=>hf ?_⟩
      have:b=f:=by simpa using mb
      rw[<-this,<-e];exact ma
     .dsimp only;rw[dz,wB];lia
theorem ω(g:aB h)(o:Ok h n x)(hn:n<1000)(hv:mn f v):Dn h r n x s (Hw 0 [.d (.ref 0),.d (.str f),.d (.int cl)] (hS (ay h) r x s)):=by
 have e0:=λq=>Ea (s:=s) (hd:=ay h) (r:=r) (x:=x) q hv
 have e1:=λq S=>Qb (cl:=cl) (S:=S) q
 unfold Dn;generalize ay h=hd at *;unfold Hw Pj;cases hc:(v&&(x.book.map (·.1)).contains f) with
 |false=>
  simp only[hc,aI,kP] at e0;refine .inr ⟨104,?_,rfl⟩;simp only[↓ev,hR,cY,wR,e0,cg]
 |true=>
  simp only[hc,sR] at e0;by_cases hl:cl<0
  .simp only[bK hl] at e1;refine .inr ⟨92,?_,rfl⟩;simp only[↓ev,hR,cY,wR,e0,e1,cg]
  .simp only[bD hl] at e1;rw[kO] at hc;have hm:=BU hc.2;obtain⟨p,hp,ep⟩:=jQ.mp hm;have v0:aM (lq x.book) (.inr f)=some (.tup [.str p.1,.str p.2.1,.int p.2.2]):=by rw[<-ep];exact jK o.bn hp
   have pu:bL (lq x.book) (.inr f) (.tup [.str f,.str p.2.1,.int cl])=lq (x.book.map λz=>if z.1=f then(f,z.2.1,cl) else z):=by
    unfold lq;rw[Ek o.bn hm];unfold td;rw[eP];refine qD λz mz=>?_
    dsimp only[Function.comp];by_cases e:z.1=f
    .rw[bK e,bK e,v3 (f:=λp:Str×Str×Int=>p.1) o.bn mz hp (by rw[e,ep]),ep]
     rfl
    .rw[bD e,bD e]
   have sz:=o.sz;have l1:((lq x.book).length<1000000)=True:=br (by unfold lq;rw[n4];lia)
   have ek:(x.book.map λz=>if z.1=f then(f,z.2.1,cl) else z).map (·.1)=x.book.map (·.1):=by
    rw[eP];refine qD λz _=>?_
    dsimp only[Function.comp];split
    .rename_i e;exact e.symm
    .rfl
   refine .inl ⟨{ x with book:=x.book.map λz=>if z.1=f then(f,z.2.1,cl) else z},?_,λw m=>⟨(o.rw w m).1,(o.rw w m).2.1,λf' e=>?_⟩,o.nd,o.un,λp m=>?_,?_,o.gi,o.rl,?_⟩
   .simp only[↓ev,hS,hR,cY,wR,e0,e1,rR,tH,aO,v0,cH,l1,pu,cg]
   .show f'∈(x.book.map _).map _;rw[ek];exact(o.rw w m).2.2 f' e
   .obtain⟨z,mz,rfl⟩:=jQ.mp m;split
    .exact o.bk z mz
    .exact o.bk z mz
   .show((x.book.map _).map _).Nodup;rw[ek];exact o.bn
   grind
theorem e9k(g:aB h)(o:Ok h n x)(hn:n<1000):Dn h r n x s (DR 0 [.d (.ref 0),.d (.str b)] (hS (ay h) r x s)):=by
 cases hb:(h.af.map ao.name).contains b with
 |false=>
  have e0:=λq=>Cb (s:=s) (r:=r) (x:=x) (q:=q) g hb
  simp only[aI,kP] at e0;refine .inr ⟨116,?_,rfl⟩;generalize ay h=hd at *;unfold DR K7;simp only[↓ev,hR,cY,yw,e0,cg]
 |true=>
  have e0:=λq=>Cb (s:=s) (r:=r) (x:=x) (q:=q) g hb
  simp only[sR] at e0;have sz:=o.sz;have l1:((qp x.halts).length<1000000)=True:=br (by rw[LF];lia)
  have p:=IJ b x.halts;refine .inl ⟨{ x with halts:=iF x.halts b},?_,o.rw,o.nd,o.un,o.bk,o.bn,o.gi,o.rl,?_⟩
  .generalize ay h=hd at *;unfold DR K7;simp only[↓ev,hS,hR,cY,yw,e0,Ci,DV,aO,l1,p,cg]
  grind [QM]
theorem e2m(b:Str)(ks:List Str):dC (qp ks) b=qp (ks.filter λk=>decide (k≠b)):=D9 (k:=λk=>k) (v:=λ_=>.bl true)
theorem e2n(g:aB h)(o:Ok h n x)(hb:(h.af.map ao.name).contains b=true):B_ 0 [.d (.ref 0),.d (.str b)] (hS (ay h) r x s)=some (.ok (rd .aH) (hS (ay h) r { x with halts:=x.halts.filter λk=>decide (k≠b)} s)):=by
 have e0:=λq=>Cb (s:=s) (r:=r) (x:=x) (q:=q) g hb
 simp only[sR] at e0;have i:=Ar b x.halts;have d:=e2m b x.halts;have t1:fM (qp x.halts)=true:=As (k:=λk=>k) (v:=λ_=>.bl true)
 generalize ay h=hd at *;unfold B_ KN;cases hc:x.halts.contains b with
 |true=>
  rw[hc] at i;obtain⟨y,hy⟩:=Option.isSome_iff_exists.mp i;simp only[↓ev,hS,hR,cY,yw,e0,Ci,DV,aO,aI,hy,wG,t1,d,cg]
 |false=>
  rw[hc] at i;have hf:x.halts.filter (λk=>decide (k≠b))=x.halts:=List.filter_eq_self.mpr λk m=>vQ λe=>KC hc (by rw[<-e];exact m)
  simp only[↓ev,hS,hR,cY,yw,e0,Ci,DV,aO,aI,i,cg,hf]
theorem Ok.start(o:Ok h n x):Ok h n { x with halts:=x.halts.filter λk=>decide (k≠b)}:=⟨o.rw,o.nd,o.un,o.bk,o.bn,o.gi,o.rl,by
 have:=wD (λk=>decide (k≠b)) x.halts
 have sz:=o.sz
 lia⟩
theorem d4h(g:aB h)(o:Ok h n x):Dn h r n x s (B_ 0 [.d (.ref 0),.d (.str b)] (hS (ay h) r x s)):=by
 cases hb:(h.af.map ao.name).contains b with
 |false=>
  have e0:=λq=>Cb (s:=s) (r:=r) (x:=x) (q:=q) g hb
  simp only[aI,kP] at e0;refine .inr ⟨116,?_,rfl⟩;generalize ay h=hd at *;unfold B_ KN;simp only[↓ev,hR,cY,yw,e0,cg]
 |true=>exact .inl ⟨_,e2n g o hb,o.start.up⟩
end
theorem e2o{b:Str}(hn:sx b):b.length<=8:=by
 refine Classical.byContradiction λz=>?_
 have e:=hn 0 ⟨[],[]⟩;have h2:((b.length:Int)<=8)=False:=eq_false (by lia)
 have h3:(1<=(b.length:Int))=True:=br (by lia)
 by_cases hl:b.length<=1000000
 .have h4:=br hl;have e2:q_ 0 [.d (.str b)] ⟨[],[]⟩=some (.ok (rd (.bl false)) ⟨[],[]⟩):=by
   unfold q_ DG;simp only[↓ev,Fd,aI,h4,h3,decide_true,h2,decide_false];rfl
  lia
 .have h4:=eq_false hl;have e2:q_ 0 [.d (.str b)] ⟨[],[]⟩=none:=by
   unfold q_ DG;simp only[↓ev,Fd,aI,h4];rfl
  lia
noncomputable def Jt(rows:List Row)(b:Str):Bool:=rows.any λw=>w.b == b&&w.i == 0
theorem d4i(b:Str)(rows:List Row):((iw rows).map (·.2)).any (λz=>g7 z (pl b 0))=Jt rows b:=by
 unfold iw td Jt;rw[eP,List.any_map]
 congr 1
 funext w;exact CB
theorem e2p(rows:List Row):((iw rows).map (·.2)).all (fS 40)=true:=by
 unfold iw td;rw[eP,GD];exact oO.mpr λw _=>rfl
theorem Eb{α:Type}{k:α->Str}{v:α->D}{xs:List α}{x:α}(h:k x∉xs.map k):bL (td k v xs) (.inr (k x)) (v x)=td k v (xs++[x]):=by
 rw[Ej h];unfold td;rw[gF];rfl
section
variable{s:List Cell}{h:aE}{r:Int}{x:Hl}{n q:Nat}{f b bag:Str}{v v2:Bool}{fl:aj Str}
theorem Ls{S:aU}{res:Rs Rv}{ff:D}(pre:∀rest:GS,w9 rest 0 [some (.d (.ref 0)),some (.d (.str bag)),some (.d ff),some (.d (.str b)),none] S=rest [some (.d (.ref 0)),some (.d (.str bag)),some (.d ff),some (.d (.str b)),none] S)(e:(Co 0 [some (.d (.ref 0)),some (.d (.str bag)),some (.d ff),some (.d (.str b)),none] S).bind (leave S.s.length)=some res):yC 0 [.d (.ref 0),.d (.str bag),.d ff,.d (.str b)] S=some res:=by
 rw[<-pre (Co 0)] at e;exact e
theorem f1s(g:aB h)(o:Ok h n x)(hn:n<1000)(hv:mn bag v)(hf:∀f,fl=some f->mn f v2)(h8:x.rows.length<8):Dn h r n x s (yC 0 [.d (.ref 0),.d (.str bag),.d (aN fl),.d (.str b)] (hS (ay h) r x s)):=by
 have i1:(aM (iw x.rows) (.inr bag)).isSome=_:=Cy;have i2:(aM (AA x.gone) (.inr bag)).isSome=_:=Cy;cases v with
 |false=>
  refine .inr ⟨44,?_,rfl⟩;generalize ay h=hd at *;generalize aN fl=ff at *;unfold yC D8 w9;simp only[↓ev,hv,cg,hR]
 |true=>
 cases h1:(x.rows.map Row.bag).contains bag with
 |true=>
  rw[h1] at i1;refine .inr ⟨44,?_,rfl⟩;generalize ay h=hd at *;generalize aN fl=ff at *;unfold yC D8 w9;simp only[↓ev,hv,aI,hR,mE,mV,aO,i1,cg]
 |false=>
 rw[h1] at i1;cases h2:(x.gone.map (·.1)).contains bag with
 |true=>
  rw[h2] at i2;refine .inr ⟨44,?_,rfl⟩;generalize ay h=hd at *;generalize aN fl=ff at *;unfold yC D8 w9;simp only[↓ev,hv,aI,hR,mE,mV,aO,i1,Ca,DL,i2,cg]
 |false=>
 rw[h2] at i2;have fz:(∃f,fl=some f/\(v2&&(x.book.map (·.1)).contains f)=false)\/(fl=none\/∃f,fl=some f/\(v2&&(x.book.map (·.1)).contains f)=true):=by
  cases fl with
  |none=>exact .inr (.inl rfl)
  |some f=>
   cases hc:(v2&&(x.book.map (·.1)).contains f) with
   |true=>exact .inr (.inr ⟨f,rfl,hc⟩)
   |false=>exact .inl ⟨f,rfl,hc⟩
 rcases fz with⟨f,rfl,hc⟩|fz
 .have e0:=λq=>Ea (s:=s) (hd:=ay h) (r:=r) (x:=x) q (hf f rfl)
  simp only[hc,aI,kP] at e0;refine .inr ⟨104,?_,rfl⟩;generalize ay h=hd at *;unfold yC D8 w9 aN;simp only[↓ev,hv,aI,hR,mE,mV,aO,i1,Ca,DL,i2,cY,wR,e0,cg]
 .have hfl:∀f,fl=some f->f∈x.book.map (·.1):=λf e=>by
   simp_all
  have pre:∀rest:GS,w9 rest 0 [some (.d (.ref 0)),some (.d (.str bag)),some (.d (aN fl)),some (.d (.str b)),none] (hS (ay h) r x s)=rest [some (.d (.ref 0)),some (.d (.str bag)),some (.d (aN fl)),some (.d (.str b)),none] (hS (ay h) r x s):=λrest=>by
   rcases fz with rfl|⟨f,rfl,hc⟩
   .generalize ay h=hd at *;unfold w9 aN;simp only[↓ev,hv,aI,hR,mE,mV,aO,i1,Ca,DL,i2]
   .have e0:=λq=>Ea (s:=s) (hd:=ay h) (r:=r) (x:=x) q (hf f rfl)
    simp only[hc,sR] at e0;generalize ay h=hd at *;unfold w9 aN;simp only[↓ev,hv,aI,hR,mE,mV,aO,i1,Ca,DL,i2,cY,wR,e0]
  cases hb:(h.af.map ao.name).contains b with
  |false=>
   have e1:=λq=>Cb (s:=s) (r:=r) (x:=x) (q:=q) g hb
   simp only[aI,kP] at e1;refine .inr ⟨116,Ls pre ?_,rfl⟩;generalize ay h=hd at *;generalize aN fl=ff at *;unfold Co;simp only[↓ev,hR,cY,yw,e1,cg]
  |true=>
   have e1:=λq=>Cb (s:=s) (r:=r) (x:=x) (q:=q) g hb
   simp only[sR] at e1;have t1:fM (iw x.rows)=true:=As;have va:=d4i b x.rows;have vo:=e2p x.rows;obtain⟨bt,Jb,TZ⟩:=jQ.mp (BU hb);have lb:=e2o (g.nm bt Jb);rw[TZ] at lb;have l1:(b.length<=1000000)=True:=br (by lia)
   have l2:((Str.empty++("cell 0 of belt ":Str)).length<=1000000)=True:=br (by decide +kernel)
   have l3:((Str.empty++("cell 0 of belt ":Str)++b).length<=1000000)=True:=br (by
    rw[Str.length_append];have:(Str.empty++("cell 0 of belt ":Str)).length<=100:=by decide +kernel
    lia)
   have l4:((Str.empty++("cell 0 of belt ":Str)++b++(" has a bag":Str)).length<=1000000)=True:=br (by
    rw[Str.length_append,Str.length_append];have:(Str.empty++("cell 0 of belt ":Str)).length<=100:=by decide +kernel
    have:(" has a bag":Str).length<=100:=by decide +kernel
    lia)
   cases ho:Jt x.rows b with
   |true=>
    rw[ho] at va;refine .inr ⟨128,Ls pre ?_,rfl⟩;generalize ay h=hd at *;generalize aN fl=ff at *;unfold Co;simp only[↓ev,hR,cY,yw,e1,aO,mE,mV,t1,vo,aI,va,l2,l1,l3,l4,cg]
   |false=>
    rw[ho] at va;have AQ:=KC h1;have p1:bL (iw x.rows) (.inr bag) (pl b 0)=iw (x.rows++[⟨bag,b,0,fl,0⟩]):=Eb (x:=(⟨bag,b,0,fl,0⟩:Row)) AQ;have p2:bL (iy x.rows) (.inr bag) (aN fl)=iy (x.rows++[⟨bag,b,0,fl,0⟩]):=Eb (x:=(⟨bag,b,0,fl,0⟩:Row)) AQ;have p3:bL (mq x.rows) (.inr bag) (.int 0)=mq (x.rows++[⟨bag,b,0,fl,0⟩]):=Eb (x:=(⟨bag,b,0,fl,0⟩:Row)) AQ;have m1:((iw x.rows).length<1000000)=True:=br (by unfold iw;rw[n4];lia)
    have m2:((iy x.rows).length<1000000)=True:=br (by unfold iy;rw[n4];lia)
    have m3:((mq x.rows).length<1000000)=True:=br (by unfold mq;rw[n4];lia)
    have sz:=o.sz;have lo:=(g.lg bt Jb).1;refine .inl ⟨{ x with rows:=x.rows++[⟨bag,b,0,fl,0⟩]},Ls pre ?_,λw m=>?_,?_,?_,o.bk,o.bn,o.gi,?_,?_⟩
    .generalize ay h=hd at *;generalize aN fl=ff at *;unfold Co;simp only[↓ev,hS,hR,cY,yw,e1,aO,mE,mV,t1,vo,aI,va,m1,p1,qG,q9,m2,p2,DC,Hx,m3,p3,cg]
    .rcases jC.mp m with m|m
     .exact o.rw w m
     .rw[qE.mp m];exact⟨⟨bt,Jb,TZ,Oc _,by show(0:Int)<_;lia,Oc _⟩,hv,hfl⟩
    .dsimp only;rw[gF,qF];have o1:=oV.mp o.nd
     grind
    .dsimp only;rw[gF];refine oV.mpr ⟨o.un,by simp,λa ma c mc e=>?_⟩
     grind [Jt]
    .dsimp only;rw[dz,wB];lia
    .dsimp only;rw[dz,wB];lia
end
variable{hd:D}
noncomputable def gz(p:Row->Bool)(y:aj Str)(z:Row):Row:=if p z=true then{ z with fl:=y} else z
section
variable{s:List Cell}{h:aE}{r:Int}{x:Hl}{n q:Nat}{f bag:Str}{v v2:Bool}{p:Row->Bool}{y:aj Str}{rows:List Row}
theorem Sd:(rows.map (gz p y)).map Row.bag=rows.map Row.bag:=by
 rw[eP];refine qD λz _=>?_
 dsimp only[Function.comp];unfold gz;split <;> rfl
theorem Tp:iw (rows.map (gz p y))=iw rows:=by
 unfold iw td;rw[eP];refine qD λz _=>?_
 dsimp only[Function.comp];unfold gz;split <;> rfl
theorem Tq:mq (rows.map (gz p y))=mq rows:=by
 unfold mq td;rw[eP];refine qD λz _=>?_
 dsimp only[Function.comp];unfold gz;split <;> rfl
theorem Ok.read(o:Ok h n x){bk:List (Str×Str×Int)}(hb:∀q∈bk,q∈x.book)(hbn:(bk.map (·.1)).Nodup)(hl:bk.length<=x.book.length)(hf:∀w∈x.rows,∀f,(gz p y w).fl=some f->f∈bk.map (·.1)):Ok h (n+1) { x with book:=bk,rows:=x.rows.map (gz p y)}:=by
 have sz:=o.sz;refine⟨λw m=>?_,?_,?_,λq m=>o.bk q (hb q m),hbn,o.gi,?_,?_⟩
 .obtain⟨z,mz,rfl⟩:=jQ.mp m;obtain⟨k1,k2,k3⟩:=o.rw z mz;refine⟨?_,?_,hf z mz⟩
  .unfold gz;split
   .exact k1
   .exact k1
  .unfold gz;split
   .exact k2
   .exact k2
 .dsimp only;rw[Sd];exact o.nd
 .dsimp only;have:(x.rows.map (gz p y)).map (λw=>(w.b,w.i))=x.rows.map λw=>(w.b,w.i):=by
   rw[eP];refine qD λz _=>?_
   dsimp only[Function.comp];unfold gz;split <;> rfl
  rw[this];exact o.un
 .dsimp only;rw[bj];exact o.rl
 grind
theorem Q3(q:Nat)(hv:mn bag v):z5 q [.d (.ref 0),.d (.str bag)] (hS hd r x s)=some (if(v&&(x.rows.map Row.bag).contains bag)=true then .ok (rd .aH) (hS hd r x s) else .ex 140 none (hS hd r x s)):=by
 have i:(aM (iw x.rows) (.inr bag)).isSome=_:=Cy;unfold z5 J7;cases v with
 |false=>simp only[↓ev,hv,cg,hR,aI]
 |true=>
  cases hc:(x.rows.map Row.bag).contains bag with
  |true=>rw[hc] at i;simp only[↓ev,hv,aI,hR,mE,mV,aO,i,mf,cg]
  |false=>rw[hc] at i;simp only[↓ev,hv,aI,hR,mE,mV,aO,i,oQ,cg]
theorem e9l(g:aB h)(o:Ok h n x)(hn:n<1000)(hv:mn bag v)(sv:mn f v2):Dn h r n x s (HN 0 [.d (.ref 0),.d (.str bag),.d (.str f)] (hS (ay h) r x s)):=by
 have e0:=λq=>Q3 (s:=s) (hd:=ay h) (r:=r) (x:=x) q hv
 have e1:=λq=>Ea (s:=s) (hd:=ay h) (r:=r) (x:=x) q sv
 unfold Dn;generalize ay h=hd at *;unfold HN QB;cases hc:(v&&(x.rows.map Row.bag).contains bag) with
 |false=>
  simp only[hc,aI,kP] at e0;refine .inr ⟨140,?_,rfl⟩;simp only[↓ev,hR,cY,z6,e0,cg]
 |true=>
  simp only[hc,sR] at e0;cases u_:(v2&&(x.book.map (·.1)).contains f) with
  |false=>
   simp only[u_,aI,kP] at e1;refine .inr ⟨104,?_,rfl⟩;simp only[↓ev,hR,cY,z6,e0,wR,e1,cg]
  |true=>
   simp only[u_,sR] at e1;rw[kO] at hc u_;have hm:=BU hc.2;have p1:bL (iy x.rows) (.inr bag) (.str f)=iy (x.rows.map (gz (λz=>z.bag == bag) (some f))):=by
    unfold iy;rw[Ek o.nb hm];unfold td;rw[eP];refine qD λz _=>?_
    dsimp only[Function.comp];unfold gz;by_cases e:z.bag=bag
    .rw[bK e,bK (beq_iff_eq.mpr e)];rfl
    lia
   have p2:=Tp (p:=λz=>z.bag == bag) (y:=some f) (rows:=x.rows)
   have p3:=Tq (p:=λz=>z.bag == bag) (y:=some f) (rows:=x.rows)
   have rl:=o.rl;have m2:((iy x.rows).length<1000000)=True:=br (by unfold iy;rw[n4];lia)
   refine .inl ⟨_,?_,o.read (p:=λz=>z.bag == bag) (y:=some f) (λ_ m=>m) o.bn (bV _) λw mw f' e=>?_⟩
   .simp only[↓ev,hS,hR,cY,z6,e0,wR,e1,qG,q9,aO,m2,p1,cg,p2,p3]
   .unfold gz at e;split at e
    .cases e;exact BU u_.2
    .exact(o.rw w mw).2.2 f' e
theorem e9m{rs:List Row}{w:Row}(nb:(rs.map Row.bag).Nodup)(hw:w∈rs)(hl:rs.length<1000){x:Hl}{a2:aj Val}:Dr 0 [some (.d (.ref 0)),some (.d (.str f)),some (.d (.str w.bag))] (hS hd r { x with rows:=rs} s)=some (.nx [some (.d (.ref 0)),some (.d (.str f)),some (.d (.str w.bag))] (hS hd r { x with rows:=rs.map (gz (λz=>z.bag == w.bag&&z.fl == some f) none)} s)):=by
 have v0:aM (iy rs) (.inr w.bag)=some (aN w.fl):=jK nb hw;have p2:=Tp (p:=λz=>z.bag == w.bag&&z.fl == some f) (y:=none) (rows:=rs)
 have p3:=Tq (p:=λz=>z.bag == w.bag&&z.fl == some f) (y:=none) (rows:=rs)
 have m2:((iy rs).length<1000000)=True:=br (by unfold iy;rw[n4];lia)
 have same:w.fl≠some f->rs.map (gz (λz=>z.bag == w.bag&&z.fl == some f) none)=rs:=λne=>by
  conv=>rhs;rw[<-List.map_id rs]
  refine qD λz mz=>?_
  unfold gz;rw[bD λe=>?_]
  .rfl
  .rw[kO,beq_iff_eq,beq_iff_eq] at e;rw[v3 nb mz hw e.1] at e;exact ne e.2
 unfold Dr;cases hf:w.fl with
 |none=>
  rw[hf] at v0;rw[same (by rw[hf];intro z;cases z)]
  unfold aN at v0;have en:g7 .aH (.str f)=false:=rfl;simp only[↓ev,hR,qG,q9,aO,v0,aI,en]
 |some f'=>
  rw[hf] at v0;unfold aN at v0;cases he:(f' == f) with
  |false=>
   rw[same (by rw[hf];intro z;cases z;rw[fV] at he;cases he)]
   simp only[↓ev,hR,qG,q9,aO,v0,aI,iJ,he]
  |true=>
   have p1:bL (iy rs) (.inr w.bag) .aH=iy (rs.map (gz (λz=>z.bag == w.bag&&z.fl == some f) none)):=by
    unfold iy;rw[Ek nb (qC hw)];unfold td;rw[eP];refine qD λz mz=>?_
    dsimp only[Function.comp];unfold gz;by_cases e:z.bag=w.bag
    .have ez:=v3 nb mz hw e;rw[bK e,bK (by rw[ez];dsimp only;rw[hf,fV,beq_iff_eq.mp he];simp)]
     rfl
    lia
   simp only[↓ev,hS,hR,qG,q9,aO,v0,aI,iJ,he,m2,p1,p2,p3]
theorem d4j{z:Row}:(gz p y z).bag=z.bag:=by unfold gz;split <;> rfl
theorem d4k(d:List Row)(w z:Row):gz (λz=>z.bag == w.bag&&z.fl == some f) none (gz (λz=>(d.map Row.bag).contains z.bag&&z.fl == some f) none z)=gz (λz=>((d++[w]).map Row.bag).contains z.bag&&z.fl == some f) none z:=by
 unfold gz;dsimp only;rw[gF];by_cases h2:z.fl=some f
 .by_cases h1:z.bag∈d.map Row.bag
  .simp[h1,h2]
  .by_cases h3:z.bag=w.bag
   .rw[h3] at h1;simp[h1,h2,h3]
   .simp[h1,h2,h3]
 .simp[h2]
theorem e2q(nb:(x.rows.map Row.bag).Nodup)(hl:x.rows.length<1000):∃a2,aJ (ae 2) (Dr 0) (dS (x.rows.map Row.bag)) [some (.d (.ref 0)),some (.d (.str f)),none] (hS hd r x s)=some (.nx [some (.d (.ref 0)),some (.d (.str f)),a2] (hS hd r { x with rows:=x.rows.map (gz (λz=>z.fl == some f) none)} s)):=by
 rw[show dS (x.rows.map Row.bag)=x.rows.map λw=>.str w.bag by unfold dS;rw[eP];rfl]
 obtain⟨U',S',e,⟨a2,rfl⟩,rfl⟩:=iE (gg:=ae 2) (body:=Dr 0) (f:=λw:Row=>.str w.bag) (U:=[some (.d (.ref 0)),some (.d (.str f)),none]) (S:=hS hd r x s) (λpre U S'=>(∃a2,U=[some (.d (.ref 0)),some (.d (.str f)),a2])/\S'=hS hd r { x with rows:=x.rows.map (gz (λz=>(pre.map Row.bag).contains z.bag&&z.fl == some f) none)} s) x.rows ⟨⟨_,rfl⟩,by
   have:x.rows.map (gz (λz=>(([]:List Row).map Row.bag).contains z.bag&&z.fl == some f) none)=x.rows:=by
    conv=>rhs;rw[<-List.map_id x.rows]
    rfl
   rw[this]⟩ (by
  rintro d w post eq U S' ⟨⟨a2,rfl⟩,rfl⟩;have hw:w∈x.rows:=by rw[eq];simp
  have e:=e9m (hd:=hd) (r:=r) (s:=s) (x:=x) (f:=f) (a2:=none) (rs:=x.rows.map (gz (λz=>(d.map Row.bag).contains z.bag&&z.fl == some f) none)) (w:=gz (λz=>(d.map Row.bag).contains z.bag&&z.fl == some f) none w) (by rw[Sd];exact nb) (qC hw) (by rw[bj];exact hl)
  rw[d4j] at e;refine⟨_,_,_,rfl,.inl e,⟨_,rfl⟩,?_⟩;rw[eP]
  congr 3
  funext z;exact d4k d w z)
 have:x.rows.map (gz (λz=>(x.rows.map Row.bag).contains z.bag&&z.fl == some f) none)=x.rows.map (gz (λz=>z.fl == some f) none):=qD λz mz=>by
  have hc:(x.rows.map Row.bag).contains z.bag=true:=oP.mpr (qC mz);unfold gz;simp only[hc,Bool.true_and]
 rw[this] at e;exact⟨a2,e⟩
theorem f1t(g:aB h)(o:Ok h n x)(hv:mn f v):Dn h r n x s (Hf 0 [.d (.ref 0),.d (.str f)] (hS (ay h) r x s)):=by
 have e0:=λq=>Ea (s:=s) (hd:=ay h) (r:=r) (x:=x) q hv
 unfold Dn;generalize ay h=hd at *;unfold Hf OR;cases hc:(v&&(x.book.map (·.1)).contains f) with
 |false=>
  simp only[hc,aI,kP] at e0;refine .inr ⟨104,?_,rfl⟩;simp only[↓ev,hR,cY,wR,e0,cg]
 |true=>
  simp only[hc,sR] at e0;rw[kO] at hc;obtain⟨p,hp,ep⟩:=jQ.mp (BU hc.2);have v0:aM (lq x.book) (.inr f)=some (t3 p):=by rw[<-ep];exact jK o.bn hp
  have d1:dC (lq x.book) f=lq (x.book.filter λz=>decide (z.1≠f)):=D9
  have t1:fM (lq x.book)=true:=As;have k1:(iy x.rows).map (·.1.d)=dS (x.rows.map Row.bag):=Ip
  have rl:=o.rl;have l1:((iy x.rows).length<1000000)=True:=br (by unfold iy;rw[n4];lia)
  have l2:((iy x.rows).length<=1000000)=True:=br (by unfold iy;rw[n4];lia)
  obtain⟨a2,e1⟩:=e2q (hd:=hd) (r:=r) (s:=s) (f:=f) (x:={ x with book:=x.book.filter λz=>decide (z.1≠f)}) o.nb (by dsimp only;lia)
  generalize t3 p=tp at *;refine .inl ⟨_,?_,o.read (p:=λz=>z.fl == some f) (y:=none) (bk:=x.book.filter λz=>decide (z.1≠f)) (λq m=>(wx.mp m).1) (o.bn.sublist (List.Sublist.map _ JI)) (wD _ _) λw mw f' e=>?_⟩
  .dsimp only at e1;simp only[↓ev,hS,hR,cY,wR,e0,rR,tH,aO,t1,v0,d1,qG,q9,k1,fP,e1,cg]
  .unfold gz at e;split at e
   .cases e
   .rename_i ne
    obtain⟨q,hq,eq⟩:=jQ.mp ((o.rw w mw).2.2 f' e)
    grind
end
inductive iR:D->Prop
 |n9 {f ct:Str} {cl:Int} {v:Bool}:mn f v->iR (.tup [.str "flight",.str f,.str ct,.int cl])
 |change {f:Str} {cl:Int} {v:Bool}:mn f v->iR (.tup [.str "change",.str f,.int cl])
 |off {f:Str} {v:Bool}:mn f v->iR (.tup [.str "off",.str f])
 |put {bag b:Str} {fl:aj Str} {v v2:Bool}:mn bag v->(∀f,fl=some f->mn f v2)->iR (.tup [.str "put",.str bag,aN fl,.str b])
 |read {bag f:Str} {v v2:Bool}:mn bag v->mn f v2->iR (.tup [.str "read",.str bag,.str f])
 |stop {b:Str}:iR (.tup [.str "stop",.str b])
 |start {b:Str}:iR (.tup [.str "start",.str b])
section
variable{s:List Cell}{h:aE}{r:Int}{x:Hl}{n q:Nat}{d:D}
theorem UL:(("change":Str) == "flight")=false:=by decide +kernel
theorem UM:(("off":Str) == "flight")=false:=by decide +kernel
theorem UN:(("off":Str) == "change")=false:=by decide +kernel
theorem Nw:(("put":Str) == "flight")=false:=by decide +kernel
theorem Nx:(("put":Str) == "change")=false:=by decide +kernel
theorem Ny:(("put":Str) == "off")=false:=by decide +kernel
theorem UO:(("read":Str) == "flight")=false:=by decide +kernel
theorem UP:(("read":Str) == "change")=false:=by decide +kernel
theorem UQ:(("read":Str) == "off")=false:=by decide +kernel
theorem FV:(("read":Str) == "put")=false:=by decide +kernel
theorem FW:(("stop":Str) == "flight")=false:=by decide +kernel
theorem FX:(("stop":Str) == "change")=false:=by decide +kernel
theorem FY:(("stop":Str) == "off")=false:=by decide +kernel
theorem FZ:(("stop":Str) == "put")=false:=by decide +kernel
theorem F0:(("stop":Str) == "read")=false:=by decide +kernel
theorem F1:(("start":Str) == "flight")=false:=by decide +kernel
theorem F2:(("start":Str) == "change")=false:=by decide +kernel
theorem F3:(("start":Str) == "off")=false:=by decide +kernel
theorem F4:(("start":Str) == "put")=false:=by decide +kernel
theorem F5:(("start":Str) == "read")=false:=by decide +kernel
theorem F6:(("start":Str) == "stop")=false:=by decide +kernel
theorem e9n(g:aB h)(o:Ok h n x)(hn:n<1000)(sk:iR d):Dn h r n x s (uM 0 [.d (.ref 0),.d d] (hS (ay h) r x s)):=by
 cases sk with
 |@n9 f ct cl v hv=>
  have e:=ψ (s:=s) (r:=r) (ct:=ct) (cl:=cl) g o hn hv;unfold Dn at *;generalize ay h=hd at *;unfold uM wZ;rcases e with⟨x',e,ok⟩|⟨C,e,hC⟩
  .refine .inl ⟨x',?_,ok⟩;simp only[↓ev,bZ,aI,iJ,fV,hR,cY,P8,cH,jT,v8,e,cg]
  .refine .inr ⟨C,?_,hC⟩;simp only[↓ev,bZ,aI,iJ,fV,hR,cY,P8,cH,jT,v8,e,cg]
 |@change f cl v hv=>
  have e:=ω (s:=s) (r:=r) (cl:=cl) g o hn hv;unfold Dn at *;generalize ay h=hd at *;unfold uM wZ;rcases e with⟨x',e,ok⟩|⟨C,e,hC⟩
  .refine .inl ⟨x',?_,ok⟩;simp only[↓ev,bZ,aI,iJ,UL,fV,hR,cY,P9,cH,jT,e,cg]
  .refine .inr ⟨C,?_,hC⟩;simp only[↓ev,bZ,aI,iJ,UL,fV,hR,cY,P9,cH,jT,e,cg]
 |@off f v hv=>
  have e:=f1t (s:=s) (r:=r) g o hv;unfold Dn at *;generalize ay h=hd at *;unfold uM wZ;rcases e with⟨x',e,ok⟩|⟨C,e,hC⟩
  .refine .inl ⟨x',?_,ok⟩;simp only[↓ev,bZ,aI,iJ,UM,UN,fV,hR,cY,O3,cH,e,cg]
  .refine .inr ⟨C,?_,hC⟩;simp only[↓ev,bZ,aI,iJ,UM,UN,fV,hR,cY,O3,cH,e,cg]
 |@put bag b fl v v2 hv hf=>
  have eb:=λq=>El (s:=s) (r:=r) (q:=q) g o
  have ll:(((ord h x.rows).map bM).length:Int)=(x.rows.length:Int):=by rw[bj,o.perm.length_eq]
  by_cases h8:x.rows.length<8
  .have e:=f1s (s:=s) (r:=r) (b:=b) (fl:=fl) g o hn hv hf h8;have l8:((x.rows.length:Int)<8)=True:=br (by lia)
   unfold Dn at *;generalize(ord h x.rows).map bM=rl at *;generalize ay h=hd at *;generalize aN fl=ff at *;unfold uM wZ;rcases e with⟨x',e,ok⟩|⟨C,e,hC⟩
   .refine .inl ⟨x',?_,ok⟩;simp only[↓ev,bZ,aI,iJ,Nw,Nx,Ny,fV,hR,cY,Aj,eb,ll,l8,decide_true,Te,cH,jT,v8,e,cg]
   .refine .inr ⟨C,?_,hC⟩;simp only[↓ev,bZ,aI,iJ,Nw,Nx,Ny,fV,hR,cY,Aj,eb,ll,l8,decide_true,Te,cH,jT,v8,e,cg]
  .have l8:((x.rows.length:Int)<8)=False:=eq_false (by lia)
   refine .inl ⟨x,?_,o.up⟩;generalize(ord h x.rows).map bM=rl at *;generalize ay h=hd at *;generalize aN fl=ff at *;unfold uM wZ;simp only[↓ev,bZ,aI,iJ,Nw,Nx,Ny,fV,hR,cY,Aj,eb,ll,l8,decide_false,cg]
 |@read bag f v v2 hv sv=>
  have e:=e9l (s:=s) (r:=r) g o hn hv sv;unfold Dn at *;generalize ay h=hd at *;unfold uM wZ;rcases e with⟨x',e,ok⟩|⟨C,e,hC⟩
  .refine .inl ⟨x',?_,ok⟩;simp only[↓ev,bZ,aI,iJ,UO,UP,UQ,FV,fV,hR,cY,RY,cH,jT,e,cg]
  .refine .inr ⟨C,?_,hC⟩;simp only[↓ev,bZ,aI,iJ,UO,UP,UQ,FV,fV,hR,cY,RY,cH,jT,e,cg]
 |@stop b=>
  have e:=e9k (s:=s) (r:=r) (b:=b) g o hn;unfold Dn at *;generalize ay h=hd at *;unfold uM wZ;rcases e with⟨x',e,ok⟩|⟨C,e,hC⟩
  .refine .inl ⟨x',?_,ok⟩;simp only[↓ev,bZ,aI,iJ,FW,FX,FY,FZ,F0,fV,hR,cY,RZ,cH,e,cg]
  .refine .inr ⟨C,?_,hC⟩;simp only[↓ev,bZ,aI,iJ,FW,FX,FY,FZ,F0,fV,hR,cY,RZ,cH,e,cg]
 |@start b=>
  have e:=d4h (s:=s) (r:=r) (b:=b) g o;unfold Dn at *;generalize ay h=hd at *;unfold uM wZ;rcases e with⟨x',e,ok⟩|⟨C,e,hC⟩
  .refine .inl ⟨x',?_,ok⟩;simp only[↓ev,bZ,aI,iJ,F1,F2,F3,F4,F5,F6,fV,hR,cY,QR,cH,e,cg]
  .refine .inr ⟨C,?_,hC⟩;simp only[↓ev,bZ,aI,iJ,F1,F2,F3,F4,F5,F6,fV,hR,cY,QR,cH,e,cg]
theorem e9o(g:aB h)(o:Ok h n x)(hn:n<1000)(sk:iR d):∃(v:Bool) (x':Hl),Ok h (n+1) x'/\DS 0 [.d (.ref 0),.d d] (hS (ay h) r x s)=some (.ok (rd (.bl v)) (hS (ay h) r x' s)):=by
 have e:=e9n (s:=s) (r:=r) g o hn sk;unfold Dn at e;rcases e with⟨x',e,ok⟩|⟨C,e,hC⟩
 .refine⟨true,x',ok,?_⟩;generalize ay h=hd at *;unfold DS K9;simp only[↓ev,aO,e,cg]
 .have hC':(gd.any λp=>p.2 == C)=true:=by
   unfold wT at hC;split at hC
   .assumption
   .cases hC
  refine⟨false,x,o.up,?_⟩;generalize ay h=hd at *;unfold DS K9;simp only[↓ev,aO,e,hC',cg]
end
theorem Iu(l:List Nat)(h1:1<=l.length)(h2:l.length<=8):∃v,mn ⟨l.toArray⟩ v:=by
 have e:∀q S,bq (ae 0) (jB true) (Hi q) (l.map λc=>.str (kF c)) [none] S []=some (.ok ((l.map λc => !(Builtin.Str.occurrences (Str.ofString "abcdefghijklmnopqrstuvwxyz") (kF c) 0 (Str.ofString "abcdefghijklmnopqrstuvwxyz").length 1).isEmpty).map D.bl) S):=λq S=>by
  rw[v_ (λc=>D.bl (!(Builtin.Str.occurrences (Str.ofString "abcdefghijklmnopqrstuvwxyz") (kF c) 0 (Str.ofString "abcdefghijklmnopqrstuvwxyz").length 1).isEmpty)) l (by lia) λc m=>⟨rd (.bl _),by
   rfl,rfl⟩,eP]
  rfl
 have c1:(1<=((⟨l.toArray⟩:Str).length:Int))=True:=br (by rw[w_];lia)
 have c2:(((⟨l.toArray⟩:Str).length:Int)<=8)=True:=br (by rw[w_];lia)
 have c3:((⟨l.toArray⟩:Str).length<=1000000)=True:=br (by rw[w_];lia)
 refine⟨(l.map λc => !(Builtin.Str.occurrences (Str.ofString "abcdefghijklmnopqrstuvwxyz") (kF c) 0 (Str.ofString "abcdefghijklmnopqrstuvwxyz").length 1).isEmpty).all id,λq S=>?_⟩
 generalize(l.map λc => !(Builtin.Str.occurrences (Str.ofString "abcdefghijklmnopqrstuvwxyz") (kF c) 0 (Str.ofString "abcdefghijklmnopqrstuvwxyz").length 1).isEmpty)=bs at *
 unfold q_ DG;simp only[↓ev,Fd,aI,c3,c1,decide_true,c2,e,KP,eW]
noncomputable abbrev l3:List D:=[.int 11,.int 12,.int 13]
theorem TY:∀a:Nat,a<3->dq l3 (a:Int)=some (.int ((11+a:Nat):Int))
 |0,_=>rfl
 |1,_=>rfl
 |2,_=>rfl
section
variable{ns:List Int}
theorem e2r(n:Nat)(hn:n<20):∃f v,Pr BS [.d (a_ ns),.d (.int (n:Int))] (rd (.str f))/\mn f v:=by
 obtain⟨d1,d2,d3⟩:=ia ns 12 4 3 (by decide) (by decide) (by decide)
 have d1:Pr h_ [.d (a_ ns),.d (.int 12),.d (.int 4),.d (.int 3)] _:=d1;cases h6:((n:Int) == 6) with
 |true=>
  obtain⟨v,hv⟩:=Iu [65] (by decide) (by decide)
  refine⟨"A",v,λq S=>?_,by rw[show("A":Str)=⟨[65].toArray⟩ by decide +kernel];exact hv⟩
  generalize(n:Int)=ni at *;unfold BS J8;simp only[↓ev,aI,fI,h6,eW]
 |false=>
  have ha:=TY (bw ns 12 4 3).toNat (by lia)
  rw[Int.toNat_of_nonneg d2] at ha;have hx:=II ns (11+(bw ns 12 4 3).toNat) (by lia) n hn
  have hl:=Cw ns (11+(bw ns 12 4 3).toNat) (by lia) n
  obtain⟨v,hv⟩:=Iu _ hl.1 hl.2;refine⟨_,v,λq S=>?_,hv⟩
  generalize((11+(bw ns 12 4 3).toNat:Nat):Int)=qi at *;generalize bw ns 12 4 3=dg at *;generalize(n:Int)=ni at *;unfold BS J8;unfold kq at hx;simp only[↓ev,aI,fI,h6,aO,d1,ha,hx,eW]
theorem e2s(n:Nat)(hn:n<20):∃f v,Pr BY [.d (a_ ns),.d (.int (n:Int))] (rd (.str f))/\mn f v:=by
 obtain⟨d1,d2,d3⟩:=ia ns 13 4 3 (by decide) (by decide) (by decide)
 have d1:Pr h_ [.d (a_ ns),.d (.int 13),.d (.int 4),.d (.int 3)] _:=d1;cases h6:((n:Int) == 12) with
 |true=>
  obtain⟨v,hv⟩:=Iu [98,49] (by decide) (by decide)
  refine⟨"b1",v,λq S=>?_,by rw[show("b1":Str)=⟨[98,49].toArray⟩ by decide +kernel];exact hv⟩
  generalize(n:Int)=ni at *;unfold BY Kf;simp only[↓ev,aI,fI,h6,eW]
 |false=>
  have ha:=TY (bw ns 13 4 3).toNat (by lia)
  rw[Int.toNat_of_nonneg d2] at ha;have hx:=II ns (11+(bw ns 13 4 3).toNat) (by lia) n hn
  have hl:=Cw ns (11+(bw ns 13 4 3).toNat) (by lia) n
  obtain⟨v,hv⟩:=Iu _ hl.1 hl.2;refine⟨_,v,λq S=>?_,hv⟩
  generalize((11+(bw ns 13 4 3).toNat:Nat):Int)=qi at *;generalize bw ns 13 4 3=dg at *;generalize(n:Int)=ni at *;unfold BY Kf;unfold kq at hx;simp only[↓ev,aI,fI,h6,aO,d1,ha,hx,eW]
theorem WC(k:Nat)(hk:k<900):∃cl,Pr yy [.d (a_ ns),.d (.int (k:Int))] (rd (.int cl)):=by
 have hp:=Aq ns (k+1) 10 (by lia) (by decide)
 obtain⟨c,hc⟩:=LD ns k;obtain⟨d1,_,_⟩:=ia ns (k+1) 3 30 (by lia) (by decide) (by decide)
 rw[show((k+1:Nat):Int)=(k:Int)+1 by lia] at hp d1
 have d1:Pr h_ [.d (a_ ns),.d (.int ((k:Int)+1)),.d (.int 3),.d (.int 30)] _:=d1;generalize(k:Int)=ki at *;generalize bw ns (k+1) 0 10=pv at *;have p8:(0<(10:Int)^8)=True:=br (by decide)
 have p9:(0<(10:Int)^9)=True:=br (by decide)
 have UE:(Int.natAbs 10<2^64)=True:=br (by decide)
 cases h0:(pv == 0) with
 |true=>
  refine⟨-1 - c%10^8,λq S=>?_⟩
  unfold yy Hj;simp only[↓ev,hp,aO,aI,fI,h0,hc,UE,and_self,decide_true,p8,eW]
 |false=>
  cases h1:(pv == 1) with
  |true=>
   refine⟨c%10^9,λq S=>?_⟩
   unfold yy Hj;simp only[↓ev,hp,aO,aI,fI,h0,h1,hc,UE,and_self,decide_true,p9,eW]
  |false=>
   refine⟨bw ns (k+1) 3 30,λq S=>?_⟩
   unfold yy Hj;simp only[↓ev,hp,aO,aI,fI,h0,h1,d1,eW]
end
section
variable{ns:List Int}{k kd mk fi ob tb oc ln CN cl:Int}{bl nl cs c1 n1:List D}{f bag b ct:Str}{S:aU}
structure JS (ns:List Int) (k kd mk fi ob tb oc ln CN cl:Int) (bl nl cs c1 n1:List D) (f bag b ct:Str):Prop where
 hp:Pr mF [.d (a_ ns),.d (.int k),.d (.int 20)] (rd (.int kd))
 ht:Pr o9 [.d (a_ ns),.d (.int k),.d (.int 10)] (rd (.int mk))
 hi:(mk == 9)=true/\fi=6\/(mk == 9)=false/\fi=mk%3
 hf:Pr BS [.d (a_ ns),.d (.int fi)] (rd (.str f))
 ho:Pr kR [.d (a_ ns),.d (.int k),.d (.int 13)] (rd (.int ob))
 hb:Pr BY [.d (a_ ns),.d (.int ob)] (rd (.str bag))
 hc:∀q S,bq (ae 0) (jB true) (Ho q) bl [none] S []=some (.ok nl S)
 k1:cutD cs none (some 1)=c1
 k2:cutD nl none (some 1)=n1
 a1:(nl.length+nl.length<=1000000)=True
 a2:(nl.length+nl.length+c1.length<=1000000)=True
 a3:(cs.length+n1.length<=1000000)=True
 ll:(nl.length:Int)=ln
 lc:((cs.length+n1.length:Nat):Int)=CN
 hm:(-2^64<(2:Int)/\(2:Int)<2^64 \/ -2^64<ln/\ln<2^64)=True
 CH:Pr o9 [.d (a_ ns),.d (.int (k+1)),.d (.int (2*ln+1))] (rd (.int tb))
 xA:dq (nl++(nl++c1)) tb=some (.str b)
 xE:Pr kR [.d (a_ ns),.d (.int (k+1)),.d (.int CN)] (rd (.int oc))
 CF:dq (cs++n1) oc=some (.str ct)
 sj:Pr yy [.d (a_ ns),.d (.int k)] (rd (.int cl))
abbrev wa(ns:List Int)(k kd mk cl:Int)(bl nl cs n1:List D)(f bag b ct:Str):Gm:=[some (.d (a_ ns)),some (.d (.int k)),some (.d (.tup [.lst bl,.lst cs])),some (.d (.int kd)),some (.d (.int mk)),some (.d (.str f)),some (.d (.str bag)),some (.d (.lst nl)),some (.d (.str b)),some (.d (.lst (cs++n1))),some (.d (.tup [.str "flight",.str f,.str ct,.int cl]))]
theorem v5(x:JS ns k kd mk fi ob tb oc ln CN cl bl nl cs c1 n1 f bag b ct)(rest:GS):KO rest 0 [some (.d (a_ ns)),some (.d (.int k)),some (.d (.tup [.lst bl,.lst cs])),none,none,none,none,none,none,none,none] S=rest (wa ns k kd mk cl bl nl cs n1 f bag b ct) S:=by
 obtain⟨hp,ht,hi,hf,ho,hb,hc,k1,k2,a1,a2,a3,ll,lc,hm,CH,xA,xE,CF,sj⟩:=x;have m3:((0:Int)<3)=True:=br (by decide)
 unfold KO;rcases hi with⟨h9,rfl⟩|⟨h9,rfl⟩
 .simp only[↓ev,hp,aO,ht,aI,fI,h9,hf,ho,hb,bZ,fP,hc,a1,cH,k1,A6,a2,yG,ll,hm,CH,xA,k2,a3,lc,xE,CF,sj]
 .simp only[↓ev,hp,aO,ht,aI,fI,h9,m3,decide_true,hf,ho,hb,bZ,fP,hc,a1,cH,k1,A6,a2,yG,ll,hm,CH,xA,k2,a3,lc,xE,CF,sj]
end
noncomputable def l9(m:Int):D:=.tup [.str "turn",.int m]
def zP(ds:List D):Prop:=ds.length<=2/\∀d∈ds,iR d\/∃m:Int,1<=m/\m<=12/\d=l9 m
section
variable{ns:List Int}{k kd mk fi ob tb oc ln CN cl:Int}{bl nl cs c1 n1:List D}{f bag b ct:Str}{S:aU}{v v2:Bool}
theorem v7{hd:D}{ds:List D}(e:tD 0 [some (.d (a_ ns)),some (.d (.int k)),some (.d hd),none,none,none,none,none,none,none,none] S=some (.rt (.o (.lst ds)) S)):Aa 0 [.d (a_ ns),.d (.int k),.d hd] S=some (.ok (.o (.lst ds)) S):=by
 unfold Aa aQ;generalize tD 0=ml at *;simp only[↓ev,e,eW]
theorem Q4(x:JS ns k kd mk fi ob tb oc ln CN cl bl nl cs c1 n1 f bag b ct)(k0:0<=kd)(k20:kd<20)(hv:mn bag v)(sv:mn f v2){o3 t1 bg:Int}{bt:ao}(h3:Pr kR [.d (a_ ns),.d (.int (k+1)),.d (.int 3)] (rd (.int o3)))(yU:dq bl 0=some (ak bt))(hbg:(9<bt.long)=True/\bg=12\/(9<bt.long)=False/\bg=4)(EL:Pr o9 [.d (a_ ns),.d (.int (k+1)),.d (.int bg)] (rd (.int t1)))(ht1:0<=t1/\t1<12):∃ds,zP ds/\Aa 0 [.d (a_ ns),.d (.int k),.d (.tup [.lst bl,.lst cs])] S=some (.ok (.o (.lst ds)) S):=by
 have sj:=x.sj;have one:∀{d:D},iR d->zP [d]:=λ{d} hd=>⟨by simp,λz m=>by rw[qE.mp m];exact .inl hd⟩
 by_cases c3:kd<3
 .have q1:=br c3;refine⟨_,one (.n9 (ct:=ct) (cl:=cl) sv),v7 ?_⟩;unfold tD;rw[v5 x];unfold uK;clear x;simp only[↓ev,wa,q1,decide_true,aO,aI]
 have q1:=eq_false c3;cases e3:(kd == 3) with
 |true=>
  refine⟨_,one (.change (cl:=cl) sv),v7 ?_⟩;unfold tD;rw[v5 x];unfold uK;clear x;simp only[↓ev,wa,q1,decide_false,aI,fI,e3,sj,aO]
 |false=>
 cases e4:(kd == 4) with
 |true=>
  refine⟨_,one (.off sv),v7 ?_⟩;unfold tD;rw[v5 x];unfold uK;clear x;simp only[↓ev,wa,q1,decide_false,aI,fI,e3,e4,aO]
 |false=>
 cases e5:(kd == 5) with
 |true=>
  refine⟨[.tup [.str "off",.str f],.tup [.str "flight",.str f,.str ct,.int cl]],⟨by simp,λz m=>?_⟩,v7 ?_⟩
  .rcases y0a.mp m with rfl|m
   .exact .inl (.off sv)
   .rw[qE.mp m];exact .inl (.n9 sv)
  .unfold tD;rw[v5 x];unfold uK;clear x;simp only[↓ev,wa,q1,decide_false,aI,fI,e3,e4,e5,aO]
 |false=>
 by_cases QN:kd<11
 .have q2:=br QN;cases e0:(o3 == 0) with
  |true=>
   refine⟨[.tup [.str "put",.str bag,.aH,.str b]],one (.put (fl:=none) (v2:=true) hv λ_ z=>by cases z),v7 ?_⟩
   unfold tD;rw[v5 x];unfold uK;clear x;simp only[↓ev,wa,q1,decide_false,aI,fI,e3,e4,e5,q2,decide_true,h3,e0,aO]
  |false=>
   refine⟨[.tup [.str "put",.str bag,.str f,.str b]],one (.put (fl:=some f) hv λ_ z=>by cases z;exact sv),v7 ?_⟩
   unfold tD;rw[v5 x];unfold uK;clear x;simp only[↓ev,wa,q1,decide_false,aI,fI,e3,e4,e5,q2,decide_true,h3,e0,aO]
 have q2:=eq_false QN;cases ED:(kd == 11) with
 |true=>
  refine⟨_,one (.read hv sv),v7 ?_⟩;unfold tD;rw[v5 x];unfold uK;clear x;simp only[↓ev,wa,q1,decide_false,aI,fI,e3,e4,e5,q2,ED,aO]
 |false=>
 have n11:kd≠11:=by rw[vR] at ED;exact ED
 by_cases V2:kd<14
 .rcases(show kd=12\/kd=13 by lia) with rfl|rfl
  .refine⟨_,one (.stop (b:=b)),v7 ?_⟩;unfold tD;rw[v5 x];unfold uK;rfl
  .refine⟨_,one (.start (b:=b)),v7 ?_⟩;unfold tD;rw[v5 x];unfold uK;rfl
 have q3:=eq_false V2;refine⟨[l9 (1+t1)],⟨by simp,λz m=>by rw[qE.mp m];exact .inr ⟨1+t1,by lia,by lia,rfl⟩⟩,v7 ?_⟩
 unfold tD;rw[v5 x];unfold uK;clear x;unfold l9;unfold ak at yU;rcases hbg with⟨h9,rfl⟩|⟨h9,rfl⟩
 .simp only[↓ev,wa,q1,decide_false,aI,fI,e3,e4,e5,q2,ED,q3,bZ,yU,cH,h9,decide_true,EL,aO]
 .simp only[↓ev,wa,q1,decide_false,aI,fI,e3,e4,e5,q2,ED,q3,bZ,yU,cH,h9,EL,aO]
end
theorem Se(ds:List D):cutD ds none (some 1)=ds.take 1:=by
 grind [cutD,HT.cK]
section
variable{ns:List Int}{h:aE}
theorem e2t(g:aB h)(b0:0<h.af.length)(k:Nat)(hk:k<900)(S:aU):∃ds,zP ds/\Aa 0 [.d (a_ ns),.d (.int (k:Int)),.d (ay h)] S=some (.ok (.o (.lst ds)) S):=by
 have bl:=g.sm.bl;have ct:=g.sm.ct;have c0:=g.c0;obtain⟨_,p0,p1⟩:=ia ns k 0 20 (by lia) (by decide) (by decide)
 have hp:=Aq ns k 20 (by lia) (by decide)
 obtain⟨_,t0,t1⟩:=ia ns k 2 10 (by lia) (by decide) (by decide)
 have ht:=Ag ns k 10 (by lia) (by decide)
 obtain⟨_,o0,o1⟩:=ia ns k 1 13 (by lia) (by decide) (by decide)
 have ho:=yD ns k 13 (by lia) (by decide)
 obtain⟨fn,EX,hfi⟩:∃fn:Nat,fn<20/\((bw ns k 2 10 == 9)=true/\(fn:Int)=6\/(bw ns k 2 10 == 9)=false/\(fn:Int)=bw ns k 2 10%3):=by
  cases e:(bw ns k 2 10 == 9) with
  |true=>exact⟨6,by decide,.inl ⟨rfl,rfl⟩⟩
  |false=>exact⟨(bw ns k 2 10%3).toNat,by lia,.inr ⟨rfl,by lia⟩⟩
 obtain⟨f,v2,hf,sv⟩:=e2r (ns:=ns) fn EX;obtain⟨bag,v,hb,hv⟩:=e2s (ns:=ns) (bw ns k 1 13).toNat (by lia)
 rw[Int.toNat_of_nonneg o0] at hb;obtain⟨cl,sj⟩:=WC (ns:=ns) k hk;have comp:∀q S,bq (ae 0) (jB true) (Ho q) (h.af.map ak) [none] S []=some (.ok (dS (h.af.map ao.name)) S):=λq S=>by
  rw[v_ (λb=>.str b.name) h.af (by lia) λb m=>⟨rd (.str b.name),by unfold Ho ak;simp only[↓ev,bZ],rfl⟩,dS,eP]
  rfl
 obtain⟨_,tb0,tb1⟩:=ia ns (k+1) 2 (2*(h.af.length:Int)+1) (by lia) (by decide) (by lia)
 have CH:=Ag ns (k+1) (2*(h.af.length:Int)+1) (by lia) (by lia)
 obtain⟨_,oc0,oc1⟩:=ia ns (k+1) 1 (((h.carts.length+1:Nat)):Int) (by lia) (by decide) (by lia)
 have xE:=yD ns (k+1) (((h.carts.length+1:Nat)):Int) (by lia) (by lia)
 have h3:=yD ns (k+1) 3 (by lia) (by decide)
 have EL:=Ag ns (k+1) 12 (by lia) (by decide)
 have h4:=Ag ns (k+1) 4 (by lia) (by decide)
 obtain⟨_,a0,a1⟩:=ia ns (k+1) 2 12 (by lia) (by decide) (by decide)
 obtain⟨_,U9,b1⟩:=ia ns (k+1) 2 4 (by lia) (by decide) (by decide)
 rw[show((k+1:Nat):Int)=(k:Int)+1 by lia] at CH xE h3 EL h4
 have wm:(h.carts.take 1).length=1:=by rw[zI];lia
 have Uy:((h.af.map ao.name).take 1).length=1:=by rw[zI,bj];lia
 have xA:=Io (xs:=h.af.map ao.name++(h.af.map ao.name++h.carts.take 1)) (k:=bw ns (k+1) 2 (2*(h.af.length:Int)+1)) tb0 (by rw[dz,dz,bj,wm];lia)
 have CF:=Io (xs:=h.carts++(h.af.map ao.name).take 1) (k:=bw ns (k+1) 1 (((h.carts.length+1:Nat)):Int)) oc0 (by rw[dz,Uy];lia)
 generalize(h.af.map ao.name++(h.af.map ao.name++h.carts.take 1)).getD (bw ns (k+1) 2 (2*(h.af.length:Int)+1)).toNat ""=bb at *;generalize(h.carts++(h.af.map ao.name).take 1).getD (bw ns (k+1) 1 (((h.carts.length+1:Nat)):Int)).toNat ""=cc at *;rw[dS,gF,gF,<-dS,<-dS] at xA;rw[dS,gF,<-dS,<-dS] at CF;have D:JS ns k (bw ns k 0 20) (bw ns k 2 10) fn (bw ns k 1 13) (bw ns (k+1) 2 (2*(h.af.length:Int)+1)) (bw ns (k+1) 1 (((h.carts.length+1:Nat)):Int)) h.af.length (((h.carts.length+1:Nat)):Int) cl (h.af.map ak) (dS (h.af.map ao.name)) (dS h.carts) (dS (h.carts.take 1)) (dS ((h.af.map ao.name).take 1)) f bag bb cc:=⟨hp,ht,hfi,hf,ho,hb,comp,by rw[Se,dS,dS,Og],by rw[Se,dS,dS,Og],br (by simp;lia),br (by simp;lia),br (by simp;lia),by simp,by rw[bj,bj,Uy],br (.inl (by decide)),CH,xA,xE,CF,sj⟩
 obtain⟨bt,Jb,ab⟩:∃bt∈h.af,dq (h.af.map ak) 0=some (ak bt):=by
  cases e:h.af with
  |nil=>rw[e] at b0;simp at b0
  |cons z zs=>exact⟨z,.head _,bZ⟩
 by_cases h9:9<bt.long
 .exact Q4 D p0 p1 hv sv h3 ab (.inl ⟨br h9,rfl⟩) EL ⟨a0,a1⟩
 .exact Q4 D p0 p1 hv sv h3 ab (.inr ⟨eq_false h9,rfl⟩) h4 ⟨U9,by lia⟩
end
variable{y:D}{a:TK}{v:Int}
theorem vp:aM [(a,y)] a=some y:=by unfold aM;simp
theorem vq{a':TK}(h:a≠a'):aM [(a,y)] a'=none:=by unfold aM;simp[h]
theorem Tr{carts:List Str}:∀{bs:List ao},jR carts bs->∀b∈bs,∀o∈b.outs,o≠b.name
 |x::bs,f,b,hb,o,ho=>by
  rcases y0a.mp hb with rfl|hb
  .intro e;rcases f.1 o ho with z|z
   .exact f.2.1 (e ▸ z)
   .exact f.2.2.1 (e ▸ z)
  .exact Tr f.2.2.2 b hb o ho
noncomputable def mK:aj Int->D
 |none=>.aH
 |some v=>.int v
def eX(au:Str):List ao->List (TK×D)
 |[]=>[]
 |b::bs=>eX au bs++[(.inr b.name,mK (atS (aR au (b::bs)) b.name))]
theorem Q5(au:Str):∀bs:List ao,(eX au bs).length=bs.length
 |[]=>rfl
 |b::bs=>by unfold eX;rw[dz,Q5 au bs];rfl
theorem Q6{l m:List (TK×D)}{k:TK}:aM (l++m) k=(aM l k).or (aM m k):=by
 grind [aM]
theorem IL{au:Str}:∀{bs:List ao} {n:Str},n∉bs.map ao.name->aM (eX au bs) (.inr n)=none
 |[],n,_=>rfl
 |b::bs,n,hn=>by
  have ne:TK.inr b.name≠TK.inr n:=λz=>hn (by rw[<-TK.inr.inj z];exact .head _)
  unfold eX;rw[Q6,IL (bs:=bs) λz=>hn (.tail _ z),Option.none_or,vq ne]
theorem LK{carts:List Str}{au:Str}:∀{bs:List ao} {n:Str},jR carts bs->n∈bs.map ao.name->aM (eX au bs) (.inr n)=some (mK (atS (aR au bs) n))
 |b::bs,n,f,hn=>by
  have eu:eX au (b::bs)=eX au bs++[(.inr b.name,mK (atS (aR au (b::bs)) b.name))]:=rfl;rw[eu,Q6];by_cases e:n=b.name
  .subst e;rw[IL f.2.1,Option.none_or,vp]
  .have hm:n∈bs.map ao.name:=by
    simp_all
   rw[LK f.2.2.2 hm,B4 e];rfl
theorem Sg(b:ao){au:Str}{y:D}:∀{l:List (TK×D)},aM l (.inr b.name)=none->bL l (.inr b.name) y=l++[(.inr b.name,y)]
 |[],_=>rfl
 |(k,z)::l,h=>by
  have hk:k≠.inr b.name:=λe=>by
   rw[e] at h;unfold aM at h;rw[List.find?_cons_of_pos (by simp)] at h
   cases h
  have h':aM l (.inr b.name)=none:=by
   unfold aM at h ⊢
   rwa[List.find?_cons_of_neg (by simpa using hk)] at h
  rw[DK,bD hk,Sg b (au:=au) h'];rfl
def rD(au:Str)(bs:List ao)(outs:List Str):List Int:=outs.filterMap λo=>if o∈bs.map ao.name then atS (aR au bs) o else none
theorem e2u{carts:List Str}{au:Str}(hc:au∈carts){bs:List ao}(f:jR carts bs){outs:List Str}(ho:∀o∈outs,o∈bs.map ao.name\/o∈carts):v∈rD au bs outs++(if outs.contains au=true then[0] else[])↔v∈cW (aR au bs) outs:=by
 grind [ju,rD,Lq,Z9]
theorem Ts{xs ys:List Int}(h:∀v,v∈xs↔v∈ys)(fD:ys≠[]):xs≠[]/\dH xs=dH ys:=by
 obtain⟨m1,m2⟩:=HA fD;have hx:xs≠[]:=λz=>by
  simp_all
 obtain⟨n1,n2⟩:=HA hx;have c1:=m2 _ ((h _).mp n1);have c2:=n2 _ ((h _).mpr m1);exact⟨hx,by lia⟩
section
variable{S:aU}{au:Str}{bs:List ao}{carts outs:List Str}{t:List Cell}{n:Nat}{rr:List Cell}
theorem e2v:∀outs:List Str,(outs.filterMap λo=>(if o∈bs.map ao.name then atS (aR au bs) o else none).map D.int)=(rD au bs outs).map D.int
 |[]=>rfl
 |o::outs=>by
  grind [rD]
theorem X0(hn:t[n]?=some (.o (.aw (eX au bs))))(f:jR carts bs)(q:Nat)(h:outs.length<=1000):bq (ae 0) (B7 q) (B8 q) (dS outs) [none,some (.c n)] ⟨t,rr⟩ []=some (.ok ((rD au bs outs).map D.int) ⟨t,rr⟩):=by
 rw[dS,xp (λo=>(if o∈bs.map ao.name then atS (aR au bs) o else none).map D.int) outs (by lia) λo m=>by
  unfold B7 B8;by_cases hm:o∈bs.map ao.name
  .have v:=LK (au:=au) f hm;rw[bK hm];cases hc:atS (aR au bs) o with
   |some w=>
    rw[hc] at v;unfold mK at v;exact .inr ⟨rd (.int w),.int w,rfl,by simp only[↓ev,hn,aI,v,wG],by simp only[↓ev,hn,v],rfl⟩
   |none=>
    rw[hc] at v;unfold mK at v;exact .inl ⟨rfl,by simp only[↓ev,hn,aI,v,wG]⟩
  .have v:=IL (au:=au) hm;rw[bD hm];exact .inl ⟨rfl,by simp only[↓ev,hn,aI,v,zM]⟩,e2v]
end
section
variable{S:aU}{t rr:List Cell}{n:Nat}{l l':List (TK×D)}{bl:List D}{k d:Int}{b:ao}{au:Str}{a4 a5:aj Val}{gP:List Int}{cs:D}
theorem d4l(hl:((bl.length:Nat):Int)=d)(ha:dq bl (d - 1 - k)=some (ak b))(hn:t[n]?=some (.o (.aw l)))(hm:∀c:Cell,(t++[c])[n]?=some (.o (.aw l)))(hs:∀c x:Cell,(t++[c]).set n x=t.set n x++[c])(ht:(n<t.length)=True)(hc:∀q,bq (ae 0) (B7 q) (B8 q) (dS b.outs) [none,some (.c n)] ⟨t,rr⟩ []=some (.ok (gP.map D.int) ⟨t,rr⟩))(hw:b.outs.contains au=true)(hz:(gP.length<1000000)=True)(hv:b.long+dH (gP++[0])=v)(hp:bL l (.inr b.name) (.int v)=l')(hq:(l.length<1000000)=True):
  wU 0 [some (.d (.tup [.lst bl,cs])),some (.d (.str au)),some (.c n),some (.d (.int k)),a4,a5] ⟨t,rr⟩=some (.nx [some (.d (.tup [.lst bl,cs])),some (.d (.str au)),some (.c n),some (.d (.int k)),some (.d (ak b)),some (.c t.length)] ⟨t.set n (.o (.aw l'))++[.o (.lst ((gP++[0]).map D.int))],rr⟩):=by
 have m:=HC (gP++[0]);have ap:(gP++[0]).map D.int=gP.map D.int++[.int 0]:=by rw[gF];rfl
 have z:(gP.map D.int).length=gP.length:=bj ..;rw[ap] at m ⊢;have ne:(gP++[0]=[])=False:=eq_false (by simp)
 have ps:((0:Int)<((gP.length+1:Nat):Int))=True:=br (by lia)
 unfold wU ak at *;simp only[↓ev,bZ,hl,ha,aO,v8,hc,jS,aI,jJ,hw,de,z,hz,jx,A6,ps,decide_true,cH,m,ne,hv,hm,hq,hp,hs]
theorem d4m(hl:((bl.length:Nat):Int)=d)(ha:dq bl (d - 1 - k)=some (ak b))(hn:t[n]?=some (.o (.aw l)))(hm:∀c:Cell,(t++[c])[n]?=some (.o (.aw l)))(hs:∀c x:Cell,(t++[c]).set n x=t.set n x++[c])(ht:(n<t.length)=True)(hc:∀q,bq (ae 0) (B7 q) (B8 q) (dS b.outs) [none,some (.c n)] ⟨t,rr⟩ []=some (.ok (gP.map D.int) ⟨t,rr⟩))(hw:b.outs.contains au=false)(ps:((0:Int)<(gP.length:Int))=True)(ne:(gP=[])=False)(hv:b.long+dH gP=v)(hp:bL l (.inr b.name) (.int v)=l')(hq:(l.length<1000000)=True):
  wU 0 [some (.d (.tup [.lst bl,cs])),some (.d (.str au)),some (.c n),some (.d (.int k)),a4,a5] ⟨t,rr⟩=some (.nx [some (.d (.tup [.lst bl,cs])),some (.d (.str au)),some (.c n),some (.d (.int k)),some (.d (ak b)),some (.c t.length)] ⟨t.set n (.o (.aw l'))++[.o (.lst (gP.map D.int))],rr⟩):=by
 have m:=HC gP;have z:(gP.map D.int).length=gP.length:=bj ..;unfold wU ak at *;simp only[↓ev,bZ,hl,ha,aO,v8,hc,jS,aI,jJ,hw,de,z,ps,decide_true,cH,m,ne,hv,hm,hq,hp,hs]
theorem X1(hl:((bl.length:Nat):Int)=d)(ha:dq bl (d - 1 - k)=some (ak b))(hn:t[n]?=some (.o (.aw l)))(hm:∀c:Cell,(t++[c])[n]?=some (.o (.aw l)))(hs:∀c x:Cell,(t++[c]).set n x=t.set n x++[c])(ht:(n<t.length)=True)(hc:∀q,bq (ae 0) (B7 q) (B8 q) (dS b.outs) [none,some (.c n)] ⟨t,rr⟩ []=some (.ok [] ⟨t,rr⟩))(hw:b.outs.contains au=false)(hp:bL l (.inr b.name) .aH=l')(hq:(l.length<1000000)=True):
  wU 0 [some (.d (.tup [.lst bl,cs])),some (.d (.str au)),some (.c n),some (.d (.int k)),a4,a5] ⟨t,rr⟩=some (.nx [some (.d (.tup [.lst bl,cs])),some (.d (.str au)),some (.c n),some (.d (.int k)),some (.d (ak b)),some (.c t.length)] ⟨t.set n (.o (.aw l'))++[.o (.lst [])],rr⟩):=by
 have z0:((0:Int)<((0:Nat):Int))=False:=eq_false (by decide)
 unfold wU ak at *;simp only[↓ev,bZ,hl,ha,aO,v8,hc,jS,aI,jJ,hw,de,z0,decide_false,hm,hq,hp,hs]
end
section
variable{h:aE}{au:Str}{b:ao}{i v:Int}
theorem d4n{carts:List Str}(hc:au∈carts){bs:List ao}(f:jR carts (b::bs)):atS (aR au (b::bs)) b.name=if cW (aR au bs) b.outs=[] then none else some (b.long+dH (cW (aR au bs) b.outs)):=by
 have ho:∀o∈b.outs,o≠b.name:=Tr f b (.head _);rw[Iq hc f b (.head _),KA (kn:=aR au (b::bs)) (kn':=aR au bs) (outs:=b.outs) λo m=>B4 (ho o m)]
theorem e9q{l:List ao}{q post:List ao}{x:ao}(e:l.reverse=q++x::post):l=post.reverse++x::q.reverse/\dq (l.map ak) ((l.length:Int) - 1 - (q.length:Int))=some (ak x):=by
 have e1:l=post.reverse++x::q.reverse:=by
  simp_all
 refine⟨e1,?_⟩;have hl:l.length=post.length+q.length+1:=by rw[e1];simp;lia
 rw[show(l.length:Int) - 1 - (q.length:Int)=((post.length:Nat):Int) by lia]
 refine uN ?_;rw[e1,gF,ua (by simp)]
 simp
theorem X2(g:aB h)(hc:au∈h.carts)(S:aU):∃U' t,aJ (ae 3) (wU 0) (fK 0 h.af.length) [some (.d (ay h)),some (.d (.str au)),some (.c S.s.length),none,none,none] ⟨S.s++[.o (.aw [])],S.r⟩=some (.nx U' ⟨t,S.r⟩)/\(∃a3 a4 a5,U'=[some (.d (ay h)),some (.d (.str au)),some (.c S.s.length),a3,a4,a5])/\t[S.s.length]?=some (.o (.aw (eX au h.af)))/\t.take S.s.length=S.s:=by
 have bl:=g.sm.bl;have ou:=g.sm.ou;have hen:fK 0 h.af.length=((List.range h.af.length).zip h.af.reverse).map λ(p:Nat×ao)=>D.int (p.1:Nat):=by
  rw[qw,show(λ(p:Nat×ao)=>D.int (p.1:Nat))=(λ(i:Nat)=>D.int (i:Int))∘Prod.fst from rfl,<-eP,List.map_fst_zip (by simp)]
 have Uo:((List.range h.af.length).zip h.af.reverse).map Prod.snd=h.af.reverse:=by rw[List.map_snd_zip];simp
 rw[hen];obtain⟨U',S',e,⟨a3,a4,a5,e1⟩,t,rfl,e2,e3⟩:=iE (gg:=ae 3) (body:=wU 0) (f:=λ(p:Nat×ao)=>D.int (p.1:Nat)) (U:=[some (.d (ay h)),some (.d (.str au)),some (.c S.s.length),none,none,none]) (S:=⟨S.s++[.o (.aw [])],S.r⟩) (λpre U S'=>(∃a3 a4 a5,U=[some (.d (ay h)),some (.d (.str au)),some (.c S.s.length),a3,a4,a5])/\∃t,S'=⟨t,S.r⟩/\t[S.s.length]?=some (.o (.aw (eX au (pre.map Prod.snd).reverse)))/\t.take S.s.length=S.s) ((List.range h.af.length).zip h.af.reverse) ⟨⟨_,_,_,rfl⟩,_,rfl,de,List.take_left⟩ (by
  rintro q ⟨k,x⟩ post eq U S' ⟨⟨a3,a4,a5,rfl⟩,t,rfl,hn,Uq⟩;have eq2:=congrArg (List.map Prod.snd) eq;rw[Uo,gF,cU] at eq2;obtain⟨eb,ha⟩:=e9q eq2;have ek:k=(q.map Prod.snd).length:=by
   have:((List.range h.af.length).zip h.af.reverse)[q.length]?=some (k,x):=by rw[eq,ua (bV _)];simp
   rw[List.getElem?_zip_eq_some] at this;have h1:=this.1;rw[eY] at h1;obtain⟨hl,h1⟩:=h1;rw[List.getElem_range] at h1;rw[bj];exact h1.symm
  rw[gF,List.map_singleton,List.reverse_append,List.reverse_singleton,List.singleton_append];generalize q.map Prod.snd=qs at *;have fx:jR h.carts (x::qs.reverse):=B9 (by rw[<-eb];exact g.fwd)
  have ho:x.outs.length<=900:=by
   rw[eb,gF,cU,List.sum_append,Oi] at ou;dsimp only at ou;lia
  have hql:qs.length<=100:=by
   have h2:=congrArg List.length eb;rw[dz,l_,JH,JH] at h2;lia
  have lt:S.s.length<t.length:=(eY.mp hn).1;have hm:∀c:Cell,(t++[c])[S.s.length]?=some (.o (.aw (eX au qs.reverse))):=λc=>by rw[vN lt];exact hn
  have hs:∀c x:Cell,(t++[c]).set S.s.length x=t.set S.s.length x++[c]:=λc x=>List.set_append_left _ _ lt
  have sj:=λq=>X0 (rr:=S.r) (outs:=x.outs) hn fx.2.2.2 q (by lia)
  have hlen:((h.af.map ak).length:Int)=(h.af.length:Int):=by rw[bj]
  have hq:((eX au qs.reverse).length<1000000)=True:=br (by rw[Q5,JH];lia)
  have pu:=λy=>Sg x (au:=au) (y:=y) (IL (au:=au) fx.2.1)
  have sm:=λv=>e2u (v:=v) hc fx.2.2.2 fx.1
  have bh:=d4n hc fx;have et:eX au (x::qs.reverse)=eX au qs.reverse++[(.inr x.name,mK (atS (aR au (x::qs.reverse)) x.name))]:=rfl;have fin:∀(y:D) (m:List D),y=mK (atS (aR au (x::qs.reverse)) x.name)->(t.set S.s.length (.o (.aw (eX au qs.reverse++[(TK.inr x.name,y)])))++[Cell.o (.lst m)])[S.s.length]?=some (.o (.aw (eX au (x::qs.reverse))))/\(t.set S.s.length (.o (.aw (eX au qs.reverse++[(TK.inr x.name,y)])))++[Cell.o (.lst m)]).take S.s.length=S.s:=λy m hy=>by
   rw[hy,<-et];constructor
   .rw[vN (by rw[wz];exact lt),wy lt]
   .rw[List.take_append_of_le_length (by rw[wz];lia),List.take_set_of_le (bV _)]
    exact Uq
  subst ek;have hsl:(rD au qs.reverse x.outs).length<=x.outs.length:=GP _ _;generalize rD au qs.reverse x.outs=gP at *;cases hw:x.outs.contains au with
  |true=>
   rw[hw,bK rfl] at sm;have yT:cW (aR au qs.reverse) x.outs≠[]:=λz=>by
    have:=(sm 0).mp (jC.mpr (.inr (.head _)))
    simp_all
   obtain⟨_,me⟩:=Ts sm yT;rw[bD yT] at bh;obtain⟨f1,f2⟩:=fin (.int (x.long+dH (gP++[0]))) ((gP++[0]).map D.int) (by rw[bh,me];rfl)
   exact⟨_,_,_,rfl,.inl (d4l hlen ha hn hm hs (br lt) sj hw (br (by lia)) rfl (pu _) hq),⟨_,_,_,rfl⟩,_,rfl,f1,f2⟩
  |false=>
   rw[hw,bD (by decide),kY] at sm
   by_cases yT:cW (aR au qs.reverse) x.outs=[]
   .have se:gP=[]:=List.eq_nil_iff_forall_not_mem.mpr λv m=>by
     simp_all
    subst se;rw[bK yT] at bh;obtain⟨f1,f2⟩:=fin .aH [] (by rw[bh];rfl)
    exact⟨_,_,_,rfl,.inl (X1 hlen ha hn hm hs (br lt) sj hw (pu _) hq),⟨_,_,_,rfl⟩,_,rfl,f1,f2⟩
   .obtain⟨ne,me⟩:=Ts sm yT;rw[bD yT] at bh;obtain⟨f1,f2⟩:=fin (.int (x.long+dH gP)) (gP.map D.int) (by rw[bh,me];rfl)
    exact⟨_,_,_,rfl,.inl (d4m hlen ha hn hm hs (br lt) sj hw (br (by have:=List.length_pos_iff.mpr ne;lia)) (eq_false ne) rfl (pu _) hq),⟨_,_,_,rfl⟩,_,rfl,f1,f2⟩)
 rw[Uo,List.reverse_reverse] at e2;exact⟨U',t,e,⟨a3,a4,a5,e1⟩,e2,e3⟩
theorem e9r(g:aB h)(hc:au∈h.carts):P0 DP [.d (ay h),.d (.str au)] (.o (.aw (eX au h.af))):=by
 intro S;obtain⟨U',t,e,⟨a3,a4,a5,rfl⟩,e2,e3⟩:=X2 g hc S;have bl:=g.sm.bl;have hlen:((h.af.map ak).length:Int)=(h.af.length:Int):=by rw[bj]
 have hD:ay h=.tup [.lst (h.af.map ak),.lst (dS h.carts)]:=rfl;rw[hD] at e ⊢;have hz:Nat.ble (h.af.length:Int).natAbs 1000000000000=true:=by rw[JP];lia
 have tn:((h.af.length:Int)).toNat=h.af.length:=JF _;have cu:aU.cut ⟨t,S.r⟩ S.s.length=S:=by unfold aU.cut;dsimp only;rw[e3]
 unfold DP Qw;simp only[↓ev,aO,bZ,hlen,hz,tn,fP,e,wm,e2,cu]
end
section
variable{s:List Cell}{h:aE}{r:Int}{x:Hl}{n:Nat}{w:Row}{hd:D}
def dQ(h:aE)(x:Hl):List Str:=((ord h x.rows).filter λw=>w.fl.isSome && !iX h x w).map Row.bag
theorem X3(g:aB h)(o:Ok h n x):bq (ae 0) (Kx 0) (Ky 0) (dS ((ord h x.rows).map Row.bag)) [none,some (.d (.ref 0))] (hS (ay h) r x s) []=some (.ok (dS (dQ h x)) (hS (ay h) r x s)):=by
 have rl:=o.rl;have lp:=o.perm.length_eq;rw[show dS ((ord h x.rows).map Row.bag)=(ord h x.rows).map λw=>.str w.bag by unfold dS;rw[eP];rfl,xp (λw=>if(w.fl.isSome && !iX h x w)=true then some (.str w.bag) else none) (ord h x.rows) (by lia) λw hw=>by
  have hm:=o.mem.mp hw;have h2:aM (iy x.rows) (.inr w.bag)=some (aN w.fl):=jK o.nb hm;have e:=R5 (s:=s) (r:=r) g o hm;generalize ay h=hd at *;unfold Kx Ky;cases hf:w.fl with
  |none=>
   rw[hf] at h2;unfold aN at h2;refine .inl ⟨rfl,?_⟩;simp only[↓ev,hR,qG,q9,aO,h2,aI]
  |some f=>
   rw[hf] at h2;unfold aN at h2;cases hc:iX h x w with
   |true=>
    rw[hc] at e;refine .inl ⟨rfl,?_⟩;simp only[↓ev,hR,qG,q9,aO,h2,cY,DE,e]
   |false=>
    rw[hc] at e;refine .inr ⟨rd (.str w.bag),_,rfl,?_,?_,rfl⟩
    .simp only[↓ev,hR,qG,q9,aO,h2,cY,DE,e]
    .rfl]
 congr 2
 unfold dQ dS;generalize ord h x.rows=L
 induction L with
 |nil=>rfl
 |cons w L ih=>
  rw[vL,zJ,ih];cases(w.fl.isSome && !iX h x w) <;> rfl
theorem e9s(g:aB h)(o:Ok h n x):HR 0 [.d (.ref 0)] (hS (ay h) r x s)=some (.ok (.o (.lst (dS (dQ h x)))) (hS (ay h) r x s)):=by
 have rl:=o.rl;have e1:=λq=>R0 (s:=s) (r:=r) (q:=q) g o.nk (by lia) λw m=>(o.rw w m).1
 have e2:=X3 (s:=s) (r:=r) g o;generalize ay h=hd at *;unfold HR QE;simp only[↓ev,hR,cY,O4,e1,fP,e2,cg]
theorem d4o{q:Nat}:Ht q [.d (.ref 0)] (hS hd r x s)=some (.ok (rd (.int x.now)) (hS hd r x s)):=by
 unfold Ht Pg;simp only[↓ev,hR,Eh,IK,cg]
end
variable{l L:List (Str×Str×Int)}{p:Str×Str×Int}{a5 a6 a7 a8 a9 g1 g2 g3 g4:aj Val}{F:List (TK×D)}
theorem Ld(l:List Str):(jy l).Perm l:=by
 refine(Classical.epsilon_spec (p:=λs:List Str=>s.Perm l/\PyProof.Rows.sortedS s=true) ⟨l.mergeSort λa b=>decide (a.cps.toList<=b.cps.toList),List.mergeSort_perm ..,PyProof.Rows.sortedS_of_pairwise _ ((List.pairwise_mergeSort (le:=λa b:Str=>decide (a.cps.toList<=b.cps.toList)) (λa b c h1 h2=>?_) (λa b=>?_) l).imp λh=>?_)⟩).1
 all_goals grind [PyProof.Rows.ltCps_eq]
noncomputable def iK(l:List (Str×Str×Int))(f:Str):Str×Str×Int:=(l.find? λp=>p.1 == f).getD ("","",0)
noncomputable def oI (l:List (Str×Str×Int)):List (Str×Str×Int):=(jy (l.map (·.1))).map (iK l)
theorem Sh(nd:(l.map (·.1)).Nodup)(hp:p∈l):iK l p.1=p:=by
 unfold iK;cases h:l.find? λq=>q.1 == p.1 with
 |none=>exact cJ (N_.mp h p hp) (by simp)
 |some q=>
  have h1:=JN h;exact v3 nd (JM h) hp (by simpa using h1)
theorem Qc(nd:(l.map (·.1)).Nodup):(oI l).Perm l:=by
 have e:(l.map (·.1)).map (iK l)=l:=by
  rw[eP];exact(qD λp hp=>Sh nd hp).trans (List.map_id l)
 have p:=(Ld (l.map (·.1))).map (iK l)
 rw[e] at p;exact p
noncomputable def kG(p:Str×Str×Int):D:=.tup [.str p.2.1,.int p.2.2]
noncomputable def gm(w:Row):D:=.lst [aN w.fl,pl w.b w.i,.int w.gn]
noncomputable def oJ(a b c d e:D):List (TK×D):=[(TK.inr "now",a),(TK.inr "flights",b),(TK.inr "still",c),(TK.inr "inside",d),(TK.inr "gone",e)]
noncomputable abbrev mP (h:aE) (x:Hl):List (TK×D):=oJ (.int x.now) (.aw (td (·.1) kG (oI x.book))) (.lst (dS (cP h x))) (.aw (td Row.bag gm (ord h x.rows))) (.lst (wc x.gone))
section
variable{a b c d e:D}
theorem Tt:aM (oJ a b c d e) (.inr "now")=some a:=by kernel_rfl
theorem KD:aM (oJ a b c d e) (.inr "flights")=some b:=by kernel_rfl
theorem vZ:aM (oJ a b c d e) (.inr "inside")=some d:=by kernel_rfl
theorem e9t:List.foldl (λ(kvs:List (TK×D)) (p:TK×D)=>bL kvs p.fst p.snd) [] [(TK.inr "now",a),(TK.inr "flights",b),(TK.inr "still",c),(TK.inr "inside",d),(TK.inr "gone",e)]=oJ a b c d e:=by kernel_rfl
end
section
variable{s:List Cell}{h:aE}{r:Int}{x:Hl}{n:Nat}{w:Row}{hd:D}{q:Nat}
theorem X4(o:Ok h n x)(hn:n<64):dO 0 [.d (.ref 0)] (hS hd r x s)=some (.ok (.o (.lst ((oI x.book).map t3))) (hS hd r x s)):=by
 have sz:=o.sz;have lp:=(Ld (x.book.map (·.1))).length_eq
 rw[bj] at lp;have e1:dR ((lq x.book).map (·.1.d))=some (x.book.map (·.1)):=by
  unfold lq;rw[Ip,K_]
 have l1:((x.book.map (·.1)).length<64)=True:=br (by rw[bj];lia)
 have e2:bq (ae 0) (jB true) (dW 0) ((jy (x.book.map (·.1))).map D.str) [none,some (.d (.ref 0))] (hS hd r x s) []=some (.ok ((oI x.book).map t3) (hS hd r x s)):=by
  unfold oI;rw[v_ (λf=>t3 (iK x.book f)) _ (by lia) λf hf=>by
   obtain⟨p,hp,e⟩:=jQ.mp ((Ld _).mem_iff.mp hf);have v:aM (lq x.book) (.inr f)=some (t3 (iK x.book f)):=by
    rw[<-e,Sh o.bn hp];exact jK (k:=λp:Str×Str×Int=>p.1) o.bn hp
   refine⟨rd (t3 (iK x.book f)),?_,rfl⟩;unfold dW;simp only[↓ev,hR,rR,tH,aO,v],eP]
  rfl
 unfold dO ko;simp only[↓ev,hR,rR,tH,aO,e1,l1,fP,e2,cg]
noncomputable abbrev CY(hd:D)(r:Int)(x:Hl)(s:List Cell)(L:List (TK×D)):aU:=⟨s++[.o (.aw L)],hR hd r x⟩
theorem e9u(hp:p.1∉L.map (·.1))(hl:L.length<1000):bS 0 [some (.d (.ref 0)),some (.c s.length),some (.d (.str p.1)),some (.d (.str p.2.1)),some (.d (.int p.2.2)),a5,a6,a7,a8,a9] (CY hd r x s (td (·.1) kG L))=some (.nx [some (.d (.ref 0)),some (.c s.length),some (.d (.str p.1)),some (.d (.str p.2.1)),some (.d (.int p.2.2)),a5,a6,a7,a8,a9] (CY hd r x s (td (·.1) kG (L++[p])))):=by
 have e:=Eb (k:=λp:Str×Str×Int=>p.1) (v:=kG) hp
 have l1:((td (·.1) kG L).length<1000000)=True:=br (by rw[n4];lia)
 unfold kG at *;unfold bS;simp only[↓ev,aO,de,l1,e,jx]
theorem e2w(nd:(L.map (·.1)).Nodup)(hl:L.length<1000):∃a2 a3 a4,aJ (aY [(ae 2),(ae 3),(ae 4)]) (bS 0) (L.map t3) [some (.d (.ref 0)),some (.c s.length),none,none,none,a5,a6,a7,a8,a9] (CY hd r x s [])=some (.nx [some (.d (.ref 0)),some (.c s.length),a2,a3,a4,a5,a6,a7,a8,a9] (CY hd r x s (td (·.1) kG L))):=by
 obtain⟨U',S',e,⟨a2,a3,a4,rfl⟩,rfl⟩:=iE (gg:=aY [(ae 2),(ae 3),(ae 4)]) (body:=bS 0) (f:=t3) (U:=[some (.d (.ref 0)),some (.c s.length),none,none,none,a5,a6,a7,a8,a9]) (S:=CY hd r x s []) (λpre U S'=>(∃a2 a3 a4,U=[some (.d (.ref 0)),some (.c s.length),a2,a3,a4,a5,a6,a7,a8,a9])/\S'=CY hd r x s (td (·.1) kG pre)) L ⟨⟨_,_,_,rfl⟩,rfl⟩ (by
  rintro d p post eq U S' ⟨⟨a2,a3,a4,rfl⟩,rfl⟩;have h1:p.1∉d.map (·.1):=by
   grind
  have h2:d.length<1000:=by rw[eq] at hl;simp at hl;lia
  exact⟨_,_,_,rfl,.inl (e9u h1 h2),⟨_,_,_,rfl⟩,rfl⟩)
 exact⟨a2,a3,a4,e⟩
noncomputable abbrev CW(hd:D)(r:Int)(x:Hl)(s:List Cell)(F L:List (TK×D)):aU:=⟨s++[.o (.aw F),.o (.aw L)],hR hd r x⟩
theorem e9v{L:List Row}(hp:w.bag∉L.map Row.bag)(hl:L.length<1000):bT 0 [some (.d (.ref 0)),g1,g2,g3,g4,some (.c (s.length+1)),some (.d (.str w.bag)),some (.d (aN w.fl)),some (.d (pl w.b w.i)),some (.d (.int w.gn))] (CW hd r x s F (td Row.bag gm L))=some (.nx [some (.d (.ref 0)),g1,g2,g3,g4,some (.c (s.length+1)),some (.d (.str w.bag)),some (.d (aN w.fl)),some (.d (pl w.b w.i)),some (.d (.int w.gn))] (CW hd r x s F (td Row.bag gm (L++[w])))):=by
 have e:=Eb (k:=Row.bag) (v:=gm) hp;have l1:((td Row.bag gm L).length<1000000)=True:=br (by rw[n4];lia)
 unfold gm at *;unfold bT;simp only[↓ev,aO,aI,Cq,l1,e,FQ]
theorem e2x{L:List Row}(nd:(L.map Row.bag).Nodup)(hl:L.length<1000):∃a6 a7 a8 a9,aJ (aY [(ae 6),(ae 7),(ae 8),(ae 9)]) (bT 0) (L.map bM) [some (.d (.ref 0)),g1,g2,g3,g4,some (.c (s.length+1)),none,none,none,none] (CW hd r x s F [])=some (.nx [some (.d (.ref 0)),g1,g2,g3,g4,some (.c (s.length+1)),a6,a7,a8,a9] (CW hd r x s F (td Row.bag gm L))):=by
 obtain⟨U',S',e,⟨a6,a7,a8,a9,rfl⟩,rfl⟩:=iE (gg:=aY [(ae 6),(ae 7),(ae 8),(ae 9)]) (body:=bT 0) (f:=bM) (U:=[some (.d (.ref 0)),g1,g2,g3,g4,some (.c (s.length+1)),none,none,none,none]) (S:=CW hd r x s F []) (λpre U S'=>(∃a6 a7 a8 a9,U=[some (.d (.ref 0)),g1,g2,g3,g4,some (.c (s.length+1)),a6,a7,a8,a9])/\S'=CW hd r x s F (td Row.bag gm pre)) L ⟨⟨_,_,_,_,rfl⟩,rfl⟩ (by
  rintro d p post eq U S' ⟨⟨a2,a3,a4,a9,rfl⟩,rfl⟩;have h2:d.length<1000:=by rw[eq] at hl;simp at hl;lia
  exact⟨_,_,_,rfl,.inl (e9v (H0 eq nd) h2),⟨_,_,_,_,rfl⟩,rfl⟩)
 exact⟨a6,a7,a8,a9,e⟩
theorem NN{α:Type}{l L:List α}{j:Nat}:List.take (l.length+j) (l++L)=l++L.take j:=List.take_length_add_append ..
theorem e9w(g:aB h)(o:Ok h n x)(hn:n<64):cw 0 [.d (.ref 0)] (hS (ay h) r x s)=some (.ok (.o (.aw (mP h x))) (hS (ay h) r x s)):=by
 have rl:=o.rl;have sz:=o.sz;have lp:=o.perm.length_eq;have bp:=Qc o.bn;have e1:=λs=>X4 (s:=s) (hd:=ay h) (r:=r) o hn
 obtain⟨a2,a3,a4,e2⟩:=e2w (s:=s) (hd:=ay h) (r:=r) (x:=x) (a5:=none) (a6:=none) (a7:=none) (a8:=none) (a9:=none) (L:=oI x.book) ((bp.map _).nodup_iff.mpr o.bn) (by rw[bp.length_eq];lia)
 have e3:=λs q=>El (s:=s) (r:=r) (q:=q) g o
 obtain⟨a6,a7,a8,a9,e4⟩:=e2x (s:=s) (hd:=ay h) (r:=r) (x:=x) (F:=td (·.1) kG (oI x.book)) (g1:=some (.c s.length)) (g2:=a2) (g3:=a3) (g4:=a4) (L:=ord h x.rows) ((o.perm.map _).nodup_iff.mpr o.nb) (by lia)
 have e5:=λs q=>d4o (s:=s) (hd:=ay h) (r:=r) (x:=x) (q:=q)
 have e6:=λs q=>KQ (s:=s) (r:=r) (x:=x) (q:=q) g
 have e7:=λs q=>Tg (s:=s) (hd:=ay h) (r:=r) (x:=x) (q:=q)
 unfold mP;generalize ay h=hd at *;generalize oI x.book=bk at *;generalize(td (·.1) kG bk)=F at *
 generalize td Row.bag gm (ord h x.rows)=I at *;unfold cw gp;simp only[↓ev,aO,hR,cY,Wy,e1,fP,e2,A6,yG,Aj,e3,e4,XU,e5,Kz,e6,Tf,e7,de,jx,Cq,FQ,e9t,NN,rW]
end
variable{h:aE}{L:List Row}{w:Row}{a5' a4':aj Val}
abbrev A_(h:aE)(a b:Row):Prop:=Jp (jO h a) (jO h b)=true
theorem e9x{rows:List Row}(nd:(rows.map (jO h)).Nodup):(ord h rows).Pairwise (A_ h):=by
 unfold ord;split
 .rename_i hl
  cases rows with
  |nil=>exact .nil
  |cons a l=>
   cases l with
   |nil=>exact List.pairwise_singleton _ _
   |cons b l=>simp at hl;lia
 .rename_i hl
  obtain⟨p,pw⟩:=DN nd (by rw[bj];lia)
  rw[bj] at p;rw[GN];refine pw.imp_of_mem λ{i j} hi hj h=>?_
  have i1:=tV.mp (p.mem_iff.mp hi);have j1:=tV.mp (p.mem_iff.mp hj);unfold ltAt at h;simp only[BL,fU,iN i1,iN j1,C7,JO] at h ⊢;exact h
noncomputable def eZ(L:List Row)(b:Str)(c:Int):List Row:=L.filter λw=>w.b == b&&w.i == c
def dB(L:List Row)(bt:ao):List Row:=(List.range bt.long.toNat).flatMap λ(c:Nat)=>eZ L bt.name (c:Int)
def qx(h:aE)(L:List Row):List Row:=h.af.flatMap (dB L)
theorem gL{b:Str}{c:Int}:w∈eZ L b c↔w∈L/\w.b=b/\w.i=c:=by
 unfold eZ;rw[wx,kO,beq_iff_eq,beq_iff_eq]
theorem gK{bt:ao}:w∈dB L bt↔w∈L/\w.b=bt.name/\0<=w.i/\w.i<bt.long:=by
 unfold dB;rw[List.mem_flatMap];constructor
 .rintro⟨c,hc,hw⟩;obtain⟨h1,h2,h3⟩:=gL.mp hw
  simp_all
 .rintro⟨h1,h2,h3,h4⟩;exact⟨w.i.toNat,tV.mpr (by lia),gL.mpr ⟨h1,h2,by lia⟩⟩
theorem d4p(h:aE)(nd:(h.af.map ao.name).Nodup):h.af.Pairwise λa b=>rk h a.name<rk h b.name:=by
 rw[List.pairwise_iff_getElem];have key:∀(i:Nat) (hi:i<h.af.length),rk h (h.af[i]).name=(i:Int):=λi hi=>by
  unfold rk;obtain⟨j,hj⟩:=DJ (qC (f:=ao.name) (C2 hi));rw[hj];obtain⟨e1,_⟩:=B5 hj;have e2:(h.af.map ao.name)[i]?=some (h.af[i]).name:=by rw[fU,iN hi];rfl
  rw[KU nd e1 e2];rfl
 simp_all
theorem Tu{carts:List Str}:∀{bs:List ao},jR carts bs->(bs.map ao.name).Nodup
 |[],_=>.nil
 |b::bs,f=>t_.mpr ⟨f.2.1,Tu f.2.2.2⟩
theorem Q7(g:aB h)(pw:L.Pairwise (A_ h))(ho:∀w∈L,k_ h w):qx h L=L:=by
 have irr:∀a b:Row,A_ h a b->A_ h b a->a=b:=λa b h1 h2=>by
  have h1:=yr h1;have h2:=yr h2;lia
 have nn:∀{l:List Row},l.Pairwise (A_ h)->l.Nodup:=λp=>p.imp λ{a b} h e=>by
  subst e;have h:=yr h;lia
 have pr:(qx h L).Pairwise (A_ h):=by
  unfold qx;rw[List.pairwise_flatMap];refine⟨λbt _=>?_,(d4p h (Tu g.fwd)).imp λ{a b} Ub x hx y hy=>?_⟩
  .unfold dB;rw[List.pairwise_flatMap];refine⟨λc _=>pw.filter _,List.pairwise_lt_range.imp λ{a b} Ub x hx y hy=>?_⟩
   obtain⟨_,x1,x2⟩:=gL.mp hx;obtain⟨_,y1,y2⟩:=gL.mp hy;refine vQ (.inr ⟨?_,?_⟩)
   .unfold jO;rw[x1,y1]
   .show x.i<y.i;lia
  .obtain⟨_,x1,_⟩:=gK.mp hx;obtain⟨_,y1,_⟩:=gK.mp hy;refine vQ (.inl ?_);show rk h x.b<rk h y.b;rw[x1,y1];exact Ub
 refine List.Perm.eq_of_pairwise (λa b _ _=>irr a b) pr pw ((List.perm_ext_iff_of_nodup (nn pr) (nn pw)).mpr λw=>?_)
 unfold qx;rw[List.mem_flatMap];constructor
 .rintro⟨bt,_,hw⟩;exact(gK.mp hw).1
 .intro hw;obtain⟨bt,hb,e,i0,i1,_⟩:=ho w hw;exact⟨bt,hb,gK.mpr ⟨hw,e.symm,i0,i1⟩⟩
section
variable{s rr:List Cell}{h:aE}{x:Hl}{n:Nat}{w:Row}{a1 a2 a3 a4 a5:D}{L:List Row}{aP:List D}{bt:ao}{c:Int}{hd:D}
noncomputable abbrev sS(s rr:List Cell)(aP:List D):aU:=⟨s++[.o (.lst aP)],rr⟩
abbrev qA(a1 a2 a3 a5:D)(L:List Row):D:=.aw (oJ a1 a2 a3 (.aw (td Row.bag gm L)) a5)
theorem e9y(nd:(L.map Row.bag).Nodup)(hw:w∈L)(hl:aP.length<1000):Dy 0 [some (.d hd),some (.d (qA a1 a2 a3 a5 L)),some (.c s.length),some (.d (ak bt)),some (.d (.int c)),some (.d (.str w.bag))] (sS s rr aP)=some (.nx [some (.d hd),some (.d (qA a1 a2 a3 a5 L)),some (.c s.length),some (.d (ak bt)),some (.d (.int c)),some (.d (.str w.bag))] (sS s rr (aP++if(w.b == bt.name&&w.i == c)=true then[.str w.bag] else[]))):=by
 have v:aM (td Row.bag gm L) (.inr w.bag)=some (.lst [aN w.fl,pl w.b w.i,.int w.gn]):=jK nd hw;have l1:(aP.length<1000000)=True:=br (by lia)
 have hB:ak bt=.tup [.str bt.name,.int bt.long,.bl bt.ring,.lst (dS bt.outs)]:=rfl;rw[hB];unfold Dy;cases hc:(w.b == bt.name&&w.i == c) with
 |true=>simp only[↓ev,vZ,v,cH,bZ,aO,Fz,aI,CB,hc,de,l1,jx]
 |false=>simp only[↓ev,vZ,v,cH,bZ,aO,Fz,aI,CB,hc,kY]
theorem e2y(nd:(L.map Row.bag).Nodup)(hL:L.length<=8)(hl:aP.length+L.length<900):∃b5,aJ (ae 5) (Dy 0) (dS (L.map Row.bag)) [some (.d hd),some (.d (qA a1 a2 a3 a5 L)),some (.c s.length),some (.d (ak bt)),some (.d (.int c)),a5'] (sS s rr aP)=some (.nx [some (.d hd),some (.d (qA a1 a2 a3 a5 L)),some (.c s.length),some (.d (ak bt)),some (.d (.int c)),b5] (sS s rr (aP++dS ((eZ L bt.name c).map Row.bag)))):=by
 rw[show dS (L.map Row.bag)=L.map λw=>.str w.bag by unfold dS;rw[eP];rfl]
 obtain⟨U',S',e,⟨b5,rfl⟩,rfl⟩:=iE (gg:=ae 5) (body:=Dy 0) (f:=λw:Row=>D.str w.bag) (U:=[some (.d hd),some (.d (qA a1 a2 a3 a5 L)),some (.c s.length),some (.d (ak bt)),some (.d (.int c)),a5']) (S:=sS s rr aP) (λpre U S'=>(∃b5,U=[some (.d hd),some (.d (qA a1 a2 a3 a5 L)),some (.c s.length),some (.d (ak bt)),some (.d (.int c)),b5])/\S'=sS s rr (aP++dS ((eZ pre bt.name c).map Row.bag))) L ⟨⟨_,rfl⟩,by unfold eZ;simp⟩ (by
  rintro d w post eq U S' ⟨⟨b5,rfl⟩,rfl⟩;have Ud:(eZ d bt.name c).length<=d.length:=wD _ _;have hd2:d.length<L.length:=by rw[eq];simp
  refine⟨_,_,_,rfl,.inl (e9y nd (by rw[eq];simp) (by simp;lia)),⟨_,rfl⟩,?_⟩
  unfold eZ;rw[List.filter_append,zJ,qF];cases(w.b == bt.name&&w.i == c) <;> simp)
 exact⟨b5,e⟩
theorem e2z(nd:(L.map Row.bag).Nodup)(hL:L.length<=8)(hl:aP.length+L.length<900):∃b5,Dz 0 [some (.d hd),some (.d (qA a1 a2 a3 a5 L)),some (.c s.length),some (.d (ak bt)),some (.d (.int c)),a5'] (sS s rr aP)=some (.nx [some (.d hd),some (.d (qA a1 a2 a3 a5 L)),some (.c s.length),some (.d (ak bt)),some (.d (.int c)),b5] (sS s rr (aP++dS ((eZ L bt.name c).map Row.bag)))):=by
 obtain⟨b5,e⟩:=e2y (s:=s) (rr:=rr) (hd:=hd) (a1:=a1) (a2:=a2) (a3:=a3) (a5:=a5) (bt:=bt) (c:=c) (a5':=a5') nd hL hl;refine⟨b5,?_⟩;generalize ak bt=B at *;unfold Dz;simp only[↓ev,vZ,Ip,fP,e]
theorem d4q(nd:(L.map Row.bag).Nodup)(hL:L.length<=8)(hl:aP.length+(dB L bt).length+L.length<900):∃b4 b5,aJ (ae 4) (Dz 0) (fK 0 bt.long.toNat) [some (.d hd),some (.d (qA a1 a2 a3 a5 L)),some (.c s.length),some (.d (ak bt)),a4',a5'] (sS s rr aP)=some (.nx [some (.d hd),some (.d (qA a1 a2 a3 a5 L)),some (.c s.length),some (.d (ak bt)),b4,b5] (sS s rr (aP++dS ((dB L bt).map Row.bag)))):=by
 rw[qw];obtain⟨U',S',e,⟨b4,b5,rfl⟩,rfl⟩:=iE (gg:=ae 4) (body:=Dz 0) (f:=λi:Nat=>D.int (i:Int)) (U:=[some (.d hd),some (.d (qA a1 a2 a3 a5 L)),some (.c s.length),some (.d (ak bt)),a4',a5']) (S:=sS s rr aP) (λpre U S'=>(∃b4 b5,U=[some (.d hd),some (.d (qA a1 a2 a3 a5 L)),some (.c s.length),some (.d (ak bt)),b4,b5])/\S'=sS s rr (aP++dS ((pre.flatMap λ(c:Nat)=>eZ L bt.name (c:Int)).map Row.bag))) (List.range bt.long.toNat) ⟨⟨_,_,rfl⟩,by simp⟩ (by
  rintro d i post eq U S' ⟨⟨b4,b5,rfl⟩,rfl⟩;have Ud:(d.flatMap λ(c:Nat)=>eZ L bt.name (c:Int)).length<=(dB L bt).length:=by unfold dB;rw[eq,List.flatMap_append,dz];lia
  obtain⟨Vv,e⟩:=e2z (s:=s) (rr:=rr) (hd:=hd) (a1:=a1) (a2:=a2) (a3:=a3) (a5:=a5) (bt:=bt) (c:=(i:Int)) (aP:=aP++dS ((d.flatMap λ(c:Nat)=>eZ L bt.name (c:Int)).map Row.bag)) (a5':=b5) nd hL (by simp only[dz,bj];lia)
  refine⟨_,_,_,rfl,.inl e,⟨_,_,rfl⟩,?_⟩
  simp_all)
 exact⟨b4,b5,e⟩
theorem e3a(nd:(L.map Row.bag).Nodup)(hL:L.length<=8)(hb:0<=bt.long/\bt.long<=1000)(hl:aP.length+(dB L bt).length+L.length<900):∃b4 b5,Hr 0 [some (.d hd),some (.d (qA a1 a2 a3 a5 L)),some (.c s.length),some (.d (ak bt)),a4',a5'] (sS s rr aP)=some (.nx [some (.d hd),some (.d (qA a1 a2 a3 a5 L)),some (.c s.length),some (.d (ak bt)),b4,b5] (sS s rr (aP++dS ((dB L bt).map Row.bag)))):=by
 obtain⟨b4,b5,e⟩:=d4q (s:=s) (rr:=rr) (hd:=hd) (a1:=a1) (a2:=a2) (a3:=a3) (a5:=a5) (bt:=bt) (a4':=a4') (a5':=a5') nd hL hl;refine⟨b4,b5,?_⟩;have hB:ak bt=.tup [.str bt.name,.int bt.long,.bl bt.ring,.lst (dS bt.outs)]:=rfl;have hz:Nat.ble bt.long.natAbs 1000000000000=true:=by rw[JP];lia
 rw[hB] at e ⊢;unfold Hr;simp only[↓ev,cH,hz,fP,e]
theorem e9z(g:aB h)(sl:∀b∈h.af,0<=b.long/\b.long<=1000)(nd:(L.map Row.bag).Nodup)(hL:L.length<=8)(pw:L.Pairwise (A_ h))(ho:∀w∈L,k_ h w):P0 Cf [.d (ay h),.d (qA a1 a2 a3 a5 L)] (.o (.lst (dS (L.map Row.bag)))):=by
 intro S;have key:=iE (gg:=ae 3) (body:=Hr 0) (f:=ak) (U:=[some (.d (ay h)),some (.d (qA a1 a2 a3 a5 L)),some (.c S.s.length),none,none,none]) (S:=sS S.s S.r []) (λpre U S'=>(∃b3 b4 b5,U=[some (.d (ay h)),some (.d (qA a1 a2 a3 a5 L)),some (.c S.s.length),b3,b4,b5])/\S'=sS S.s S.r (dS ((pre.flatMap (dB L)).map Row.bag))) h.af ⟨⟨_,_,_,rfl⟩,rfl⟩ (by
  rintro d bt post eq U S' ⟨⟨b3,b4,b5,rfl⟩,rfl⟩;have Ud:(d.flatMap (dB L)).length+(dB L bt).length<=L.length:=by
   have e:=congrArg List.length (Q7 g pw ho)
   grind [qx]
  have b1:=sl bt (by rw[eq];simp)
  obtain⟨Vp,Vv,e⟩:=e3a (s:=S.s) (rr:=S.r) (hd:=ay h) (a1:=a1) (a2:=a2) (a3:=a3) (a5:=a5) (bt:=bt) (aP:=dS ((d.flatMap (dB L)).map Row.bag)) (a4':=b4) (a5':=b5) nd hL b1 (by simp only[bj];lia)
  refine⟨_,_,_,rfl,.inl e,⟨_,_,_,rfl⟩,?_⟩
  simp_all)
 obtain⟨U',S',e,⟨b3,b4,b5,rfl⟩,rfl⟩:=key;rw[show h.af.flatMap (dB L)=L from Q7 g pw ho] at e;have hD:ay h=.tup [.lst (h.af.map ak),.lst (dS h.carts)]:=rfl;rw[hD] at e ⊢;unfold Cf Qx;simp only[↓ev,aO,aI,bZ,fP,e,wm,de,rW]
end
section
variable{s:List Cell}{h:aE}{r:Int}{x:Hl}{n:Nat}{w:Row}
theorem Q8(g:aB h)(o:Ok h n x)(hw:w∈x.rows):(w.fl=none/\qk x w=none)\/∃f ct cl,w.fl=some f/\qk x w=some (ct,cl)/\ct∈h.carts/\ct≠df h/\aM (td (·.1) kG (oI x.book)) (.inr f)=some (.tup [.str ct,.int cl]):=by
 unfold qk;cases hf:w.fl with
 |none=>exact .inl ⟨rfl,rfl⟩
 |some f=>
  have bp:=Qc o.bn;cases e:x.book.find? (λp=>p.1 == f) with
  |none=>
   obtain⟨p,hp,ep⟩:=jQ.mp ((o.rw w hw).2.2 f hf);exact cJ (N_.mp e p hp) (by simp[ep])
  |some p=>
   have e1:p.1=f:=beq_iff_eq.mp (JN (p:=λp:Str×Str×Int=>p.1 == f) e)
   have m:=JM e;have md:=o.bk p m;refine .inr ⟨f,p.2.1,p.2.2,rfl,by rw[C6,e];rfl,Of md,λz=>?_,?_⟩
   .have cn:=g.cn;unfold df at z;cases hc:h.carts with
    |nil=>rw[hc] at md;cases md
    |cons c cs=>
     simp_all
   .rw[<-e1];exact jK (k:=λp:Str×Str×Int=>p.1) (v:=kG) ((bp.map _).nodup_iff.mpr o.bn) (bp.mem_iff.mpr m)
noncomputable def MT(v:aj Int)(now i cl:Int)(ct wg:Str):Str:=match v with
 |none=>wg
 |some v=>if now+(v - i)<=cl then ct else wg
theorem e3b{bag b wg ct:Str}{i now cl gn:Int}{f:Str}{tl:List (TK×D)}{bl cs:List D}{F I:List (TK×D)}{a3 a5:D}(hI:aM I (.inr bag)=some (.lst [aN (some f),pl b i,.int gn]))(hF:aM F (.inr f)=some (.tup [.str ct,.int cl]))(ef:P0 DP [.d (.tup [.lst bl,.lst cs]),.d (.str ct)] (.o (.aw tl)))(v:aj Int)(ht:aM tl (.inr b)=some (mK v))(ha:dq cs 0=some (.str wg)):P0 z8 [.d (.tup [.lst bl,.lst cs]),.d (.aw (oJ (.int now) (.aw F) a3 (.aw I) a5)),.d (.str bag)] (rd (.str (MT v now i cl ct wg))):=by
 intro S;unfold aN at hI;unfold z8 Kk MT;cases v with
 |none=>
  unfold mK at ht;simp only[↓ev,vZ,hI,aO,bZ,KD,hF,ef,cH,ht,aI,ha,eW]
 |some v=>
  unfold mK at ht;have e:now+v - i=now+(v - i):=by lia
  by_cases hc:now+(v - i)<=cl
  .have hc:=br hc;simp only[↓ev,vZ,hI,aO,bZ,KD,hF,ef,cH,ht,Tt,e,hc,decide_true,eW]
  .have hc:=eq_false hc;simp only[↓ev,vZ,hI,aO,bZ,KD,hF,ef,cH,ht,Tt,e,hc,decide_false,aI,ha,eW]
theorem Si(g:aB h)(o:Ok h n x)(hw:w∈x.rows):P0 z8 [.d (ay h),.d (.aw (mP h x)),.d (.str w.bag)] (rd (.str (cL h x w))):=by
 have v:aM (td Row.bag gm (ord h x.rows)) (.inr w.bag)=some (.lst [aN w.fl,pl w.b w.i,.int w.gn]):=jK (v:=gm) ((o.perm.map _).nodup_iff.mpr o.nb) (o.mem.mpr hw);obtain⟨_,ha⟩:=Ai g;have hD:ay h=.tup [.lst (h.af.map ak),.lst (dS h.carts)]:=rfl;unfold cL;rcases Q8 g o hw with⟨e1,e2⟩|⟨f,ct,cl,e1,e2,hc,_,hk⟩
 .rw[e1] at v;rw[e2];unfold aN at v;intro S;unfold mP;rw[hD];unfold df;generalize h.carts.getD 0 ""=wg at *;generalize td Row.bag gm (ord h x.rows)=I at *;unfold z8 Kk;simp only[↓ev,vZ,v,aO,bZ,aI,cH,ha,eW]
 .rw[e1] at v;rw[e2];have ef:=e9r g hc;have ht:=LK (au:=ct) g.fwd (o.rw w hw).1.nm;rw[hD] at ef;have key:=e3b (now:=x.now) (a3:=.lst (dS (cP h x))) (a5:=.lst (wc x.gone)) v hk ef _ ht ha;rw[<-hD] at key;dsimp only;unfold rj;unfold MT at key;cases hv:atS (aR ct h.af) w.b with
  |none=>rw[hv] at key;exact key
  |some u=>
   rw[hv] at key;dsimp only at key ⊢;rw[show(if decide (x.now+(u - w.i)<=cl)=true then ct else df h)=if x.now+(u - w.i)<=cl then ct else df h by simp]
   exact key
theorem d4r(g:aB h)(o:Ok h n x)(hw:w∈x.rows):(w.fl.isSome&&(cL h x w == df h))=(w.fl.isSome && !iX h x w):=by
 unfold cL iX;rcases Q8 g o hw with⟨e1,e2⟩|⟨f,ct,cl,e1,e2,hc,fD,hk⟩
 .rw[e1];rfl
 .rw[e1,e2];dsimp only;cases rj h ct x.now cl w.b w.i with
  |true=>rw[bK rfl,beq_false_of_ne fD];rfl
  |false=>simp
theorem f0a(g:aB h)(o:Ok h n x)(hw:w∈x.rows){aP:List D}(hl:aP.length<1000){s rr:List Cell}{a4:aj Val}:∃b4,Hv 0 [some (.d (ay h)),some (.d (.aw (mP h x))),some (.c s.length),some (.d (.str w.bag)),a4] (sS s rr aP)=some (.nx [some (.d (ay h)),some (.d (.aw (mP h x))),some (.c s.length),some (.d (.str w.bag)),b4] (sS s rr (aP++if(w.fl.isSome && !iX h x w)=true then[.str w.bag] else[]))):=by
 have v:aM (td Row.bag gm (ord h x.rows)) (.inr w.bag)=some (.lst [aN w.fl,pl w.b w.i,.int w.gn]):=jK (v:=gm) ((o.perm.map _).nodup_iff.mpr o.nb) (o.mem.mpr hw);obtain⟨_,ha⟩:=Ai g;have e:=Si g o hw;have l1:(aP.length<1000000)=True:=br (by lia)
 have hD:ay h=.tup [.lst (h.af.map ak),.lst (dS h.carts)]:=rfl;have hi:=d4r g o hw;rw[<-hi];refine⟨some (.d (aN w.fl)),?_⟩;unfold mP at *;rw[hD] at e ⊢;unfold df at *;generalize h.carts.getD 0 ""=wg at *;generalize cL h x w=ct at *;generalize td Row.bag gm (ord h x.rows)=I at *;unfold Hv;cases hf:w.fl with
 |none=>
  rw[hf] at v;unfold aN at v ⊢;simp only[↓ev,vZ,v,bZ,aO,aI,kY]
 |some f=>
  rw[hf] at v;unfold aN at v ⊢;cases hc:(ct == wg) with
  |true=>simp only[↓ev,vZ,v,bZ,aO,e,cH,ha,aI,iJ,hc,de,l1,jx]
  |false=>simp only[↓ev,vZ,v,bZ,aO,e,cH,ha,aI,iJ,hc,kY]
theorem Sj(g:aB h)(sl:∀b∈h.af,0<=b.long/\b.long<=1000)(o:Ok h n x):P0 Cf [.d (ay h),.d (.aw (mP h x))] (.o (.lst (dS ((ord h x.rows).map Row.bag)))):=by
 have rl:=o.rl;have lp:=o.perm.length_eq;exact e9z g sl ((o.perm.map _).nodup_iff.mpr o.nb) (by lia) (e9x o.nk) λw hw=>(o.rw w (o.mem.mp hw)).1
theorem e3c(g:aB h)(sl:∀b∈h.af,0<=b.long/\b.long<=1000)(o:Ok h n x):P0 HM [.d (ay h),.d (.aw (mP h x))] (.o (.lst (dS (dQ h x)))):=by
 intro S;have rl:=o.rl;have lp:=o.perm.length_eq;have er:=Sj g sl o;have key:=iE (gg:=ae 3) (body:=Hv 0) (f:=λw:Row=>D.str w.bag) (U:=[some (.d (ay h)),some (.d (.aw (mP h x))),some (.c S.s.length),none,none]) (S:=sS S.s S.r []) (λpre U S'=>(∃b3 b4,U=[some (.d (ay h)),some (.d (.aw (mP h x))),some (.c S.s.length),b3,b4])/\S'=sS S.s S.r (dS ((pre.filter λw=>w.fl.isSome && !iX h x w).map Row.bag))) (ord h x.rows) ⟨⟨_,_,rfl⟩,rfl⟩ (by
  rintro d w post eq U S' ⟨⟨b3,b4,rfl⟩,rfl⟩;have h1:(d.filter λw=>w.fl.isSome && !iX h x w).length<=d.length:=wD _ _
  have h2:d.length<(ord h x.rows).length:=by rw[eq];simp
  obtain⟨Vp,e⟩:=f0a (s:=S.s) (rr:=S.r) (a4:=b4) (aP:=dS ((d.filter λw=>w.fl.isSome && !iX h x w).map Row.bag)) g o (w:=w) (o.mem.mp (by rw[eq];simp)) (by simp only[bj];lia)
  refine⟨_,_,_,rfl,.inl e,⟨_,_,rfl⟩,?_⟩;rw[List.filter_append,zJ];cases(w.fl.isSome && !iX h x w) <;> simp)
 rw[show((ord h x.rows).map λw:Row=>D.str w.bag)=dS ((ord h x.rows).map Row.bag) by unfold dS;rw[eP];rfl] at key
 obtain⟨U',S',e,⟨b3,b4,rfl⟩,rfl⟩:=key;unfold dQ;generalize ay h=hd at *;unfold mP at *;generalize oJ _ _ _ _ _=st at *;unfold HM QA;simp only[↓ev,aO,aI,er,fP,e,wm,de,rW]
end
variable{tt:Bool}{a2:aj Val}
noncomputable def sD:Nat->D->Bool
 |_,.aH=>true
 |_,.str _=>true
 |_,.int _=>true
 |n+1,.lst l=>l.all (sD n)&&decide (l.length<=1000)
 |n+1,.tup l=>l.all (sD n)&&decide (l.length<=1000)
 |_,_=>false
noncomputable abbrev vJ:D:=.tup [.ty "tuple",.ty "list"]
section
variable{z:Str}{i:Int}{l:List D}
theorem j1:cI (.str z) vJ=some (rd (.bl false)):=rfl
theorem j2:cI (.int i) vJ=some (rd (.bl false)):=rfl
theorem j3:cI .aH vJ=some (rd (.bl false)):=rfl
theorem j4:cI (.lst l) vJ=some (rd (.bl true)):=rfl
theorem j5:cI (.tup l) vJ=some (rd (.bl true)):=rfl
theorem j6:cI (.lst l) (.ty "tuple")=some (rd (.bl false)):=rfl
theorem j7:cI (.int i) (.ty "str")=some (rd (.bl false)):=rfl
theorem j8:cI (.int i) (.ty "int")=some (rd (.bl true)):=rfl
theorem j9:cI (.int i) (.ty "bool")=some (rd (.bl false)):=rfl
end
section
variable{rf:Nat->GM}{q:Nat}{v:Val}{S:aU}{z:Str}{i:Int}{ds:List D}
theorem Tv(hv:nG S v=some .aH):rQ rf q [some v,some (.d .aH),none,none] S=some (.rt (rd (.bl true)) S):=by
 unfold rQ;simp only[↓ev,aO,j3,aI,hv]
theorem Tw(hv:nG S v=some (.str z)):rQ rf q [some v,some (.d (.str z)),none,none] S=some (.rt (rd (.bl true)) S):=by
 unfold rQ;simp only[↓ev,aO,j1,aI,Fd,hv,iJ,fV]
theorem Tz(hv:nG S v=some (.int i)):rQ rf q [some v,some (.d (.int i)),none,none] S=some (.rt (rd (.bl true)) S):=by
 unfold rQ;simp only[↓ev,aO,j2,aI,j7,hv,j8,j9,fI,fV]
noncomputable abbrev t7:Bool->List D->D
 |true,ds=>.tup ds
 |false,ds=>.lst ds
theorem f0b{d:D}(hv:nG S v=some (t7 tt ds))(ha:dq ds i=some d)(he:rf q [.d d,.d d] S=some (.ok (rd (.bl true)) S)):DB rf q [some v,some (.d (t7 tt ds)),a2,some (.d (.int i))] S=some (.nx [some v,some (.d (t7 tt ds)),a2,some (.d (.int i))] S):=by
 unfold DB;cases tt with
 |true=>simp only[↓ev,hv,ha,he,aI]
 |false=>simp only[↓ev,hv,ha,he,aI]
theorem e3d(hv:nG S v=some (t7 tt ds))(he:∀d∈ds,rf q [.d d,.d d] S=some (.ok (rd (.bl true)) S)):∃a3,aJ (ae 3) (DB rf q) (fK 0 ds.length) [some v,some (.d (t7 tt ds)),a2,none] S=some (.nx [some v,some (.d (t7 tt ds)),a2,a3] S):=by
 rw[qw];obtain⟨U',S',e,⟨a3,rfl⟩,rfl⟩:=iE (gg:=ae 3) (body:=DB rf q) (f:=λi:Nat=>D.int (i:Int)) (U:=[some v,some (.d (t7 tt ds)),a2,none]) (S:=S) (λpre U S'=>(∃a3,U=[some v,some (.d (t7 tt ds)),a2,a3])/\S'=S) (List.range ds.length) ⟨⟨_,rfl⟩,rfl⟩ (by
  rintro d i post eq U S' ⟨⟨a3,rfl⟩,rfl⟩;obtain⟨_,hi⟩:=HW eq;exact⟨_,_,_,rfl,.inl (f0b hv (uN (iN hi)) (he _ (C2 hi))),⟨_,rfl⟩,rfl⟩)
 exact⟨a3,e⟩
theorem f0c(hv:nG S v=some (t7 tt ds))(hl:ds.length<=1000)(he:∀q,∀d∈ds,rf q [.d d,.d d] S=some (.ok (rd (.bl true)) S)):rQ rf q [some v,some (.d (t7 tt ds)),none,none] S=some (.rt (rd (.bl true)) S):=by
 have e:=λq=>e3d (rf:=rf) (q:=q) (a2:=some (.d (.bl true))) hv (he q)
 have hz:Nat.ble ((ds.length:Nat):Int).natAbs 1000000000000=true:=by rw[JP];lia
 have tn:((ds.length:Nat):Int).toNat=ds.length:=JF _;unfold rQ;cases tt with
 |true=>
  obtain⟨a3,e⟩:=e q;simp only[↓ev,aO,j5,Fe,hv,aI,fV,mf,hz,tn,Nat.max_zero,e]
 |false=>
  obtain⟨a3,e⟩:=e q;simp only[↓ev,aO,j4,j6,aI,hv,Uu,fV,mf,hz,tn,Nat.max_zero,e]
theorem Au{d:D}(e:rQ rf q [some v,some (.d d),none,none] S=some (.rt (rd (.bl true)) S)):aQ 2 4 (rQ rf) q [v,.d d] S=some (.ok (rd (.bl true)) S):=by
 unfold aQ;generalize rQ rf q=ml at *;simp only[↓ev,e,eW]
theorem f0d{n:Nat}{d:D}(h:sD n d=true):nG S (.d d)=some d:=by
 cases d with
 |ref m=>cases n <;> cases h
 |_=>rfl
theorem d4s(n:Nat):∀(d:D),sD n d=true->∀j,n<j->∀q S v,nG S v=some d->CO 2 4 rQ j q [v,.d d] S=some (.ok (rd (.bl true)) S):=by
 induction n with
 |zero=>
  intro d h j hj q S v hv;cases j with
  |zero=>lia
  |succ j=>
   cases d with
   |aH=>exact Au (Tv hv)
   |str z=>exact Au (Tw hv)
   |int z=>exact Au (Tz hv)
   |_=>cases h
 |succ n ih=>
  intro d h j hj q S v hv;cases j with
  |zero=>lia
  |succ j=>
   have go:∀tt l,(l.all (sD n)&&decide (l.length<=1000))=true->nG S v=some (t7 tt l)->CO 2 4 rQ (j+1) q [v,.d (t7 tt l)] S=some (.ok (rd (.bl true)) S):=λtt l h hv=>by
    obtain⟨h1,h2⟩:=C5.mp h;exact Au (f0c hv (yr h2) λq d hd=>ih d (oO.mp h1 d hd) j (by lia) q S _ (f0d (oO.mp h1 d hd)))
   cases d with
   |aH=>exact Au (Tv hv)
   |str z=>exact Au (Tw hv)
   |int z=>exact Au (Tz hv)
   |lst l=>exact go false l h hv
   |tup l=>exact go true l h hv
   |_=>cases h
theorem TB{d:D}(h:sD 4 d=true)(hv:nG S v=some d):HU q [v,.d d] S=some (.ok (rd (.bl true)) S):=d4s 4 d h 5 (by decide) q S v hv
end
section
variable{s:List Cell}{h:aE}{r:Int}{x:Hl}{n:Nat}{w:Row}
theorem f0e(g:aB h)(o:Ok h n x)(hw:w∈x.rows):Hq 0 [some (.d (.ref 0)),some (.d (ay h)),some (.d (.aw (mP h x))),some (.d (.str w.bag))] (hS (ay h) r x s)=some (.nx [some (.d (.ref 0)),some (.d (ay h)),some (.d (.aw (mP h x))),some (.d (.str w.bag))] (hS (ay h) r x s)):=by
 have e1:=Th (s:=s) (r:=r) g o hw;have e2:=Si g o hw;have e3:=λS=>TB (q:=0) (S:=S) (v:=.d (.str (cL h x w))) (d:=.str (cL h x w)) rfl rfl
 generalize ay h=hd at *;unfold mP at *;generalize oJ _ _ _ _ _=st at *;generalize cL h x w=c at *;unfold Hq;simp only[↓ev,hR,cY,DD,e1,e2,e3,aI]
theorem d4t(g:aB h)(sl:∀b∈h.af,0<=b.long/\b.long<=1000)(o:Ok h n x):DH 0 [.d (.ref 0),.d (ay h),.d (.aw (mP h x))] (hS (ay h) r x s)=some (.ok (rd (.bl true)) (hS (ay h) r x s)):=by
 have er:=Sj g sl o;have key:=iE (gg:=ae 3) (body:=Hq 0) (f:=λw:Row=>D.str w.bag) (U:=[some (.d (.ref 0)),some (.d (ay h)),some (.d (.aw (mP h x))),none]) (S:=hS (ay h) r x s) (λpre U S'=>(∃b3,U=[some (.d (.ref 0)),some (.d (ay h)),some (.d (.aw (mP h x))),b3])/\S'=hS (ay h) r x s) (ord h x.rows) ⟨⟨_,rfl⟩,rfl⟩ (by
  rintro d w post eq U S' ⟨⟨b3,rfl⟩,rfl⟩;exact⟨_,_,_,rfl,.inl (f0e g o (o.mem.mp (by rw[eq];simp))),⟨_,rfl⟩,rfl⟩)
 rw[show((ord h x.rows).map λw:Row=>D.str w.bag)=dS ((ord h x.rows).map Row.bag) by unfold dS;rw[eP];rfl] at key
 obtain⟨U',S',e,⟨b3,rfl⟩,rfl⟩:=key;generalize ay h=hd at *;unfold mP at *;generalize oJ _ _ _ _ _=st at *;unfold DH P4;simp only[↓ev,er,fP,e,cg]
theorem NR:(gd.any λp=>p.snd == 140)=true:=rfl
theorem f0f(o:Ok h n x){p:Str×Str×Int}(hp:p∈x.gone){hd:D}{a2:aj Val}:Ds 0 [some (.d (.ref 0)),some (.d (t3 p)),a2] (hS hd r x s)=some (.nx [some (.d (.ref 0)),some (.d (t3 p)),some (.d (.bl true))] (hS hd r x s)):=by
 have hv:mn p.1 true:=o.gi p hp;have e1:=λq=>Q3 (s:=s) (r:=r) (hd:=hd) (x:=x) q hv
 have nm:(x.rows.map Row.bag).contains p.1=false:=by
  rw[<-Bool.not_eq_true,oP];exact λm=>(oV.mp o.nd).2.2 _ m _ (qC hp) rfl
 rw[nm,Bool.and_false] at e1;have e2:yz 0 [.d (.ref 0),.d (.str p.1)] (hS hd r x s)=some (.ex 140 none (hS hd r x s)):=by
  unfold yz Km;simp only[↓ev,hR,cY,z6,e1,aI,cg]
 unfold Ds t3;simp only[↓ev,aO,hR,cY,DD,bZ,e2,NR,fV,aI]
theorem X5(o:Ok h n x){hd:D}:Du 0 [.d (.ref 0)] (hS hd r x s)=some (.ok (rd (.bl true)) (hS hd r x s)):=by
 have e1:=λq=>Tg (s:=s) (hd:=hd) (r:=r) (x:=x) (q:=q)
 obtain⟨U',S',e,⟨b1,b2,rfl⟩,rfl⟩:=iE (gg:=ae 1) (body:=Ds 0) (f:=t3) (U:=[some (.d (.ref 0)),none,none]) (S:=hS hd r x s) (λpre U S'=>(∃b1 b2,U=[some (.d (.ref 0)),b1,b2])/\S'=hS hd r x s) x.gone ⟨⟨_,_,rfl⟩,rfl⟩ (by
  rintro d w post eq U S' ⟨⟨b1,b2,rfl⟩,rfl⟩;exact⟨_,_,_,rfl,.inl (f0f o (by rw[eq];simp)),⟨_,_,rfl⟩,rfl⟩)
 have e:aJ (ae 1) (Ds 0) (wc x.gone) [some (.d (.ref 0)),none,none] (hS hd r x s)=_:=e;unfold Du OT;simp only[↓ev,hR,cY,Tf,e1,fP,e,cg]
theorem e3e{n:Nat}(l:List Str):(dS l).all (sD n)=true:=by
 unfold dS;rw[GD];exact oO.mpr λz _=>by cases n <;> rfl
theorem WD(g:aB h)(sl:∀b∈h.af,0<=b.long/\b.long<=1000)(o:Ok h n x):BW 0 [.d (.ref 0),.d (ay h),.d (.aw (mP h x))] (hS (ay h) r x s)=some (.ok (rd (.bl true)) (hS (ay h) r x s)):=by
 have e1:=e9s (s:=s) (r:=r) g o;have e2:=e3c g sl o;have rl:=o.rl;have lp:=o.perm.length_eq;have hl:(dQ h x).length<=8:=by
  grind [dQ]
 have l1:((dS (dQ h x)).length<1000000)=True:=br (by rw[bj];lia)
 have e3:=TB (q:=0) (S:=hS (ay h) r x (s++[.o (.lst (dS (dQ h x)))])) (v:=.c s.length) (d:=.lst (dS (dQ h x))) (by
  show((dS (dQ h x)).all (sD 3)&&decide ((dS (dQ h x)).length<=1000))=true;rw[e3e,bj,vQ (by lia)]
  rfl) (by
  show((s++[Cell.o (.lst (dS (dQ h x)))])[s.length]?).bind Cell.nG=_;rw[de];rfl)
 generalize ay h=hd at *;unfold mP at *;generalize oJ _ _ _ _ _=st at *;generalize dS (dQ h x)=L at *;unfold BW OJ;simp only[↓ev,hR,cY,e1m,e1,aO,e2,e3,aI,de,l1,jx,rW]
end
variable{S2:aU}{hd:D}
theorem X6{d:D}(hd:iR d):∃t ts,d=.tup (.str t::ts)/\(t == ("turn":Str))=false:=by
 cases hd with
 |n9 _=>exact⟨_,_,rfl,by decide +kernel⟩
 |change _=>exact⟨_,_,rfl,by decide +kernel⟩
 |off _=>exact⟨_,_,rfl,by decide +kernel⟩
 |put _ _=>exact⟨_,_,rfl,by decide +kernel⟩
 |read _ _=>exact⟨_,_,rfl,by decide +kernel⟩
 |stop=>exact⟨_,_,rfl,by decide +kernel⟩
 |start=>exact⟨_,_,rfl,by decide +kernel⟩
section
variable{s:List Cell}{h:aE}{r:Int}{x:Hl}{n:Nat}{d:D}{g0 g1 g3 a4 a5 a6 a7:aj Val}{ns:List Int}
theorem f0g{l:List D}(e:Eg 0 [.d (.ref 0)] (hS hd r x s)=some (.ok (.o (.lst l)) S2)):iW 0 [g0,g1,some (.d (.ref 0)),g3,a4,a5,a6,a7] (hS hd r x s)=some (.nx [g0,g1,some (.d (.ref 0)),g3,a4,a5,a6,a7] S2):=by
 unfold iW;simp only[↓ev,e]
theorem e3f(g:aB h)(o:Ok h n x)(hn:n<1000)(m:Nat):∃x' a5',Ok h n x'/\aJ (ae 5) (iW 0) (fK 0 m) [g0,g1,some (.d (.ref 0)),g3,a4,a5,a6,a7] (hS (ay h) r x s)=some (.nx [g0,g1,some (.d (.ref 0)),g3,a4,a5',a6,a7] (hS (ay h) r x' s)):=by
 rw[qw];obtain⟨U',S',e,⟨a5',rfl⟩,x',o',rfl⟩:=iE (gg:=ae 5) (body:=iW 0) (f:=λ(i:Nat)=>D.int (i:Int)) (U:=[g0,g1,some (.d (.ref 0)),g3,a4,a5,a6,a7]) (S:=hS (ay h) r x s) (λpre U S'=>(∃a5,U=[g0,g1,some (.d (.ref 0)),g3,a4,a5,a6,a7])/\∃x',Ok h n x'/\S'=hS (ay h) r x' s) (List.range m) ⟨⟨_,rfl⟩,x,o,rfl⟩ (by
  rintro d i post eq U S' ⟨⟨a5,rfl⟩,x',o',rfl⟩;obtain⟨X,t,e⟩:=e9h (r:=r) (s:=s) g o' hn;exact⟨_,_,_,rfl,.inl (f0g e),⟨_,rfl⟩,_,o'.turn g t,rfl⟩)
 exact⟨x',a5',o',e⟩
theorem e3g(g:aB h)(o:Ok h n x)(hn:n<1000)(sk:iR d\/∃m:Int,1<=m/\m<=12/\d=l9 m):∃x' a5',Ok h (n+1) x'/\eS 0 [g0,g1,some (.d (.ref 0)),g3,some (.d d),a5,a6,a7] (hS (ay h) r x s)=some (.nx [g0,g1,some (.d (.ref 0)),g3,some (.d d),a5',a6,a7] (hS (ay h) r x' s)):=by
 rcases sk with sk|⟨m,m1,m12,rfl⟩
 .obtain⟨v,x',o',e⟩:=e9o (s:=s) (r:=r) g o hn sk;obtain⟨t,ts,rfl,ht⟩:=X6 sk;refine⟨x',a5,o',?_⟩;clear sk;generalize ay h=hd at *;unfold eS;simp only[↓ev,bZ,aI,iJ,ht,e]
 .obtain⟨x',a5',o',e⟩:=e3f (r:=r) (s:=s) (g0:=g0) (g1:=g1) (g3:=g3) (a4:=some (.d (l9 m))) (a5:=a5) (a6:=a6) (a7:=a7) g o hn m.toNat;have hz:Nat.ble m.natAbs 1000000000000=true:=by rw[JP];lia
  have ht:(("turn":Str) == "turn")=true:=by decide +kernel
  refine⟨x',a5',o'.up,?_⟩;generalize ay h=hd at *;unfold eS;unfold l9 at e ⊢;simp only[↓ev,bZ,aI,iJ,fV,cH,hz,fP,e]
theorem d4u(g:aB h)(o:Ok h n x)(ds:List D)(hl:n+ds.length<900)(sk:∀d∈ds,iR d\/∃m:Int,1<=m/\m<=12/\d=l9 m):∃x' a4' a5',Ok h (n+ds.length) x'/\aJ (ae 4) (eS 0) ds [g0,g1,some (.d (.ref 0)),g3,a4,a5,a6,a7] (hS (ay h) r x s)=some (.nx [g0,g1,some (.d (.ref 0)),g3,a4',a5',a6,a7] (hS (ay h) r x' s)):=by
 have key:=iE (gg:=ae 4) (body:=eS 0) (f:=λd:D=>d) (U:=[g0,g1,some (.d (.ref 0)),g3,a4,a5,a6,a7]) (S:=hS (ay h) r x s) (λpre U S'=>(∃a4 a5,U=[g0,g1,some (.d (.ref 0)),g3,a4,a5,a6,a7])/\∃x',Ok h (n+pre.length) x'/\S'=hS (ay h) r x' s) ds ⟨⟨_,_,rfl⟩,x,o,rfl⟩ (by
  rintro p d post eq U S' ⟨⟨a4,a5,rfl⟩,x',o',rfl⟩;have hp:p.length+1<=ds.length:=by
   simp_all
  obtain⟨x2,a5',o2,e⟩:=e3g (r:=r) (s:=s) (g0:=g0) (g1:=g1) (g3:=g3) (a5:=a5) (a6:=a6) (a7:=a7) g o' (by lia) (sk d (by rw[eq];simp))
  refine⟨_,_,_,rfl,.inl e,⟨_,_,rfl⟩,x2,?_,rfl⟩;rw[dz,wB];exact o2)
 rw[List.map_id'] at key;obtain⟨U',S',e,⟨a4',a5',rfl⟩,x',o',rfl⟩:=key;exact⟨x',a4',a5',o',e⟩
theorem e3h{st:List (TK×D)}{ki dg:Int}{x':Hl}{ds:List D}{a4' a5':aj Val}(ed:Aa 0 [.d (a_ ns),.d (.int ki),.d hd] (hS hd r x s)=some (.ok (.o (.lst ds)) (hS hd r x s)))
  (e:aJ (ae 4) (eS 0) ds [some (.d (a_ ns)),some (.d hd),some (.d (.ref 0)),some (.d (.int ki)),a4,a5,a6,a7] (hS hd r x s)=some (.nx [some (.d (a_ ns)),some (.d hd),some (.d (.ref 0)),some (.d (.int ki)),a4',a5',a6,a7] (hS hd r x' s)))
  (et:cw 0 [.d (.ref 0)] (hS hd r x' s)=some (.ok (.o (.aw st)) (hS hd r x' s))) (ef:Pr h_ [.d (a_ ns),.d (.int ki),.d (.int 3),.d (.int 2)] (rd (.int dg)))
  (el:BW 0 [.d (.ref 0),.d hd,.d (.aw st)] (hS hd r x' s)=some (.ok (rd (.bl true)) (hS hd r x' s))) (ec:DH 0 [.d (.ref 0),.d hd,.d (.aw st)] (hS hd r x' s)=some (.ok (rd (.bl true)) (hS hd r x' s))) (en:Du 0 [.d (.ref 0)] (hS hd r x' s)=some (.ok (rd (.bl true)) (hS hd r x' s))) :
  eU 0 [some (.d (a_ ns)),some (.d hd),some (.d (.ref 0)),some (.d (.int ki)),a4,a5,a6,a7] (hS hd r x s)=some (.nx [some (.d (a_ ns)),some (.d hd),some (.d (.ref 0)),some (.d (.int ki)),a4',a5',some (.d (.aw st)),some (.d (.bl (dg == 0)))] (hS hd r x' s)):=by
 unfold eU;cases hc:(dg == 0) with
 |true=>simp only[↓ev,ed,fP,e,et,aO,ef,aI,fI,hc,el,ec,en]
 |false=>simp only[↓ev,ed,fP,e,et,aO,ef,aI,fI,hc,ec,en,el]
theorem MX(g:aB h)(sl:∀b∈h.af,0<=b.long/\b.long<=1000)(b0:0<h.af.length)(o:Ok h n x)(hn:n<60)(k:Nat)(hk:k<900):∃x' a4' a5' Cd OD,Ok h (n+2) x'/\eU 0 [some (.d (a_ ns)),some (.d (ay h)),some (.d (.ref 0)),some (.d (.int (k:Int))),a4,a5,a6,a7] (hS (ay h) r x s)=some (.nx [some (.d (a_ ns)),some (.d (ay h)),some (.d (.ref 0)),some (.d (.int (k:Int))),a4',a5',Cd,OD] (hS (ay h) r x' s)):=by
 obtain⟨ds,dk,ed⟩:=e2t (ns:=ns) g b0 k hk (hS (ay h) r x s);have dl:=dk.1;obtain⟨x',a4',a5',o',e⟩:=d4u (r:=r) (s:=s) (g0:=some (.d (a_ ns))) (g1:=some (.d (ay h))) (g3:=some (.d (.int (k:Int)))) (a4:=a4) (a5:=a5) (a6:=a6) (a7:=a7) g o ds (by lia) dk.2
 have o2:Ok h (n+2) x':=⟨o'.rw,o'.nd,o'.un,o'.bk,o'.bn,o'.gi,o'.rl,kx o'.sz (by lia)⟩
 obtain⟨ef,_⟩:=ia ns k 3 2 (by lia) (by decide) (by decide)
 exact⟨x',a4',a5',_,_,o2,e3h ed e (e9w g o2 (by lia)) ef (WD g sl o2) (d4t g sl o2) (X5 o2)⟩
theorem f1u(g:aB h)(sl:∀b∈h.af,0<=b.long/\b.long<=1000)(b0:0<h.af.length)(o:Ok h 0 x)(m:Nat)(hm:m<=25){a3:aj Val}:∃U' S',aJ (ae 3) (eU 0) (oG 15 2 m) [some (.d (a_ ns)),some (.d (ay h)),some (.d (.ref 0)),a3,a4,a5,a6,a7] (hS (ay h) r x s)=some (.nx U' S'):=by
 have er:oG 15 2 m=(List.range m).map λi=>D.int ((15+2*i:Nat):Int):=by
  grind [oG]
 rw[er];obtain⟨U',S',e,_⟩:=iE (gg:=ae 3) (body:=eU 0) (f:=λi:Nat=>D.int ((15+2*i:Nat):Int)) (U:=[some (.d (a_ ns)),some (.d (ay h)),some (.d (.ref 0)),a3,a4,a5,a6,a7]) (S:=hS (ay h) r x s) (λpre U S'=>(∃a3 a4 a5 a6 a7,U=[some (.d (a_ ns)),some (.d (ay h)),some (.d (.ref 0)),a3,a4,a5,a6,a7])/\∃x',Ok h (2*pre.length) x'/\S'=hS (ay h) r x' s) (List.range m) ⟨⟨_,_,_,_,_,rfl⟩,x,o,rfl⟩ (by
  rintro p i post eq U S' ⟨⟨a3,a4,a5,a6,a7,rfl⟩,x',o',rfl⟩;obtain⟨hq,hi⟩:=HW eq;obtain⟨x2,a4',a5',Cd,OD,o2,e⟩:=MX (ns:=ns) (r:=r) (s:=s) (a4:=a4) (a5:=a5) (a6:=a6) (a7:=a7) g sl b0 o' (by lia) (15+2*i) (by lia)
  refine⟨_,_,_,rfl,.inl e,⟨_,_,_,_,_,rfl⟩,x2,?_,rfl⟩;rw[dz,wB,Nat.mul_add];exact o2)
 exact⟨U',S',e⟩
noncomputable def x0:Hl:=⟨0,[],[],[],[]⟩
theorem zo(h:aE):Ok h 0 x0:=⟨λw m=>(by cases m),JJ,JJ,λp m=>(by cases m),JJ,λp m=>(by cases m),by decide,by decide⟩
theorem f0h(e:qr 0 [some (.d (a_ ns)),none,none,none,none,none,none,none] ⟨[],[]⟩=some (.rt (rd (.bl true)) S2)):∃S,rM 0 [.d (a_ ns)] ⟨[],[]⟩=some (.ok (.v (.d (.bl true))) S):=by
 refine⟨S2.cut 0,?_⟩;unfold rM aQ;generalize qr 0=ml at *;simp only[↓ev,e]
theorem f0i{t:Int}{U':Gm}{S':aU}(hh:P0 B' [.d (a_ ns)] (rd hd))(hr:Pr mF [.d (a_ ns),.d (.int 14),.d (.int 3)] (rd (.int r)))(hi:DT 0 [.d (.ref 0),.d hd,.d (.int r)] ⟨[],[.ins cHall []]⟩=some (.ok (rd .aH) (hS hd r x0 [])))(ho:Pr kR [.d (a_ ns),.d (.int 14),.d (.int 20)] (rd (.int t)))(hm:(-2^64<(2:Int)/\(2:Int)<2^64 \/ -2^64<t/\t<2^64)=True)(hz:Nat.ble (23+2*t).natAbs 1000000=true)
  (hl:aJ (ae 3) (eU 0) (oG 15 2 (gq 15 (23+2*t))) [some (.d (a_ ns)),some (.d hd),some (.d (.ref 0)),none,none,none,none,none] (hS hd r x0 [])=some (.nx U' S')):qr 0 [some (.d (a_ ns)),none,none,none,none,none,none,none] ⟨[],[]⟩=some (.rt (rd (.bl true)) S'):=by
 unfold qr;have z15:Nat.ble (15:Int).natAbs 1000000=true:=by decide
 simp only[↓ev,hh,aO,hr,hi,ho,hm,z15,hz,and_self,fP,hl]
theorem TC:∀{bs:List ao},(∀b∈bs,0<=b.long)->0<=kL bs/\∀b∈bs,b.long<=kL bs
 |[],_=>⟨by unfold kL;simp,λb m=>by cases m⟩
 |c::bs,h=>by
  obtain⟨i1,i2⟩:=TC (bs:=bs) λb m=>h b (.tail _ m)
  have hc:=h c (.head _);have e:kL (c::bs)=c.long+kL bs:=by unfold kL;simp
  rw[e];refine⟨by lia,λb m=>?_⟩
  rcases y0a.mp m with rfl|m
  .lia
  .have:=i2 b m;lia
theorem f1v:∀ns:List Int,ns.length<=63->∃S,rM 0 [.d (.lst (ns.map D.int))] ⟨[],[]⟩=some (.ok (.v (.d (.bl true))) S):=by
 intro ns _;obtain⟨h,g,sl,b0,b5,c4,eh⟩:=e1k ns;obtain⟨_,r0,r4⟩:=ia ns 14 0 3 (by decide) (by decide) (by decide)
 have hr:Pr mF [.d (a_ ns),.d (.int 14),.d (.int 3)] _:=Aq ns 14 3 (by decide) (by decide)
 obtain⟨_,t0,t21⟩:=ia ns 14 1 20 (by decide) (by decide) (by decide)
 have ho:Pr kR [.d (a_ ns),.d (.int 14),.d (.int 20)] _:=yD ns 14 20 (by decide) (by decide)
 have FU:∀b∈h.af,0<=b.long/\b.long<=1000:=λb hb=>by
  have nn:∀b∈h.af,0<=b.long:=λb hb=>by have:=(g.lg b hb).1;lia
  have:=(TC nn).2 b hb;exact⟨nn b hb,by lia⟩
 generalize bw ns 14 0 3=r at *;generalize bw ns 14 1 20=t at *;obtain⟨U',S',hl⟩:=f1u (ns:=ns) (r:=r) (s:=[]) (a3:=none) (a4:=none) (a5:=none) (a6:=none) (a7:=none) g FU b0 (zo h) (gq 15 (23+2*t)) (by unfold gq;lia)
 exact f0h (f0i eh hr (e8d (S:=⟨[],[]⟩) g) ho (br (.inl (by decide))) (by rw[JP];lia) hl)
end
variable{w:cB}{K:aL}{mg:Str->aj ai}{us:List ai}{h:bP}{l:PySem.W.OpenLaw}
def sN(K:aL):L2.Sp:=λvs H Q _=>∃(a:ag) (ns:List Int),vs=[.ref a]/\cS K H a (ns.map V.int)/\ns.length<=63/\∀H',Q (.bl true) H'
theorem f0j{P:c7}{base:bP}{t:aT}(T:Txt K mg t):dA P w K mg base (nN P w) 8 t.uW t.uQ ["_law_script"] (sN K):=by
 exact e0t (e7u T 0) f1v
theorem us_1(h:us.length=1):∃a0,us=[a0]:=by
 obtain _|⟨a0,us⟩:=us
 .cases h
 obtain _|⟨z,us⟩:=us
 .exact⟨a0,rfl⟩
 .simp at h
theorem us_2(h:us.length=2):∃a0 a1,us=[a0,a1]:=by
 obtain _|⟨a0,us⟩:=us
 .cases h
 obtain _|⟨a1,us⟩:=us
 .cases h
 obtain _|⟨z,us⟩:=us
 .exact⟨a0,a1,rfl⟩
 .simp at h
theorem us_3(h:us.length=3):∃a0 a1 a2,us=[a0,a1,a2]:=by
 obtain _|⟨a0,us⟩:=us
 .cases h
 obtain _|⟨a1,us⟩:=us
 .cases h
 obtain _|⟨a2,us⟩:=us
 .cases h
 obtain _|⟨z,us⟩:=us
 .exact⟨a0,a1,a2,rfl⟩
 .simp at h
theorem us_4(h:us.length=4):∃a0 a1 a2 a3,us=[a0,a1,a2,a3]:=by
 obtain _|⟨a0,us⟩:=us
 .cases h
 obtain _|⟨a1,us⟩:=us
 .cases h
 obtain _|⟨a2,us⟩:=us
 .cases h
 obtain _|⟨a3,us⟩:=us
 .cases h
 obtain _|⟨z,us⟩:=us
 .exact⟨a0,a1,a2,a3,rfl⟩
 .simp at h
abbrev iS(K:aL)(n:Str)(C:ag):Prop:=PySem.W.nsIn K mainGlobals n=some (some (.ref C))/\fW K C (.ref 31::tI) none/\PySem.W.keepIn K (.ref C)=true
theorem errs_mk(X:K.In h)(G:h.Ns mainGlobals mg)(h0:iS K "NoName" 44)(h1:iS K "NoSize" 56)(h2:iS K "NoOut" 68)(h3:iS K "NoHand" 80)(h4:iS K "NoMoment" 92)(h5:iS K "NoFlight" 104)(h6:iS K "NoBelt" 116)(h7:iS K "NoRoom" 128)(h8:iS K "NoBag" 140)(GB:fW K 31 tI none)(hB:PySem.W.nsIn K mainGlobals "CarryError"=some (some (.ref 31))):qS K mg gd 31:=by
 refine⟨λp hp=>?_,GB,PySem.W.mg_of X G hB⟩
 simp only[gd,y0a,y1q,or_false] at hp;rcases hp with rfl|rfl|rfl|rfl|rfl|rfl|rfl|rfl|rfl
 .exact⟨PySem.W.mg_of X G h0.1,h0.2⟩
 .exact⟨PySem.W.mg_of X G h1.1,h1.2⟩
 .exact⟨PySem.W.mg_of X G h2.1,h2.2⟩
 .exact⟨PySem.W.mg_of X G h3.1,h3.2⟩
 .exact⟨PySem.W.mg_of X G h4.1,h4.2⟩
 .exact⟨PySem.W.mg_of X G h5.1,h5.2⟩
 .exact⟨PySem.W.mg_of X G h6.1,h6.2⟩
 .exact⟨PySem.W.mg_of X G h7.1,h7.2⟩
 .exact⟨PySem.W.mg_of X G h8.1,h8.2⟩
theorem fin_mk{fa f0 f1 f2 f3 f4 f5 f6 f7 f8 f9 f10 f11 f12 f13 f14 f15 f16 f17 f18 f19 f20 f21 f22 f23 f24 f25 f26 f27 f28 f29 f30 f31 f32 f33 f34 f35 f36 f37 f38 f39 f40 f41 f42 f43 f44 f45 f46 f47 f48 f49 f50 f51 f52 f53 f54 f55 f56 f57 f58 f59 f60 f61 f62 f63 f64 f65 f66 f67 f68 f69 f70:ag}{d0 d1 d2 d3 d4 d5 d6 d7 d8 d9 YH YI YJ YK YL YM YN YO YQ YR Zf Zg Zh Zi Zj Zk Zl Zm Zn Zo ZK ZL ZM ZN ZO ZP ZQ ZR ZS ZT δ ε ζ η θ ι μ ν ξ ο d50 d51 d52 d53 d54 d55 d56 d57 d58 d59 d60 d61 d62 d63 d64 d65 d66 d67 d68 d69 d70:bJ}(X:K.In h)(G:h.Ns mainGlobals mg)(hfa:mg "law"=some (.ref fa))(T:Txt K mg ⟨f0,d0,f1,d1,f2,d2,f3,d3,f4,d4,f5,d5,f6,d6,f7,d7,f8,d8,f9,d9,f10,YH,f11,YI,f12,YJ,f13,YK,f14,YL,f15,YM,f16,YN,f17,YO,f18,YQ,f19,YR,f20,Zf,f21,Zg,f22,Zh,f23,Zi,f24,Zj,f25,Zk,f26,Zl,f27,Zm,f28,Zn,f29,Zo,f30,ZK,f31,ZL,f32,ZM,f33,ZN,f34,ZO,f35,ZP,f36,ZQ,f37,ZR,f38,ZS,f39,ZT,f40,δ,f41,ε,f42,ζ,f43,η,f44,θ,f45,ι,f46,μ,f47,ν,f48,ξ,f49,ο,f50,d50,f51,d51,f52,d52,f53,d53,f54,d54,f55,d55,f56,d56,f57,d57,f58,d58,f59,d59,f60,d60,f61,d61,f62,d62,f63,d63,f64,d64,f65,d65,f66,d66,f67,d67,f68,d68,f69,d69,f70,d70⟩)
  : ∃fd:bJ,(∀(s:av) (v:ai),BindsTo s fd ⟨[v],[]⟩ [("_law_script",v)])/\∀base:bP,K.In base->base.Ns mainGlobals mg->dA l.prog w K mg base (nN l.prog w) 8 fa fd ["_law_script"] (sN K):=by
 have e:=hfa.symm.trans T.uB.mg;cases e;obtain⟨oc,od,kV,doc,pm,an,eV,ct,wt,e,_,_⟩:=T.uB.fn.ex;exact⟨_,λs v=>by rw[e];exact .of_eq rfl,λbase _ _=>f0j T⟩
theorem walk{q:c7}{loose:List Str}{XP:(Str->aj ai)->bP->Prop}{YP:cB->bP->Prop}{d:DefRec}{K:Params->aL}(hn:l.most=some 63)(EV:d.params.defaults=[])
  (hY:∀(w:cB) (h:bP),YP w h->(K w.params).In h)
  (F:∀(w:cB) (mg:Str->aj ai) (fa:ag) (h:bP),(K w.params).In h->h.Ns mainGlobals mg->mg d.name=some (.ref fa)-> ∃fd:bJ,(∀(s:av) (u:ai),BindsTo s fd ⟨[u],[]⟩ [("_law_script",u)])/\∀base:bP,(K w.params).In base->base.Ns mainGlobals mg->dA l.prog w (K w.params) mg base (nN l.prog w) 8 fa fd ["_law_script"] (sN (K w.params))) :
  PySem.W.WalkO q loose XP YP l.row.toRowW d [] (λf vs=>PySem.call f vs):=
 L2.yo (n:=63) (k:=8) (x:="_law_script") (CX:=λw=>nN l.prog w) (sp:=λw=>sN (K w.params)) hn (by decide) EV ⟨rfl,by decide,by decide⟩ hY F (λ_ _ a ns hl _ hS=>⟨a,ns,rfl,hS,hl,λ_=>rfl⟩) λ_ _ _ _ _ ⟨_,_,_,_,_,_,z⟩=>z
end Carry
end
open PySem PySem.W PyProof.Rows
set_option maxRecDepth 100000 in
set_option maxHeartbeats 0 in
theorem PySem.Challenge.cw_carry_k63_carts_and_late_ones_holds : PySem.Challenge.rw_carry_k63_carts_and_late_ones.Holds := by
 simp -failIfUnchanged only[Carry.Hd.hd0];w_on;o_law;(try simp only[Carry.Hd.hd]);k_head;(case hw=>w_witness2)
 k_fill
 refine Carry.walk (l:=PySem.Challenge.rw_carry_k63_carts_and_late_ones) rfl rfl (λw h Y=>PySem.W.kIn_of Y) ?F
 case F=>
  intro w mg fa h KX G hmg;refine' Carry.fin_mk KX G hmg ⟨L2.dM KX G ?_ ?_ ?_,L2.dM KX G ?_ ?_ ?_,L2.dM KX G ?_ ?_ ?_,L2.dM KX G ?_ ?_ ?_,L2.dM KX G ?_ ?_ ?_,L2.dM KX G ?_ ?_ ?_,L2.dM KX G ?_ ?_ ?_,L2.dM KX G ?_ ?_ ?_,L2.dM KX G ?_ ?_ ?_,L2.dM KX G ?_ ?_ ?_,L2.dM KX G ?_ ?_ ?_,L2.dM KX G ?_ ?_ ?_,L2.dM KX G ?_ ?_ ?_,L2.dM KX G ?_ ?_ ?_,L2.dM KX G ?_ ?_ ?_,L2.dM KX G ?_ ?_ ?_,L2.dM KX G ?_ ?_ ?_,L2.dM KX G ?_ ?_ ?_,L2.dM KX G ?_ ?_ ?_,L2.dM KX G ?_ ?_ ?_,L2.dM KX G ?_ ?_ ?_,L2.dM KX G ?_ ?_ ?_,L2.dM KX G ?_ ?_ ?_,L2.dM KX G ?_ ?_ ?_,L2.dM KX G ?_ ?_ ?_,L2.dM KX G ?_ ?_ ?_,L2.dM KX G ?_ ?_ ?_,L2.dM KX G ?_ ?_ ?_,L2.dM KX G ?_ ?_ ?_,L2.dM KX G ?_ ?_ ?_,L2.dM KX G ?_ ?_ ?_,L2.dM KX G ?_ ?_ ?_,L2.dM KX G ?_ ?_ ?_,L2.dM KX G ?_ ?_ ?_,L2.dM KX G ?_ ?_ ?_,L2.dM KX G ?_ ?_ ?_,L2.dM KX G ?_ ?_ ?_,L2.dM KX G ?_ ?_ ?_,L2.dM KX G ?_ ?_ ?_,L2.dM KX G ?_ ?_ ?_,L2.dM KX G ?_ ?_ ?_,L2.dM KX G ?_ ?_ ?_,L2.dM KX G ?_ ?_ ?_,L2.dM KX G ?_ ?_ ?_,L2.dM KX G ?_ ?_ ?_,L2.dM KX G ?_ ?_ ?_,?F46,(L2.Fun.binds ?F46 ?_),L2.mM ?_ ?_ ?_ ?_,L2.mM ?_ ?_ ?_ ?_,L2.mM ?_ ?_ ?_ ?_,L2.mM ?_ ?_ ?_ ?_,L2.mM ?_ ?_ ?_ ?_,L2.mM ?_ ?_ ?_ ?_,L2.mM ?_ ?_ ?_ ?_,L2.mM ?_ ?_ ?_ ?_,L2.mM ?_ ?_ ?_ ?_,L2.mM ?_ ?_ ?_ ?_,L2.mM ?_ ?_ ?_ ?_,L2.mM ?_ ?_ ?_ ?_,L2.mM ?_ ?_ ?_ ?_,L2.mM ?_ ?_ ?_ ?_,L2.mM ?_ ?_ ?_ ?_,L2.mM ?_ ?_ ?_ ?_,L2.mM ?_ ?_ ?_ ?_,L2.mM ?_ ?_ ?_ ?_,L2.mM ?_ ?_ ?_ ?_,L2.mM ?_ ?_ ?_ ?_,L2.mM ?_ ?_ ?_ ?_,L2.mM ?_ ?_ ?_ ?_,L2.mM ?_ ?_ ?_ ?_,L2.mM ?_ ?_ ?_ ?_,⟨?_,?_,?_,?_⟩,⟨?_,?_,?_,?_⟩,PySem.W.mg_of KX G ?_,?atr,?er,PySem.W.mg_none_of KX G ?_,PySem.W.mg_none_of KX G ?_,PySem.W.mg_none_of KX G ?_,PySem.W.mg_none_of KX G ?_,PySem.W.mg_none_of KX G ?_,PySem.W.mg_none_of KX G ?_,PySem.W.mg_none_of KX G ?_,PySem.W.mg_none_of KX G ?_,PySem.W.mg_none_of KX G ?_,PySem.W.mg_none_of KX G ?_,PySem.W.mg_none_of KX G ?_,PySem.W.mg_none_of KX G ?_,PySem.W.mg_none_of KX G ?_,PySem.W.mg_none_of KX G ?_,L2.kM KX G ?_,L2.kM KX G ?_⟩
  case atr=>
   intro p hp;simp only[Carry.atrs,y0a,y1q,or_false] at hp;rcases hp with rfl|rfl|rfl|rfl|rfl|rfl|rfl|rfl|rfl|rfl <;> (dsimp only[Carry.cHall];exact⟨⟨by k_is,by k_is,by k_is,by k_is⟩,by show _=_;k_is⟩)
  case er=>
   refine' Carry.errs_mk KX G ?h0 ?h1 ?h2 ?h3 ?h4 ?h5 ?h6 ?h7 ?h8 ?GB ?hB
   all_goals first|(refine' ⟨?za,?zb,?zd⟩;(case zb=>refine' L2.errC_mk ?zl ?zm ?zs ?zi;(case zl=>k_is);(case zm=>k_is);(case zs=>kernel_rfl);(case zi=>kernel_rfl));(case za=>k_is);(case zd=>k_is))|(refine' L2.errC_mk ?zl ?zm ?zs ?zi;(case zl=>k_is);(case zm=>k_is);(case zs=>kernel_rfl);(case zi=>kernel_rfl))|k_is|(show _=_;k_is)
  all_goals (try dsimp only[Carry.cHall])
  all_goals first|(refine' L2.fun_mk ?zl ?zc ?zk;(case zl=>k_is);(case zc=>k_is);(case zk=>k_is))|(intro _ _ _ _ _ _ us hl;obtain⟨_,rfl⟩:=Carry.us_1 hl;rfl)|(intro _ _ _ _ _ _ us hl;obtain⟨_,_,rfl⟩:=Carry.us_2 hl;rfl)|(intro _ _ _ _ _ _ us hl;obtain⟨_,_,_,rfl⟩:=Carry.us_3 hl;rfl)|(intro _ _ _ _ _ _ us hl;obtain⟨_,_,_,_,rfl⟩:=Carry.us_4 hl;rfl)|k_is|(show _=_;k_is)|skip
  all_goals (try (refine' L2.fun_mk ?zl ?zc ?zk;(case zl=>k_is);(case zc=>k_is);(case zk=>k_is)))