import PyProof.Rows.All
import Wide.All
import OpenK.AllK
import Wide.FinOn
import Lean
import PyProof.EqAt
import PyProof.EqKinds
import PyProof.TupleCall
import PyProof.StationsW
import PyProof.ExcClass3
import PyProof.ExcInit
import PyProof.ExcBaseAll.ValueError
import PyProof.ExcArgsOwn
import KE.KIsAll
import PyProof.ExcAttrAll.ValueError
import PyProof.InstStoreFacts
import KE.KTryMore
import PyProof.RulesAs
import PyProof.NsDelKeeps
import KE.KRevIter
import PyProof.SeqI3
import PyProof.DictWalks
import PyProof.EnumIter
import PyProof.EnumStmt
import PyProof.EnumMake
import PyProof.WalksEnum
import PyProof.FactsAll.NoneType_1
import PyProof.NeKinds
import KE.KDictList
import KE.KItemsList
import PyProof.Rows.SortShell
import PyProof.WalkInts
import PyProof.MeetsSeq
import PyProof.SeqRoads2
import KE.KDictOf
import PyProof.AttrMissHeap
import KE.KSortTup
import PyProof.Rows.SortWalk
import PyProof.Rows.SumAny
import PyProof.Rows.SortStr
import PySem.Challenge.RW_carry_k61_deeds_of_a_hall
set_option linter.all false
set_option bootstrap.genMatcherCode false
set_option compiler.extract_closed false
set_option compiler.reuse false
set_option genSizeOf false
set_option genSizeOfSpec false
def bq:=@List.length_map.{0,0}
def cv:=@Nat.le_refl
def cG:=@Option.bind_eq_some_iff.{0,0}
def cX:=@PySem.Heap.lt_size
def cZ:=@List.map_cons.{0,0}
def dh:=@List.map_map.{0,0,0}
def dy:=@PySem.Heap.get?_push_of_some
def dH:=@Option.map_eq_some_iff.{0,0}
def dZ:=@List.length_append.{0}
def y09:=@List.mem_cons.{0}
def eQ:=@List.getElem?_eq_some_iff.{0}
def e_:=@Bool.not_true
def fy:=@List.mem_map.{0,0}
theorem fB:type_of% @Option.any_some.{0}:=rfl
def fK:=@List.size_toArray.{0}
def fL:=@List.getElem?_map.{0,0}
def fZ:=@List.map_append.{0,0}
def gK:=@Nat.lt_of_lt_of_le
def gZ:=@List.mem_append.{0}
def g7:=@List.getElem?_eq_getElem.{0}
def ie:=@Nat.ne_of_lt
def iy:=@Nat.max_self
def i_:=@PySem.Heap.get?_push_size
def ja:=@Bool.not_false
def ju:=@Nat.le_trans
def jU:=@Bool.and_eq_true
def jV:=@Nat.lt_irrefl
def jW:=@List.append_nil.{0}
def jX:=@List.all_eq_true.{0}
theorem kO:type_of% @List.length_cons.{0}:=rfl
def kP:=@List.append_assoc.{0}
def kQ:=@List.nodup_append.{0}
def k_:=@Nat.zero_le
def lh:=@List.prefix_refl.{0}
def lj:=@List.contains_iff_mem.{0}
def lL:=@List.mem_singleton.{0}
def mJ:=@List.map_congr_left.{0,0}
def mP:=@List.mem_map_of_mem.{0,0}
def n4:=@List.mem_append_right.{0}
def oJ:=@PySem.Heap.get?_update_other
def pI:=@List.length_replicate.{0}
def qp:=@List.mem_range
theorem qr:type_of% @List.filterMap_cons.{0,0}:=rfl
def qt:=@List.mem_cons_of_mem.{0}
def qE:=@List.mem_filter.{0}
def qF:=@Bool.false_ne_true
def qG:=@Nat.le_succ
def qH:=@List.nodup_cons.{0}
def qI:=@PySem.Heap.get?_update_self
def tf:=@List.mem_of_getElem?.{0}
def tq:=@List.all_cons.{0}
def tu:=@List.length_filter_le.{0}
def ub:=@List.getElem?_append_right.{0}
def uc:=@List.getElem?_append_left.{0}
def ud:=@Bool.false_eq_true
def ue:=@Array.getElem?_eq_getElem.{0}
def vw:=@List.getElem?_set_self.{0}
def vx:=@Nat.lt_succ_self
theorem vy:type_of% @Option.isSome_some.{0}:=rfl
def wW:=@Nat.ne_of_gt
def wY:=@List.mem_filterMap.{0,0}
def wZ:=@List.length_take.{0}
def w6:=@List.length_set.{0}
def w9:=@Array.getElem?_toList.{0}
def w_:=@List.length_range
def xa:=@List.all_map.{0,0}
def xg:=@List.getElem?_eq_none.{0}
theorem xh:type_of% @List.filterMap_nil.{0,0}:=rfl
def zP:=@List.length_singleton.{0}
def zQ:=@Nat.lt_succ_of_lt
def zR:=@List.mem_iff_getElem?.{0}
def y19:=@List.not_mem_nil.{0}
def zS:=@Option.bind_some.{0,0}
def zT:=@List.getElem?_range
def zU:=@Nat.le_of_ble_eq_true
theorem zV:type_of% @Option.isSome_none.{0}:=rfl
def zW:=@List.getD_eq_getElem?_getD.{0}
def zX:=@List.getElem?_set.{0}
def A6:=@List.mem_cons_self.{0}
def A7:=@List.getElem?_set_ne.{0}
def A8:=@List.length_drop.{0}
def A9:=@List.filter_cons.{0}
def A_:=@Bool.eq_iff_iff
def A':=@List.getElem_mem.{0}
theorem Ba:type_of% @List.length_nil.{0}:=rfl
def Bb:=@Array.getElem?_eq_some_iff.{0}
def Bc:=@Bool.and_eq_true_iff
theorem Bd:type_of% @Option.map_some.{0,0}:=λ_ _=>rfl
def Be:=@List.filter_sublist.{0}
def Bf:=@List.find?_cons.{0}
def Bg:=@Nat.le_succ_of_le
def Et:=@List.mem_append_left.{0}
def Eu:=@List.getElem_inj.{0}
def Ew:=@Nat.le_of_eq
def Ey:=@List.map_nil.{0,0}
def Ez:=@List.take_of_length_le.{0}
def EA:=@List.nodup_nil.{0}
def EB:=@PySem.Heap.get?_push_ne
def El:=@List.nil_append.{0}
def Em:=@List.map_drop.{0,0}
def En:=@List.pairwise_map.{0,0}
def Eo:=@List.set_set.{0}
def Ep:=@List.length_filterMap_le.{0,0}
def Er:=@List.filterMap_append.{0,0}
def Es:=@Bool.eq_false_iff
theorem Hk:type_of% @Array.length_toList.{0}:=rfl
def Hm:=@List.drop_of_length_le.{0}
def Ho:=@Nat.le_add_right
def Hq:=@List.ext_getElem?.{0}
def Hr:=@PySem.Heap.get?_update_ne
theorem Hs:type_of% @Option.getD_some.{0}:=rfl
def Mi:=@Nat.le_of_lt
def Mj:=@Array.mem_toList_iff.{0}
def Ml:=@List.getElem?_replicate.{0}
def Mm:=@Nat.sub_self
def Mn:=@Nat.lt_of_le_of_lt
def Mo:=@Int.toNat_natCast
def Mp:=@List.drop_eq_getElem_cons.{0}
def Mq:=@Bool.and_false
def Mr:=@List.nodup_range
def Ms:=@Int.le_refl
def Mt:=@List.foldl_append.{0,0}
def Mu:=@PySem.Heap.size_update
theorem Mv:type_of% @List.foldl_cons.{0,0}:=rfl
def Mw:=@Bool.not_eq_true'
def Mx:=@List.map_take.{0,0}
def My:=@Nat.ble_eq_true_of_le
def Mz:=@Bool.or_true
def MA:=@List.mem_of_find?_eq_some.{0}
def MB:=@List.find?_some.{0}
def MC:=@List.set_getElem_self.{0}
def MD:=@Nat.ble_eq
def aE:=@PySem.wpAny_bind
def aY:=@PySem.wpAny_pure
def pJ:=@if_true.{1}
def bJ:=@if_pos.{1}
def br:=@if_neg.{1}
def lr:=@if_false.{1}
def nK:=@decide_eq_true
def oM:=@decide_eq_false
def cT:=@beq_self_eq_true.{0}
def kK:=@PySem.wpAny_holding
def y9a:=@decide_eq_true_iff
def tD:=@of_decide_eq_true
def qJ:=@beq_eq_false_iff_ne.{0}
def cR:=@absurd.{0}
def tF:=@True.intro
def bu:=@eq_true
namespace Carry.Hd
open Lean Meta PySem PySem.W
abbrev kC:=@mkConst
abbrev aM:=@mkAppM
abbrev nL:=mkRawNatLit
abbrev Ex:=Lean.Expr
def fit(ds:Array (Ex×Ex×Ex)):MetaM (Array (Ex×Ex×Ex)):=do
 let cs:Std.HashSet Ex:=ds.foldl (λz d=>if d.1.isConst then z.insert d.1 else z) {}
 ds.filterM λd=>do
  let ty:=Fast.bareType (<-inferType d.1)
  return (ty.find? λy=>cs.contains y || y.isConstOf ``PySem.W.Frag).isNone
def spots(ds:Array (Ex×Ex×Ex)):Std.HashMap Ex Nat:=ds.zipIdx.foldl (λz d=>z.insert d.1.1 d.2) {}
def parts(tw:Name->MetaM Unit)(v:Ex):MetaM (Array (Ex×Ex×Ex)):=do
 for x in Fast.constsOf v do
  if let .const c _:=x then
   if((<-getEnv).getModuleIdxFor? c).isNone || (`PySem.Challenge).isPrefixOf c then tw c
 fit (<-Fast.twinsIn v)
def twin:Nat->Name->MetaM Unit
 |0,_=>return
 |k+1,c=>do
  let (n,e) <-Fast.stemIn c true
  if(<-getEnv).contains e then return
  if let some none:=(<-Fast.primed.get).get? c then return
  let some (.defnInfo d):=(<-getEnv).find? c|return
  let ds <-parts (twin k) d.value
  if ds.isEmpty then
   Fast.primed.modify λz=>z.insert c none
   return
  let ix:=spots ds
  withOptions (Elab.async.set · false) do
   addDecl (.defnDecl { name:=n,levelParams:=[],type:=d.type,value:=Fast.putIn ix (λi=>ds[i]!.2.1) d.value,hints:=d.hints,safety:=.safe})
   addDecl (.thmDecl { name:=e,levelParams:=[],type:=<-mkEq (kC c) (kC n),value:=<-mkEqRefl (kC c)})
  Fast.primed.modify λz=>z.insert c (some (n,e))
def prep(v:Ex):MetaM (Array (Ex×Ex×Ex)):=parts (twin 9) v
def put(stem:Name)(ty v:Ex):MetaM Ex:=do
 let ds <-prep v
 let c <-defAt stem ty (Fast.putIn (spots ds) (λi=>ds[i]!.2.1) v)
 Fast.primed.modify λz=>z.insert c.constName! none
 return c
abbrev Objs:=Array (Obj×Obj×Ex)
def lay(old:Objs)(s t:Shared):MetaM Objs:=do
 let P:=kC ``Params
 unless s.heap.objs.size == t.heap.objs.size && s.toks == t.toks && toExpr s.drawn == toExpr t.drawn && toExpr s.heap.life == toExpr t.heap.life do throwError "the worlds part"
 let mut out:=#[]
 for i in [0:s.heap.objs.size] do
  let (a,b):=(s.heap.objs[i]!,t.heap.objs[i]!)
  if let some (a',b',e):=old[i]? then
   if sameObjNow a' a && sameObjNow b' b then
    out:=out.push (a',b',e)
    continue
  let v <-withLocalDeclD `P P λp=>do
   let e:=objE p a
   unless e == objE p b do throwError "an object is the world's"
   mkLambdaFVars #[p] e
  out:=out.push (a,b,<-put `o (<-mkArrow P (kC ``Obj)) v)
 return out
def state(l:Bool)(old:Objs)(s t:Shared):MetaM (Objs×W.State):=do
 let P:=kC ``Params
 let os <-lay old s t
 let life:=toExpr s.heap.life
 let S:W.State:={ heap:=default,gens:=<-gensE s t,drawn:=toExpr s.drawn,toks:=nL s.toks}
 if l then
  let v <-withLocalDeclD `P P λp=>mkLambdaFVars #[p] (mkApp2 (kC ``Heap.mk) (mkApp2 (kC ``Array.mk [0]) (kC ``Obj) (listE (kC ``Obj) (os.toList.map λx=>mkApp x.2.2 p))) life)
  return (os,{ S with heap:=<-put `h (<-mkArrow P (kC ``Heap)) v})
 let v <-withLocalDeclD `P P λp=>mkLambdaFVars #[p] (treeE p (os.map (·.2.2)) 1 0)
 return (os,{ S with tree:=some (<-put `t (<-mkArrow P (kC ``BT)) v,nL s.heap.objs.size,life)})
def aux(ty pf:Ex):MetaM Ex:=do return kC (<-withOptions (Elab.async.set · false) (mkAuxLemma [] ty pf (cache:=false)))
def look:Nat->Ex->Ex->MetaM Ex
 |k,l,r=>do
  let W:=kC ``World
  let O:=kC ``OsState
  let q <-withLocalDeclD `w W λw=>withLocalDeclD `os O λos=>do
   let un (e:Ex):MetaM Ex:=do
    let e:=(mkApp2 e w os).headBeta
    if e.isAppOf ``openSeen || e.isAppOf ``openGood then return (<-unfoldDefinition? e).getD e
    return e
   let (a,b):=(<-un l,<-un r)
   unless a.isAppOfArity ``Prod.mk 4 && b.isAppOfArity ``Prod.mk 4 do return none
   let sh (e:Ex) (i:Nat):MetaM Ex:=mkLambdaFVars #[w,os] (e.getArg! i)
   return some (<-sh a 2,<-sh b 2,<-sh a 3,<-sh b 3)
  match k,q with
  |n+1,some (a1,b1,a2,b2)=>
   let (x,y):=(<-look n a1 b1,<-look n a2 b2)
   let (ty,pf) <-withLocalDeclD `w W λw=>withLocalDeclD `os O λos=>do
    return (<-mkForallFVars #[w,os] (<-mkEq (mkApp2 l w os).headBeta (mkApp2 r w os).headBeta),<-mkLambdaFVars #[w,os] (<-aM ``looks_pair #[mkApp2 x w os,mkApp2 y w os]))
   aux ty pf
  |_,_=>
   let P <-withLocalDeclD `w W λw=>do mkLambdaFVars #[w] (<-mkEq (mkApp l w).headBeta (mkApp r w).headBeta)
   discard <| prep P
   let e <-byKernelQuick P []
   withLocalDeclD `w W λw=>withLocalDeclD `os O λos=>do mkLambdaFVars #[w,os] (<-aM ``congrFun #[mkApp e w,os])
def most:Nat:=3000
def left(g:MVarId)(pE:Ex)(p:Program)(_:List String):MetaM Unit:=g.withContext do
 let a:=(<-instantiateMVars (<-g.getType)).consumeMData.getAppArgs
 let some N <-(Meta.evalNat a[7]!).run|throwError "no number"
 let (.ok t,.ok t'):=(<-traceTop p N 1,<-traceTop p N 2)|throwError "no trace"
 let tb:=kC ``treeTable
 let (W,O):=(kC ``World,kC ``OsState)
 let m0:=nL t.s0.heap.objs.size
 let ann:=toExpr t.ann
 let main <-aM ``Program.main #[pE]
 let op <-aM ``opening #[pE]
 let e1 <-aux (<-mkEq op (mkApp (kC ``plainProg) (<-aM ``Scope.names #[<-aM ``Module.scope #[main]]))) (<-mkEqRefl op)
 let e2 <-withLocalDeclD `s (kC ``Shared) λs=>do
  let r <-aM ``some #[s]
  aux (<-mkForallFVars #[s] (<-mkEq (mkApp2 (kC ``fenceModules?) pE s) r)) (<-mkLambdaFVars #[s] (<-mkEqRefl r))
 let e3 <-mkDecideProof (<-mkEq (mkApp2 (kC ``Nat.ble) (nL 600) a[7]!) (kC ``Bool.true))
 let boot:=mkAppN (kC ``boot_open) #[pE,a[7]!,e1,e3,e2]
 let bE <-aM ``behindTheImports #[pE]
 let some cells <-cellsD? bE|throwError "no body"
 let env0 <-Elab.Term.TermElabM.run' do
  let s1 <-Elab.Term.exprToSyntax (<-aM ``Module.scope #[main])
  let s2 <-Elab.Term.exprToSyntax (toExpr t.code)
  let e <-Elab.Term.withSynthesize (Elab.Term.elabTermEnsuringType (<-`(({ scope:=$s1,locals:=mainNs,globals:=mainNs,cells:=[],code:=$s2,frame:=some $(quote t.frame)}:Env))) (kC ``Env))
  instantiateMVars e
 let env <-defAt `env (kC ``Env) env0
 let fp:=toExpr t.framePos
 let cE:=mkApp2 (kC ``Code.body) bE env
 let B:=listE (kC ``Frame) [mkApp (kC ``topFrame) fp]
 let go (f:Name) (more:Array Ex) (n:Nat) (w s th:Ex):Ex:=mkAppN (kC f) (#[tb,pE,w,m0,ann]++more++#[nL n,s,th])
 let one:=#[nL 1]
 let piece (rows:List String) (l r:Ex->Ex->MetaM Ex):MetaM Ex:=do
  for x in [pE,env] do discard <| prep x
  byPiece rows l r
 let ends (S:Ex) (pos:Pos):MetaM Ex:=do aM ``some #[<-aM ``Prod.mk #[kC ``Flow.next,<-aM ``Prod.mk #[S,<-aM ``Prod.mk #[cE,toExpr pos]]]]
 let rowsOf (x y:Snap):=(x.rows++y.rows).eraseDups
 let mut o:Objs:=#[]
 for i in [0:t.s0.heap.objs.size] do o:=o.push (t.s0.heap.objs[i]!,t'.s0.heap.objs[i]!,kC ((`PySem.W).str s!"boot_o_{i}"))
 let S0:PySem.W.State:={ heap:=kC ``boot_heap,gens:=mkApp2 (kC ``Array.mk [0]) (kC ``GenState) (mkApp (kC ``List.nil [0]) (kC ``GenState)),drawn:=kC ``boot_drawn,toks:=kC ``boot_toks}
 let (o1,Sa) <-state true o t.pre.s t'.pre.s
 let thA:=mkApp4 (kC ``Thread.mk) (mkApp2 (kC ``denote) tb cE) cE (toExpr t.pre.pos) B
 let stub:=mkApp (kC ``topStub) pE
 let pre <-piece (rowsOf t.pre t'.pre) (λw os=>pure (go ``topGo #[] t.pre.steps w (S0.at w os) stub)) λw os=>do aM ``some #[<-aM ``Prod.mk #[Sa.at w os,thA]]
 let (o2,Sb) <-state false o1 t.block.s t'.block.s
 let block <-piece (rowsOf t.block t'.block) (λw os=>pure (go ``segRun one t.block.steps.succ w (Sa.at w os) (mkAppN (kC ``blockOf) #[bE,env,cE,toExpr t.pre.pos,B]))) λw os=>ends (Sb.at w os) t.block.pos
 let mut gs:Array (List Ex×Nat×Snap×Snap×List String):=#[]
 for (st,x,x') in cells.zip (t.pieces.zip t'.pieces) do
  let k:=max x.steps x'.steps
  let rs:=rowsOf x x'
  match gs.back? with
  |some (l,n,_,_,r)=>
   if n+k<=most && (r++rs).eraseDups.length<=3 then gs:=gs.pop.push (l++[st],n+k,x,x',(r++rs).eraseDups) else gs:=gs.push ([st],k,x,x',rs)
  |none=>gs:=gs.push ([st],k,x,x',rs)
 let mut cur:=(o2,Sb,t.block.pos)
 let mut lems:=#[]
 for (sts,n,x,x',rs) in gs do
  let stE <-defAt `st (mkApp (kC ``List [0]) (kC ``Stmt)) (listE (kC ``Stmt) sts)
  discard <| prep stE
  let (o0,S1,p1):=cur
  let (o',S') <-state false o0 x.s x'.s
  let th:=mkAppN (kC ``piecesOf) #[stE,env,cE,toExpr p1,B]
  let h <-piece rs (λw os=>pure (go ``segRunT one n.succ w (S1.atT w os) th)) λw os=>ends (S'.atT w os) x.pos
  lems:=lems.push (stE,n.succ,S1,p1,S',x.pos,<-liftT h ``segRun_of)
  cur:=(o',S',x.pos)
  logInfo m!"PIECE {sts.length} {n} {x.s.heap.objs.size}"
 let (oN,SN,pN):=cur
 let (_,Sf) <-state true oN t.fin.s t'.fin.s
 let fin <-piece (rowsOf t.fin t'.fin) (λw os=>pure (go ``topRun #[] t.fin.steps.succ w (SN.at w os) (mkApp4 (kC ``Thread.mk) (mkApp (kC ``doneF) (kC ``Flow.next)) cE (toExpr pN) B))) λw os=>aM ``some #[Sf.at w os]
 let run <-withLocalDeclD `w W λw=>withLocalDeclD `os O λos=>do
  let w1 (l:Ex):MetaM Ex:=do aM ``congrFun #[mkApp l w,os]
  let r:=Sf.at w os
  let com:=#[tb,pE,w,m0,ann,env,fp]
  let mut k <-w1 fin
  let mut M:=nL t.fin.steps.succ
  let mut rest:=listE (kC ``Stmt) []
  for (stE,n,S1,p1,S',p2,h) in lems.toList.reverse do
   k:=mkAppN (kC ``piece_app) (com++#[nL n,M,S1.at w os,S'.at w os,r,stE,rest,cE,toExpr p1,toExpr p2,<-w1 h,k])
   M:=mkApp2 (kC ``Nat.add) (nL n) M
   rest <-aM ``HAppend.hAppend #[stE,rest]
  k:=mkAppN (kC ``piece_block) (com++#[nL t.block.steps.succ,M,Sa.at w os,Sb.at w os,r,bE,cE,toExpr t.pre.pos,toExpr t.block.pos,<-w1 block,k])
  M:=mkApp2 (kC ``Nat.add) (nL t.block.steps.succ) M
  k:=mkAppN (kC ``go_top) #[tb,pE,w,m0,ann,nL t.pre.steps,M,S0.at w os,Sa.at w os,r,stub,thA,<-w1 pre,k]
  M:=mkApp2 (kC ``Nat.add) (nL t.pre.steps) M
  let ty <-mkEq (mkAppN (kC ``topRun) #[tb,pE,w,m0,ann,M,S0.at w os,stub]) (<-aM ``some #[r])
  return (M,<-aux (<-mkForallFVars #[w,os] ty) (<-mkLambdaFVars #[w,os] k))
 let lem:=kC ``LeftO.of_pieces
 let (ms,_,_) <-forallMetaTelescope (<-inferType lem)
 let vs:=#[pE,a[1]!,a[2]!,a[3]!,a[4]!,a[5]!,a[6]!,a[7]!,a[8]!,S0.heap,Sf.heap,S0.gens,Sf.gens,S0.drawn,Sf.drawn,S0.toks,Sf.toks,m0,ann,run.1]
 for (m,v) in ms.zip vs do m.mvarId!.assign v
 let want (i:Nat):MetaM Ex:=do instantiateMVars (<-inferType ms[i]!)
 let .forallE n1 d1 b1 i1 <-want 21|throwError "size"
 let size <-byKernelQuick (.lam n1 d1 b1 i1) []
 let .forallE _ _ bl _ <-want 24|throwError "looks"
 let (l,r) <-withLocalDeclD `w W λw=>do
  let some (_,l,r):=(bl.instantiate1 w).eq?|throwError "looks"
  return (<-mkLambdaFVars #[w] l,<-mkLambdaFVars #[w] r)
 let h <-look 12 l r
 let looks <-withLocalDeclD `w W λw=>do
  let f <-withLocalDeclD `os O λos=>mkLambdaFVars #[os] (mkApp2 h w os)
  mkLambdaFVars #[w] (<-aM ``funext #[f])
 g.assign (mkAppN lem (vs++#[boot,size,run.2,<-mkDecideProof (<-want 23),looks]))
simproc_decl hd0 (PySem.W.OpenLaw.Holds _):=λe=>do
 if let .const (.str p s) _:=e.appArg! then twin 9 (p.str ("p"++(s.drop 1).toString))
 return .continue
simproc_decl hd (PySem.W.OpenRow.Holds _):=λ_=>do
 PySem.W.leftPieces.set (some left)
 return .continue
end Carry.Hd
noncomputable section
set_option Elab.async false
set_option maxRecDepth 100000
set_option tactic.hygienic false
abbrev aj:=@PySem.Value
abbrev ay:=@PySem.Shared
abbrev ah:=@PySem.Addr
abbrev ai:=@Option.{0}
abbrev lq:=@PySem.FuncData
abbrev c8:=@PySem.Around
abbrev dB:=@PySem.Program
abbrev oK:=@PySem.NameKind
abbrev b_:=@PySem.Heap
abbrev cI:=@PySem.World
abbrev aL:=@PySem.W.Frag
abbrev fU:=@PySem.W.Frag
namespace L2
open PySem PySem.Spec PyProof.Rows
abbrev Key:=Sum Int Str
noncomputable def we:Key->aj->Bool
 |.inl k,v=>Value.isInt k v
 |.inr x,v=>Value.isStrOf x v
noncomputable def K9(w:cI):Key->Int
 |.inl k=>hashInt k
 |.inr x=>hashStr w x
theorem xG:∀{k:Key} {v:aj},we k v=true->(∃i t,k=Sum.inl i/\v=Value.int i t)\/(∃x t,k=Sum.inr x/\v=Value.str x t)
 |.inl i,v,h=>by
  obtain⟨t,e⟩:=Value.isInt_shape (k:=i) (v:=v) h;exact .inl ⟨i,t,rfl,e⟩
 |.inr x,v,h=>by
  obtain⟨t,e⟩:=Value.isStrOf_shape (x:=x) (v:=v) h;exact .inr ⟨x,t,rfl,e⟩
def ZP(a b:Int):decide ((Sum.inl a:Key)=Sum.inl b)=(a == b):=by
 by_cases e:a=b
 .subst e;simp
 .have h:¬(Sum.inl a:Key)=Sum.inl b:=λq=>e (Sum.inl.inj q)
  rw[oM h];exact(qJ.mpr e).symm
def ZQ(a b:Str):decide ((Sum.inr a:Key)=Sum.inr b)=decide (a=b):=by
 by_cases e:a=b
 .subst e;simp
 .have h:¬(Sum.inr a:Key)=Sum.inr b:=λq=>e (Sum.inr.inj q)
  rw[oM h,oM e]
def ZR(a:Int)(b:Str):decide ((Sum.inl a:Key)=Sum.inr b)=false:=oM (λq=>nomatch q)
def ZS(a:Str)(b:Int):decide ((Sum.inr a:Key)=Sum.inl b)=false:=oM (λq=>nomatch q)
def Jd(prog:dB)(w:cI):PySem.KeyKind prog w Key where
 is:=we
 hash:=K9 w
 inj:=λv a b ha hb=>by
  grind [xG]
 byValue:=λk v h=>by
  rcases xG h with⟨i,t,rfl,rfl⟩|⟨x,t,rfl,rfl⟩ <;> rfl
 pyHash:=λhv h=>by
  rcases xG hv with⟨i,t,rfl,rfl⟩|⟨x,t,rfl,rfl⟩
  .exact wpAny_pyHash_int h
  .exact wpAny_pyHash_str h
 eqBool:=λhu hv h=>by
  rcases xG hu with⟨i,t,rfl,rfl⟩|⟨x,t,rfl,rfl⟩
  .rcases xG hv with⟨j,u,rfl,rfl⟩|⟨y,u,rfl,rfl⟩
   .rw[ZP] at h;exact wpAny_eqBool_int h
   .rw[ZR] at h;exact SeqAt.EqAt.int_str i t y u _ _ _ _ h
  .rcases xG hv with⟨j,u,rfl,rfl⟩|⟨y,u,rfl,rfl⟩
   .rw[ZS] at h;exact SeqAt.EqAt.str_int x t j u _ _ _ _ h
   .rw[ZQ] at h;exact wpAny_eqBool_str h
 «strs»:=λk x t v h=>by
  rcases xG h with⟨i,u,rfl,e⟩|⟨y,u,rfl,e⟩
  .exact nomatch e
  .injection e with e1 _;subst e1;cases v <;> rfl
inductive V where
 |aI|bl (b:Bool)|int (i:Int)|str (x:Str)|vQ (b:Array UInt8)|AE (b:UInt64)|ref (a:ah)|ty (n:String)
 deriving DecidableEq
def RelV:V->aj->Prop
 |.aI,u=>u=Value.none
 |.bl b,u=>u=Value.bool b
 |.int i,u=>∃t,u=Value.int i t
 |.str x,u=>∃t,u=Value.str x t
 |.vQ b,u=>∃t,u=Value.bytes b t
 |.AE b,u=>∃t,u=Value.float b t
 |.ref a,u=>u=Value.ref a
 |.ty n,u=>u=Value.type n
abbrev Vals:List V->List aj->Prop:=Paired RelV
theorem Vals.length(r:Vals xs us):xs.length=us.length:=Paired.length r
theorem Vals.get:∀{xs:List V} {us:List aj} {i:Nat} {x:V},Vals xs us->xs[i]?=some x->∃u,us[i]?=some u/\RelV x u
 |_,_,_,_,.nil,e=>by simp at e
 |_,_,0,_,.cons r _,e=>by simp at e;subst e;exact⟨_,rfl,r⟩
 |_,_,i+1,x,.cons _ t,e=>by
  obtain⟨u,h1,h2⟩:=Vals.get (i:=i) (x:=x) t (by simpa using e)
  exact⟨u,by simpa using h1,h2⟩
theorem Vals.set(r:RelV x u):∀{xs:List V} {us:List aj} (i:Nat),Vals xs us->Vals (xs.set i x) (us.set i u)
 |_,_,_,.nil=>.nil
 |_,_,0,.cons _ t=>.cons r t
 |_,_,i+1,.cons q t=>.cons q (Vals.set r i t)
def Vals.append(h:Vals xs us)(s:Vals ys ws):Vals (xs++ys) (us++ws):=by
 induction h with
 |nil=>exact s
 |cons r t ih=>exact .cons r ih
theorem Vals.take:∀{xs:List V} {us:List aj} (n:Nat),Vals xs us->Vals (xs.take n) (us.take n)
 |_,_,0,_=>.nil
 |_,_,_+1,.nil=>.nil
 |_,_,n+1,.cons r t=>.cons r (Vals.take n t)
theorem Vals.drop:∀{xs:List V} {us:List aj} (n:Nat),Vals xs us->Vals (xs.drop n) (us.drop n)
 |_,_,0,r=>r
 |_,_,_+1,.nil=>.nil
 |_,_,n+1,.cons _ t=>Vals.drop n t
def iR:ai V->ai aj->Prop
 |some v,some u=>RelV v u
 |none,none=>True
 |_,_=>False
def KV:List (κ×V)->List (κ×aj)->Prop:=Paired λ(p:κ×V) (q:κ×aj)=>p.1=q.1/\RelV p.2 q.2
noncomputable def kV:Key->V
 |.inl i=>.int i
 |.inr x=>.str x
inductive TK where
 |inl (i:Int)|inr (x:Str)|tp (l:List TK)|aI
mutual
def TK.beq:TK->TK->Bool
 |.inl a,.inl b=>decide (a=b)
 |.inr a,.inr b=>decide (a=b)
 |.tp l,.tp m=>TK.uB l m
 |.aI,.aI=>true
 |_,_=>false
def TK.uB:List TK->List TK->Bool
 |[],[]=>true
 |a::l,b::m=>TK.beq a b&&TK.uB l m
 |_,_=>false
end
mutual
theorem TK.beq_iff:∀a b:TK,TK.beq a b=true↔a=b
 |.inl a,.inl b=>⟨λe=>by rw[tD (show decide (a=b)=true from e)],λe=>by cases e;exact nK rfl⟩
 |.inr a,.inr b=>⟨λe=>by rw[tD (show decide (a=b)=true from e)],λe=>by cases e;exact nK rfl⟩
 |.tp l,.tp m=>⟨λe=>by rw[(TK.kb l m).mp e],λe=>by cases e;exact(TK.kb l l).mpr rfl⟩
 |.inl _,.inr _=>⟨λe=>(nomatch (show false=true from e)),λe=>(nomatch e)⟩
 |.inl _,.tp _=>⟨λe=>(nomatch (show false=true from e)),λe=>(nomatch e)⟩
 |.inr _,.inl _=>⟨λe=>(nomatch (show false=true from e)),λe=>(nomatch e)⟩
 |.inr _,.tp _=>⟨λe=>(nomatch (show false=true from e)),λe=>(nomatch e)⟩
 |.tp _,.inl _=>⟨λe=>(nomatch (show false=true from e)),λe=>(nomatch e)⟩
 |.tp _,.inr _=>⟨λe=>(nomatch (show false=true from e)),λe=>(nomatch e)⟩
 |.aI,.aI=>⟨λ_=>rfl,λ_=>rfl⟩
 |.aI,.inl _=>⟨λe=>(nomatch (show false=true from e)),λe=>(nomatch e)⟩
 |.aI,.inr _=>⟨λe=>(nomatch (show false=true from e)),λe=>(nomatch e)⟩
 |.aI,.tp _=>⟨λe=>(nomatch (show false=true from e)),λe=>(nomatch e)⟩
 |.inl _,.aI=>⟨λe=>(nomatch (show false=true from e)),λe=>(nomatch e)⟩
 |.inr _,.aI=>⟨λe=>(nomatch (show false=true from e)),λe=>(nomatch e)⟩
 |.tp _,.aI=>⟨λe=>(nomatch (show false=true from e)),λe=>(nomatch e)⟩
theorem TK.kb:∀l m:List TK,TK.uB l m=true↔l=m
 |[],[]=>⟨λ_=>rfl,λ_=>rfl⟩
 |a::l,b::m=>by show(TK.beq a b&&TK.uB l m)=true↔_;rw[jU,TK.beq_iff a b,TK.kb l m];exact⟨λe=>by rw[e.1,e.2],λe=>by cases e;exact⟨rfl,rfl⟩⟩
 |[],_::_=>⟨λe=>(nomatch (show false=true from e)),λe=>(nomatch e)⟩
 |_::_,[]=>⟨λe=>(nomatch (show false=true from e)),λe=>(nomatch e)⟩
end
instance:DecidableEq TK:=λa b=>decidable_of_iff _ (TK.beq_iff a b)
mutual
def TK.hash(w:cI):TK->Int
 |.inl i=>hashInt i
 |.inr x=>hashStr w x
 |.tp l=>reduceHash (Builtin.Tuple.tupleHashOf (TK.eH w l))
 |.aI=>4238894112
def TK.eH(w:cI):List TK->List Int
 |[]=>[]
 |a::l=>TK.hash w a::TK.eH w l
end
def TK.ok:Nat->TK->Bool
 |n+1,.tp l=>l.all (TK.ok n)
 |0,.tp _=>false
 |_,_=>true
def jb(w:cI)(e:TK×V×V)(x:DictEntry):Prop:=x.hash=e.1.hash w/\RelV e.2.1 x.key/\RelV e.2.2 x.val/\e.1.ok 8=true
inductive HO where
  |lst (xs:List V)
  |tup (xs:List V)
  |dK (kvs:List (Key×V))|dT (kvs:List (List Key×V))
  |dG (es:List (TK×V×V)) (ep:Nat)
  |set (S:Int->Bool) (n:Nat)
  |ins (C dx:ah) (fs:List (Str×V))
  |own (x:ah)
  |xd (fs:List (Str×V))
  |met (f x:ah)
  |LD (lo hi:Int)
  |Y (o:Obj) (u:HO)
  |zK (ps:Array aj)
  |ext (φ:b_->Prop)
abbrev Hp:=ah->ai HO
noncomputable def upd(H:Hp)(a:ah)(o:HO):Hp:=λb=>if b=a then some o else H b
theorem aK:upd H a o a=some o:=by unfold upd;rw[bJ rfl]
theorem dI(h:b≠a):upd H a o b=H b:=by unfold upd;rw[br h]
def Xa:upd (upd H a o) a u=upd H a u:=by
 funext b;unfold upd;split <;> rfl
def rB{H:Hp}(h:H a=some o)(h':H b=none):a≠b:=by
 lia
section
variable(P:dB)(w:cI)
def bH(H:Hp)(h:b_)(a:ah):HO->Prop
 |.lst xs=>xs.length<=sizeLine/\∃(aH:List aj) (n:Nat),Vals xs aH/\h.get? a=some { cls:=.type "list",data:=.seq aH.toArray n}
 |.tup xs=>xs.length<=sizeLine/\∃aH:List aj,Vals xs aH/\IsTup h a aH.toArray
 |.dK kvs=>kvs.length<=sizeLine/\(a == sysModules)=false/\∃vs,KV kvs vs/\h.DictOf (Jd P w) a vs
 |.dT kvs=>kvs.length<=sizeLine/\(a == sysModules)=false/\∃xs:List (List Key×ah×aj),
   Paired (λ(p:List Key×V) (q:List Key×ah×aj)=>p.1=q.1/\H q.2.1=some (.tup (p.1.map kV))/\RelV p.2 q.2.2) kvs xs/\
   ∃o es ep,h.get? a=some o/\o.ExactDict/\o.data=.dict es ep/\es.toList=xs.map (entryOfKey (tupleKind (Jd P w)))/\(xs.map (·.1)).Nodup
 |.dG es ep=>es.length<=sizeLine/\(a == sysModules)=false/\∃o xs,h.get? a=some o/\o.ExactDict/\o.data=.dict xs ep/\Paired (jb w) es xs.toList/\(es.map (·.1)).Nodup
 |.set S n=>h.SetOf (intKind P w) a S n
 |.ins C dx fs=>H dx=some (.own a)/\fs.length<=1000/\dx≠a/\h.get? a=some (PySem.W.instObj C dx)/\
   ∃mA,h.Ns1 dx mA/\(∀f,iR (fs.lookup f) (mA f))/\PySem.Within mA (fs.map (·.1))
 |.own _=>∃o,h.get? a=some o
 |.xd fs=>∃mA,h.Ns1 a mA/\∀f,iR (fs.lookup f) (mA f)
 |.LD lo hi=>∃t u v,h.get? a=some { cls:=.type "range",data:=.fields #[.int lo t,.int hi u,.int 1 v]}
 |.Y o u=>h.get? a=some o/\bH H h a u
 |.zK ps=>h.get? a=some { cls:=.none,data:=.fields ps}
 |.met f x=>h.get? a=some (PySem.W.methodObj (.ref f) (.ref x))
 |.ext φ=>φ h/\(∃o,h.get? a=some o)/\∀h1 h2:b_,φ h1->(∀o,h1.get? a=some o->h2.get? a=some o)->φ h2
def jj(H:Hp)(h:b_):Prop:=∀a o,H a=some o->bH P w H h a o
end
section
variable{P:dB}{w:cI}{H H':Hp}{h h':b_}{a:ah}{o:HO}
theorem bH.lt(x:bH P w H h a o):a<h.objs.size:=by
 cases o with
 |lst xs=>obtain⟨_,_,_,_,e⟩:=x;exact cX e
 |tup xs=>obtain⟨_,_,_,p⟩:=x;exact p.lt
 |dK kvs=>obtain⟨_,_,_,_,o,_,_,e,_⟩:=x;exact cX e
 |dT kvs=>obtain⟨_,_,_,_,o,_,_,e,_⟩:=x;exact cX e
 |dG es ep=>obtain⟨_,_,o,_,e,_⟩:=x;exact cX e
 |set S n=>obtain⟨o,_,_,_,e,_⟩:=x;exact cX e
 |ins C dx fs=>obtain⟨_,_,_,e,_⟩:=x;exact cX e
 |own y=>obtain⟨_,e⟩:=x;exact cX e
 |xd fs=>obtain⟨_,⟨_,_,_,e,_⟩,_⟩:=x;exact cX e
 |LD lo hi=>obtain⟨_,_,_,e⟩:=x;exact cX e
 |Y ob u=>obtain⟨e,_⟩:=x;exact cX e
 |zK ps=>exact cX (show h.get? a=some _ from x)
 |met f y=>exact cX (show h.get? a=some _ from x)
 |ext φ=>obtain⟨_,⟨_,e⟩,_⟩:=x;exact cX e
def Paired.Dv{l₂:List β}(h:Paired F l₁ l₂)(f:∀a b,F a b->G a b):Paired G l₁ l₂:=by
 induction h with
 |nil=>exact .nil
 |cons r t ih=>exact .cons (f _ _ r) ih
def bH.mH(x:bH P w H h a o)(k:∀b u,(b=a\/H b=some (.own a))->h.get? b=some u->h'.get? b=some u)
  (ho:∀b,H b=some (.own a)->H' b=some (.own a)) (ht:∀b xs,H b=some (.tup xs)->H' b=some (.tup xs)):bH P w H' h' a o:=by
 induction o with
 |lst xs=>obtain⟨z,aH,n,r,e⟩:=x;exact⟨z,aH,n,r,k _ _ (.inl rfl) e⟩
 |tup xs=>obtain⟨z,aH,r,ob,e,c⟩:=x;exact⟨z,aH,r,ob,k _ _ (.inl rfl) e,c⟩
 |dK kvs=>obtain⟨z,y,vs,r,ob,es,ep,e,c⟩:=x;exact⟨z,y,vs,r,ob,es,ep,k _ _ (.inl rfl) e,c⟩
 |dT kvs=>
  obtain⟨z,y,xs,r,ob,es,ep,e,c⟩:=x;exact⟨z,y,xs,Paired.Dv r λp q z=>⟨z.1,ht _ _ z.2.1,z.2.2⟩,ob,es,ep,k _ _ (.inl rfl) e,c⟩
 |dG es ep=>obtain⟨z,y,ob,xs,e,c⟩:=x;exact⟨z,y,ob,xs,k _ _ (.inl rfl) e,c⟩
 |set S n=>obtain⟨ob,es,ep,t,e,c⟩:=x;exact⟨ob,es,ep,t,k _ _ (.inl rfl) e,c⟩
 |ins C dx fs=>
  obtain⟨d,z,ne,e,mA,⟨od,es,ep,e2,c⟩,r⟩:=x;exact⟨ho _ d,z,ne,k _ _ (.inl rfl) e,mA,⟨od,es,ep,k _ _ (.inr d) e2,c⟩,r⟩
 |own y=>obtain⟨ob,e⟩:=x;exact⟨ob,k _ _ (.inl rfl) e⟩
 |xd fs=>obtain⟨mA,⟨od,es,ep,e,c⟩,r⟩:=x;exact⟨mA,⟨od,es,ep,k _ _ (.inl rfl) e,c⟩,r⟩
 |LD lo hi=>obtain⟨t,u,v,e⟩:=x;exact⟨t,u,v,k _ _ (.inl rfl) e⟩
 |Y ob u ih=>obtain⟨e,q⟩:=x;exact⟨k _ _ (.inl rfl) e,ih q⟩
 |zK ps=>
  have e:h.get? a=some { cls:=.none,data:=.fields ps}:=x;show h'.get? a=some { cls:=.none,data:=.fields ps};exact k a _ (.inl rfl) e
 |met f y=>
  have e:h.get? a=some (PySem.W.methodObj (.ref f) (.ref y)):=x;show h'.get? a=some (PySem.W.methodObj (.ref f) (.ref y));exact k a _ (.inl rfl) e
 |ext φ=>obtain⟨p,⟨o,e⟩,st⟩:=x;exact⟨st _ _ p λo q=>k _ _ (.inl rfl) q,⟨o,k _ _ (.inl rfl) e⟩,st⟩
theorem jj.lt(x:jj P w H h)(e:H a=some o):a<h.objs.size:=(x a o e).lt
def jj.fresh(x:jj P w H h)(e:h.objs.size<=a):H a=none:=by
 cases q:H a with
 |none=>rfl
 |some u=>exact cR (gK (x.lt q) e) (jV _)
def jj.kept(x:jj P w H h)(k:∀b u,h.get? b=some u->h'.get? b=some u):jj P w H h':=λa o e=>
 (x a o e).mH (λb u _ q=>k b u q) (λ_ q=>q) λ_ _ q=>q
def jj.laid(x:jj P w H h)(k:∀b u,h.get? b=some u->h'.get? b=some u)(hp:h.objs.size<=a)(new:bH P w (upd H a o) h' a o):jj P w (upd H a o) h':=λb u e=>by
 have hn:=x.fresh hp;by_cases hb:b=a
 .subst hb;rw[aK] at e;cases e;exact new
 .rw[dI hb] at e;exact(x b u e).mH (λc v _ q=>k c v q) (λc q=>by rw[dI (rB q hn)];exact q) λc xs q=>by rw[dI (rB q hn)];exact q
end
def Rd(H:Hp)(a:ah)(u:HO):Prop:=H a=some u\/∃o,H a=some (.Y o u)
def Rd.ok(r:Rd H a u)(x:jj P w H h):bH P w H h a u:=by
 rcases r with r|⟨o,r⟩
 .exact x a u r
 .obtain⟨_,q⟩:=x a _ r;exact q
def Bm:ai HO->Prop
 |some (.lst _)=>True
 |some (.dK _)=>True
 |some (.dT _)=>True
 |some (.dG _ _)=>True
 |some (.set _ _)=>True
 |some (.ins _ _ _)=>True
 |some (.ext _)=>True
 |_=>False
section
variable{P:dB}{w:cI}{H:Hp}{h h':b_}{x e:ah}{o':HO}
def jj.write(ok:jj P w H h)(mu:Bm (H x))(he:e=x\/H e=some (.own x))(k:∀b u,b≠e->h.get? b=some u->h'.get? b=some u)(AJ:∃u,h'.get? e=some u)
  (new:bH P w (upd H x o') h' x o'):jj P w (upd H x o') h':=λb u q=>by
 have Lh:∀c y,H c=some (.own y)->c≠x:=λc y r z=>by subst z;rw[r] at mu;exact mu
 have Li:∀c xs,H c=some (.tup xs)->c≠x:=λc xs r z=>by subst z;rw[r] at mu;exact mu
 by_cases hb:b=x
 .grind [aK]
 .rw[dI hb] at q;by_cases AG:b=e
  .have q':H b=some (.own x):=by
    rcases he with z|z
    .exact cR (AG.trans z) hb
    .rw[AG];exact z
   rw[q] at q';cases q';obtain⟨v,hv⟩:=AJ;exact⟨v,by rw[AG];exact hv⟩
  .refine(ok b u q).mH (λc v hc r=>k c v ?_ r) (λc r=>by rw[dI (Lh c b r)];exact r) λc xs r=>by rw[dI (Li c xs r)];exact r
   grind
end
structure Un (fs ex:List ah) (H H':Hp) (h h':b_):Prop where
 keep:∀b o,h.get? b=some o->H b=none->b∉fs->b∉ex->h'.get? b=some o
 slot:∀b o,h.get? b=some o->H b=none->b∈fs->b∉ex->∃sl,h'.get? b=some { o with slots:=sl}
 free:∀b o,h.get? b=some o->H b=none->b∉ex->H' b=none
 there:∀b o,h.get? b=some o->b∉ex->∃o',h'.get? b=some o'
 k9:∀b xs,H b=some (.tup xs)->H' b=some (.tup xs)
 ko:∀b o u,H b=some (.Y o u)->H' b=some (.Y o u)
 k8:∀b ps,H b=some (.zK ps)->∃more,H' b=some (.zK (ps++more))
section
variable{fs AF ex ex':List ah}{H H1 H2:Hp}{h h1 h2 h':b_}{a x e:ah}{o:HO}
def Un.any(u:Un fs ex H H1 h h1)(q:h.get? b=some ob)(n:H b=none)(hx:b∉ex):∃sl,h1.get? b=some { ob with slots:=sl}:=by
 by_cases hb:b∈fs
 .exact u.slot b ob q n hb hx
 .exact⟨ob.slots,u.keep b ob q n hb hx⟩
def Un.kept(k:∀b u,h.get? b=some u->h'.get? b=some u):Un fs ex H H h h':=
 ⟨λb ob q _ _ _=>k b ob q,λb ob q _ _ _=>⟨ob.slots,k b ob q⟩,λ_ _ _ n _=>n,λb ob q _=>⟨ob,k b ob q⟩,λ_ _ q=>q,λ_ _ _ q=>q,λ_ ps q=>⟨#[],by rw[q];simp⟩⟩
def Un.refl:Un fs ex H H h h:=Un.kept λ_ _ q=>q
def Un.laid(k:∀b u,h.get? b=some u->h'.get? b=some u)(hp:h.objs.size<=a)(hn:H a=none):Un fs ex H (upd H a o) h h' where
 keep:=λb u q _ _ _=>k b u q
 slot:=λb u q _ _ _=>⟨u.slots,k b u q⟩
 free:=λb u q n _=>by rw[dI (ie (gK (cX q) hp))];exact n
 there:=λb u q _=>⟨u,k b u q⟩
 k9:=λb xs q=>by rw[dI (rB q hn)];exact q
 ko:=λb u xs q=>by rw[dI (rB q hn)];exact q
 k8:=λb ps q=>⟨#[],by rw[dI (rB q hn),q];simp⟩
def Un.write(mu:Bm (H x))(he:e=x\/H e=some (.own x))(k:∀b u,b≠e->h.get? b=some u->h'.get? b=some u)(AJ:∃u,h'.get? e=some u):Un fs ex H (upd H x o) h h':=by
 have hx:∀b,H b=none->b≠x:=λb n z=>by subst z;rw[n] at mu;exact mu
 have hb:∀b,H b=none->b≠e:=λb n z=>by
  subst z;rcases he with r|r
  .exact hx b n r
  .rw[n] at r;cases r
 have hm:∀b u,H b=some u->¬Bm (some u)->b≠x:=λb u q nm z=>by subst z;rw[q] at mu;exact nm mu
 refine⟨λb u q n _ _=>k b u (hb b n) q,λb u q n _ _=>⟨u.slots,k b u (hb b n) q⟩,λb u q n _=>by rw[dI (hx b n)];exact n,λb u q _=>?_,
  λb xs q=>by rw[dI (hm b _ q λz=>z)];exact q,λb u xs q=>by rw[dI (hm b _ q λz=>z)];exact q,λb ps q=>⟨#[],by rw[dI (hm b _ q λz=>z),q];simp⟩⟩
 by_cases AG:b=e
 .subst AG;exact AJ
 .exact⟨u,k b u AG q⟩
end
noncomputable def Hi(h:b_)(H:Hp):List ah:=(List.range h.objs.size).filter λa=>(H a).isSome
def md(h:b_)(H:Hp):b_:=PySem.W.hideAll h (Hi h H)
def T4(h:b_)(H:Hp):(md h H).objs.size=h.objs.size:=PySem.W.hideAll_size _ _
def Vl(e:h.get? b=some o)(n:H b=none):(md h H).get? b=some o:=
 PySem.W.hideAll_get _ e λhm=>by
  have q:(H b).isSome=true:=(qE.mp hm).2;rw[n] at q;simp at q
def Xb(e:(md h H).get? b=some o):h.get? b=some o/\H b=none:=by
 have e':h.get? b=some o:=PySem.W.of_hideAll (Hi h H) e;refine⟨e',?_⟩;cases q:H b with
 |none=>rfl
 |some x=>
  have hm:b∈Hi h H:=qE.mpr ⟨qp.mpr (cX e'),by simp[q]⟩
  have z:(md h H).get? b=none:=PySem.W.hideAll_none (Hi h H) hm;rw[z] at e;cases e
variable{t' i:Nat}{ch:List ah}{x:Str}{M:Model}{A:c8}{E:aj->ay->Prop}{v:V}{u:aj}{Q:Unit->ay->Prop}
structure Mod (K:aL) (mg:Str->ai aj) (base:b_):Prop where
 AS:K.In base
 glob:base.Ns mainGlobals mg
 blt:∃mb,base.Ns builtinsNs mb/\∀x:Str,x≠"__name__"->mb x=bootBuiltins x
 nolimit:base.NoLimit
set_option genInjectivity false in
structure Cx where
 prog:dB
 w:cI
 K:aL
 mg:Str->ai aj
 base:b_
 A:c8
 N:List Str
 s₀:ay
 H₀:Hp
 env:Env
 outer:List Env
 stack:List Env
 ex:List ah
 fn:Str->Bool
 calm:Bool
 pn:List (ah×Obj)
 xe:aj->ay->Prop
noncomputable def km(l:List Env):List ah:=l.filterMap (·.frame)
abbrev Cx.fs(X:Cx):List ah:=km X.outer
def HE(sc:Scope)(x:Str):Prop:=sc.names.lookup x=some .local \/ sc.names.lookup x=some .cell\/sc.names.lookup x=some .free
def Loc(sc:Scope)(x:Str):Prop:=sc.names.lookup x=some .local \/ sc.names.lookup x=some .cell
def Look(env:Env)(h:b_)(m:Str->ai aj)(x:Str)(u:aj):Prop:=
 (env.kindOf x=some .local /\ m x=some u)\/((env.kindOf x=some .cell\/env.kindOf x=some .free)/\∃c,env.cells.lookup x=some c/\h.IsCell c (some u))
structure Cx.Ok (X:Cx):Prop where
 mod:Mod X.K X.mg X.base
 kind:X.env.scope.kind=.function
 glob:X.env.globals=mainGlobals
 blt:X.env.builtins=builtinsNs
 above:X.s₀.heap.objs.size<=X.env.locals
 inj:∀x y c,X.env.cells.lookup x=some c->X.env.cells.lookup y=some c->x=y
 has:∀x,(X.env.kindOf x=some .cell\/X.env.kindOf x=some .free)->∃c,X.env.cells.lookup x=some c
 yp:∀x c,X.fn x=true->X.env.cells.lookup x=some c->X.s₀.heap.objs.size<=c
 hd:X.calm=true->X.A.handled=none
 frames:X.A.frames=some X.stack
 A2:X.stack=X.outer\/(X.stack=X.env::X.outer/\X.env.frame=some X.env.locals)
 Gz:∀b∈X.ex,b≠X.env.locals/\∀x c,X.env.cells.lookup x=some c->c≠b
 bs:∀b o,X.base.get? b=some o->X.s₀.heap.get? b=some o/\X.H₀ b=none
 rM:X.base.objs.size<=X.s₀.heap.objs.size
 oF:∀b o,X.base.get? b=some o->b∉X.ex
 qd:∀b∈X.ex,b∉X.fs
 iW:X.s₀.heap.FunFrames X.base X.outer
 uK:∀b∈X.fs,X.H₀ b=none
structure Inv (X:Cx) (aa:List (ah×Obj)) (Z:List (ai V)) (H:Hp) (s:ay):Prop where
 ok:X.Ok
 os:s.os=X.s₀.os
 bare:AllBare s.gens
 base:Un X.fs X.ex X.H₀ H X.s₀.heap s.heap
 loc:∃m,s.heap.Ns X.env.locals m/\∀(i:Nat) (x:Str) (v:V),X.N[i]?=some x->Z[i]?=some (some v)->HE X.env.scope x->∃u,RelV v u/\Look X.env s.heap m x u
 cell:∀x c,X.env.cells.lookup x=some c->∃v,s.heap.IsCell c v
 free:H X.env.locals=none
 eW:∀x c,X.env.cells.lookup x=some c->H c=none
 pin:∀p∈X.pn++aa,s.heap.get? p.1=some p.2/\H p.1=none/\p.1≠X.env.locals/\p.1∉X.fs/\∀v,p.2.data≠.cell v
 bD:jj X.prog X.w H s.heap
 len:Z.length=X.N.length
section
variable{X:Cx}{aa:List (ah×Obj)}{Z:List (ai V)}{H H':Hp}{s:ay}{h':b_}
def Cx.Ok.Lg(ok:X.Ok)(e:X.base.get? b=some o):b∉X.fs:=λhb=>by
 have:=(ok.iW.mem hb).1
 lia
theorem Inv.bs(I:Inv X aa Z H s):∀b o,X.base.get? b=some o->s.heap.get? b=some o/\H b=none:=λb o e=>
 ⟨I.base.keep b o (I.ok.bs b o e).1 (I.ok.bs b o e).2 (I.ok.Lg e) (I.ok.oF b o e),I.base.free b o (I.ok.bs b o e).1 (I.ok.bs b o e).2 (I.ok.oF b o e)⟩
def Inv.bk(I:Inv X aa Z H s):∀b o,X.base.get? b=some o->s.heap.get? b=some o:=λb o e=>(I.bs b o e).1
theorem Inv.mod(I:Inv X aa Z H s):Mod X.K X.mg X.base:=I.ok.mod
def Inv.jK(I:Inv X aa Z H s):X.K.In s.heap:=I.ok.mod.AS.keeps I.bk
theorem Inv.lt(I:Inv X aa Z H s):X.env.locals<s.heap.objs.size:=let ⟨_,hn,_⟩:=I.loc;hn.lt
def Inv.sz(I:Inv X aa Z H s):X.s₀.heap.objs.size<=s.heap.objs.size:=ju I.ok.above (Mi I.lt)
def Inv.zg(I:Inv X aa Z H s)(h:s.heap.objs.size<=a):a∉X.fs:=λhb=>by
 obtain⟨_,o,ho,_⟩:=I.ok.iW.mem hb;exact cR (gK (cX ho) (ju I.sz h)) (jV _)
def Inv.yr(I:Inv X aa Z H s):∀x c,X.env.cells.lookup x=some c->c≠X.env.locals:=λx c e z=>by
 obtain⟨v,o,ho,hd⟩:=I.cell x c e;obtain⟨m,⟨o',es,ep,vX,AI,_⟩,_⟩:=I.loc
 lia
theorem Inv.iW(I:Inv X aa Z H s):s.heap.FunFrames X.base X.outer:=by
 have all:∀(l:List Env),(∀b∈km l,b∈X.fs)->X.s₀.heap.FunFrames X.base l->s.heap.FunFrames X.base l:=by
  intro l
  induction l with
  |nil=>intro _ _;trivial
  |cons env r ih=>
   intro hs hl;obtain⟨hk,⟨L,o,hf,hn,ho,hd⟩,hr⟩:=hl;have hL:L∈X.fs:=hs L (by unfold km;rw[qr,hf];exact A6)
   obtain⟨sl,e⟩:=I.base.slot L o ho (I.ok.uK L hL) hL λz=>I.ok.qd L z hL
   exact⟨hk,⟨L,_,hf,hn,e,hd⟩,ih (λb hb=>hs b (by unfold km;rw[qr,hf];exact qt _ hb)) hr⟩
 exact all X.outer (λ_ hb=>hb) I.ok.iW
def Inv.stack(I:Inv X aa Z H s):s.heap.FunFrames X.base X.stack:=by
 rcases I.ok.A2 with e|⟨e,hf⟩
 .rw[e];exact I.iW
 .rw[e];obtain⟨m,hn,_⟩:=I.loc;refine .cons (by rw[I.ok.kind];decide) hf hn ?_ I.iW
  exact Heap.get?_none_of_le (ju I.ok.rM I.ok.above)
def Inv.kH(I:Inv X aa Z H s):∀b∈km X.stack,b∈X.env.locals::X.fs:=λb hb=>by
 rcases I.ok.A2 with e|⟨e,hf⟩
 .rw[e] at hb;exact qt _ hb
 .rw[e] at hb;unfold km at hb;rw[qr,hf] at hb;exact hb
def Inv.jT(I:Inv X aa Z H s):∀b∈km X.stack,H b=none:=λb hb=>by
 rcases y09.mp (I.kH b hb) with e|hb
 .rw[e];exact I.free
 .obtain⟨_,o,ho,_⟩:=I.ok.iW.mem hb;exact I.base.free b o ho (I.ok.uK b hb) λz=>I.ok.qd b z hb
def Inv.step(I:Inv X aa Z H s)
  (kL:∀b∈ch,(b∈X.ex\/X.s₀.heap.objs.size<=b)/\b≠X.env.locals/\(∀x c,X.env.cells.lookup x=some c->c≠b)/\∀p∈X.pn++aa,p.1≠b)
  (keep:∀b o,b≠X.env.locals->b∉X.fs->b∉ch->s.heap.get? b=some o->H b=none->h'.get? b=some o)
  (slot:∀b o,b≠X.env.locals->b∈X.fs->b∉ch->s.heap.get? b=some o->H b=none->∃sl,h'.get? b=some { o with slots:=sl}) (free:∀b o,b∉ch->s.heap.get? b=some o->H b=none->H' b=none)
  (there:∀b o,b∉ch->s.heap.get? b=some o->∃o',h'.get? b=some o')
  (k9:∀b xs,H b=some (.tup xs)->H' b=some (.tup xs)) (ko:∀b o u,H b=some (.Y o u)->H' b=some (.Y o u)) (k8:∀b ps,H b=some (.zK ps)->∃more,H' b=some (.zK (ps++more)))
  (ns:∀m,s.heap.Ns X.env.locals m->h'.Ns X.env.locals m) (bD:jj X.prog X.w H' h') (hg:AllBare g') :
  Inv X aa Z H' { s with heap:=h',gens:=g',drawn:=d',toks:=t'}:=by
 have Sg:∀b o,X.s₀.heap.get? b=some o->b≠X.env.locals:=λb o e=>ie (gK (cX e) I.ok.above)
 have G8:∀b o,X.s₀.heap.get? b=some o->b∉X.ex->b∉ch:=λb o e hx hb=>by
  rcases(kL b hb).1 with z|z
  .exact hx z
  .exact cR (gK (cX e) z) (jV _)
 have cellK:∀x c,X.env.cells.lookup x=some c->∀v,s.heap.IsCell c v->h'.IsCell c v:=λx c e v ⟨o,ho,hd⟩=>by
  have uY:c∉ch:=λz=>(kL c z).2.2.1 x c e rfl
  by_cases hc:c∈X.fs
  .obtain⟨sl,q⟩:=slot c o (I.yr x c e) hc uY ho (I.eW x c e);exact⟨_,q,hd⟩
  .exact⟨o,keep c o (I.yr x c e) hc uY ho (I.eW x c e),hd⟩
 refine⟨I.ok,I.os,hg,⟨λb o e n hb hx=>?_,λb o e n hb hx=>?_,λb o e n hx=>?_,λb o e hx=>?_,λb xs e=>k9 b xs (I.base.k9 b xs e),λb o xs e=>ko b o xs (I.base.ko b o xs e),λb ps e=>?_⟩,?_,λx c e=>?_,?_,λx c e=>?_,λp hp=>?_,bD,I.len⟩
 .exact keep b o (Sg b o e) hb (G8 b o e hx) (I.base.keep b o e n hb hx) (I.base.free b o e n hx)
 .obtain⟨sl,e1⟩:=I.base.slot b o e n hb hx;obtain⟨DU,e2⟩:=slot b _ (Sg b o e) hb (G8 b o e hx) e1 (I.base.free b o e n hx);exact⟨DU,e2⟩
 .obtain⟨o',e1⟩:=I.base.there b o e hx;exact free b o' (G8 b o e hx) e1 (I.base.free b o e n hx)
 .obtain⟨o',e1⟩:=I.base.there b o e hx;exact there b o' (G8 b o e hx) e1
 .obtain⟨m1,e1⟩:=I.base.k8 b ps e;obtain⟨m2,e2⟩:=k8 b _ e1;exact⟨m1++m2,by rw[e2,Array.append_assoc]⟩
 .obtain⟨m,hn,hl⟩:=I.loc;refine⟨m,ns m hn,λi x v e1 e2 e3=>?_⟩
  obtain⟨u,r,l⟩:=hl i x v e1 e2 e3;refine⟨u,r,?_⟩;rcases l with l|⟨k,c,e,z⟩
  .exact .inl l
  .exact .inr ⟨k,c,e,cellK x c e _ z⟩
 .obtain⟨v,z⟩:=I.cell x c e;exact⟨v,cellK x c e v z⟩
 .obtain⟨m,⟨o,_,_,ho,_⟩,_⟩:=I.loc;exact free _ o (λz=>(kL _ z).2.1 rfl) ho I.free
 .obtain⟨v,o,ho,hd⟩:=I.cell x c e;exact free c o (λz=>(kL c z).2.2.1 x c e rfl) ho (I.eW x c e)
 .obtain⟨e,n,ne,nf,d⟩:=I.pin p hp;have uY:p.1∉ch:=λz=>(kL p.1 z).2.2.2 p hp rfl
  exact⟨keep p.1 p.2 ne nf uY e n,free p.1 p.2 uY e n,ne,nf,d⟩
def Inv.un(I:Inv X aa Z H s)(u:Un X.fs [] H H' s.heap h')(bD:jj X.prog X.w H' h'):Inv X aa Z H' { s with heap:=h',toks:=t'}:=by
 obtain⟨m,⟨o,es,ep,ho,r⟩,_⟩:=id I.loc;obtain⟨sl,hL⟩:=u.any ho I.free (by simp)
 exact I.step (g':=s.gens) (d':=s.drawn) (ch:=[]) (λ_ z=>nomatch z) (λb o _ hb _ e n=>u.keep b o e n hb (by simp)) (λb o _ hb _ e n=>u.slot b o e n hb (by simp)) (λb o _ e n=>u.free b o e n (by simp)) (λb o _ e=>u.there b o e (by simp)) u.k9 u.ko u.k8 (λm' hm=>by
  obtain⟨o',tU,nR,vX,r'⟩:=hm;rw[ho] at vX;cases vX;exact⟨_,tU,nR,hL,r'⟩) bD I.bare
def Inv.call(I:Inv X aa Z H s)(u:Un (km X.stack) ch H H' s.heap h')(bD:jj X.prog X.w H' h')(hg:AllBare g')
  (kL:∀b∈ch,(b∈X.ex\/X.s₀.heap.objs.size<=b)/\b≠X.env.locals/\(∀x c,X.env.cells.lookup x=some c->c≠b)/\∀p∈X.pn++aa,p.1≠b) :
  Inv X aa Z H' { s with heap:=h',gens:=g',drawn:=d',toks:=t'}:=by
 obtain⟨m,⟨o,es,ep,ho,r⟩,_⟩:=id I.loc;obtain⟨sl,hL⟩:=u.any ho I.free λz=>(kL _ z).2.1 rfl
 exact I.step (ch:=ch) kL (λb o hL hb hc e n=>u.keep b o e n (λz=>(y09.mp (I.kH b z)).elim hL hb) hc) (λb o _ _ hc e n=>u.any e n hc) (λb o hc e n=>u.free b o e n hc) (λb o hc e=>u.there b o e hc) u.k9 u.ko u.k8 (λm' hm=>by
  obtain⟨o',tU,nR,vX,r'⟩:=hm;rw[ho] at vX;cases vX;exact⟨_,tU,nR,hL,r'⟩) bD hg
def Inv.turned(I:Inv X aa Z H s)(k:∀b o,b≠it->s.heap.get? b=some o->h'.get? b=some o)(hn:H it=none)(hL:it≠X.env.locals)
  (h1:it∈X.ex\/X.s₀.heap.objs.size<=it) (h2:∀x c,X.env.cells.lookup x=some c->c≠it) (h3:∀p∈X.pn++aa,p.1≠it):Inv X aa Z H { s with heap:=h',toks:=t'}:=by
 have Si:∀b u,H b=some u->b≠it:=λb u e z=>by rw[z,hn] at e;cases e
 refine I.step (g':=s.gens) (d':=s.drawn) (ch:=[it]) (λb hb=>?_) (λb o _ _ hc e _=>k b o (λz=>hc (by simp[z])) e) (λb o _ _ hc e _=>⟨o.slots,k b o (λz=>hc (by simp[z])) e⟩) (λ_ _ _ _ n=>n)
  (λb o hc e=>⟨o,k b o (λz=>hc (by simp[z])) e⟩) (λ_ _ e=>e) (λ_ _ _ e=>e) (λb ps e=>⟨#[],by rw[e];simp⟩) (λm hm=>?_) (λb u e=>?_) I.bare
 .have e:b=it:=by simpa using hb
  subst e;exact⟨h1,hL,h2,h3⟩
 .obtain⟨o,es,ep,ho,r⟩:=hm;exact⟨o,es,ep,k _ o (Ne.symm hL) ho,r⟩
 .refine(I.bD b u e).mH (λc v hc q=>k c v ?_ q) (λ_ q=>q) λ_ _ q=>q
  rcases hc with z|z
  .rw[z];exact Si b u e
  .exact Si c _ z
def Inv.tok(I:Inv X aa Z H s)(t:Nat):Inv X aa Z H { s with toks:=t}:=I.un (h':=s.heap) (t':=t) Un.refl I.bD
theorem Inv.kept(I:Inv X aa Z H s)(k:∀b u,s.heap.get? b=some u->h'.get? b=some u):Inv X aa Z H { s with heap:=h',toks:=t'}:=I.un (Un.kept k) (I.bD.kept k)
theorem Inv.laid(I:Inv X aa Z H s)(k:∀b u,s.heap.get? b=some u->h'.get? b=some u)(hp:s.heap.objs.size<=a)(new:bH X.prog X.w (upd H a o) h' a o):
  Inv X aa Z (upd H a o) { s with heap:=h',toks:=t'}:=I.un (Un.laid k hp (I.bD.fresh hp)) (I.bD.laid k hp new)
theorem Inv.write{x e:ah}(I:Inv X aa Z H s)(mu:Bm (H x))(he:e=x\/H e=some (.own x))(k:∀b u,b≠e->s.heap.get? b=some u->h'.get? b=some u)(AJ:∃u,h'.get? e=some u)
  (new:bH X.prog X.w (upd H x o) h' x o):Inv X aa Z (upd H x o) { s with heap:=h',toks:=t'}:=I.un (Un.write mu he k AJ) (I.bD.write mu he k AJ new)
def Inv.jS(I:Inv X aa Z H s)(h:∀p∈nC,s.heap.get? p.1=some p.2/\H p.1=none/\p.1≠X.env.locals/\p.1∉X.fs/\∀v,p.2.data≠.cell v):Inv X nC Z H s:=
 ⟨I.ok,I.os,I.bare,I.base,I.loc,I.cell,I.free,I.eW,λp hp=>(gZ.mp hp).elim (λz=>I.pin p (Et _ z)) (h p),I.bD,I.len⟩
def Ob{N:List Str}(hN:N.Nodup)(a:N[i]?=some x)(b:N[j]?=some x):i=j:=by
 obtain⟨h1,e1⟩:=eQ.mp a;obtain⟨h2,e2⟩:=eQ.mp b;exact(Eu hN).mp (e1.trans e2.symm)
def ND(I:Inv X aa Z H s)(hN:X.N.Nodup)(hi:X.N[i]?=some x)(hx:Loc X.env.scope x)(r:RelV v u)
  (h:∀s',Inv X aa (Z.set i (some v)) H s'->(∃a,Heap.SameBut a s.heap s'.heap/\(a=X.env.locals\/X.env.cells.lookup x=some a))->Q () s') (hf:X.fn x=true\/X.env.scope.names.lookup x=some .local := by first|exact .inl rfl|exact .inr rfl|assumption):wpAny M A (storeName X.env x u) Q E s:=by
 obtain⟨m,hn,hl⟩:=id I.loc;have Kt:(X.env.scope.kind == .class || (X.env.scope.kind == .module&&X.env.locals != X.env.globals))=false:=by rw[I.ok.kind];rfl
 have RP:i<Z.length:=by rw[I.len];exact(eQ.mp hi).1
 have yr:=I.yr;have tracked:∀{a:ah} {h':b_},(∃o,s.heap.get? a=some o/\H a=none)->Heap.SameBut a s.heap h'->jj X.prog X.w H h':=λ{a h'} ha hs b ob e=>by
  obtain⟨_,_,hfree⟩:=ha;refine(I.bD b ob e).mH (λc w' hc q=>(hs.2 c ?_).trans q) (λ_ q=>q) λ_ _ q=>q
  lia
 rcases hx with hk|hk
 .refine wpAny_storeName_local hk hn (λh' GW hs=>?_) Kt
  obtain⟨oL,_,_,iK,_⟩:=id hn;refine h _ ⟨I.ok,I.os,I.bare,⟨λb o e n hb hx=>?_,λb o e n hb hx=>?_,I.base.free,λb o e hx=>?_,I.base.k9,I.base.ko,I.base.k8⟩,⟨_,GW,λj y v' e1 e2 e3=>?_⟩,λy c e=>?_,I.free,I.eW,λp hp=>?_,tracked ⟨oL,iK,I.free⟩ hs,by simpa using I.len⟩ ⟨_,hs,.inl rfl⟩
  .exact(hs.2 b (ie (gK (cX e) I.ok.above))).trans (I.base.keep b o e n hb hx)
  .obtain⟨sl,e1⟩:=I.base.slot b o e n hb hx;exact⟨sl,(hs.2 b (ie (gK (cX e) I.ok.above))).trans e1⟩
  .obtain⟨o',e1⟩:=I.base.there b o e hx;exact⟨o',(hs.2 b (ie (gK (cX e) I.ok.above))).trans e1⟩
  .by_cases hj:j=i
   .subst hj;rw[hi] at e1;cases e1;rw[vw RP] at e2;cases e2;exact⟨u,r,.inl ⟨hk,by simp⟩⟩
   .rw[A7 (Ne.symm hj)] at e2;obtain⟨u',r',q⟩:=hl j y v' e1 e2 e3;refine⟨u',r',?_⟩;rcases q with⟨k,e⟩|⟨k,c,e,z⟩
    .refine .inl ⟨k,?_⟩;have:y≠x:=λe=>hj (Ob hN e1 (e ▸ hi))
     simp[this,e]
    .exact .inr ⟨k,c,e,z.sameBut hs (yr y c e)⟩
  .obtain⟨w',z⟩:=I.cell y c e;exact⟨w',z.sameBut hs (yr y c e)⟩
  .obtain⟨e,n,ne,nf,d⟩:=I.pin p hp;exact⟨(hs.2 p.1 ne).trans e,n,ne,nf,d⟩
 .have C0:X.fn x=true:=by
   rcases hf with z|z
   .exact z
   .rw[z] at hk;cases hk
  obtain⟨c,hc⟩:=I.ok.has x (.inl hk);obtain⟨w',z⟩:=I.cell x c hc;refine wpAny_storeName_cell I.ok.kind hk hc z (λh' nV hs=>?_)
  obtain⟨oc,uO,KJ⟩:=id z;refine h { s with heap:=h'} ⟨I.ok,I.os,I.bare,⟨λb o e n hb hx=>?_,λb o e n hb hx=>?_,I.base.free,λb o e hx=>?_,I.base.k9,I.base.ko,I.base.k8⟩,⟨m,hn.sameBut hs (Ne.symm (yr x c hc)),λj y v' e1 e2 e3=>?_⟩,λy c' e=>?_,I.free,I.eW,λp hp=>?_,tracked ⟨oc,uO,I.eW x c hc⟩ hs,by simpa using I.len⟩ ⟨c,hs,.inr hc⟩
  .exact(hs.2 b (ie (gK (cX e) (I.ok.yp x c C0 hc)))).trans (I.base.keep b o e n hb hx)
  .obtain⟨sl,e1⟩:=I.base.slot b o e n hb hx;exact⟨sl,(hs.2 b (ie (gK (cX e) (I.ok.yp x c C0 hc)))).trans e1⟩
  .obtain⟨o',e1⟩:=I.base.there b o e hx;exact⟨o',(hs.2 b (ie (gK (cX e) (I.ok.yp x c C0 hc)))).trans e1⟩
  .by_cases hj:j=i
   .subst hj;rw[hi] at e1;cases e1;rw[vw RP] at e2;cases e2;exact⟨u,r,.inr ⟨.inl hk,c,hc,nV⟩⟩
   .rw[A7 (Ne.symm hj)] at e2;obtain⟨u',r',q⟩:=hl j y v' e1 e2 e3;refine⟨u',r',?_⟩;rcases q with q|⟨k,c',e,z'⟩
    .exact .inl q
    .refine .inr ⟨k,c',e,z'.sameBut hs ?_⟩;rintro rfl;exact hj (Ob hN e1 (I.ok.inj _ _ _ e hc ▸ hi))
  .by_cases RL:c'=c
   .subst RL;exact⟨_,nV⟩
   .obtain⟨w2,z2⟩:=I.cell y c' e;exact⟨w2,z2.sameBut hs RL⟩
  .obtain⟨e,n,ne,nf,d⟩:=I.pin p hp;refine⟨(hs.2 p.1 ?_).trans e,n,ne,nf,d⟩;intro q;rw[q,uO] at e;have q':oc=p.2:=Option.some.inj e;exact d w' (by rw[<-q'];exact KJ)
def Oc(I:Inv X aa Z H s)(hN:X.N.Nodup)(hi:X.N[i]?=some x)(hx:Loc X.env.scope x)(r:RelV v u)
  (h:∀s',Inv X aa (Z.set i (some v)) H s'->Q () s') (hf:X.fn x=true\/X.env.scope.names.lookup x=some .local := by first|exact .inl rfl|exact .inr rfl|assumption):wpAny M A (storeName X.env x u) Q E s:=
 ND I hN hi hx r (λs' I' _=>h s' I') hf
def Inv.vR(I:Inv X aa Z H s)(ho:s'.os=s.os)(u:Un (km X.stack) ch H H' s.heap s'.heap)(bD:jj X.prog X.w H' s'.heap)(hg:AllBare s'.gens)
  (kL:∀b∈ch,(b∈X.ex\/X.s₀.heap.objs.size<=b)/\b≠X.env.locals/\(∀x c,X.env.cells.lookup x=some c->c≠b)/\∀p∈X.pn++aa,p.1≠b):Inv X aa Z H' s':=by
 obtain⟨h',g',d',t',o'⟩:=s';have e:o'=s.os:=ho;subst e;exact I.call (g':=g') (t':=t') (d':=d') u bD hg kL
end
abbrev XK:=aj->ai ah->Hp->Prop
abbrev St:=List (ai V)
abbrev VK:=V->Hp->Prop
abbrev TE:=St->Hp->VK->Prop
abbrev TT:=St->Hp->(Bool->Hp->Prop)->Prop
abbrev TA:=St->Hp->(List V->Hp->Prop)->Prop
set_option genInjectivity false in
structure Ends where
 nx:St->Hp->Prop
 rt:VK
 bk:St->Hp->Prop:=λ_ _=>False
 ct:St->Hp->Prop:=λ_ _=>False
abbrev TS:=Ends->St->Hp->Prop
def EP(X:Cx)(aa:List (ah×Obj))(Z:St)(Q:VK)(u:aj)(s':ay):Prop:=∃v H',Inv X aa Z H' s'/\RelV v u/\Q v H'
def TP(X:Cx)(aa:List (ah×Obj))(Z:St)(Q:Bool->Hp->Prop)(b:Bool)(s':ay):Prop:=∃H',Inv X aa Z H' s'/\Q b H'
def AP(X:Cx)(aa:List (ah×Obj))(Z:St)(Q:List V->Hp->Prop)(us:List aj)(s':ay):Prop:=∃vs H',Inv X aa Z H' s'/\Vals vs us/\Q vs H'
def SP(X:Cx)(aa:List (ah×Obj))(D:Ends)(f:Flow)(s':ay):Prop:=
 match f with
 |.next=>∃Z' H',Inv X aa Z' H' s'/\D.nx Z' H'
 |.brk=>∃Z' H',Inv X aa Z' H' s'/\D.bk Z' H'
 |.cont=>∃Z' H',Inv X aa Z' H' s'/\D.ct Z' H'
 |.ret u=>∃v Z' H',Inv X aa Z' H' s'/\RelV v u/\D.rt v H'
def PE(X:Cx)(e:Expr)(t:TE):Prop:=
 ∀(aa:List (ah×Obj)) (s:ay) (Z:St) (H:Hp) (Q:VK),Inv X aa Z H s->t Z H Q->wpAny (model X.prog X.w) X.A (eval e X.env) (EP X aa Z Q) X.xe s
def PT(X:Cx)(e:Expr)(t:TT):Prop:=
 ∀(aa:List (ah×Obj)) (s:ay) (Z:St) (H:Hp) (Q:Bool->Hp->Prop),Inv X aa Z H s->t Z H Q->wpAny (model X.prog X.w) X.A (isTrue e X.env (eval e X.env)) (TP X aa Z Q) X.xe s
def PW(X:Cx)(e:Expr)(t:TT):Prop:=
 ∀(whole:Sem aj) (aa:List (ah×Obj)) (s:ay) (Z:St) (H:Hp) (Q:Bool->Hp->Prop),Inv X aa Z H s->t Z H Q->wpAny (model X.prog X.w) X.A (isTrue e X.env whole) (TP X aa Z Q) X.xe s
def PW.pt(h:PW X e t):PT X e t:=h _
def PA(X:Cx)(es:List Expr)(t:TA):Prop:=
 ∀(pos:Pos) (aa:List (ah×Obj)) (s:ay) (Z:St) (H:Hp) (Q:List V->Hp->Prop),Inv X aa Z H s->t Z H Q->wpAny (model X.prog X.w) X.A (spliced (backTo pos (starEach es X.env))) (AP X aa Z Q) X.xe s
def PS(X:Cx)(st:Stmt)(t:TS):Prop:=
 ∀(aa:List (ah×Obj)) (s:ay) (Z:St) (H:Hp) (D:Ends),Inv X aa Z H s->t D Z H->wpAny (model X.prog X.w) X.A (exec st X.env) (SP X aa D) X.xe s
def jl(X:Cx)(st:List Stmt)(t:TS):Prop:=
 ∀(aa:List (ah×Obj)) (s:ay) (Z:St) (H:Hp) (D:Ends),Inv X aa Z H s->t D Z H->wpAny (model X.prog X.w) X.A (execs st X.env) (SP X aa D) X.xe s
def bP{Q Q':α->ay->Prop}(h:wpAny M A t Q E s)(hQ:∀a s,Q a s->Q' a s):wpAny M A t Q' E s:=wpAny_mono h hQ λ_ _ x=>x
section
variable{X:Cx}
def D9(i:Nat):TE:=λZ H Q=>∃v,Z[i]?=some (some v)/\Q v H
def tC(v:V):TE:=λ_ H Q=>Q v H
def ZT(hN:X.N[i]?=some x)(hv:HE X.env.scope x)(hd:(x == ("__debug__":Str))=false:=by decide)(r_:(x == ("__classdict__":Str))=false:=by decide):PE X (.Name x pos) (D9 i):=by
 intro aa s Z H Q I h;obtain⟨v,e,h⟩:=h;obtain⟨m,hn,hl⟩:=I.loc;obtain⟨u,r,l⟩:=hl i x v hN e hv;have fin:EP X aa Z Q u s:=⟨v,H,I,r,h⟩;rcases l with⟨hk,hm⟩|⟨hk,c,hc,o8⟩
 .exact wpAny_Name (wpAny_loadName_local I.ok.kind hk hn hm fin) hd
 .rcases hk with hk|hk
  .exact wpAny_Name (wpAny_loadName_cell I.ok.kind hk hc o8 fin) hd
  .exact wpAny_Name (wpAny_loadName_free I.ok.kind hk hc o8 fin r_) hd
def ZU{i j pos}:PE X (.Constant (.int i) j pos) (tC (.int i)):=λ_ _ _ H _ I h=>wpAny_Constant_int ⟨.int i,H,I.tok _,⟨_,rfl⟩,h⟩
def e8k{b j pos}:PE X (.Constant (.bool b) j pos) (tC (.bl b)):=λ_ _ _ H _ I h=>Constant_bool ⟨.bl b,H,I,rfl,h⟩
def ZV{j pos}:PE X (.Constant .none j pos) (tC .aI):=λ_ _ _ H _ I h=>Constant_none ⟨.aI,H,I,rfl,h⟩
def ZW{x j pos}:PE X (.Constant (.str x) j pos) (tC (.str x)):=λ_ _ _ H _ I h=>Calls.Constant_str ⟨.str x,H,I.tok _,⟨_,rfl⟩,h⟩
def Gl(X:Cx)(x:Str):Prop:=X.env.kindOf x=some .globalImplicit
def xW{Q:aj->ay->Prop}(I:Inv X aa Z H s)(hg:Gl X x)(hm:X.mg x=some u)(h:Q u s)
  (hd:(x == ("__debug__":Str))=false:=by decide):wpAny (model X.prog X.w) X.A (eval (.Name x pos) X.env) Q E s:=
 Calls.Name_function_global I.ok.kind hg (Calls.loadGlobal_global (by rw[I.ok.glob];exact I.mod.glob.keeps I.bk) hm h) hd
def vI{Q:aj->ay->Prop}(I:Inv X aa Z H s)(hg:Gl X x)(hm:X.mg x=none)(hv:bootBuiltins x=some u)(h:Q u s)
  (hn:x≠"__name__":=by decide) (hd:(x == ("__debug__":Str))=false:=by decide):wpAny (model X.prog X.w) X.A (eval (.Name x pos) X.env) Q E s:=by
 obtain⟨mb,h1,h2⟩:=I.mod.blt;exact Calls.Name_function_global I.ok.kind hg (Calls.loadGlobal_builtin (by rw[I.ok.glob];exact I.mod.glob.keeps I.bk) hm (by rw[I.ok.blt];exact h1.keeps I.bk) ((h2 x hn).trans hv) h) hd
def Xc(hg:Gl X x)(hm:X.mg x=none)(hv:bootBuiltins x=some u)(r:RelV v u)(hn:x≠"__name__":=by decide)(hd:(x == ("__debug__":Str))=false:=by decide):PE X (.Name x pos) (tC v):=
 λ_ _ _ H _ I h=>vI I hg hm hv ⟨v,H,I,r,h⟩ hn hd
variable{a b:Expr}{ta tb:TE}{pos:Pos}
variable{tA Hf:TT}{rest:List Expr}
def LP(t u:TT):TT:=λZ H Q=>t Z H λc H1=>if c=true then u Z H1 Q else Q false H1
def tOr(t u:TT):TT:=λZ H Q=>t Z H λc H1=>if c=true then Q true H1 else u Z H1 Q
def LW(t:TT):TT:=λZ H Q=>t Z H λc H1=>Q (!c) H1
def Xd(ha:PT X a tA):PW X (.BoolOp .And [a] pos) tA:=by
 intro wh aa s Z H Q I h;refine isTrue_and (bP (ha aa s Z H Q I h) λc s1 e=>?_)
 cases c with
 |true=>exact isTrue_and_nil e
 |false=>exact e
def ZX(ha:PT X a tA):PW X (.BoolOp .Or [a] pos) tA:=by
 intro wh aa s Z H Q I h;refine isTrue_or (bP (ha aa s Z H Q I h) λc s1 e=>?_)
 cases c with
 |false=>exact isTrue_or_nil e
 |true=>exact e
def ZY(ha:PT X a tA)(hb:PW X (.BoolOp .And (b::rest) pos) Hf):PW X (.BoolOp .And (a::b::rest) pos) (LP tA Hf):=by
 intro wh aa s Z H Q I h;refine isTrue_and (bP (ha aa s Z H _ I h) λc s1 hh=>?_)
 obtain⟨H1,I1,q1⟩:=hh;cases c with
 |true=>exact hb wh aa s1 Z H1 Q I1 q1
 |false=>exact⟨H1,I1,q1⟩
def e8l(ha:PT X a tA)(hb:PW X (.BoolOp .Or (b::rest) pos) Hf):PW X (.BoolOp .Or (a::b::rest) pos) (tOr tA Hf):=by
 intro wh aa s Z H Q I h;refine isTrue_or (bP (ha aa s Z H _ I h) λc s1 hh=>?_)
 obtain⟨H1,I1,q1⟩:=hh;cases c with
 |true=>exact⟨H1,I1,q1⟩
 |false=>exact hb wh aa s1 Z H1 Q I1 q1
def ZZ(ha:PT X a tA):PT X (.UnaryOp .Not a pos) (LW tA):=by
 intro aa s Z H Q I h;exact isTrue_not (ha aa s Z H (λc H1=>Q (!c) H1) I h)
def DX(ta tb:TE):TE:=λZ H Q=>ta Z H λx H1=>∃c,x=.bl c/\if c=true then tb Z H1 Q else Q (.bl false) H1
def D7(ta:TE):TE:=λZ H Q=>ta Z H λx H1=>∃c,x=.bl c/\Q (.bl (!c)) H1
def zv{op}(h:PE X a t):PE X (.BoolOp op [a] pos) t:=λaa s Z H Q I hw=>BoolOp_one (h aa s Z H Q I hw)
def Z0(ha:PE X a ta)(hb:PE X (.BoolOp .And (b::rest) pos) tb):PE X (.BoolOp .And (a::b::rest) pos) (DX ta tb):=by
 intro aa s Z H Q I h;refine BoolOp_and (bP (ha aa s Z H _ I h) λv s1 hh=>?_)
 obtain⟨x,H1,I1,r1,q1⟩:=hh;obtain⟨c,rfl,q1⟩:=q1;cases r1;refine wpAny_truthy_bool ?_;cases c with
 |true=>exact hb aa s1 Z H1 Q I1 q1
 |false=>exact⟨.bl false,H1,I1,rfl,q1⟩
def Z4(ha:PE X a ta):PE X (.UnaryOp .Not a pos) (D7 ta):=by
 intro aa s Z H Q I h;refine UnaryOp_ (bP (ha aa s Z H _ I h) λv s1 hh=>?_)
 obtain⟨x,H1,I1,r1,q1⟩:=hh;obtain⟨c,rfl,q1⟩:=q1;cases r1;exact not_of (wpAny_truthy_bool ⟨.bl (!c),H1,I1,rfl,q1⟩)
def tIf(t:TT)(ta tb:TE):TE:=λZ H Q=>t Z H λc H1=>if c=true then ta Z H1 Q else tb Z H1 Q
def Vm(hc:PT X c tA)(ha:PE X a ta)(hb:PE X b tb):PE X (.IfExp c a b pos) (tIf tA ta tb):=by
 intro aa s Z H Q I h;refine wpAny_IfExp (bP (hc aa s Z H _ I h) λd s1 hh=>?_)
 obtain⟨H1,I1,q1⟩:=hh;cases d with
 |true=>exact ha aa s1 Z H1 Q I1 q1
 |false=>exact hb aa s1 Z H1 Q I1 q1
end
variable{x:Str}{u:aj}{aa:List (ah×Obj)}{Z:St}{H:Hp}{s:ay}{c i e o tg:Expr}{tc:TT}{es:List Expr}{to ti te:TE}{P:dB}{w:cI}{K:aL}
def dr(K:aL)(H:Hp)(a:ah)(xs:List V):Prop:=
 Rd H a (.lst xs)\/
  ∃(o:Obj) (aH:Array aj) (n:Nat),K.lookup a=some o/\o.cls=.type "list"/\o.dict=none/\o.data=.seq aH n/\aH.size<=sizeLine/\Vals xs aH.toList
def iI(K:aL)(H:Hp)(a:ah)(xs:List V):Prop:=
 Rd H a (.tup xs)\/
  ∃(o:Obj) (aH:Array aj) (n:Nat),K.lookup a=some o/\o.cls=.type "tuple"/\o.data=.seq aH n/\aH.size<=sizeLine/\Vals xs aH.toList
noncomputable def Ii:aj->ai V
 |.none=>some .aI
 |.bool b=>some (.bl b)
 |.int i _=>some (.int i)
 |.str x _=>some (.str x)
 |.bytes b _=>some (.vQ b)
 |.float b _=>some (.AE b)
 |.ref a=>some (.ref a)
 |.type n=>some (.ty n)
 |_=>none
def RelV.abs{x:V}(r:RelV x u):Ii u=some x:=by
 cases x with
 |aI=>cases r;rfl
 |bl _=>cases r;rfl
 |int _=>obtain⟨t,rfl⟩:=r;rfl
 |str _=>obtain⟨t,rfl⟩:=r;rfl
 |vQ _=>obtain⟨t,rfl⟩:=r;rfl
 |AE _=>obtain⟨t,rfl⟩:=r;rfl
 |ref _=>cases r;rfl
 |ty _=>cases r;rfl
theorem RelV.inj{x y:V}(r:RelV x u)(q:RelV y u):x=y:=Option.some.inj (r.abs.symm.trans q.abs)
theorem Vals.inj(h:Vals xs us)(h':Vals ys us):xs=ys:=by
 induction h generalizing ys with
 |nil=>cases h';rfl
 |cons r t ih=>
  cases h' with
  |cons r' t'=>rw[r.inj r',ih t']
section
variable{X:Cx}{aa:List (ah×Obj)}{Z:St}{H:Hp}{s:ay}{a:ah}{xs ys:List V}
def Inv.list(I:Inv X aa Z H s)(h:dr X.K H a xs):∃aH:List aj,Vals xs aH/\PlainL s.heap a aH.toArray/\xs.length<=sizeLine:=by
 rcases h with h|⟨o,aH,n,hk,hc,hd,hs,hz,r⟩
 .obtain⟨z,aH,n,r,e⟩:=h.ok I.bD;exact⟨aH,r,⟨_,n,e,rfl,rfl,rfl⟩,z⟩
 .refine⟨aH.toList,r,⟨o,n,I.jK a o hk,hc,hd,by simpa using hs⟩,?_⟩
  have e:=r.length
  simp_all
def Inv.tuple(I:Inv X aa Z H s)(h:iI X.K H a xs):∃aH:List aj,Vals xs aH/\IsTup s.heap a aH.toArray/\xs.length<=sizeLine:=by
 rcases h with h|⟨o,aH,n,hk,hc,hs,hz,r⟩
 .obtain⟨z,aH,r,p⟩:=h.ok I.bD;exact⟨aH,r,p,z⟩
 .refine⟨aH.toList,r,⟨o,I.jK a o hk,hc,n,by simpa using hs⟩,?_⟩
  have e:=r.length;simp only[Hk] at e;lia
def Inv.kA(I:Inv X aa Z H s)(h:dr X.K H a xs)(h':dr X.K H a ys):xs=ys:=by
 obtain⟨aH,r,⟨o,n,e,_,_,d⟩,_⟩:=I.list h;obtain⟨its',r',⟨o',n',e',_,_,d'⟩,_⟩:=I.list h';rw[e] at e';cases e';rw[d] at d';injection d' with d1 _;have:aH=its':=by simpa using congrArg Array.toList d1
 subst this;exact r.inj r'
def Inv.lK(I:Inv X aa Z H s)(h:iI X.K H a xs)(h':iI X.K H a ys):xs=ys:=by
 obtain⟨aH,r,⟨o,e,_,n,d⟩,_⟩:=I.tuple h;obtain⟨its',r',⟨o',e',_,n',d'⟩,_⟩:=I.tuple h';rw[e] at e';cases e';rw[d] at d';injection d' with d1 _;have:aH=its':=by simpa using congrArg Array.toList d1
 subst this;exact r.inj r'
end
section
variable{X:Cx}{st:Stmt}{rest:List Stmt}{t u:TS}{e:Expr}{te:TE}{pos:Pos}
def D6:TS:=λD Z H=>D.nx Z H
def LY(t u:TS):TS:=λD Z H=>t { D with nx:=u D} Z H
def pk:jl X [] D6:=λ_ _ Z H _ I h=>wpAny_execs_nil ⟨Z,H,I,h⟩
def Vn(h1:PS X st t)(h2:jl X rest u):jl X (st::rest) (LY t u):=by
 intro aa s Z H D I h;refine wpAny_execs_cons (bP (h1 aa s Z H { D with nx:=u D} I h) λf s1 q=>?_)
 cases f with
 |next=>
  obtain⟨Z',H',I',q⟩:=q;exact h2 aa s1 Z' H' D I' q
 |ret v=>exact q
 |brk=>exact q
 |cont=>exact q
def Inv.quiet(I:Inv X aa Z H s):interactive X.env=false:=by simp[interactive,I.ok.kind]
def D5(te:TE):TS:=λD Z H=>te Z H λ_ H1=>D.nx Z H1
def Xe(he:PE X e te)(hs:swapsWith e none pos.line X.env=pure false:=by rfl):PS X (.Expr e pos) (D5 te):=by
 intro aa s Z H D I h;exact wpAny_Expr_any (bP (he aa s Z H _ I h) λv s1 ⟨x,H1,I1,r1,q1⟩=>⟨Z,H1,I1,q1⟩) I.quiet hs
def LX(te:TE):TS:=λD Z H=>te Z H D.rt
def Z5(he:PE X e te):PS X (.Return (some e) pos) (LX te):=by
 intro aa s Z H D I h;exact wpAny_Return_some (bP (he aa s Z H _ I h) λv s1 ⟨x,H1,I1,r1,q1⟩=>⟨x,Z,H1,I1,r1,q1⟩)
def LU(c:TT)(t u:TS):TS:=λD Z H=>c Z H λb H1=>if b=true then t D Z H1 else u D Z H1
def e8m(hc:PT X c tc)(ha:jl X a t)(hb:jl X b u):PS X (.If c a b pos) (LU tc t u):=by
 intro aa s Z H D I h;refine wpAny_If (bP (hc aa s Z H _ I h) λd s1 hh=>?_)
 obtain⟨H1,I1,q1⟩:=hh;cases d with
 |true=>exact ha aa s1 Z H1 D I1 q1
 |false=>exact hb aa s1 Z H1 D I1 q1
end
abbrev TG:=V->St->Hp->(St->Hp->Prop)->Prop
abbrev tJ:=List V->St->Hp->(St->Hp->Prop)->Prop
def PG(X:Cx)(target:Expr)(t:TG):Prop:=
 ∀(aa:List (ah×Obj)) (s:ay) (Z:St) (H:Hp) (v:V) (u:aj) (Q:St->Hp->Prop),Inv X aa Z H s->RelV v u->t v Z H Q->
  wpAny (model X.prog X.w) X.A (assign target X.env u) (λ_ s'=>∃Z' H',Inv X aa Z' H' s'/\Q Z' H') X.xe s
def Bp(X:Cx)(ts:List Expr)(t:tJ):Prop:=
 ∀(aa:List (ah×Obj)) (s:ay) (Z:St) (H:Hp) (vs:List V) (us:List aj) (Q:St->Hp->Prop),Inv X aa Z H s->Vals vs us->t vs Z H Q->
  wpAny (model X.prog X.w) X.A (assignInOrder ((assignEach ts X.env).map (·.2)) us) (λ_ s'=>∃Z' H',Inv X aa Z' H' s'/\Q Z' H') X.xe s
abbrev p5:=V->V->V->Hp->(Hp->Prop)->Prop
def um(X:Cx)(t:p5):Prop:=
 ∀(aa:List (ah×Obj)) (s:ay) (Z:St) (H:Hp) (o i v:V) (ov iv u:aj) (Q:Hp->Prop),Inv X aa Z H s->RelV o ov->RelV i iv->RelV v u->t o i v H Q->
  wpAny (model X.prog X.w) X.A (setItem ov iv u) (λ_ s'=>∃H',Inv X aa Z H' s'/\Q H') X.xe s
abbrev EK:=V->V->Hp->VK->Prop
def EH(X:Cx)(op:Operator)(t:EK):Prop:=
 ∀(aa:List (ah×Obj)) (s:ay) (Z:St) (H:Hp) (x y:V) (v u:aj) (Q:VK),Inv X aa Z H s->RelV x v->RelV y u->t x y H Q->
  wpAny (model X.prog X.w) X.A (inplaceOp op v u) (EP X aa Z Q) X.xe s
section
variable{X:Cx}{pos:Pos}
def o5(i:Nat):TG:=λv Z H Q=>Q (Z.set i (some v)) H
def Xf{i:Nat}(hN:X.N.Nodup)(hi:X.N[i]?=some x)(hx:Loc X.env.scope x)(hf:X.fn x=true\/X.env.scope.names.lookup x=some .local := by first|exact .inl rfl|exact .inr rfl|assumption):PG X (.Name x pos) (o5 i):=by
 intro aa s Z H v u Q I r h;exact wpAny_assign_Name (Oc I hN hi hx r (λs' I'=>⟨_,H,I',h⟩) hf)
def CM:tJ:=λvs Z H Q=>vs=[]/\Q Z H
def vT(t:TG)(u:tJ):tJ:=λvs Z H Q=>∃v r,vs=v::r/\t v Z H λZ' H'=>u r Z' H' Q
def vb:Bp X [] CM:=by
 intro aa s Z H vs us Q I r h;obtain⟨e,h⟩:=h;subst e;cases r;exact assignInOrder_nil ⟨Z,H,I,h⟩
def sO{u:tJ}(h1:PG X e t)(h2:Bp X es u)
  (hs:(assignEach (e::es) X.env).map (·.2)=assign e X.env::(assignEach es X.env).map (·.2):=by rfl):Bp X (e::es) (vT t u):=by
 intro aa s Z H vs us Q I r h;obtain⟨v,vr,e1,h⟩:=h;subst e1;cases r with
 |cons r rr=>
  rw[hs];refine assignInOrder_cons (bP (h1 aa s Z H _ _ _ I r h) λ_ s1 hh=>?_)
  obtain⟨Z1,H1,I1,q1⟩:=hh;exact h2 aa s1 Z1 H1 _ _ Q I1 rr q1
def yH(K:aL)(n:Nat)(t:tJ):TG:=λv Z H Q=>∃a xs,v=.ref a/\iI K H a xs/\xs.length=n/\t xs Z H Q
def Z8(hc:X.calm=true)(h:Bp X es t)
  (hn:(assignEach es X.env).length=n:=by rfl) (mi:(assignEach es X.env).findIdx? (·.1)=none:=by rfl):PG X (.Tuple es k pos) (yH X.K n t):=by
 intro aa s Z H v u Q I r hw;obtain⟨a,xs,e1,hq,hl,hw⟩:=hw;subst e1;cases r;obtain⟨aH,rv,ht,hz⟩:=I.tuple hq;refine assign_Tuple_tuple (I.ok.hd hc) ht (by simp[hn,<-hl,rv.length]) mi λh' hx=>?_
 have I1:Inv X aa Z H { s with heap:=h'}:=I.kept (t':=s.toks) λb o e=>hx b o (ie (cX e)) e
 exact h aa _ Z H xs _ Q I1 (by simpa using rv) hw
def Kg(to ti:TE)(t:p5):TG:=λv Z H Q=>to Z H λo H1=>ti Z H1 λi H2=>t o i v H2 λH3=>Q Z H3
def Z9(ho:PE X o to)(hi:PE X i ti)(hs:um X t)
  (ha:∀v,assign (.Subscript o i pos) X.env v=(do
   let ov <-holding [v] (eval o X.env)
   let iv <-holding [v,ov] (eval i X.env)
   standAt pos
   holding [v,ov,iv] (setItem ov iv v)
   release [v,ov,iv] []):=by intro _;rfl):PG X (.Subscript o i pos) (Kg to ti t):=by
 intro aa s Z H v u Q I r h;rw[ha];refine aE (kK (bP (ho aa s Z H _ I h) λov s1 hh=>?_))
 obtain⟨x,H1,I1,r1,q1⟩:=hh;refine aE (kK (bP (hi aa s1 Z H1 _ I1 q1) λiv s2 hh=>?_))
 obtain⟨y,H2,I2,r2,q2⟩:=hh;refine aE (wpAny_standAt (aE (kK (bP (hs aa s2 Z H2 x y v ov iv u _ I2 r1 r2 r q2) λ_ s3 hh=>?_))))
 obtain⟨H3,I3,q3⟩:=hh;exact wpAny_release ⟨Z,H3,I3,q3⟩
def DY(te:TE)(g:TG):TS:=λD Z H=>te Z H λx H1=>g x Z H1 D.nx
def Z_(he:PE X e te)(hg:PG X tg g)(hs:swapsWithSole [tg] e pos.line X.env=pure false:=by rfl)(hw:swappedStores [tg] e X.env=pure none:=by rfl)
  (h1:(assignEach [tg] X.env).map (·.2)=[assign tg X.env]:=by rfl):PS X (.Assign [tg] e pos) (DY te g):=by
 intro aa s Z H D I h;refine wpAny_Assign_stores (bP (he aa s Z H _ I h) λv s1 hh=>?_) hs hw
 obtain⟨x,H1,I1,r1,q1⟩:=hh;rw[h1];exact bP (hg aa s1 Z H1 x v _ I1 r1 q1) λ_ s2 q=>q
def Γ{i:Nat}(hN:X.N.Nodup)(hi:X.N[i]?=some x)(hx:Loc X.env.scope x)(he:PE X e te)(hs:swapsWith e (some (.Name x pos')) pos.line X.env=pure false:=by rfl)(hf:X.fn x=true\/X.env.scope.names.lookup x=some .local := by first|exact .inl rfl|exact .inr rfl|assumption):
  PS X (.Assign [.Name x pos'] e pos) (DY te (o5 i)):=by
 intro aa s Z H D I h;refine wpAny_Assign_Name (bP (he aa s Z H _ I h) λv s1 hh=>?_) hs
 obtain⟨y,H1,I1,r1,q1⟩:=hh;exact Oc I1 hN hi hx r1 (λs2 I2=>⟨_,H1,I2,q1⟩) hf
def DZ(to ti te:TE)(vh:V->V->Hp->VK->Prop)(Hh:EK)(vk:p5):TS:=λD Z H=>to Z H λo H1=>ti Z H1 λi H2=>vh o i H2 λx H3=>te Z H3 λy H4=>Hh x y H4 λz H5=>vk o i z H5 λH6=>D.nx Z H6
def Bo(X:Cx)(t:V->V->Hp->VK->Prop):Prop:=
 ∀(aa:List (ah×Obj)) (s:ay) (Z:St) (H:Hp) (o i:V) (ov iv:aj) (Q:VK),Inv X aa Z H s->RelV o ov->RelV i iv->t o i H Q->
  wpAny (model X.prog X.w) X.A (getItem ov iv) (EP X aa Z Q) X.xe s
def Xg(ho:PE X o to)(hi:PE X i ti)(hg:Bo X vh)(he:PE X e te)(hp:EH X op Hh)(hs:um X vk)
  (ha:∀ov iv new,augStore i ov iv new=(do holding [new,ov,iv] (setItem ov iv new);release [new,ov,iv] [];pure .next):=by intros;rfl):PS X (.AugAssign (.Subscript o i fY) op e pos) (DZ to ti te vh Hh vk):=by
 intro aa s Z H D I h;refine wpAny_AugAssign_SubscriptAny (bP (ho aa s Z H _ I h) λov s1 hh=>?_) ha
 obtain⟨x1,H1,I1,r1,q1⟩:=hh;refine bP (hi aa s1 Z H1 _ I1 q1) λiv s2 hh=>?_
 obtain⟨x2,H2,I2,r2,q2⟩:=hh;refine bP (hg aa s2 Z H2 x1 x2 ov iv _ I2 r1 r2 q2) λold s3 hh=>?_
 obtain⟨x3,H3,I3,r3,q3⟩:=hh;refine bP (he aa s3 Z H3 _ I3 q3) λv s4 hh=>?_
 obtain⟨x4,H4,I4,r4,q4⟩:=hh;refine bP (hp aa s4 Z H4 x3 x4 old v _ I4 r3 r4 q4) λnew s5 hh=>?_
 obtain⟨x5,H5,I5,r5,q5⟩:=hh;exact bP (hs aa s5 Z H5 x1 x2 x5 ov iv new _ I5 r1 r2 r5 q5) λ_ s6 ⟨H6,I6,q6⟩=>⟨Z,H6,I6,q6⟩
def K0(f:Int->Int->Int):EK:=λx y H Q=>∃i j,x=.int i/\y=.int j/\Q (.int (f i j)) H
def yW:EH X .Add (K0 λi j=>i+j):=by
 intro aa s Z H x y v u Q I r1 r2 h;obtain⟨i,j,e1,e2,q⟩:=h;subst e1;subst e2;obtain⟨t,rfl⟩:=r1;obtain⟨t',rfl⟩:=r2;exact iadd_int ⟨.int _,H,I.tok _,⟨_,rfl⟩,q⟩
def Δ(c:TT)(tb:TS):TS:=λD Z H=>∃W:Nat->St->Hp->Prop,(∃m,W m Z H)/\∀m Z H,W m Z H->
 c Z H λb H1=>if b=true then ∃N:St->Hp->Prop,(∀Z' H',N Z' H'->∃m',m'<m/\W m' Z' H')/\tb { D with nx:=N,ct:=N,bk:=D.nx} Z H1 else D.nx Z H1
def Vo(hp:PassesOwn (model X.prog X.w) X.A X.env X.xe)(hc:PT X c tc)(hb:jl X body tb):PS X (.While c body [] pos) (Δ tc tb):=by
 intro aa s Z H D I h;obtain⟨W,⟨m0,w0⟩,turn⟩:=h;refine wpAny_While (codeAny_whileLoop (λn s'=>∃Z' H',Inv X aa Z' H' s'/\W n Z' H') ?_ m0 ⟨Z,H,I,w0⟩)
 rintro n s1 ⟨Z1,H1,I1,w1⟩;refine wpAny_passesOwn hp (bP (hc aa s1 Z1 H1 _ I1 (turn n Z1 H1 w1)) λb s2 hh=>?_)
 obtain⟨H2,I2,q2⟩:=hh;cases b with
 |true=>
  obtain⟨N,hN,q2⟩:=q2;rw[bJ rfl];refine wpAny_passesOwn hp (bP (hb aa s2 Z1 H2 _ I2 q2) λf s3 q3=>?_)
  cases f with
  |next=>
   obtain⟨Z3,H3,I3,n3⟩:=q3;obtain⟨m',hm,w3⟩:=hN Z3 H3 n3;exact⟨m',hm,Z3,H3,I3,w3⟩
  |cont=>
   obtain⟨Z3,H3,I3,n3⟩:=q3;obtain⟨m',hm,w3⟩:=hN Z3 H3 n3;exact⟨m',hm,Z3,H3,I3,w3⟩
  |brk=>exact q3
  |ret v=>exact q3
 |false=>
  rw[br qF];exact wpAny_execs_nil ⟨Z1,H2,I2,q2⟩
end
set_option genInjectivity false in
structure It where
 go:Nat->Hp->Prop
 tG:Nat->Hp->V->Hp->Prop
 stop:Nat->Hp->Prop
def ji(X:Cx)(aa:List (ah×Obj))(H:Hp)(b:ah):Prop:=
 H b=none/\b≠X.env.locals/\b∉X.fs/\(b∈X.ex\/X.s₀.heap.objs.size<=b)/\(∀x c,X.env.cells.lookup x=some c->c≠b)/\∀p∈X.pn++aa,p.1≠b
def Inv.kl(I:Inv X aa Z H s)(hb:s.heap.objs.size<=b)(hn:H' b=none):ji X aa H' b:=by
 refine⟨hn,wW (gK I.lt hb),I.zg hb,.inr (ju I.sz hb),λx c e z=>?_,λp hp z=>?_⟩
 .obtain⟨v,q⟩:=I.cell x c e;exact cR (gK q.lt (by rw[z];exact hb)) (jV _)
 .exact cR (gK (cX (I.pin p hp).1) (by rw[z];exact hb)) (jV _)
structure Turn (P:dB) (w:cI) (K:aL) (tg:Expr) (J:It) (fp:List ah) (it:ah) (tn:Nat->b_->Prop):Prop where
 mem:it∈fp
 obj:∀i h,tn i h->∀b∈fp,∃o,h.get? b=some o/\∀v,o.data≠.cell v
 keep:∀i h h',tn i h->(∀b∈fp,∀o,h.get? b=some o->h'.get? b=some o)->tn i h'
 item:∀(X:Cx),X.prog=P->X.w=w->X.K=K->X.calm=true->∀(i:Nat) (aa:List (ah×Obj)) (s:ay) (Z:St) (H:Hp) (E:aj->ay->Prop),Inv X aa Z H s->(∀b∈fp,ji X aa H b)->tn i s.heap->J.go i H->
  wpAny (model P w) X.A (pyNext (.ref it)) (λr s1=>∃u,r=some u/\ wpAny (model P w) X.A (letOwnedTupleGo tg (.ref it) u) (λ_ s2=>∃x H',Inv X aa Z H' s2/\RelV x u/\J.tG i H x H'/\tn (i+1) s2.heap/\∀b∈fp,H' b=none) E s1) E s
 done:∀(X:Cx),X.prog=P->X.w=w->X.K=K->X.calm=true->∀(i:Nat) (aa:List (ah×Obj)) (s:ay) (Z:St) (H:Hp) (E:aj->ay->Prop),Inv X aa Z H s->(∀b∈fp,ji X aa H b)->tn i s.heap->J.stop i H->
  wpAny (model P w) X.A (pyNext (.ref it)) (λr s1=>r=none/\Inv X aa Z H s1) E s
 self:∀(A:c8) (i:Nat) (s:ay) (Q:aj->ay->Prop) (E:aj->ay->Prop),tn i s.heap->Q (.ref it) s->wpAny (model P w) A (pyIter (.ref it)) Q E s
abbrev TI:=St->Hp->(It->Hp->Prop)->Prop
def HC(X:Cx)(aa:List (ah×Obj))(Z:St)(tg:Expr)(R:It->Hp->Prop)(G5:aj)(s2:ay):Prop:=
 ∃(it:ah) (fp:List ah) (tn:Nat->b_->Prop) (J:It) (H':Hp),G5=.ref it/\Inv X aa Z H' s2/\Turn X.prog X.w X.K tg J fp it tn/\tn 0 s2.heap/\(∀b∈fp,ji X aa H' b)/\R J H'
def PI(X:Cx)(tg iter:Expr)(wi:TI):Prop:=
 ∀(aa:List (ah×Obj)) (s:ay) (Z:St) (H:Hp) (R:It->Hp->Prop),Inv X aa Z H s->wi Z H R->
  wpAny (model X.prog X.w) X.A (eval iter X.env) (λv s1=>wpAny (model X.prog X.w) X.A (pyIter v) (HC X aa Z tg R) X.xe s1) X.xe s
def vP{o:Obj}(ho:s.heap.get? it=some o)(hc:o.cls=.type n)(hd:o.data=.fields vs)
  (hn:["enumerate","zip","dict_itemiterator","dict_reverseitemiterator","odict_iterator","itertools.zip_longest","itertools.pairwise"].contains n=false) (hQ:Q () s):wpAny M A (letOwnedTupleGo tg (.ref it) u) Q E s:=by
 unfold letOwnedTupleGo;cases tg <;> first
  |exact aY hQ
  |(cases u <;> first
    |exact aY hQ
    |(refine aE (wpAny_load ho ?_)
      rw[hc,hd];show wpAny M A (if(["enumerate","zip","dict_itemiterator","dict_reverseitemiterator","odict_iterator","itertools.zip_longest","itertools.pairwise"].contains n&&vs[0]? == some (rawInt _))=true then _ else _) Q E s
      rw[br (by intro h;rw[hn,Bool.false_and] at h;cases h)]
      exact aY hQ))
def Hx(K:aL)(a:ah):It:=
 ⟨λi H=>∃xs x,dr K H a xs/\xs[i]?=some x,λi H x H'=>H'=H/\∀xs,dr K H a xs->xs[i]?=some x,λi H=>∃xs,dr K H a xs/\xs.length<=i⟩
def Hy(K:aL)(a:ah):It:=
 ⟨λi H=>∃xs x,iI K H a xs/\xs[i]?=some x,λi H x H'=>H'=H/\∀xs,iI K H a xs->xs[i]?=some x,λi H=>∃xs,iI K H a xs/\xs.length<=i⟩
def ED(lo:Int)(n:Nat):It:=⟨λi _=>i<n,λi H x H'=>H'=H/\x=.int (lo+i),λi _=>n<=i⟩
def T5(a it:ah):Turn P w K tg (Hx K a) [it] it (λi h=>h.IsListIter it a i) where
 mem:=by simp
 obj:=λi h st b hb=>by
  have e:b=it:=by simpa using hb
  subst e;obtain⟨o,e,c,d⟩:=st;exact⟨o,e,λv z=>by rw[d] at z;cases z⟩
 keep:=λi h h' st k=>st.at λo e=>k it (by simp) o e
 item:=by
  intro X hP hw hK hc i aa s Z H E I hf st hg;subst hP hw hK;obtain⟨xs,x,hq,hx⟩:=hg;obtain⟨aH,rv,p,hz⟩:=I.list hq;obtain⟨u,hu,ru⟩:=rv.get hx;obtain⟨f0,f1,f2,f3,f4,f5⟩:=hf it (by simp)
  refine wpAny_pyNext_list_item st p.isList (x:=u) (by simpa using hu) λh' iM sb=>?_
  have I1:Inv X aa Z H { s with heap:=h'}:=I.turned (t':=s.toks) (λb o hb e=>(sb.2 b hb).trans e) f0 f1 f3 f4 f5
  obtain⟨o,e,c,d⟩:=id iM;exact⟨u,rfl,vP (s:={ s with heap:=h'}) e c d (by decide) ⟨x,H,I1,ru,⟨rfl,λys hy=>by rw[I.kA hy hq];exact hx⟩,iM,λb hb=>(hf b hb).1⟩⟩
 done:=by
  intro X hP hw hK hc i aa s Z H E I hf st hg;subst hP hw hK;obtain⟨xs,hq,hx⟩:=hg;obtain⟨aH,rv,p,hz⟩:=I.list hq;obtain⟨f0,f1,f2,f3,f4,f5⟩:=hf it (by simp)
  have hl:=rv.length;exact wpAny_pyNext_list_end (I.ok.hd hc) st p.isList (by simp;lia) λh' eb=>⟨rfl,I.turned (t':=s.toks) (λb o hb e=>eb b o hb e) f0 f1 f3 f4 f5⟩
 self:=λ_ _ _ _ _ st h=>wpAny_pyIter_listiter st h
def Tf(a it:ah):Turn P w K tg (Hy K a) [it] it (λi h=>h.IsTupleIter it a i) where
 mem:=by simp
 obj:=λi h st b hb=>by
  have e:b=it:=by simpa using hb
  subst e;obtain⟨o,e,c,d⟩:=st;exact⟨o,e,λv z=>by rw[d] at z;cases z⟩
 keep:=λi h h' st k=>st.at λo e=>k it (by simp) o e
 item:=by
  intro X hP hw hK hc i aa s Z H E I hf st hg;subst hP hw hK;obtain⟨xs,x,hq,hx⟩:=hg;obtain⟨aH,rv,p,hz⟩:=I.tuple hq;obtain⟨u,hu,ru⟩:=rv.get hx;obtain⟨f0,f1,f2,f3,f4,f5⟩:=hf it (by simp)
  refine wpAny_pyNext_tuple_item st (show s.heap.IsTuple a aH.toArray from p) (x:=u) (by simpa using hu) λh' iM sb=>?_
  have I1:Inv X aa Z H { s with heap:=h'}:=I.turned (t':=s.toks) (λb o hb e=>(sb.2 b hb).trans e) f0 f1 f3 f4 f5
  obtain⟨o,e,c,d⟩:=id iM;exact⟨u,rfl,vP (s:={ s with heap:=h'}) e c d (by decide) ⟨x,H,I1,ru,⟨rfl,λys hy=>by rw[I.lK hy hq];exact hx⟩,iM,λb hb=>(hf b hb).1⟩⟩
 done:=by
  intro X hP hw hK hc i aa s Z H E I hf st hg;subst hP hw hK;obtain⟨xs,hq,hx⟩:=hg;obtain⟨aH,rv,p,hz⟩:=I.tuple hq;obtain⟨f0,f1,f2,f3,f4,f5⟩:=hf it (by simp)
  have hl:=rv.length;exact wpAny_pyNext_tuple_end (I.ok.hd hc) st (show s.heap.IsTuple a aH.toArray from p) (by simp;lia) λh' eb=>⟨rfl,I.turned (t':=s.toks) (λb o hb e=>eb b o hb e) f0 f1 f3 f4 f5⟩
 self:=λ_ _ _ _ _ st h=>wpAny_pyIter_tupleiter st h
def Tg(it:ah)(lo:Int)(n:Nat):Turn P w K tg (ED lo n) [it] it (λi h=>IsRangeIter h it (lo+(i:Nat)*1) ((n:Int) - (i:Nat)) 1) where
 mem:=by simp
 obj:=λi h st b hb=>by
  have e:b=it:=by simpa using hb
  subst e;exact⟨_,st,λv z=>by
   have z':Data.fields _=Data.cell v:=z;cases z'⟩
 keep:=λi h h' st k=>k it (by simp) _ st
 item:=by
  intro X hP hw hK hc i aa s Z H E I hf st hg;subst hP hw hK;obtain⟨f0,f1,f2,f3,f4,f5⟩:=hf it (by simp)
  have W:=Walks.range (prog:=X.prog) (w:=X.w) (I.ok.hd hc) it lo 1 n;refine W.item i s _ _ hg st λv h' tk hv iM kk=>?_
  obtain⟨t,rfl⟩:=hv;have I1:Inv X aa Z H { s with heap:=h',toks:=tk}:=I.turned (λb o hb e=>kk b o (by simpa using hb) e) f0 f1 f3 f4 f5
  refine⟨_,rfl,vP (s:={ s with heap:=h',toks:=tk}) (n:="range_iterator") iM rfl rfl (by decide) ⟨.int (lo+i),H,I1,⟨t,?_⟩,⟨rfl,rfl⟩,iM,λb hb=>(hf b hb).1⟩⟩
  rw[Int.mul_one]
 done:=by
  intro X hP hw hK hc i aa s Z H E I hf st hg;subst hP hw hK;obtain⟨f0,f1,f2,f3,f4,f5⟩:=hf it (by simp)
  exact wpAny_pyNext_range_end (I.ok.hd hc) st (by have:n<=i:=hg;lia) λh' eb=>⟨rfl,I.turned (t':=s.toks) (λb o hb e=>eb b o hb e) f0 f1 f3 f4 f5⟩
 self:=λ_ _ _ _ _ st h=>wpAny_pyIter_rangeiter st h
section
variable{X:Cx}{tg:Expr}
def v5(K:aL)(tl:TE):TI:=λZ H R=>tl Z H λx H1=>∃a,x=.ref a/\(∃xs,dr K H1 a xs)/\R (Hx K a) H1
def Dj(K:aL)(tl:TE):TI:=λZ H R=>tl Z H λx H1=>∃a,x=.ref a/\(∃xs,iI K H1 a xs)/\R (Hy K a) H1
def Xh(hl:PE X l tl):PI X tg l (v5 X.K tl):=by
 intro aa s Z H R I h;refine bP (hl aa s Z H _ I h) λv s1 hh=>?_
 obtain⟨x,H1,I1,r1,q1⟩:=hh;obtain⟨a,e,⟨xs,hq⟩,q⟩:=q1;subst e;cases r1;obtain⟨aH,rv,p,hz⟩:=I1.list hq;refine wpAny_pyIter_list p.isList ?_;refine⟨s1.heap.objs.size,[s1.heap.objs.size],_,_,H1,rfl,I1.kept (t':=s1.toks) λb o e=>dy _ e,T5 a _,⟨_,i_ _ rfl,rfl,rfl⟩,λb hb=>?_,q⟩
 have e:b=s1.heap.objs.size:=by simpa using hb
 subst e;exact I1.kl (cv _) (I1.bD.fresh (cv _))
def Θ(hl:PE X l tl):PI X tg l (Dj X.K tl):=by
 intro aa s Z H R I h;refine bP (hl aa s Z H _ I h) λv s1 hh=>?_
 obtain⟨x,H1,I1,r1,q1⟩:=hh;obtain⟨a,e,⟨xs,hq⟩,q⟩:=q1;subst e;cases r1;obtain⟨aH,rv,p,hz⟩:=I1.tuple hq;refine wpAny_pyIter_tuple (show s1.heap.IsTuple a aH.toArray from p) ?_;refine⟨s1.heap.objs.size,[s1.heap.objs.size],_,_,H1,rfl,I1.kept (t':=s1.toks) λb o e=>dy _ e,Tf a _,⟨_,i_ _ rfl,rfl,rfl⟩,λb hb=>?_,q⟩
 have e:b=s1.heap.objs.size:=by simpa using hb
 subst e;exact I1.kl (cv _) (I1.bD.fresh (cv _))
def Vp{lo hi:Int}{t u v:Tok}(I:Inv X aa Z H s)(h1:-(2^62)<=lo)(h2:lo<2^62)(h3:-(2^62)<=hi)(h4:hi<2^62)
  (q:R (ED lo (hi - lo).toNat) H):wpAny (model X.prog X.w) X.A (pyIter (.ref s.heap.objs.size)) (HC X aa Z tg R) E { s with heap:=s.heap.push { cls:=.type "range",data:=.fields #[.int lo t,.int hi u,.int 1 v]},toks:=tk}:=by
 refine wpAny_pyIter_range (IsRange.new ..) (small_one h1 h2 h3 h4) ?_;have I1:Inv X aa Z H { s with heap:=s.heap.push { cls:=.type "range",data:=.fields #[.int lo t,.int hi u,.int 1 v]},toks:=tk}:=I.kept λb o e=>dy _ e
 refine⟨(s.heap.push { cls:=.type "range",data:=.fields #[.int lo t,.int hi u,.int 1 v]}).objs.size,[(s.heap.push { cls:=.type "range",data:=.fields #[.int lo t,.int hi u,.int 1 v]}).objs.size],_,_,H,rfl,I1.kept (t':=tk) λb o e=>dy _ e,Tg _ lo (hi - lo).toNat,?_,λb hb=>?_,q⟩
 .have e1:lo+((0:Nat):Int)*1=lo:=by simp
  have e2:(((hi - lo).toNat:Nat):Int) - ((0:Nat):Int)=Builtin.Range.rangeSize lo hi 1:=by rw[rangeSize_one];split <;> lia
  show IsRangeIter _ _ (lo+((0:Nat):Int)*1) ((((hi - lo).toNat:Nat):Int) - ((0:Nat):Int)) 1;rw[e1,e2];exact i_ _ rfl
 .have e:b=(s.heap.push { cls:=.type "range",data:=.fields #[.int lo t,.int hi u,.int 1 v]}).objs.size:=by simpa using hb
  subst e;exact I1.kl (cv _) (I1.bD.fresh (cv _))
def v7(ta:TA):TI:=λZ H R=>ta Z H λvs H1=>∃j:Int,vs=[.int j] /\ -(2^62)<=j/\j<2^62/\R (ED 0 j.toNat) H1
def T7(hg:Gl X "range")(hm:X.mg "range"=none)(ha:PA X [a] ta)(hs:starEach [a] X.env=[(false,eval a X.env)]:=by rfl):PI X tg (.Call (.Name "range" p) [a] [] pos) (v7 ta):=by
 intro aa s Z H R I h;refine Call_ (vI I hg hm boot_range (PyProof.Rows.callWith_type1 (bP (ha pos aa s Z H _ I h) λus s1 hh=>?_) hs rfl))
 obtain⟨vs,H1,I1,r1,q1⟩:=hh;obtain⟨j,e,q1,q2,q⟩:=q1;subst e;cases r1 with
 |cons r rr=>
  cases rr;obtain⟨t,rfl⟩:=r;exact call_range_1 (Vp I1 (by lia) (by lia) q1 q2 (by simpa using q))
def LS(wi:TI)(g:TG)(tb:TS):TS:=λD Z H=>wi Z H λJ H1=>∃W:Nat->Nat->St->Hp->Prop,(∃m,W 0 m Z H1)/\∀i m Z H,W i m Z H->
 (J.stop i H/\D.nx Z H)\/(J.go i H/\∃N:St->Hp->Prop,(∀Z' H',N Z' H'->∃m',m'<m/\W (i+1) m' Z' H')/\∀x H',J.tG i H x H'->g x Z H' λZ2 H2=>tb { D with nx:=N,ct:=N,bk:=D.nx} Z2 H2)
noncomputable def Ci(fp:List ah)(h:b_):List (ah×Obj):=fp.filterMap λb=>(h.get? b).map λo=>(b,o)
def BD{o:Obj}(hb:b∈fp)(e:h.get? b=some o):(b,o)∈Ci fp h:=wY.mpr ⟨b,hb,by rw[e];rfl⟩
def T8(hp:p∈Ci fp h):p.1∈fp/\h.get? p.1=some p.2:=by
 obtain⟨b,hb,e⟩:=wY.mp hp;cases q:h.get? b with
 |none=>rw[q] at e;cases e
 |some o=>
  rw[q] at e;have e':(b,o)=p:=Option.some.inj e;subst e';exact⟨hb,q⟩
def Inv.pinned(I:Inv X aa Z H s)(hf:∀b∈fp,ji X aa H b)(ho:∀b∈fp,∃o,s.heap.get? b=some o/\∀v,o.data≠.cell v):Inv X (aa++Ci fp s.heap) Z H s:=
 I.jS λp hp=>(gZ.mp hp).elim (λz=>I.pin p (n4 _ z)) λz=>by
  obtain⟨hb,e⟩:=T8 z;obtain⟨f0,f1,f2,_⟩:=hf p.1 hb;obtain⟨o,e',d⟩:=ho p.1 hb;rw[e] at e';cases e';exact⟨e,f0,f1,f2,d⟩
def Inv.eZ(I:Inv X (aa++pl) Z H s):Inv X aa Z H s:=I.jS λp hp=>I.pin p (n4 _ (Et _ hp))
def Qj(hp:PassesOwn (model X.prog X.w) X.A X.env X.xe)(hc:X.calm=true)(hi:PI X tg iter wi)(hg:PG X tg g)(hb:jl X body tb)
  (hs:∀x,foldedSetIterable iter X.env x=pure x:=by intro _;rfl):PS X (.For tg iter body [] pos) (LS wi g tb):=by
 intro aa s Z H D I h;refine wpAny_For (bP (hi aa s Z H _ I h) λv s1 h1=>bP h1 λG5 s2 h2=>?_) hs
 obtain⟨it,fp,tn,J,H2,e,I2,T,nY,f2,W,⟨m0,w0⟩,turn⟩:=h2;subst e;have oH:∀{H':Hp},(∀b∈fp,H' b=none)->∀b∈fp,ji X aa H' b:=λhn b hb=>⟨hn b hb,(f2 b hb).2⟩
 refine codeAny_forLoop_any (λn s'=>∃i Z' H',Inv X aa Z' H' s'/\tn i s'.heap/\(∀b∈fp,H' b=none)/\W i n Z' H') ?_ m0 ⟨0,Z,H2,I2,nY,λb hb=>(f2 b hb).1,w0⟩
 rintro n s3 ⟨i,Z3,H3,I3,Sr,Rx,w3⟩;rcases turn i n Z3 H3 w3 with⟨stop,qn⟩|⟨go,N,hN,step⟩
 .refine wpAny_passesOwn hp (bP (T.done X rfl rfl rfl hc i aa s3 Z3 H3 X.xe I3 (oH Rx) Sr stop) λr s4 ⟨hr,I4⟩=>?_)
  subst hr;exact wpAny_execs_nil ⟨Z3,H3,I4,qn⟩
 .refine wpAny_passesOwn hp (bP (T.item X rfl rfl rfl hc i aa s3 Z3 H3 X.xe I3 (oH Rx) Sr go) λr s4 ⟨u,hr,h4⟩=>?_)
  subst hr;refine wpAny_passesOwn hp (bP h4 λ_ s5 hh=>?_)
  obtain⟨x,H5,I5,r5,y5,kG,Kd⟩:=hh;have Hu:=I5.pinned (oH Kd) (T.obj _ _ kG);refine wpAny_passesOwn hp (bP (hg _ s5 Z3 H5 x u _ Hu r5 (step x H5 y5)) λ_ s6 hh=>?_)
  obtain⟨Z6,H6,I6,q6⟩:=hh;refine wpAny_passesOwn hp (bP (hb _ s6 Z6 H6 _ I6 q6) λf s7 q7=>?_)
  have again:∀{Z7:St} {H7:Hp},Inv X (aa++Ci fp s5.heap) Z7 H7 s7->N Z7 H7->∃m,m<n/\∃i Z' H',Inv X aa Z' H' s7/\tn i s7.heap/\(∀b∈fp,H' b=none)/\W i m Z' H':=λ{Z7 H7} I7 n7=>by
   obtain⟨m',hm,w7⟩:=hN Z7 H7 n7;refine⟨m',hm,i+1,Z7,H7,I7.eZ,T.keep _ _ _ kG λb hb o e=>(I7.pin (b,o) (n4 _ (n4 _ (BD hb e)))).1,λb hb=>?_,w7⟩
   obtain⟨o,e,d⟩:=T.obj _ _ kG b hb;exact(I7.pin (b,o) (n4 _ (n4 _ (BD hb e)))).2.1
  cases f with
  |next=>obtain⟨Z7,H7,I7,n7⟩:=q7;exact again I7 n7
  |cont=>obtain⟨Z7,H7,I7,n7⟩:=q7;exact again I7 n7
  |brk=>obtain⟨Z7,H7,I7,q7⟩:=q7;exact⟨Z7,H7,I7.eZ,q7⟩
  |ret v=>obtain⟨x7,Z7,H7,I7,r7,q7⟩:=q7;exact⟨x7,Z7,H7,I7.eZ,r7,q7⟩
end
variable{aa:List (ah×Obj)}{s:ay}{Z:St}{H:Hp}{f:aj->aj->Sem aj}{op:CmpOp}{g:Int->Int->Int}{x:V}{us:List aj}
abbrev R2:=V->V->Hp->VK->Prop
variable{r r':R2}
def eB(X:Cx)(f:aj->aj->Sem aj)(r:R2):Prop:=
 ∀(aa:List (ah×Obj)) (s:ay) (Z:St) (H:Hp) (x y:V) (v u:aj) (Q:VK),Inv X aa Z H s->RelV x v->RelV y u->r x y H Q->
  wpAny (model X.prog X.w) X.A (f v u) (EP X aa Z Q) X.xe s
def EL(X:Cx)(f:aj->Sem aj)(r:V->Hp->VK->Prop):Prop:=
 ∀(aa:List (ah×Obj)) (s:ay) (Z:St) (H:Hp) (x:V) (v:aj) (Q:VK),Inv X aa Z H s->RelV x v->r x H Q->
  wpAny (model X.prog X.w) X.A (f v) (EP X aa Z Q) X.xe s
def bW(X:Cx)(f:aj)(r:List V->Hp->VK->Prop):Prop:=
 ∀(aa:List (ah×Obj)) (s:ay) (Z:St) (H:Hp) (xs:List V) (us:List aj) (Q:VK),Inv X aa Z H s->Vals xs us->r xs H Q->
  wpAny (model X.prog X.w) X.A (call f us) (EP X aa Z Q) X.xe s
def HD(X:Cx)(r:V->Hp->(Bool->Hp->Prop)->Prop):Prop:=
 ∀(aa:List (ah×Obj)) (s:ay) (Z:St) (H:Hp) (x:V) (v:aj) (Q:Bool->Hp->Prop),Inv X aa Z H s->RelV x v->r x H Q->
  wpAny (model X.prog X.w) X.A (truthy v) (TP X aa Z Q) X.xe s
def Hg(r:R2)(ta tb:TE):TE:=λZ H Q=>ta Z H λx H1=>tb Z H1 λy H2=>r x y H2 Q
def tUn(r:V->Hp->VK->Prop)(ta:TE):TE:=λZ H Q=>ta Z H λx H1=>r x H1 Q
def rI(C:Int->Int->Prop)(g:Int->Int->V):R2:=λx y H Q=>∃i j,x=.int i/\y=.int j/\C i j/\Q (g i j) H
def pA(g:Int->Int->V):R2:=λx y H Q=>∃i j,x=.int i/\y=.int j/\Q (g i j) H
def rU(g:Int->V):V->Hp->VK->Prop:=λx H Q=>∃i,x=.int i/\Q (g i) H
section
variable{X:Cx}{a b c:Expr}{ta tb tc:TE}{pos:Pos}
def ym(ha:PE X a ta)(hb:PE X b tb){R:V->V->Hp->Prop}(I:Inv X aa Z H s)
  (h:ta Z H λx H1=>tb Z H1 λy H2=>R x y H2) {Q:aj->ay->Prop} 
  (hf:∀v u s2 x y H2,Inv X aa Z H2 s2->RelV x v->RelV y u->R x y H2->wpAny (model X.prog X.w) X.A (f v u) Q X.xe s2) :
  wpAny (model X.prog X.w) X.A (eval a X.env) (λv s₁=>wpAny (model X.prog X.w) X.A (eval b X.env) (λu s₂=>wpAny (model X.prog X.w) X.A (f v u) Q X.xe s₂) X.xe s₁) X.xe s:=by
 refine bP (ha aa s Z H _ I h) λv s1 hh=>?_
 obtain⟨x,H1,I1,r1,q1⟩:=hh;refine bP (hb aa s1 Z H1 _ I1 q1) λu s2 hh=>?_
 obtain⟨y,H2,I2,r2,q2⟩:=hh;exact hf v u s2 x y H2 I2 r1 r2 q2
def e8n{op:Operator}(ho:eB X (binaryOp op) r)(ha:PE X a ta)(hb:PE X b tb):PE X (.BinOp a op b pos) (Hg r ta tb):=by
 intro aa s Z H Q I h;exact wpAny_BinOp (ym ha hb I h λv u s2 x y H2 I2 rx ry q=>ho aa s2 Z H2 x y v u Q I2 rx ry q)
def e8o{op:UnaryOp}{r:V->Hp->VK->Prop}(ho:EL X (unaryOp op) r)(ha:PE X a ta):PE X (.UnaryOp op a pos) (tUn r ta):=by
 intro aa s Z H Q I h;exact UnaryOp_ (bP (ha aa s Z H _ I h) λv s1 ⟨x,H1,I1,r1,q1⟩=>ho aa s1 Z H1 x v Q I1 r1 q1)
def Ha
  (rule:∀i j t u s Q E,C i j->Q (.int (g i j) s.toks) { s with toks:=s.toks+1}->wpAny (model X.prog X.w) X.A (f (.int i t) (.int j u)) Q E s) :
  eB X f (rI C λi j=>.int (g i j)):=by
 intro aa s Z H x y v u Q I rx ry h;obtain⟨i,j,rfl,rfl,hc,q⟩:=h;obtain⟨t,rfl⟩:=rx;obtain⟨t',rfl⟩:=ry;exact rule i j t t' s _ _ hc ⟨.int (g i j),H,I.tok _,⟨_,rfl⟩,q⟩
def DG
  (rule:∀i j t u s Q E,Q (.int (g i j) s.toks) { s with toks:=s.toks+1}->wpAny (model X.prog X.w) X.A (f (.int i t) (.int j u)) Q E s) :
  eB X f (pA λi j=>.int (g i j)):=by
 intro aa s Z H x y v u Q I rx ry h;obtain⟨i,j,rfl,rfl,q⟩:=h;obtain⟨t,rfl⟩:=rx;obtain⟨t',rfl⟩:=ry;exact rule i j t t' s _ _ ⟨.int (g i j),H,I.tok _,⟨_,rfl⟩,q⟩
def zp{g:Int->Int->Bool}
  (rule:∀i j t u s Q E,Q (.bool (g i j)) s->wpAny (model X.prog X.w) X.A (f (.int i t) (.int j u)) Q E s) :
  eB X f (pA λi j=>.bl (g i j)):=by
 intro aa s Z H x y v u Q I rx ry h;obtain⟨i,j,rfl,rfl,q⟩:=h;obtain⟨t,rfl⟩:=rx;obtain⟨t',rfl⟩:=ry;exact rule i j t t' s _ _ ⟨.bl (g i j),H,I,rfl,q⟩
def xl(i j:Int):Prop:=0<j/\j<1073741824
def xm(i j:Int):Prop:=0<=j/\j<=1000000/\i.natAbs<2^64
def uf(i j:Int):Prop:=(-(2^64)<i/\i<2^64)\/(-(2^64)<j/\j<2^64)
def uf.ok{i j:Int}(h:uf i j):IntMulOk i j:=by
 rcases h with⟨h1,h2⟩|⟨h1,h2⟩
 .exact .of_left (intBits_le_64 h1 h2)
 .exact .of_right (intBits_le_64 h1 h2)
def zq:eB X (binaryOp .Add) (pA λi j=>.int (i+j)):=DG λ_ _ _ _ _ _ _ q=>add_int q
def Ξ:eB X (binaryOp .Sub) (pA λi j=>.int (i - j)):=DG λ_ _ _ _ _ _ _ q=>sub_int q
def zt:eB X (binaryOp .Mult) (rI uf λi j=>.int (i*j)):=Ha λ_ _ _ _ _ _ _ hc q=>mul_int q hc.ok
def Xi:eB X (binaryOp .FloorDiv) (rI xl λi j=>.int (i / j)):=Ha λi j _ _ _ _ _ hc q=>by
 have h1:(0:Int)<j:=hc.1;have h2:j<1073741824:=hc.2;exact floordiv_int (by lia) (by rw[Int.fdiv_eq_ediv_of_nonneg i (by lia)];exact q) (.inl (PyProof.noPylong_small (by lia)))
def Φ:eB X (binaryOp .Mod) (rI (λ_ j=>0<j) λi j=>.int (i%j)):=Ha λi j _ _ _ _ _ hc q=>by
 have h1:(0:Int)<j:=hc;exact mod_int' (by lia) (by rw[Int.fmod_eq_emod_of_nonneg i (by lia)];exact q)
def Ψ:eB X (binaryOp .Pow) (rI xm λi j=>.int (i^j.toNat)):=Ha λ_ _ _ _ _ _ _ hc q=>pow_int_small hc.1 hc.2.1 hc.2.2 q
def unI{f:aj->Sem aj}{g:Int->Int}
  (rule:∀i t s Q E,Q (.int (g i) s.toks) { s with toks:=s.toks+1}->wpAny (model X.prog X.w) X.A (f (.int i t)) Q E s) :
  EL X f (rU λi=>.int (g i)):=by
 intro aa s Z H x v Q I rx h;obtain⟨i,rfl,q⟩:=h;obtain⟨t,rfl⟩:=rx;exact rule i t s _ _ ⟨.int (g i),H,I.tok _,⟨_,rfl⟩,q⟩
def Ω:EL X (unaryOp .USub) (rU λi=>.int (-i)):=unI λ_ _ _ _ _ q=>neg_int q
def uy{Q:VK}(I:Inv X aa Z H s)(q:Q (.bl k) H)(e:k=k'):EP X aa Z Q (.bool k') s:=by
 subst e;exact⟨.bl k,H,I,rfl,q⟩
def wx:eB X (compareOp .Lt) (pA λi j=>.bl (decide (i<j))):=zp λ_ _ _ _ _ _ _ q=>lt_int q
def wu:eB X (compareOp .LtE) (pA λi j=>.bl (decide (i<=j))):=zp λ_ _ _ _ _ _ _ q=>le_int q
def e8p:eB X (compareOp .Gt) (pA λi j=>.bl (decide (j<i))):=zp λ_ _ _ _ _ _ _ q=>gt_int q
def T9:eB X (compareOp .In) (λx y H Q=>∃i j,x=.str i/\y=.str j/\Q (.bl (!(Builtin.Str.occurrences j i 0 j.length 1).isEmpty)) H):=by
 intro aa s Z H x y v u Q I rx ry h;obtain⟨i,j,rfl,rfl,q⟩:=h;obtain⟨t,rfl⟩:=rx;obtain⟨t',rfl⟩:=ry;exact in_str (uy I q rfl)
def zr:eB X (compareOp .Is) (λx y H Q=>y=.aI/\Q (.bl (decide (x=.aI))) H):=by
 intro aa s Z H x y v u Q I rx ry h;obtain⟨rfl,q⟩:=h;cases ry;refine is_none_gen (uy I q ?_);cases x <;> first
  |(cases rx;rfl)
  |(obtain⟨t,rfl⟩:=rx;rfl)
def u7:eB X (compareOp .IsNot) (λx y H Q=>y=.aI/\Q (.bl (!decide (x=.aI))) H):=by
 intro aa s Z H x y v u Q I rx ry h;obtain⟨rfl,q⟩:=h;cases ry;refine isnot_none_gen (uy I q ?_);cases x <;> first
  |(cases rx;rfl)
  |(obtain⟨t,rfl⟩:=rx;rfl)
def SV:eB X (compareOp .NotIn) (λx y H Q=>∃i j,x=.str i/\y=.str j/\Q (.bl (!(!(Builtin.Str.occurrences j i 0 j.length 1).isEmpty))) H):=by
 intro aa s Z H x y v u Q I rx ry h;obtain⟨i,j,rfl,rfl,q⟩:=h;obtain⟨t,rfl⟩:=rx;obtain⟨t',rfl⟩:=ry;exact notIn_str (uy I q rfl)
def eB.or(h:eB X f r)(h':eB X f r'):eB X f (λx y H Q=>r x y H Q\/r' x y H Q):=by
 intro aa s Z H x y v u Q I rx ry q;rcases q with q|q
 .exact h aa s Z H x y v u Q I rx ry q
 .exact h' aa s Z H x y v u Q I rx ry q
def Xj(ho:eB X (compareOp op) r)(ha:PE X a ta)(hb:PE X b tb)(hm:behindInMarks op b=false):PE X (.Compare a [op] [b] pos) (Hg r ta tb):=by
 intro aa s Z H Q I h;exact wpAny_Compare1 (ym ha hb I h λv u s2 x y H2 I2 rx ry q=>ho aa s2 Z H2 x y v u Q I2 rx ry q) hm
def sX(t:TE):TT:=λZ H Q=>t Z H λx H'=>∃k,x=.bl k/\Q k H'
def Xk(ho:eB X (compareOp op) r)(ha:PE X a ta)(hb:PE X b tb)(hm:behindInMarks op b=false):PT X (.Compare a [op] [b] pos) (sX (Hg r ta tb)):=by
 intro aa s Z H Q I h;refine wpAny_isTrue_Compare1 (bP (ha aa s Z H _ I h) λv s1 h1=>?_) hm
 obtain⟨x,H1,I1,r1,q1⟩:=h1;refine bP (hb aa s1 Z H1 _ I1 q1) λu s2 h2=>?_
 obtain⟨y,H2,I2,r2,q2⟩:=h2;refine bP (ho aa s2 Z H2 x y v u _ I2 r1 r2 q2) λc s3 h3=>?_
 obtain⟨z,H3,I3,r3,k,rfl,q3⟩:=h3;cases r3;exact wpAny_truthy_bool ⟨H3,I3,q3⟩
def Qk(r r':R2)(ta tb tc:TE):TE:=λZ H Q=>ta Z H λx H1=>tb Z H1 λy H2=>r x y H2 λz H3=>∃k,z=.bl k/\
 (if k=true then tc Z H3 λw' H4=>r' y w' H4 Q else Q (.bl false) H3)
def Vq(ho:eB X (compareOp op) r)(vX:eB X (compareOp zo) r')(ha:PE X a ta)(hb:PE X b tb)(hc:PE X c tc)
  (hm:lastMarks [op,zo] [b,c]=false:=by with_unfolding_all rfl):PT X (.Compare a [op,zo] [b,c] pos) (sX (Qk r r' ta tb tc)):=by
 intro aa s Z H Q I h;refine isTrue_chain (bP (ha aa s Z H _ I h) λv s1 h1=>?_) hm
 obtain⟨x,H1,I1,r1,q1⟩:=h1;refine test_link (bP (hb aa s1 Z H1 _ I1 q1) λu s2 h2=>?_)
 obtain⟨y,H2,I2,r2,q2⟩:=h2;refine bP (ho aa s2 Z H2 x y v u _ I2 r1 r2 q2) λd s3 h3=>?_
 obtain⟨z,H3,I3,r3,k,rfl,q3⟩:=h3;cases r3;refine wpAny_truthy_bool ?_;cases k with
 |false=>
  obtain⟨k',e',q'⟩:=q3;cases e';exact ite_ff ⟨H3,I3,q'⟩
 |true=>
  refine ite_tt (test_last (bP (hc aa s3 Z H3 _ I3 q3) λw' s4 h4=>?_))
  obtain⟨z',H4,I4,r4,q4⟩:=h4;refine bP (vX aa s4 Z H4 y z' u w' _ I4 r2 r4 q4) λd' s5 h5=>?_
  obtain⟨z2,H5,I5,r5,k2,rfl,q5⟩:=h5;cases r5;exact wpAny_truthy_bool ⟨H5,I5,q5⟩
def xA(K:aL)(x:V)(H:Hp)(k:Bool):Prop:=
 match x with
 |.aI=>k=false
 |.bl b=>k=b
 |.int i=>k=(i != 0)
 |.str y=>y.length<=sizeLine/\k=((y.length:Int) != 0)
 |.vQ y=>y.size<=sizeLine/\k=((y.size:Int) != 0)
 |.ref p=>(∃xs,dr K H p xs/\k = !xs.isEmpty)\/(∃xs,iI K H p xs/\k = !xs.isEmpty)\/∃kvs,H p=some (.dK kvs)/\k = !kvs.isEmpty
 |_=>False
def Th{vs:List (κ×aj)}(r:KV kvs vs):(!vs.isEmpty) = !kvs.isEmpty:=by
 cases r <;> rfl
def Nh(r:Vals xs aH):(!aH.toArray.isEmpty) = !xs.isEmpty:=by
 cases r <;> simp
def ye:(sizeLine:Nat)<2^63:=by rw[sizeLine_eq];decide
def γ:HD X (λx H Q=>∃k,xA X.K x H k/\Q k H):=by
 intro aa s Z H x v Q I rx h;obtain⟨k,e,q⟩:=h;have hl:=ye;have hs:sizeLine=16777216:=sizeLine_eq;cases x with
 |aI=>
  cases rx;have e':k=false:=e;subst e';exact truthy_none ⟨H,I,q⟩
 |bl b=>
  cases rx;have e':k=b:=e;subst e';exact wpAny_truthy_bool ⟨H,I,q⟩
 |int i=>
  obtain⟨t,rfl⟩:=rx;have e':k=(i != 0):=e;subst e';exact PySem.P.truthy_int ⟨H,I,q⟩
 |str y=>
  obtain⟨t,rfl⟩:=rx;obtain⟨hy,e'⟩:y.length<=sizeLine/\k=((y.length:Int) != 0):=e;subst e';exact PySem.P.truthy_str (by lia) ⟨H,I.tok _,q⟩
 |vQ y=>
  obtain⟨t,rfl⟩:=rx;obtain⟨hy,e'⟩:y.size<=sizeLine/\k=((y.size:Int) != 0):=e;subst e';exact PySem.W.truthy_bytes (by lia) ⟨H,I.tok _,q⟩
 |ref p=>
  cases rx;have e':(∃xs,dr X.K H p xs/\k = !xs.isEmpty)\/(∃xs,iI X.K H p xs/\k = !xs.isEmpty)\/∃kvs,H p=some (.dK kvs)/\k = !kvs.isEmpty:=e;rcases e' with⟨xs,hx,e'⟩|⟨xs,hx,e'⟩|⟨kvs,hx,e'⟩
  .subst e';obtain⟨aH,r,pl,hz⟩:=I.list hx;have hlen:=r.length;exact wpAny_truthy_list pl.isList (by simp only[fK];lia) ⟨H,I.tok _,by rw[Nh r];exact q⟩
  .subst e';obtain⟨aH,r,pl,hz⟩:=I.tuple hx;have hlen:=r.length;exact truthy_tuple pl (by simp only[fK];lia) ⟨H,I.tok _,by rw[Nh r];exact q⟩
  .subst e';obtain⟨hz,hS,vs,r,m⟩:kvs.length<=sizeLine/\(p == sysModules)=false/\∃vs,KV kvs vs/\s.heap.DictOf (Jd X.prog X.w) p vs:=I.bD p _ hx;have hlen:kvs.length=vs.length:=Paired.length r;exact wpAny_truthy_dict hS m (by lia) ⟨H,I.tok _,by rw[Th r];exact q⟩
 |_=>exact(show False from e).elim
def Vr(ha:PE X a ta)(he:∀whole,isTrue a X.env whole=(do let v <-whole;standAt a.pos;holding [v] (truthy v))):
  PT X a (λZ H Q=>ta Z H λx H'=>∃k,xA X.K x H' k/\Q k H'):=by
 intro aa s Z H Q I h;exact isTrue_plain (bP (ha aa s Z H _ I h) λv s1 ⟨x,H1,I1,r1,q1⟩=>γ aa s1 Z H1 x v Q I1 r1 q1) (he _)
def oG:eB X (binaryOp .Add) (λx y H Q=>∃i j,x=.str i/\y=.str j/\i.length+j.length<=sizeLine/\Q (.str (i++j)) H):=by
 intro aa s Z H x y v u Q I rx ry h;obtain⟨i,j,rfl,rfl,hz,q⟩:=h;obtain⟨t,rfl⟩:=rx;obtain⟨t',rfl⟩:=ry;exact add_str (λt' tk=>⟨.str (i++j),H,I.tok _,⟨_,rfl⟩,q⟩) hz
def vals1(r:Vals [x] us):∃u,us=[u]/\RelV x u:=by
 cases r with
 |cons r1 r2=>cases r2;exact⟨_,rfl,r1⟩
def vals2(r:Vals [x,y] us):∃u w',us=[u,w']/\RelV x u/\RelV y w':=by
 cases r with
 |cons r1 r2=>
  cases r2 with
  |cons r3 r4=>cases r4;exact⟨_,_,rfl,r1,r3⟩
def T_:bW X (.type "int") (λxs H Q=>(∃i,xs=[.int i]/\Q (.int i) H)\/∃k,xs=[.bl k]/\Q (.int (if k then 1 else 0)) H):=by
 intro aa s Z H xs us Q I r h;rcases h with⟨i,rfl,q⟩|⟨k,rfl,q⟩
 .obtain⟨u,rfl,t,rfl⟩:=vals1 r;exact call_int_int ⟨.int i,H,I,⟨_,rfl⟩,q⟩
 .obtain⟨u,rfl,r1⟩:=vals1 r;cases r1;exact call_int_bool ⟨.int (if k then 1 else 0),H,I.tok _,⟨_,rfl⟩,q⟩
end
variable{h:b_}{dx C:ah}{mA:Str->ai aj}{Q:aj->ay->Prop}{v:V}{o:ai aj}{u:aj}{K:aL}{f:Str}
structure oi (h:b_) (x dx C:ah) (mA:Str->ai aj):Prop where
 obj:h.get? x=some (PySem.W.instObj C dx)
 ns:h.Ns1 dx mA
 ne:dx≠x
def Ua(n:h.Ns1 dx mA):∃od,h.get? dx=some od/\∀name,PySem.W.lookIn name od=some (mA name):=by
 obtain⟨o,es,ep,ho,hd,hk,_,hm⟩:=n;refine⟨o,ho,λname=>?_⟩
 have e:=hm name;unfold nsFind findBy at e;rw[<-Array.find?_toList] at e;unfold PySem.W.lookIn;rw[hd];dsimp only;split
 .rename_i q
  rw[q] at e;exact congrArg some e
 .rename_i q
  rw[q] at e;have a:es.toList.any (·.refKey)=false:=by
   rw[List.any_eq_false];intro y hy;obtain⟨z,t,KA⟩:=hk y (Mj.mp hy);simp[DictEntry.refKey,KA]
  have a':¬es.toList.any (·.refKey)=true:=by rw[a];exact qF
  rw[br a'];exact congrArg some e
theorem oi.look{x:ah}(I:oi h x dx C mA):∃od,PySem.W.InstAt h x (PySem.W.instObj C dx) C (some od)/\∀name,PySem.W.lookIn name od=some (mA name):=
 let ⟨od,ho,hl⟩:=Ua I.ns
 ⟨od,⟨I.obj,rfl,rfl,ho⟩,hl⟩
section
variable{prog:dB}{w:cI}{A:c8}{E:aj->ay->Prop}{s:ay}{K:aL}{x dx C f:ah}{mA:Str->ai aj}{name:Str}{v:aj}
def Xl(X:K.In s.heap)(I:oi s.heap x dx C mA)(hg:PySem.W.plainGet K C name=true)(hh:PySem.W.hasDictIn K C=true)
  (ha:PySem.W.findIn K (.ref C) name=some none) (hv:mA name=some v) (KQ:PySem.W.handedIn v=true) (h:Q v { s with toks:=s.toks+1}) :
  wpAny (model prog w) A (getAttr (.ref x) name expr) Q E s:=by
 obtain⟨od,J,hl⟩:=I.look;exact PySem.W.get_value X J (PySem.W.plainGet_of hg).1 (PySem.W.findObj_own hh ha rfl (by rw[hl,hv])) KQ h
def Vs{Q:aj×List aj->ay->Prop}(X:K.In s.heap)(I:oi s.heap x dx C mA)(hg:PySem.W.plainGet K C name=true)
  (hf:PySem.W.findIn K (.ref C) name=some (some (.ref f))) (ht:PySem.W.isFn K (.ref f)=true) (hv:mA name=none) (h:Q (.ref f,[.ref x]) s) :
  wpAny (model prog w) A (getMethod (.ref x) name pl) Q E s:=by
 obtain⟨od,J,hl⟩:=I.look;exact PySem.W.method_fn X J (PySem.W.plainGet_of hg).1 (PySem.W.plainGet_of hg).2 hf (beq_iff_eq.mp ht) (by show(PySem.W.lookIn name od).map (·.isSome)=some false;rw[hl,hv];rfl) h
def Xm{Q:Unit->ay->Prop}(X:K.In s.heap)(I:oi s.heap x dx C mA)
  (hs:PySem.W.findIn K (.ref C) "__setattr__"=some (some (.builtin "object.__setattr__"))) (hp:PySem.W.plainOver K C=true) (ht:PySem.W.takerIn K C name=some none) (hh:PySem.W.hasDictIn K C=true)
  (hw:PySem.Within mA ns) (hsz:ns.length<=sizeLine)
  (h:∀h',oi h' x dx C (λy=>if y=name then some v else mA y)->Heap.SameBut dx s.heap h'->Q () { s with heap:=h',toks:=s.toks+2}) :
  wpAny (model prog w) A (setAttr (.ref x) name v) Q E s:=by
 obtain⟨od,J,hl⟩:=I.look;refine PySem.W.set_plain X J hs (PySem.W.osa_open (s:={ s with toks:=s.toks+1}) (r:=none) X J hp ht λb=>?_)
 obtain⟨cd,hc,AI⟩:=PySem.W.any_some hh;have hx:s.heap.get? x=some ⟨.ref C,some dx,.plain,#[]⟩:=I.obj;refine aE (aY (aE (aE (wpAny_loadPart hx (aE (PySem.W.Looks.here (s:={ s with toks:=s.toks+1}) (PySem.W.looks_clsIn X hc) ?_))))));rw[AI];refine aY (a:=some dx) (aE (aY (aE ?_)));refine wpAny_nsSet1 (s:={ s with toks:=s.toks+1}) I.ns λh' yP yU=>?_
 obtain⟨oD,esD,epD,KI,Ku,hcD⟩:=yP.count (PySem.Within.cons name v hw);refine aE (wpAny_lookBehind KI (by rw[Ku];exact pastItsLine_dict (ju hcD (by rw[kO];lia))) ?_)
 exact aY (h _ ⟨(yU.2 _ (Ne.symm I.ne)).trans I.obj,yP,I.ne⟩ yU)
def Vt(X:K.In s.heap)(hm:PySem.W.makesIn K C=true)
  (hi:PySem.W.findIn K (.ref C) "__init__"=some (some (.ref f))) (hf:PySem.W.typeIn K (.ref f)=some (.type "function"))
  (h:codeAny (model prog w) (A.under (.builtin "type.__call__" ⟨.ref C::vs,kw⟩)) (.call (.ref f) ⟨.ref (s.heap.objs.size+1)::vs,kw⟩) (PySem.W.InitBack (s.heap.objs.size+1) R) {s with heap:=(s.heap.push PySem.W.emptyDict).push (PySem.W.instObj C s.heap.objs.size)}) :
  codeAny (model prog w) A (.call (.ref C) ⟨vs,kw⟩) R s:=by
 obtain⟨hh,g,d,t,os⟩:=s;exact PySem.W.make_core (PySem.W.makes_of X hm) (PySem.W.looks_findIn X hi) (λself=>PySem.W.bind_fn X self hf) (.inl rfl) h
end
noncomputable def eD(f:Str)(v:V):List (Str×V)->List (Str×V)
 |[]=>[(f,v)]
 |(g,x)::r=>if g=f then(g,v)::r else(g,x)::eD f v r
theorem M8(f g:Str)(v:V):∀fs:List (Str×V),(eD f v fs).lookup g=if g=f then some v else fs.lookup g
 |[]=>by
  show List.lookup g [(f,v)]=_;by_cases h:g=f
  .have hb:(g == f)=true:=beq_iff_eq.mpr h;simp only[List.lookup,hb,bJ h]
  .have hb:(g == f)=false:=qJ.mpr h;simp only[List.lookup,hb,br h]
 |(k,x)::r=>by
  have ih:=M8 f g v r;rw[show eD f v ((k,x)::r)=(if k=f then(k,v)::r else(k,x)::eD f v r) from rfl]
  by_cases hk:k=f
  .rw[bJ hk];by_cases h:g=k
   .have hb:(g == k)=true:=beq_iff_eq.mpr h;simp only[List.lookup,hb,bJ (h.trans hk)]
   .have hb:(g == k)=false:=qJ.mpr h;simp only[List.lookup,hb,br (λe:g=f=>h (e.trans hk.symm))]
  .rw[br hk];by_cases h:g=k
   .have hb:(g == k)=true:=beq_iff_eq.mpr h;simp only[List.lookup,hb,br (λe:g=f=>hk (h.symm.trans e))]
   .have hb:(g == k)=false:=qJ.mpr h;simp only[List.lookup,hb];exact ih
theorem Im(f:Str)(v:V):∀fs:List (Str×V),f∈(eD f v fs).map (·.1)/\∀g,g∈fs.map (·.1)->g∈(eD f v fs).map (·.1)
 |[]=>⟨by simp[eD],λg h=>by simp at h⟩
 |(k,x)::r=>by
  obtain⟨i1,i2⟩:=Im f v r;rw[show eD f v ((k,x)::r)=(if k=f then(k,v)::r else(k,x)::eD f v r) from rfl]
  by_cases hk:k=f
  .rw[bJ hk];subst hk;exact⟨by simp,λg h=>by simpa using h⟩
  .rw[br hk];refine⟨?_,λg h=>?_⟩
   .rw[cZ];exact qt _ i1
   .rw[cZ] at h ⊢;rcases y09.mp h with e|e
    .exact y09.mpr (.inl e)
    .exact qt _ (i2 g e)
theorem M9(f:Str)(v:V):∀fs:List (Str×V),(eD f v fs).length<=fs.length+1
 |[]=>by simp[eD]
 |(k,x)::r=>by
  have ih:=M9 f v r;rw[show eD f v ((k,x)::r)=(if k=f then(k,v)::r else(k,x)::eD f v r) from rfl]
  by_cases hk:k=f
  .rw[bJ hk,kO,kO];lia
  .rw[br hk,kO,kO];lia
def iR.some_of(r:iR (some v) o):∃u,o=some u/\RelV v u:=by
 cases o with
 |none=>exact(show False from r).elim
 |some u=>exact⟨u,rfl,r⟩
def iR.none_of(r:iR none o):o=none:=by
 cases o with
 |none=>rfl
 |some u=>exact(show False from r).elim
def Ub(r:RelV v u):PySem.W.handedIn u=true:=by
 cases v with
 |aI=>cases(show u=Value.none from r);rfl
 |bl b=>cases(show u=Value.bool b from r);rfl
 |int i=>obtain⟨t,e⟩:=(show ∃t,u=Value.int i t from r);cases e;rfl
 |str x=>obtain⟨t,e⟩:=(show ∃t,u=Value.str x t from r);cases e;rfl
 |vQ b=>obtain⟨t,e⟩:=(show ∃t,u=Value.bytes b t from r);cases e;rfl
 |AE b=>obtain⟨t,e⟩:=(show ∃t,u=Value.float b t from r);cases e;rfl
 |ref a=>cases(show u=Value.ref a from r);rfl
 |ty n=>cases(show u=Value.type n from r);rfl
section
variable{P:dB}{w:cI}{H H':Hp}{h h':b_}{a C dx:ah}{fs AF:List (Str×V)}
def Je(bD:jj P w H h)(e:H a=some (.ins C dx fs)):∃mA,oi h a dx C mA/\(∀f,iR (fs.lookup f) (mA f))/\PySem.Within mA (fs.map (·.1))/\fs.length<=1000/\H dx=some (.own a):=by
 obtain⟨d,z,ne,ob,mA,n,r,q⟩:=(show bH P w H h a (.ins C dx fs) from bD a _ e);exact⟨mA,⟨ob,n,ne⟩,r,q,z,d⟩
end
structure Cls (K:aL) (C:ah):Prop where
 pg:PySem.W.plainGet K C Str.empty=true
 hd:PySem.W.hasDictIn K C=true
 po:PySem.W.plainOver K C=true
 sa:PySem.W.findIn K (.ref C) "__setattr__"=some (some (.builtin "object.__setattr__"))
def Cls.get(c:Cls K C)(f:Str):PySem.W.plainGet K C f=true:=c.pg
def gf(K:aL)(C:ah)(f:Str):Prop:=PySem.W.findIn K (.ref C) f=some none
def gf.D_(n:gf K C f):PySem.W.takerIn K C f=some none:=by
 unfold PySem.W.takerIn;rw[show PySem.W.findIn K (.ref C) f=some none from n];rfl
structure Meth (K:aL) (C:ah) (m:Str) (f:ah):Prop where
 at_:PySem.W.findIn K (.ref C) m=some (some (.ref f))
 fn:PySem.W.isFn K (.ref f)=true
 kp:PySem.W.keepIn K (.ref f)=true
section
variable{X:Cx}{aa:List (ah×Obj)}{Z:St}{H:Hp}{s:ay}{a C dx:ah}{fs:List (Str×V)}{f:Str}{v:V}{A:c8}{E:aj->ay->Prop}
def Ni(I:Inv X aa Z H s)(e:H a=some (.ins C dx fs))(c:Cls X.K C)(n:gf X.K C f)(l:fs.lookup f=some v)
  (h:∀u s',Inv X aa Z H s'->RelV v u->Q u s'):wpAny (model X.prog X.w) A (getAttr (.ref a) f b) Q E s:=by
 obtain⟨mA,O,r,_,_,_⟩:=Je I.bD e;obtain⟨u,hu,ru⟩:=iR.some_of (v:=v) (o:=mA f) (by rw[<-l];exact r f)
 exact Xl I.jK O (c.get f) c.hd n hu (Ub ru) (h u _ (I.tok _) ru)
def Nj{g:ah}{Q:aj×List aj->ay->Prop}(I:Inv X aa Z H s)(e:H a=some (.ins C dx fs))(c:Cls X.K C)(k:Meth X.K C m g)(l:fs.lookup m=none)
  (h:Q (.ref g,[.ref a]) s):wpAny (model X.prog X.w) A (getMethod (.ref a) m pl) Q E s:=by
 obtain⟨mA,O,r,_,_,_⟩:=Je I.bD e;have hn:mA m=none:=iR.none_of (by rw[<-l];exact r m)
 exact Vs I.jK O (c.get m) k.at_ k.fn hn h
def Nk{Q:Unit->ay->Prop}(I:Inv X aa Z H s)(e:H a=some (.ins C dx fs))(c:Cls X.K C)(n:gf X.K C f)(hl:fs.length<1000)(ry:RelV y u)
  (h:∀s',Inv X aa Z (upd H a (.ins C dx (eD f y fs))) s'->Q () s'):wpAny (model X.prog X.w) A (setAttr (.ref a) f u) Q E s:=by
 obtain⟨mA,O,r,wi,_,ho⟩:=Je I.bD e;have hz:(fs.map (·.1)).length<=sizeLine:=by rw[bq,sizeLine_eq];lia
 refine Xm I.jK O c.sa c.po n.D_ c.hd wi hz λh' O' sb=>h _ ?_
 have hd:∃o,h'.get? dx=some o:=let ⟨o,_,_,e',_⟩:=O'.ns;⟨o,e'⟩
 refine I.write (x:=a) (e:=dx) (by rw[e];exact tF) (.inr ho) (λb q hb z=>(sb.2 b hb).trans z) hd ?_
 refine⟨by rw[dI O.ne];exact ho,?_,O.ne,O'.obj,_,O'.ns,λg=>?_,λg hg=>?_⟩
 .have:=M9 f y fs;lia
 .show iR ((eD f y fs).lookup g) (if g=f then some u else mA g)
  rw[M8];by_cases q:g=f
  .rw[bJ q,bJ q];exact ry
  .rw[br q,br q];exact r g
 .by_cases q:g=f
  .rw[q];exact(Im f y fs).1
  .refine(Im f y fs).2 g (wi g λz=>hg ?_)
   show(if g=f then some u else mA g)=none
   rw[br q];exact z
def Inv.made(I:Inv X aa Z H s):Inv X aa Z (upd (upd H s.heap.objs.size (.own (s.heap.objs.size+1))) (s.heap.objs.size+1) (.ins C s.heap.objs.size []))
  {s with heap:=(s.heap.push PySem.W.emptyDict).push (PySem.W.instObj C s.heap.objs.size)}:=by
 have e1:(s.heap.push PySem.W.emptyDict).get? s.heap.objs.size=some PySem.W.emptyDict:=i_ s.heap rfl;have e2:((s.heap.push PySem.W.emptyDict).push (PySem.W.instObj C s.heap.objs.size)).get? (s.heap.objs.size+1)=some (PySem.W.instObj C s.heap.objs.size):=by
  have:=i_ (s.heap.push PySem.W.emptyDict) (o:=PySem.W.instObj C s.heap.objs.size) rfl
  rwa[Heap.size_push] at this
 have e3:(s.heap.push PySem.W.emptyDict).Ns s.heap.objs.size (λ_=>none):=⟨PySem.W.emptyDict,#[],_,e1,rfl,(λe he=>cR he (by simp)),λ_=>rfl⟩
 have I1:=I.laid (a:=s.heap.objs.size) (o:=.own (s.heap.objs.size+1)) (h':=s.heap.push PySem.W.emptyDict) (t':=s.toks) (λb u q=>dy _ q) (cv _) ⟨_,e1⟩
 refine I1.laid (a:=s.heap.objs.size+1) (o:=.ins C s.heap.objs.size []) (t':=s.toks) (λb u q=>dy _ q) (Ew (Heap.size_push _ _)) ?_
 have ne:s.heap.objs.size≠s.heap.objs.size+1:=ie (vx _);refine⟨by rw[dI ne,aK],k_ _,ne,e2,λ_=>none,(Heap.Ns1.of_empty e3).at λo q=>dy _ q,λ_=>tF,λy hy=>cR rfl hy⟩
def Xn(hb:attributeBase e f env (eval e env)=eval e env)
  (h:wpAny (model prog w) A (eval e env) (λo s₁=>wpAny (model prog w) A (getAttr o f true) Q E s₁) E s):wpAny (model prog w) A (eval (.Attribute e f pos) env) Q E s:=
 Attribute_any_ h (by rw[arm_eval_Attribute,hb])
end
def LR(K:aL)(ta:TE)(f:Str):TE:=λZ H Q=>ta Z H λx H1=>∃a C dx fs v,x=.ref a/\H1 a=some (.ins C dx fs)/\Cls K C/\gf K C f/\fs.lookup f=some v/\Q v H1
def LH(K:aL)(ta tv:TE)(f:Str):TS:=λD Z H=>tv Z H λy H1=>ta Z H1 λx H2=>∃a C dx fs,x=.ref a/\H2 a=some (.ins C dx fs)/\Cls K C/\gf K C f/\fs.length<1000/\
 D.nx Z (upd H2 a (.ins C dx (eD f y fs)))
def xt(X:Cx)(op:Operator)(rd:V->V->Hp->VK->Prop):Prop:=
 ∀(aa:List (ah×Obj)) (s:ay) (Z:St) (H:Hp) (x y:V) (u v:aj) (Q:VK),Inv X aa Z H s->RelV x u->RelV y v->rd x y H Q->wpAny (model X.prog X.w) X.A (inplaceOp op u v) (EP X aa Z Q) X.xe s
def Xo(K:aL)(ta tv:TE)(rd:V->V->Hp->VK->Prop)(f:Str):TS:=λD Z H=>ta Z H λx H1=>∃a C dx fs v,x=.ref a/\H1 a=some (.ins C dx fs)/\Cls K C/\gf K C f/\fs.lookup f=some v/\
 tv Z H1 λy H2=>rd v y H2 λz H3=>∃J5 AF,H3 a=some (.ins C J5 AF)/\AF.length<1000/\D.nx Z (upd H3 a (.ins C J5 (eD f z AF)))
section
variable{X:Cx}{o e value:Expr}{f:Str}{pos pos' fY:Pos}{ta tv:TE}
def δ(he:PE X e ta)(hb:attributeBase e f X.env (eval e X.env)=eval e X.env):PE X (.Attribute e f pos) (LR X.K ta f):=by
 intro aa s Z H Q I h;refine Xn hb (bP (he aa s Z H _ I h) λu s1 hh=>?_)
 obtain⟨x,H1,I1,rx,a,C,dx,fs,v,ex,ea,c,n,l,q⟩:=hh;subst ex;obtain rfl:u=Value.ref a:=rx;exact Ni I1 ea c n l λu' s2 I2 ru=>⟨v,H1,I2,ru,q⟩
def ε(ha:PE X o ta)(hv:PE X value tv)(hs:swapsWith value (some (.Attribute o f pos')) pos.line X.env=pure false):PS X (.Assign [.Attribute o f pos'] value pos) (LH X.K ta tv f):=by
 intro aa s Z H D I h;refine plainObj_wpAny_Assign_Attribute (bP (hv aa s Z H _ I h) λu s1 h1=>?_) hs
 obtain⟨y,H1,I1,ry,q⟩:=h1;refine bP (ha aa s1 Z H1 _ I1 q) λov s2 h2=>?_
 obtain⟨x,H2,I2,rx,a,C,dx,fs,rfl,ea,c,n,l,q2⟩:=h2;obtain rfl:ov=Value.ref a:=rx;exact Nk I2 ea c n l ry λs3 I3=>⟨Z,_,I3,q2⟩
def Uc{op:Operator}(ha:PE X o ta)(hv:PE X value tv)(yT:xt X op rd):PS X (.AugAssign (.Attribute o f fY) op value pos) (Xo X.K ta tv rd f):=by
 intro aa s Z H D I h;refine wpAny_AugAssign_AttributeAny (bP (ha aa s Z H _ I h) λov s1 hh=>?_)
 obtain⟨x,H1,I1,rx,a,C,dx,fs,v,ex,ea,c,n,l,q⟩:=hh;subst ex;obtain rfl:ov=Value.ref a:=rx;refine Ni I1 ea c n l λu s2 I2 ru=>bP (hv aa s2 Z H1 _ I2 q) λw3 s3 h3=>?_
 obtain⟨y,H2,I3,ry,q3⟩:=h3;refine bP (yT aa s3 Z H2 v y u w3 _ I3 ru ry q3) λw4 s4 h4=>?_
 obtain⟨z,H3,I4,rz,J5,AF,ea',l',q4⟩:=h4;exact Nk I4 ea' c n l' rz λs5 I5=>⟨Z,_,I5,q4⟩
def LA:V->V->Hp->VK->Prop:=λx y H Q=>∃i j,x=.int i/\y=.int j/\Q (.int (i+j)) H
def ζ:xt X .Add LA:=by
 rintro aa s Z H x y u v Q I rx ry ⟨i,j,rfl,rfl,q⟩;obtain⟨t,rfl⟩:=(show ∃t,u=Value.int i t from rx);obtain⟨t',rfl⟩:=(show ∃t',v=Value.int j t' from ry);exact PyProof.Rows.iadd_int ⟨.int (i+j),H,I.tok _,⟨_,rfl⟩,q⟩
end
variable{k:Nat}{A:c8}{C f:ah}{us:List aj}{kw:List (Str×aj)}{P:dB}{w:cI}{K:aL}{mg:Str->ai aj}{base:b_}{outer:List Env}{s:ay}{H:Hp}{Q:VK}{ps N:List Str}{aa:List (ah×Obj)}{Z:St}{vs:List V}{qual:Str}{scope:Scope}
structure cA (k:Nat) (A:c8):Prop where
 hd:A.handled=none
 dp:A.depth+3*k+5<recursionLimit
 un:A.units+16*k+200<cLine
def cA.mono(r:cA k A)(h:j<=k):cA j A:=⟨r.hd,by have:=r.dp;lia,by have:=r.un;lia⟩
def cA.deeper(r:cA (k+1) A)(env:Env):cA k (A.deeper env):=
 ⟨r.hd,by have:=r.dp;show A.depth+1+3*k+5<_;lia,by have:=r.un;show A.units+3+16*k+200<_;lia⟩
def Ti:(A.under (.builtin "type.__call__" ⟨.ref C::us,kw⟩)).depth=A.depth+1:=by
 rfl
def Tj:(A.under (.builtin "type.__call__" ⟨.ref C::us,kw⟩)).units=A.units+1:=by
 rfl
def cA.make(r:cA (k+1) A)(C:ah)(us:List aj)(kw:List (Str×aj)):cA k (A.under (.builtin "type.__call__" ⟨.ref C::us,kw⟩)):=
 ⟨r.hd,by have:=r.dp;rw[Ti];lia,by have:=r.un;rw[Tj];lia⟩
def cA.depth(r:cA k A):A.depth<recursionLimit:=by have:=r.dp;lia
def cA.units(r:cA k A):A.units+64<cLine:=by have:=r.un;lia
def sW:TA:=λ_ H Q=>Q [] H
def sT(ta:TE)(tr:TA):TA:=λZ H Q=>ta Z H λx H1=>tr Z H1 λxs H2=>Q (x::xs) H2
section
variable{X:Cx}{e:Expr}{es:List Expr}{te:TE}{t:TA}{pos:Pos}
def my:PA X [] sW:=λ_ _ _ _ H Q I h=>Calls.spliced_nil ⟨[],H,I,.nil,h⟩
def FL(ha:PE X e te)(hr:PA X es t)(hs:starEach (e::es) X.env=(false,eval e X.env)::starEach es X.env:=by rfl):PA X (e::es) (sT te t):=by
 intro pos aa s Z H Q I h;rw[hs];show wpAny _ _ (spliced ((false,eval e X.env)::backTo pos (starEach es X.env))) _ _ s;refine Calls.spliced_cons (bP (ha aa s Z H _ I h) λu s1 hh=>?_)
 obtain⟨x,H1,I1,r1,q1⟩:=hh;exact bP (hr pos aa s1 Z H1 _ I1 q1) λus s2 ⟨xs,H2,I2,r2,q2⟩=>⟨x::xs,H2,I2,.cons r1 r2,q2⟩
def LZ(t:TA):TE:=λZ H Q=>t Z H λxs H1=>xs.length<=sizeLine/\∀p,H1 p=none->Q (.ref p) (upd H1 p (.tup xs))
def LV(t:TA):TE:=λZ H Q=>t Z H λxs H1=>xs.length<=sizeLine/\∀p,H1 p=none->Q (.ref p) (upd H1 p (.lst xs))
def η{x1}(h:PA X es t):PE X (.Tuple es x1 pos) (LZ t):=by
 intro aa s Z H Q I hq;refine wpAny_Tuple_spliced (bP (h pos aa s Z H _ I hq) λus s1 ⟨xs,H1,I1,r,z,q⟩=>⟨by rw[<-r.length];exact z,?_⟩)
 have hf:H1 s1.heap.objs.size=none:=I1.bD.fresh (cv _);refine⟨.ref s1.heap.objs.size,upd H1 s1.heap.objs.size (.tup xs),I1.laid (t':=s1.toks) (λb u e=>dy _ e) (cv _) ?_,rfl,q _ hf⟩
 exact⟨z,us,r,⟨_,i_ _ rfl,rfl,_,rfl⟩⟩
def θ(h:PA X es t):PE X (.List es pos) (LV t):=by
 intro aa s Z H Q I hq;refine wpAny_List_spliced (bP (h pos aa s Z H _ I hq) λus s1 ⟨xs,H1,I1,r,z,q⟩=>⟨by rw[<-r.length];exact z,?_⟩)
 have hf:H1 s1.heap.objs.size=none:=I1.bD.fresh (cv _);refine⟨.ref s1.heap.objs.size,upd H1 s1.heap.objs.size (.lst xs),I1.laid (t':=s1.toks) (λb u e=>dy _ e) (cv _) ?_,rfl,q _ hf⟩
 exact⟨z,us,0,r,i_ _ rfl⟩
end
abbrev Sp:=List V->Hp->VK->XK->Prop
abbrev tH:=List Env->Hp->ay->XK->aj->ay->Prop
variable{CX:tH}
structure n6 (P:dB) (w:cI) (K:aL) (mg:Str->ai aj) (base:b_) (A:c8) (outer:List Env) (s:ay) (H:Hp):Prop where
 frames:A.frames=some outer
 mod:Mod K mg base
 bs:∀b o,base.get? b=some o->s.heap.get? b=some o/\H b=none
 rM:base.objs.size<=s.heap.objs.size
 iW:s.heap.FunFrames base outer
 uK:∀b∈km outer,H b=none
 bD:jj P w H s.heap
 bare:AllBare s.gens
def CE(outer:List Env)(P:dB)(w:cI)(H:Hp)(s:ay)(Q:VK)(u:aj)(s':ay):Prop:=
 ∃v H',s'.os=s.os/\AllBare s'.gens/\Un (km outer) [] H H' s.heap s'.heap/\jj P w H' s'.heap/\RelV v u/\Q v H'
def CR(CX:tH)(outer:List Env)(P:dB)(w:cI)(H:Hp)(s:ay)(Q:VK)(E:XK)(r:Result)(s':ay):Prop:=
 match r with
 |.ok (.ret u)=>CE outer P w H s Q u s'
 |.ok _=>False
 |.error e=>CX outer H s E e s'
structure dC (P:dB) (w:cI) (K:aL) (mg:Str->ai aj) (base:b_) (CX:tH) (k:Nat) (f:ah) (fd:lq) (ps:List Str) (sp:Sp):Prop where
 len:∀vs H Q E,sp vs H Q E->vs.length=ps.length
 run:∀(A:c8) (outer:List Env) (s:ay) (H:Hp) (args:Args) (us:List aj) (vs:List V) (Q:VK) (E:XK),cA k A->n6 P w K mg base A outer s H->BindsTo s fd args (ps.zip us)->Vals vs us->sp vs H Q E->
  codeAny (model P w) A (.call (.ref f) args) (CR CX outer P w H s Q E) s
def n6.make(e:n6 P w K mg base A outer s H)(C:ah)(us:List aj)(kw:List (Str×aj)):
  n6 P w K mg base (A.under (.builtin "type.__call__" ⟨.ref C::us,kw⟩)) outer s H:=⟨by first|exact e.frames|(simpa[Around.under,Code.envs,Code.isFrame,pushEnvs] using e.frames),e.mod,e.bs,e.rM,e.iW,e.uK,e.bD,e.bare⟩
section
variable{X:Cx}{aa:List (ah×Obj)}{Z:St}{H:Hp}{s s':ay}
def Inv.CI(I:Inv X aa Z H s):n6 X.prog X.w X.K X.mg X.base X.A X.stack s H:=
 ⟨I.ok.frames,I.ok.mod,I.bs,ju I.ok.rM I.sz,I.stack,I.jT,I.bD,I.bare⟩
def Inv.after(I:Inv X aa Z H s)(h:CE X.stack X.prog X.w H s Q u s'):EP X aa Z Q u s':=by
 obtain⟨v,H',os,bare,un,bD,r,q⟩:=h;obtain⟨hh,g,d,t,os'⟩:=s';obtain rfl:os'=s.os:=os;exact⟨v,H',I.call (h':=hh) (g':=g) (d':=d) (t':=t) (ch:=[]) un bD bare (λb z=>cR z (by simp)),r,q⟩
end
def wQ(sp:Sp)(kj:List V)(E:St->XK)(t:TA):TE:=λZ H Q=>t Z H λvs H1=>sp (vs++kj) H1 Q (E Z)
def sU(C:ah)(m:Str)(sp:Sp)(kj:List V)(E:St->XK)(ta:TE)(t:TA):TE:=λZ H Q=>ta Z H λx H1=>∃a dx fs,x=.ref a/\H1 a=some (.ins C dx fs)/\fs.lookup m=none/\
 t Z H1 λvs H2=>sp (x::(vs++kj)) H2 Q (E Z)
def wU(C:ah)(sp:Sp)(kj:List V)(E:St->XK)(t:TA):TE:=λZ H Q=>t Z H λvs H1=>∀x dx,H1 x=none->H1 dx=none->dx≠x->
 sp (.ref x::(vs++kj)) (upd (upd H1 dx (.own x)) x (.ins C dx [])) (λv H2=>v=.aI/\Q (.ref x) H2) (E Z)
def Binds(K:aL)(fd:lq)(ps:List Str)(ds:List aj):Prop:=
 ∀(s:ay) (us:List aj),K.In s.heap->(us++ds).length=ps.length->BindsTo s fd ⟨us,[]⟩ (ps.zip (us++ds))
def Binds.all(h:∀us:List aj,us.length=ps.length->bindArgs fd ⟨us,[]⟩=pure (ps.zip us)):Binds K fd ps []:=λs us _ hl=>by
 rw[jW] at hl ⊢;exact .of_eq (h us hl)
def vJ(CX:tH)(X:Cx)(E:St->XK):Prop:=∀(aa:List (ah×Obj)) (Z:St) (H:Hp) (s:ay) (e:aj) (s':ay),Inv X aa Z H s->CX X.stack H s (E Z) e s'->X.xe e s'
section
variable{X:Cx}{CX:tH}{k:Nat}{f C:ah}{fd:lq}{ps:List Str}{sp:Sp}{kj:List V}{ds:List aj}{E:St->XK}{x m:Str}{p pos apos:Pos}{e o:Expr}{es:List Expr}{ta:TE}{t:TA}
def F4(F:dC X.prog X.w X.K X.mg X.base CX k f fd ps sp)(hr:cA k X.A)(hb:Binds X.K fd ps ds)(hd:Vals kj ds)(hx:vJ CX X E)
  (I:Inv X aa Z H s) (r:Vals vs us) (h:sp (vs++kj) H Q (E Z)):wpAny (model X.prog X.w) X.A (call (.ref f) us) (EP X aa Z Q) X.xe s:=by
 have r2:Vals (vs++kj) (us++ds):=r.append hd;have hl:(us++ds).length=ps.length:=by rw[<-r2.length];exact F.len _ _ _ _ h
 refine wpAny_call (codeAny_mono (F.run X.A X.stack s H ⟨us,[]⟩ (us++ds) (vs++kj) Q (E Z) hr I.CI (hb s us I.jK hl) r2 h) λr s' hq=>?_)
 cases r with
 |error e=>exact hx aa Z H s e s' I hq
 |ok fl=>
  cases fl with
  |ret u=>exact I.after hq
  |next=>exact False.elim hq
  |brk=>exact False.elim hq
  |cont=>exact False.elim hq
def Xp(F:dC X.prog X.w X.K X.mg X.base CX k f fd ps sp)(hr:cA k X.A)(hg:Gl X x)(hm:X.mg x=some (.ref f))(hk:PySem.W.keepIn X.K (.ref f)=true)(hb:Binds X.K fd ps ds)(hd:Vals kj ds)(hx:vJ CX X E)
  (ha:PA X (e::es) t) (jm:(x == ("__debug__":Str))=false:=by decide) (he:starEach (e::es) X.env=(false,eval e X.env)::starEach es X.env:=by rfl) (jR:(backTo pos (starEach es X.env)).any (·.1)=false:=by rfl) :
  PE X (.Call (.Name x p) (e::es) [] pos) (wQ sp kj E t):=by
 intro aa s Z H Q I h;refine wpAny_Call_Name_kw (xW I hg hm ?_ jm);refine PySem.W.callWith_K (h₀:=X.base) I.ok.mod.AS hk (bP (ha pos aa s Z H _ I h) λus s1 ⟨vs,H1,I1,r,q⟩=>⟨I1.jK,?_⟩) he jR
 exact F4 F hr hb hd hx I1 r q
def Vu(F:dC X.prog X.w X.K X.mg X.base CX k f fd ps sp)(hr:cA k X.A)(hg:Gl X x)(hm:X.mg x=some (.ref f))(hk:PySem.W.keepIn X.K (.ref f)=true)(hb:Binds X.K fd ps ds)(hd:Vals kj ds)(hx:vJ CX X E)
  (jm:(x == ("__debug__":Str))=false:=by decide):PE X (.Call (.Name x p) [] [] pos) (wQ sp kj E sW):=by
 intro aa s Z H Q I h;refine wpAny_Call_Name_kw (xW I hg hm ?_ jm);exact PySem.W.callWith_K0 I.jK hk (F4 (us:=[]) F hr hb hd hx I .nil h)
def Xq{pl:Sem Bool}(he:PE X o ta)(c:Cls X.K C)(hm:Meth X.K C m f)(F:dC X.prog X.w X.K X.mg X.base CX k f fd ps sp)(hr:cA k X.A)(hb:Binds X.K fd ps ds)(hd:Vals kj ds)(hx:vJ CX X E)(ha:PA X (e::es) t)
  (mi:starEach (e::es) X.env=(false,eval e X.env)::starEach es X.env:=by rfl) (jR:(backTo pos (starEach es X.env)).any (·.1)=false:=by rfl)
  (ht:eval (.Call (.Attribute o m apos) (e::es) [] pos) X.env=(do
   let ov <-eval o X.env
   standAt apos.atName
   let (f,first) <-holding [ov] (getMethod ov m pl)
   callWith pos f first (backTo pos (starEach (e::es) X.env)) (backToKw pos (keywordEach [] X.env))):=by rfl) :
  PE X (.Call (.Attribute o m apos) (e::es) [] pos) (sU C m sp kj E ta t):=by
 intro aa s Z H Q I h;refine PySem.W.methodCall_KW (pl:=pl) (bP (he aa s Z H _ I h) λu s1 hh=>?_) ht
 obtain⟨x,H1,I1,rx,a,dx,fs,ex,ea,l,q⟩:=hh;subst ex;obtain rfl:u=Value.ref a:=rx;refine Nj I1 ea c hm l ?_;refine PySem.W.callWith_K (first:=[.ref a]) (h₀:=X.base) I.ok.mod.AS hm.kp (bP (ha pos aa s1 Z H1 _ I1 q) λus s2 ⟨vs,H2,I2,r,q2⟩=>⟨I2.jK,?_⟩) mi jR
 exact F4 (us:=.ref a::us) (vs:=.ref a::vs) F hr hb hd hx I2 (.cons rfl r) q2
def Vv(he:PE X o ta)(c:Cls X.K C)(hm:Meth X.K C m f)(F:dC X.prog X.w X.K X.mg X.base CX k f fd ps sp)(hr:cA k X.A)(hb:Binds X.K fd ps ds)(hd:Vals kj ds)(hx:vJ CX X E)
  (ht:eval (.Call (.Attribute o m apos) [] [] pos) X.env=(do
   let ov <-eval o X.env
   standAt apos.atName
   let (f,first) <-holding [ov] (getMethod ov m pl)
   callWith pos f first (backTo pos (starEach [] X.env)) (backToKw pos (keywordEach [] X.env))):=by rfl) :
  PE X (.Call (.Attribute o m apos) [] [] pos) (sU C m sp kj E ta sW):=by
 intro aa s Z H Q I h;refine PySem.W.methodCall_KW (pl:=pl) (bP (he aa s Z H _ I h) λu s1 hh=>?_) ht
 obtain⟨x,H1,I1,rx,a,dx,fs,ex,ea,l,q⟩:=hh;subst ex;obtain rfl:u=Value.ref a:=rx;refine Nj I1 ea c hm l ?_;exact PySem.W.callWith_K0 (first:=[.ref a]) I1.jK hm.kp (F4 (us:=[.ref a]) (vs:=[.ref a]) F hr hb hd hx I1 (.cons rfl .nil) q)
structure Mk (K:aL) (C f:ah):Prop where
 makes:PySem.W.makesIn K C=true
 init:PySem.W.findIn K (.ref C) "__init__"=some (some (.ref f))
 fn:PySem.W.isFn K (.ref f)=true
 kp:PySem.W.keepIn K (.ref C)=true
def Vw(M:Mk X.K C f)(F:dC X.prog X.w X.K X.mg X.base CX k f fd ps sp)(hr:cA (k+1) X.A)(hb:Binds X.K fd ps ds)(hd:Vals kj ds)
  (hx:vJ CX X E) (I:Inv X aa Z H s) (r:Vals vs us)
  (h:∀x dx,H x=none->H dx=none->dx≠x->sp (.ref x::(vs++kj)) (upd (upd H dx (.own x)) x (.ins C dx [])) (λv H2=>v=.aI/\Q (.ref x) H2) (E Z)) :
  wpAny (model X.prog X.w) X.A (call (.ref C) us) (EP X aa Z Q) X.xe s:=by
 have hq:=h (s.heap.objs.size+1) s.heap.objs.size (I.bD.fresh (qG _)) (I.bD.fresh (cv _)) (ie (vx _));have I2:=Inv.made (C:=C) I;have r2:Vals (V.ref (s.heap.objs.size+1)::(vs++kj)) (Value.ref (s.heap.objs.size+1)::(us++ds)):=.cons rfl (r.append hd);have hl:(Value.ref (s.heap.objs.size+1)::us++ds).length=ps.length:=by
  have e:=r2.length;rw[F.len _ _ _ _ hq] at e;exact e.symm
 refine wpAny_call (Vt (f:=f) I.jK M.makes M.init (beq_iff_eq.mp M.fn) (codeAny_mono (F.run _ X.stack _ _ ⟨Value.ref (s.heap.objs.size+1)::us,[]⟩ (Value.ref (s.heap.objs.size+1)::(us++ds)) _ _ (E Z) (hr.make C us []) (I2.CI.make C us []) (hb _ (Value.ref (s.heap.objs.size+1)::us) I2.jK hl) r2 hq) λr s' C9=>?_))
 cases r with
 |error e=>exact hx aa Z _ _ e s' I2 C9
 |ok fl=>
  cases fl with
  |ret u=>
   obtain⟨v,H',I3,rv,ev,q3⟩:=I2.after C9;subst ev;exact⟨rv,⟨V.ref (s.heap.objs.size+1),H',I3,rfl,q3⟩⟩
  |next=>exact False.elim C9
  |brk=>exact False.elim C9
  |cont=>exact False.elim C9
def Xr(M:Mk X.K C f)(F:dC X.prog X.w X.K X.mg X.base CX k f fd ps sp)(hr:cA (k+1) X.A)(hg:Gl X x)(hm:X.mg x=some (.ref C))(hb:Binds X.K fd ps ds)(hd:Vals kj ds)(hx:vJ CX X E)
  (ha:PA X (e::es) t) (jm:(x == ("__debug__":Str))=false:=by decide) (he:starEach (e::es) X.env=(false,eval e X.env)::starEach es X.env:=by rfl) (jR:(backTo pos (starEach es X.env)).any (·.1)=false:=by rfl) :
  PE X (.Call (.Name x p) (e::es) [] pos) (wU C sp kj E t):=by
 intro aa s Z H Q I h;refine wpAny_Call_Name_kw (xW I hg hm ?_ jm);refine PySem.W.callWith_K (h₀:=X.base) I.ok.mod.AS M.kp (bP (ha pos aa s Z H _ I h) λus s1 ⟨vs,H1,I1,r,q⟩=>⟨I1.jK,?_⟩) he jR
 exact Vw M F hr hb hd hx I1 r q
end
structure gL (N P:List Str) (sc:Scope):Prop where
 kind:sc.kind=.function
 co:sc.isCoroutine=false
 gen:sc.isGenerator=false
 nd:N.Nodup
 pre:N.take P.length=P
 par:∀x∈P,sc.names.lookup x=some .local \/ sc.names.lookup x=some .cell
 zf:∀y∈sc.names,y.2≠.free
theorem NF{kindOf:Str->ai oK}{x:Str}:∀{binds:List (Str×aj)} {m:Str->ai aj},(∀v,(x,v)∉binds)->bindL kindOf binds m x=m x
 |[],_,_=>rfl
 |(n,v)::r,m,h=>by
  unfold bindL;rw[NF λw hw=>h w (qt _ hw)]
  split
  .have:x≠n:=by rintro rfl;exact h v A6
   simp[this]
  .rfl
theorem NG{kindOf:Str->ai oK}{x:Str}:∀{binds:List (Str×aj)} {m:Str->ai aj},(∀v,(x,v)∉binds)->bindC kindOf binds m x=m x
 |[],_,_=>rfl
 |(n,v)::r,m,h=>by
  unfold bindC;rw[NG λw hw=>h w (qt _ hw)]
  split
  .rfl
  .have:x≠n:=by rintro rfl;exact h v A6
   simp[this]
theorem NH{kindOf:Str->ai oK}{x:Str}{v:aj}:∀{P:List Str} {vs:List aj} {i:Nat} {m:Str->ai aj},P.Nodup->P[i]?=some x->vs[i]?=some v->kindOf x=some .local ->
  bindL kindOf (P.zip vs) m x=some v
 |[],_,_,_,_,h,_,_=>by simp at h
 |_::_,[],_,_,_,_,h,_=>by simp at h
 |p::P,w::vs,0,m,nd,h1,h2,hk=>by
  simp at h1 h2;subst h1;subst h2;show bindL kindOf ((p,w)::P.zip vs) m p=_;unfold bindL;rw[NF λv hv=>(qH.mp nd).1 (List.of_mem_zip hv).1,bJ hk]
  simp
 |p::P,w::vs,i+1,m,nd,h1,h2,hk=>by
  show bindL kindOf ((p,w)::P.zip vs) m x=_;unfold bindL;exact NH (i:=i) (qH.mp nd).2 (by simpa using h1) (by simpa using h2) hk
theorem NI{kindOf:Str->ai oK}{x:Str}{v:aj}:∀{P:List Str} {vs:List aj} {i:Nat} {m:Str->ai aj},P.Nodup->P[i]?=some x->vs[i]?=some v->kindOf x≠some .local ->
  bindC kindOf (P.zip vs) m x=some v
 |[],_,_,_,_,h,_,_=>by simp at h
 |_::_,[],_,_,_,_,h,_=>by simp at h
 |p::P,w::vs,0,m,nd,h1,h2,hk=>by
  simp at h1 h2;subst h1;subst h2;show bindC kindOf ((p,w)::P.zip vs) m p=_;unfold bindC;rw[NG λv hv=>(qH.mp nd).1 (List.of_mem_zip hv).1,br hk]
  simp
 |p::P,w::vs,i+1,m,nd,h1,h2,hk=>by
  show bindC kindOf ((p,w)::P.zip vs) m x=_;unfold bindC;exact NI (i:=i) (qH.mp nd).2 (by simpa using h1) (by simpa using h2) hk
noncomputable def start(N:List Str)(vs:List V):St:=vs.map some++List.replicate (N.length - vs.length) none
noncomputable def kZ(CX:tH)(P:dB)(w:cI)(K:aL)(mg:Str->ai aj)(base:b_)(N:List Str)(qual:Str)(scope:Scope)(f:ah)(cd:aj)(A:c8)(outer:List Env)(s:ay)(H:Hp)(E:XK):Cx where
 prog:=P
 w:=w
 K:=K
 mg:=mg
 base:=base
 A:=A.deeper (envOfC qual scope s.heap.objs.size f cd)
 N:=N
 s₀:=s
 H₀:=H
 env:=envOfC qual scope s.heap.objs.size f cd
 outer:=outer
 stack:=envOfC qual scope s.heap.objs.size f cd::outer
 ex:=[]
 calm:=true
 fn:=λ_=>true
 pn:=[]
 xe:=λe s'=>wpAny (model P w) (A.deeper (envOfC qual scope s.heap.objs.size f cd)) (leaving (envOfC qual scope s.heap.objs.size f cd) e) (λ_ sR=>CX outer H s E e sR) (λe' sR=>CX outer H s E e' sR) s'
def Od{sc:Scope}{x:Str}(h:sc.names.lookup x=some .cell):∃c,(cellsFrom n sc.names []).lookup x=some c:=by
 have q:=PySem.W.cellsFrom_some sc.names n [] (.inl h);exact Option.isSome_iff_exists.mp q
def Ud{E:XK}
  (S:gL N ps scope) (hd:A.handled=none) (e0:n6 P w K mg base A outer s H) (hl:vs.length=ps.length) (r:Vals vs us)
  (x:InCallC s s.heap.objs.size (bindL (envOfC qual scope s.heap.objs.size f cd).kindOf (ps.zip us) λ_=>none) (cellsFrom (s.heap.objs.size+1) scope.names []) (bindC (envOfC qual scope s.heap.objs.size f cd).kindOf (ps.zip us) λ_=>none) s1) :
  Inv (kZ CX P w K mg base N qual scope f cd A outer s H E) [] (start N vs) H s1:=by
 have jR:ps.length<=N.length:=by have:=congrArg List.length S.pre;rw[wZ] at this;lia
 obtain⟨h1,tk,rfl,hk⟩:=x.done;have DC:∀b:ah,b∉(kZ CX P w K mg base N qual scope f cd A outer s H E).ex:=λb z=>cR (show b∈([]:List ah) from z) (by simp)
 refine⟨⟨e0.mod,S.kind,rfl,rfl,cv _,λy z c h1 h2=>?_,λy hy=>?_,λy c _ h=>?_,λ_=>hd,Around.frames_deeper e0.frames,.inr ⟨rfl,rfl⟩,λb z=>cR z (DC b),e0.bs,e0.rM,λb _ _=>DC b,λb z=>cR z (DC b),e0.iW,e0.uK⟩,rfl,e0.bare,Un.kept hk,⟨_,x.toInCall.ns,λi y v h1 h2 h3=>?_⟩,λy c h=>⟨_,x.cell y c h⟩,e0.bD.fresh (cv _),λy c h=>?_,λp hp=>cR (show p∈([]:List (ah×Obj)) from hp) (by simp),e0.bD.kept hk,?_⟩
 .exact name_of_addr x.apart (PySem.mem_of_lookup h1) (PySem.mem_of_lookup h2)
 .have hy:scope.names.lookup y=some .cell\/scope.names.lookup y=some .free:=hy;rcases hy with hy|hy
  .exact Od hy
  .exact cR rfl (S.zf _ (PySem.mem_of_lookup hy))
 .exact Mi (x.above y c (PySem.mem_of_lookup h))
 .have hi:i<vs.length:=by
   unfold start at h2;by_cases hi:i<vs.length
   .exact hi
   .rw[ub (by simpa using hi)] at h2
    rw[Ml] at h2;split at h2 <;> cases h2
  have ha:vs[i]?=some v:=by
   unfold start at h2;rw[uc (by simpa using hi),fL] at h2
   cases e:vs[i]? with
   |none=>rw[e] at h2;cases h2
   |some a=>rw[e] at h2;cases h2;rfl
  obtain⟨u,hu,rv⟩:=r.get ha;have hp:ps[i]?=some y:=by
   rw[<-S.pre,List.getElem?_take_of_lt (by lia)];exact h1
  have Se:ps.Nodup:=by rw[<-S.pre];exact S.nd.sublist (List.take_sublist _ _)
  refine⟨u,rv,?_⟩;rcases S.par y (tf hp) with k|k
  .exact .inl ⟨k,NH Se hp hu k⟩
  .obtain⟨c,e⟩:=Od (n:=s.heap.objs.size+1) k;refine .inr ⟨.inl k,c,e,?_⟩;have q:=x.cell y c e;rw[NI Se hp hu (by show scope.names.lookup y≠_;rw[k];decide)] at q
   exact q
 .exact e0.bD.fresh (Mi (x.above y c (PySem.mem_of_lookup h)))
 .unfold start;show _=N.length
  simp_all
def e8q{dV kV doc pm fI ct oc:aj}
     (lk:K.lookup f=some ⟨oc,od,.func (PySem.W.fnOf name qual params body scope dV kV doc pm an fI ct),ph⟩) (r_:PySem.W.codeIn K fI qual=true) (S:gL N ps scope)
  (len:∀vs H Q E,sp vs H Q E->vs.length=ps.length)
  (r6:∀A outer s H vs Q E,cA k (A.deeper (envOfC qual scope s.heap.objs.size f fI))->sp vs H Q E-> ∃t,jl (kZ CX P w K mg base N qual scope f fI A outer s H E) body t/\t { nx:=λ_ H'=>Q .aI H',rt:=Q} (start N vs) H) :
  dC P w K mg base CX (k+1) f (PySem.W.fnOf name qual params body scope dV kV doc pm an fI ct) ps sp:=by
 refine⟨len,λA outer s H args us vs Q E hr e0 hb r vY=>?_⟩
 have hl:=len _ _ _ _ vY;have KX:K.In s.heap:=e0.mod.AS.keeps λb o e=>(e0.bs b o e).1
 have lim:s.heap.NoLimit:=e0.mod.nolimit.keeps λb o e=>(e0.bs b o e).1
 have C4:∀y∈ps.zip us,scope.names.lookup y.1=some .local \/ (scope.names.lookup y.1=some .cell/\((cellsFrom (s.heap.objs.size+1) scope.names []).lookup y.1).isSome=true):=λ⟨n,v⟩ hy=>by
  rcases S.par n (List.of_mem_zip hy).1 with q|q
  .exact .inl q
  .exact .inr ⟨q,PySem.W.cellsFrom_some _ _ _ (.inl q)⟩
 refine codeAny_call_function hr.depth (KX _ _ lk) rfl S.co S.gen rfl (PySem.W.codeRec_of KX r_) (hb _ _ _ _ ?_);refine wpAny_newFunctionEnv_cells S.kind C4 λenv he s1 x=>?_
 subst he;refine⟨lim.keeps x.toInCall.keep,codeAny_func ?_⟩;obtain⟨t,ht,hq⟩:=r6 A outer s H vs Q E (hr.deeper _) vY;have I:Inv (kZ CX P w K mg base N qual scope f fI A outer s H E) [] (start N vs) H s1:=Ud S hr.hd e0 hl r x;refine wpAny_mono (ht [] s1 (start N vs) H _ I hq) (λfl s' hs=>?_) λe s' hs=>hs
 have fin:∀{Z':St} {H':Hp} {v:V} {u:aj},Inv (kZ CX P w K mg base N qual scope f fI A outer s H E) [] Z' H' s'->RelV v u->Q v H'->CE outer P w H s Q u s':=
  λ{Z' H' v u} J rv q=>⟨v,H',J.os,J.bare,J.base,J.bD,rv,q⟩
 cases fl with
 |ret u=>
  obtain⟨v,Z',H',J,rv,q⟩:=hs;exact fin J rv q
 |next=>
  obtain⟨Z',H',J,q⟩:=hs;exact fin (v:=V.aI) (u:=Value.none) J rfl q
 |brk=>
  obtain⟨_,_,_,q⟩:=hs;exact False.elim q
 |cont=>
  obtain⟨_,_,_,q⟩:=hs;exact False.elim q
section
variable{X:Cx}{x:Str}{p pos:Pos}{e:Expr}{es:List Expr}{t:TA}{id T:String}{r:List V->Hp->VK->Prop}
def Sv(r:List V->Hp->VK->Prop)(t:TA):TE:=λZ H Q=>t Z H λvs H1=>r vs H1 Q
def Vx(hc:bW X (.builtin id) r)(hg:Gl X x)(hm:X.mg x=none)(hv:bootBuiltins x=some (.builtin id))(ha:PA X (e::es) t)(hn:x≠"__name__":=by decide)(jm:(x == ("__debug__":Str))=false:=by decide)
  (he:starEach (e::es) X.env=(false,eval e X.env)::starEach es X.env:=by rfl) (jR:(backTo pos (starEach es X.env)).any (·.1)=false:=by rfl):PE X (.Call (.Name x p) (e::es) [] pos) (Sv r t):=by
 intro aa s Z H Q I h;refine wpAny_Call_Name_kw (vI I hg hm hv ?_ hn jm);exact PyProof.Rows.callWith_builtin1 (bP (ha pos aa s Z H _ I h) λus s1 ⟨vs,H1,I1,r1,q1⟩=>hc aa s1 Z H1 vs us Q I1 r1 q1) he jR
def Ue(hc:bW X (.type T) r)(hg:Gl X x)(hm:X.mg x=none)(hv:bootBuiltins x=some (.type T))(ha:PA X (e::es) t)(hn:x≠"__name__":=by decide)(jm:(x == ("__debug__":Str))=false:=by decide)
  (he:starEach (e::es) X.env=(false,eval e X.env)::starEach es X.env:=by rfl) (jR:(backTo pos (starEach es X.env)).any (·.1)=false:=by rfl):PE X (.Call (.Name x p) (e::es) [] pos) (Sv r t):=by
 intro aa s Z H Q I h;refine wpAny_Call_Name_kw (vI I hg hm hv ?_ hn jm);exact PyProof.Rows.callWith_type1 (bP (ha pos aa s Z H _ I h) λus s1 ⟨vs,H1,I1,r1,q1⟩=>hc aa s1 Z H1 vs us Q I1 r1 q1) he jR
end
end L2
namespace HT
open PySem PyProof.Rows
section
open PySem.SeqAt
open PySem.AutoSeq1 (wpAny_loadPart')
open PySem.MeetsSeq PySem.MeetsSeq2 PySem.MeetsSeq3
end
variable{sl:ah}{vl vu:aj}{lo hi:ai Int}
section
variable{prog:dB}{w:cI}{A:c8}{E:aj->ay->Prop}{s:ay}
def cS(n d:Nat):ai Int->Nat
 |none=>d
 |some v=>if v<0 then(v+(n:Int)).toNat else min v.toNat n
def ι(n d:Nat)(hd:d<=n)(o:ai Int):cS n d o<=n:=by
 cases o with
 |none=>exact hd
 |some v=>
  show(if v<0 then(v+(n:Int)).toNat else min v.toNat n)<=n
  by_cases hv:v<0
  .rw[bJ hv];lia
  .rw[br hv];exact Nat.min_le_right _ _
def O_(v:Int)(n d:Nat):(if v<0 then max (v+(n:Int)) 0 else min v (n:Int))=((cS n d (some v):Nat):Int):=by
 show(if v<0 then max (v+(n:Int)) 0 else min v (n:Int))=(((if v<0 then(v+(n:Int)).toNat else min v.toNat n):Nat):Int)
 by_cases hv:v<0
 .simp only[bJ hv];lia
 .simp only[br hv];lia
def Tn(lo hi:ai Int)(n:Nat):Builtin.Slice.sliceAdjust lo hi 1 (n:Int)=(((cS n 0 lo:Nat):Int),((cS n n hi:Nat):Int)):=by
 have h1:¬((1:Int)<0):=by lia
 unfold Builtin.Slice.sliceAdjust;simp only[h1,lr];refine Prod.ext ?_ ?_
 .cases lo with
  |none=>rfl
  |some v=>exact O_ v n 0
 .cases hi with
  |none=>rfl
  |some v=>exact O_ v n n
def To(i j:Nat):Builtin.Slice.slicePlaces (i:Int) (j:Int) 1=j - i:=by
 unfold Builtin.Slice.slicePlaces;have h1:(1:Int) > 0:=by lia
 simp only[h1,pJ,Int.ediv_one];split <;> lia
def Nl(p:IsPart v o)(h:Q o s):wpAny (model prog w) A (Builtin.Slice.slicePartIndex v) Q E s:=by
 cases p with
 |none=>exact slicePart_none h
 |int i t=>exact slicePart_int h
def SG{Q:Int×Int×Nat->ay->Prop}(hs:s.heap.IsSliceOf sl vl vu .none)(pl:IsPart vl lo)(pu:IsPart vu hi)
  (h:Q (((cS n 0 lo:Nat):Int),1,cS n n hi - cS n 0 lo) s):wpAny (model prog w) A (Builtin.Slice.sliceApplied (.ref sl) (pure (n:Int))) Q E s:=by
 obtain⟨os,C8,GQ,GR⟩:=id hs;unfold Builtin.Slice.sliceApplied Builtin.Slice.sliceFields;refine aE (aE (wpAny_field C8 GR (x:=vl) rfl (aE (wpAny_field C8 GR (x:=vu) rfl (aE (wpAny_field C8 GR (x:=.none) rfl (aY ?_)))))));refine aE (slicePart_none ?_);show wpAny _ _ (if((1:Int) == 0)=true then _ else _) _ _ s
 rw[br (by decide)]
 refine aE (Nl pl (aE (Nl pu (aE (aY ?_)))));show wpAny _ _ (match Builtin.Slice.sliceAdjust lo hi 1 (n:Int) with|(lo,hi)=>pure (lo,(1:Int),Builtin.Slice.slicePlaces lo hi 1)) _ _ s
 rw[Tn lo hi n];show wpAny _ _ (pure (((cS n 0 lo:Nat):Int),(1:Int),Builtin.Slice.slicePlaces ((cS n 0 lo:Nat):Int) ((cS n n hi:Nat):Int) 1)) _ _ s;rw[To];exact aY h
def Vy(xs:Array aj)(i k:Nat):((List.range k).filterMap λ(m:Nat)=>xs[((i:Int)+(m:Int)*1).toNat]?).toArray=((xs.toList.drop i).take k).toArray:=by
 have e:(λ(m:Nat)=>xs[((i:Int)+(m:Int)*1).toNat]?)=λm=>xs[i+m]?:=by
  funext m;have:((i:Int)+(m:Int)*1).toNat=i+m:=by lia
  rw[this]
 rw[e];have:=pick_run xs i k;rw[List.filterMap_map] at this;have e2:((λx=>xs[x]?)∘λx=>i+x)=λm=>xs[i+m]?:=rfl
 rw[e2] at this;rw[this]
def iY(ht:IsTup s.heap t items)(hs:s.heap.IsSliceOf sl vl vu .none)(pl:IsPart vl lo)(pu:IsPart vu hi)
  (hw:¬(cS items.size 0 lo=0/\cS items.size items.size hi=items.size))
  (h:Q (.ref s.heap.objs.size) { s with heap:=s.heap.push { cls:=.type "tuple",data:=.seq ((items.toList.drop (cS items.size 0 lo)).take (cS items.size items.size hi - cS items.size 0 lo)).toArray}})
  (hsz:items.size<=sizeLine):wpAny (model prog w) A (getItem (.ref t) (.ref sl)) Q E s:=by
 have o_:sizeOk (.seq ((items.toList.drop (cS items.size 0 lo)).take (cS items.size items.size hi - cS items.size 0 lo)).toArray):=by
  show((items.toList.drop (cS items.size 0 lo)).take (cS items.size items.size hi - cS items.size 0 lo)).toArray.size<=sizeLine;rw[fK,wZ,A8,Hk];lia
 have hj:cS items.size items.size hi<=items.size:=ι _ _ (cv _) hi;obtain⟨os,C8,GQ,GR⟩:=id hs;have hTs:s.TypeIs (.ref sl) "slice":=⟨os,C8,GQ⟩;unfold getItem;try with_reducible refine kK ?_
 first|refine aE (aY ?_)|skip
 refine aE (wpAny_sequenceKey ht.typeIs (by decide) ?_)
 refine aE (wpAny_callSpecial?_slot (name:=Str.ofString "__getitem__") ht.typeIs PyProof.Rows.slot_tuple_getitem (wpAny_call_entry PyProof.Rows.slot_tuple_getitem ht.typeIs entry_tuple_getitem ?_ (args_tuple_getitem _ _)))
 show wpAny _ _ (Builtin.Tuple.tupleItemsOf (.ref t) >>= _) _ _ s;refine aE (tupleItemsOf_ ht ?_);refine aE (wpAny_typeOf hTs ?_);rw[bJ (by decide)]
 refine aE (SG hs pl pu ?_);have t4:¬((((cS items.size 0 lo:Nat):Int) == 0&&(1:Int) == 1&&(cS items.size items.size hi - cS items.size 0 lo) == items.size)=true):=by
  lia
 show wpAny _ _ (if(((cS items.size 0 lo:Nat):Int) == 0&&(1:Int) == 1&&(cS items.size items.size hi - cS items.size 0 lo) == items.size)=true then _ else _) _ _ s
 rw[br t4,Vy];first
  |exact aE (m:=Builtin.Tuple.tupleExact _) (wpAny_newObj_type (aY ⟨_,rfl,aY h⟩) o_)
  |exact aE (m:=Builtin.Tuple.tupleExact _) (wpAny_newObj_type (aE (aY (aY ⟨_,rfl,aY h⟩))) o_)
  |exact aE (aE (m:=Builtin.Tuple.tupleExact _) (wpAny_newObj_type (aY (aY ⟨_,rfl,aY h⟩)) o_))
  |exact aE (aE (m:=Builtin.Tuple.tupleExact _) (wpAny_newObj_type (aY ⟨_,rfl,aY h⟩) o_))
end
end HT
namespace L2
open PySem PySem.Spec PyProof.Rows
variable{r:V->ai Int->ai Int->Hp->VK->Prop}
abbrev TO:=St->Hp->(ai Int->Hp->Prop)->Prop
def PO(X:Cx)(e:ai Expr)(t:TO):Prop:=
 ∀(aa:List (ah×Obj)) (s:ay) (Z:St) (H:Hp) (Q:ai Int->Hp->Prop),Inv X aa Z H s->t Z H Q->
  wpAny (model X.prog X.w) X.A (evalPart e X.env) (λu s'=>∃o H',Inv X aa Z H' s'/\IsPart u o/\Q o H') X.xe s
def Xs:TO:=λ_ H Q=>Q none H
def D8(t:TE):TO:=λZ H Q=>t Z H λx H1=>∃i,x=.int i/\Q (some i) H1
section
variable{X:Cx}{e:Expr}{te:TE}{lo hi:ai Expr}{tl th:TO}{pos p2:Pos}
def Xt:PO X none Xs:=by
 intro aa s Z H Q I h;rw[evalPart_none];exact aY ⟨none,H,I,.none,h⟩
def Xu(h:PE X e te):PO X (some e) (D8 te):=by
 intro aa s Z H Q I hw;rw[evalPart_some];refine bP (h aa s Z H _ I hw) λu s1 hh=>?_
 obtain⟨x,H1,I1,r1,q1⟩:=hh;obtain⟨i,rfl,q⟩:=q1;obtain⟨t,rfl⟩:=r1;exact⟨some i,H1,I1,.int i t,q⟩
def rn(X:Cx)(r:V->ai Int->ai Int->Hp->VK->Prop):Prop:=
 ∀(aa:List (ah×Obj)) (s:ay) (Z:St) (H:Hp) (x:V) (v vl vu:aj) (lo hi:ai Int) (sl:ah) (Q:VK),Inv X aa Z H s->RelV x v->s.heap.IsSliceOf sl vl vu .none->IsPart vl lo->IsPart vu hi->r x lo hi H Q->
  ∃T id,typeLookup (.type T) "__getitem__"=pure (some (.builtin id))/\s.TypeIs v T/\wpAny (model X.prog X.w) X.A (getItem v (.ref sl)) (EP X aa Z Q) X.xe s
def rn.or(h:rn X r)(h':rn X r'):rn X (λx lo hi H Q=>r x lo hi H Q\/r' x lo hi H Q):=by
 intro aa s Z H x v vl vu lo hi sl Q I rx hs pl pu q;rcases q with q|q
 .exact h aa s Z H x v vl vu lo hi sl Q I rx hs pl pu q
 .exact h' aa s Z H x v vl vu lo hi sl Q I rx hs pl pu q
def tSl(r:V->ai Int->ai Int->Hp->VK->Prop)(te:TE)(tl th:TO):TE:=λZ H Q=>te Z H λx H1=>tl Z H1 λl H2=>th Z H2 λu H3=>r x l u H3 Q
def Vz(hr:rn X r)(he:PE X e te)(hl:PO X lo tl)(hu:PO X hi th):PE X (.Subscript e (.Slice lo hi none p2) pos) (tSl r te tl th):=by
 intro aa s Z H Q I h;refine Subscript_ (bP (he aa s Z H _ I h) λv s1 hh=>?_)
 obtain⟨x,H1,I1,r1,q1⟩:=hh;refine wpAny_Slice (bP (hl aa s1 Z H1 _ I1 q1) λvl s2 ⟨l,H2,I2,pl,q2⟩=>bP (hu aa s2 Z H2 _ I2 q2) λvu s3 ⟨u,H3,I3,pu,q3⟩=>?_)
 rw[evalPart_none];refine aY ?_;have I4:Inv X aa Z H3 { s3 with heap:=s3.heap.push { cls:=.type "slice",data:=.fields #[vl,vu,.none]}}:=I3.kept (t':=s3.toks) λb ob q=>dy _ q
 obtain⟨T,id,hT,ht,hg⟩:=hr aa { s3 with heap:=s3.heap.push { cls:=.type "slice",data:=.fields #[vl,vu,.none]}} Z H3 x v vl vu l u s3.heap.objs.size Q I4 r1 (Heap.IsSliceOf.new ..) pl pu q3;show wpAny (model X.prog X.w) X.A (subscriptTail e (.Slice lo hi none p2) v (.ref s3.heap.objs.size)) (EP X aa Z Q) X.xe { s3 with heap:=s3.heap.push { cls:=.type "slice",data:=.fields #[vl,vu,.none]}};exact tail_any (ops:=[.ref s3.heap.objs.size,v]) ht hT hg (by with_unfolding_all rfl)
noncomputable def nh(xs:List V)(lo hi:ai Int):List V:=(xs.drop (HT.cS xs.length 0 lo)).take (HT.cS xs.length xs.length hi - HT.cS xs.length 0 lo)
def M_(xs:List V)(lo hi:ai Int):(nh xs lo hi).length<=xs.length:=by
 unfold nh;rw[wZ,A8];lia
def zD(K:aL):V->ai Int->ai Int->Hp->VK->Prop:=λx lo hi H Q=>∃a xs,x=.ref a/\iI K H a xs/\
 ¬(HT.cS xs.length 0 lo=0/\HT.cS xs.length xs.length hi=xs.length)/\∀p,H p=none->Q (.ref p) (upd H p (.tup (nh xs lo hi)))
def μ:rn X (zD X.K):=by
 intro aa s Z H x v vl vu lo hi sl Q I rx hs pl pu h;obtain⟨a,xs,rfl,hx,hw,q⟩:=h;cases rx;obtain⟨aH,r,ht,hz⟩:=I.tuple hx;have hlen:aH.toArray.size=xs.length:=by rw[fK];exact r.length.symm
 refine⟨"tuple",_,PyProof.Rows.slot_tuple_getitem.lookup,ht.typeIs,?_⟩;refine HT.iY ht hs pl pu (by rw[hlen];exact hw) ?_ (by rw[hlen];exact hz)
 rw[hlen];refine⟨.ref s.heap.objs.size,_,I.laid (t':=s.toks) (o:=.tup (nh xs lo hi)) (λb ob q=>dy _ q) (cv _) ?_,rfl,q _ (I.bD.fresh (cv _))⟩
 exact⟨ju (M_ xs lo hi) hz,_,(r.drop (HT.cS xs.length 0 lo)).take (HT.cS xs.length xs.length hi - HT.cS xs.length 0 lo),IsTup.new _ _⟩
end
variable{n j:Nat}{i:Int}{r:R2}{aa:List (ah×Obj)}{Z:St}{H:Hp}{s:ay}
def uT(n:Nat)(i:Int):ai Nat:=if 0<=i then(if i<n then some i.toNat else none) else if -(n:Int)<=i then some (i+n).toNat else none
def d_(xs:List α)(i:Int):ai α:=(uT xs.length i).bind λj=>xs[j]?
def Pa(h:uT n i=some j):seqIndex? i n=some j/\j<n /\ -(n:Int)<=i/\i<n:=by
 unfold uT at h;by_cases h0:0<=i
 .rw[bJ h0] at h;by_cases h1:i<n
  .rw[bJ h1] at h;have e:i.toNat=j:=Option.some.inj h;exact⟨by rw[seqIndex_of h0 h1,e],by lia,by lia,h1⟩
  .rw[br h1] at h;cases h
 .rw[br h0] at h;by_cases h1:-(n:Int)<=i
  .rw[bJ h1] at h;have e:(i+n).toNat=j:=Option.some.inj h;exact⟨by rw[seqIndex_neg (by lia) h1,e],by lia,h1,by lia⟩
  .rw[br h1] at h;cases h
def Jf(h:d_ xs i=some v):∃j,seqIndex? i xs.length=some j/\xs[j]?=some v/\j<xs.length /\ -(xs.length:Int)<=i/\i<xs.length:=by
 unfold d_ at h;cases e:uT xs.length i with
 |none=>rw[e] at h;cases h
 |some j=>
  rw[e] at h;obtain⟨h1,h2,h3,h4⟩:=Pa e;exact⟨j,h1,h,h2,h3,h4⟩
def tL(h:xs[j]?=some v):d_ xs (j:Int)=some v:=by
 have hj:j<xs.length:=(eQ.mp h).1;have e:uT xs.length (j:Int)=some j:=by
  unfold uT;rw[bJ (by lia),bJ (by lia)];simp
 unfold d_;rw[e];exact h
def Jg(b:Expr):Prop:=∀o i,subscripted b false o i=operate [o,i] (getItem o i)
def p4(X:Cx)(r:R2):Prop:=
 ∀(value slice:Expr) (aa:List (ah×Obj)) (s:ay) (Z:St) (H:Hp) (x y:V) (v u:aj) (Q:VK),Inv X aa Z H s->RelV x v->RelV y u->r x y H Q->
  subscripted slice false v u=operate [v,u] (getItem v u)->wpAny (model X.prog X.w) X.A (subscriptTail value slice v u) (EP X aa Z Q) X.xe s
def EF(X:Cx)(id:String)(r:V->List V->Hp->VK->Prop):Prop:=
 ∀(aa:List (ah×Obj)) (s:ay) (Z:St) (H:Hp) (x:V) (xs:List V) (v:aj) (us:List aj) (Q:VK),Inv X aa Z H s->RelV x v->Vals xs us->r x xs H Q->
  wpAny (model X.prog X.w) X.A (call (.builtin id) (v::us)) (EP X aa Z Q) X.xe s
section
variable{X:Cx}{a b:Expr}{ta tb:TE}{pos:Pos}
def p4.or(h:p4 X r)(h':p4 X r'):p4 X (λx y H Q=>r x y H Q\/r' x y H Q):=by
 intro value slice aa s Z H x y v u Q I rx ry q hs;rcases q with q|q
 .exact h value slice aa s Z H x y v u Q I rx ry q hs
 .exact h' value slice aa s Z H x y v u Q I rx ry q hs
def e8r(hr:p4 X r)(ha:PE X a ta)(hb:PE X b tb)(hs:Jg b):PE X (.Subscript a b pos) (Hg r ta tb):=by
 intro aa s Z H Q I h;exact Subscript_ (ym ha hb I h λv u s2 x y H2 I2 rx ry q=>hr a b aa s2 Z H2 x y v u Q I2 rx ry q (hs _ _))
def zA(K:aL):R2:=λx y H Q=>∃p xs i v,x=.ref p/\y=.int i/\dr K H p xs/\d_ xs i=some v/\Q v H
def zB(K:aL):R2:=λx y H Q=>∃p xs i v,x=.ref p/\y=.int i/\iI K H p xs/\d_ xs i=some v/\Q v H
def DL:R2:=λx y H Q=>∃z i c,x=.str z/\y=.int i/\z.length<=sizeLine/\d_ z.cps.toList i=some c/\Q (.str ⟨#[c]⟩) H
def Xv:p4 X (zA X.K):=by
 intro value slice aa s Z H x y v u Q I rx ry h hs;obtain⟨p,xs,i,z,rfl,rfl,hq,he,q⟩:=h;cases rx;obtain⟨t,rfl⟩:=ry;obtain⟨aH,r,pl,hz⟩:=I.list hq;obtain⟨j,h1,h2,h3,h4,h5⟩:=Jf he;obtain⟨w,ew,mF⟩:=r.get h2;have hl:=r.length;have hn:=ye;have fin:EP X aa Z Q w s:=⟨z,H,I,mF,q⟩;by_cases h0:0<=i
 .have hj:i.toNat=j:=by
   rw[seqIndex_of h0 h5] at h1;exact Option.some.inj h1
  exact item_listR pl.isList h0 (by lia) (by rw[hj];simpa using ew) fin hs
 .have hj:(i+(aH.toArray.size:Int)).toNat=j:=by
   rw[seqIndex_neg (by lia) h4] at h1
   rw[fK,<-hl];exact Option.some.inj h1
  exact subscriptTail_builtinR (x:=w) pl.isList.typeIs slot_list_getitem.lookup
   (wpAny_getItem_list_neg (Q:=λr s'=>r=w/\EP X aa Z Q r s') pl.isList (by lia) (by rw[fK] <;> lia) (by lia) (by rw[hj];simpa using ew) ⟨rfl,fin⟩) hs
def ν:p4 X (zB X.K):=by
 intro value slice aa s Z H x y v u Q I rx ry h hs;obtain⟨p,xs,i,z,rfl,rfl,hq,he,q⟩:=h;cases rx;obtain⟨t,rfl⟩:=ry;obtain⟨aH,r,pl,hz⟩:=I.tuple hq;obtain⟨j,h1,h2,h3,h4,h5⟩:=Jf he;obtain⟨w,ew,mF⟩:=r.get h2;have hl:=r.length;have hn:=ye;have fin:EP X aa Z Q w s:=⟨z,H,I,mF,q⟩;exact subscriptTail_builtinR (x:=w) pl.typeIs slot_tuple_getitem.lookup
  (getItem_tuple (j:=j) (Q:=λr s'=>r=w/\EP X aa Z Q r s') pl (by lia) (by lia) (by rw[fK,<-hl];exact h1) (by simpa using ew) ⟨rfl,fin⟩) hs
def yY:p4 X DL:=by
 intro value slice aa s Z H x y v u Q I rx ry h hs;obtain⟨z,i,c,rfl,rfl,hz,he,q⟩:=h;obtain⟨t,rfl⟩:=rx;obtain⟨t',rfl⟩:=ry;obtain⟨j,h1,h2,h3,h4,h5⟩:=Jf he;have hl:z.cps.toList.length=z.length:=by simp[Str.length]
 rw[hl] at h1 h4 h5;have hn:=ye;exact tail_any (typeIs_str s z t) slot_str_getitem.lookup (getItem_str (c:=c) (by
  lia) (by rw[h1];simpa using h2) ⟨.str ⟨#[c]⟩,H,I.tok _,⟨_,rfl⟩,q⟩) hs
def Tp(aH:List aj)(n j:Nat)(u:aj):Obj.mapSeq (·.setIfInBounds j u) { cls:=.type "list",data:=.seq aH.toArray n}={ cls:=.type "list",data:=.seq (aH.set j u).toArray n}:=by
 simp[Obj.mapSeq]
def Inv.lst(I:Inv X aa Z H s)(h:H p=some (.lst xs)):
  ∃aH n,Vals xs aH/\s.heap.get? p=some { cls:=.type "list",data:=.seq aH.toArray n}/\xs.length<=sizeLine:=by
 obtain⟨z,aH,n,r,e⟩:=I.bD p _ h;exact⟨aH,n,r,e,z⟩
def Inv.y7{aH its':List aj}(I:Inv X aa Z H s)(h:H p=some (.lst xs))
  (ho:s.heap.get? p=some { cls:=.type "list",data:=.seq aH.toArray n}) (hf:f { cls:=.type "list",data:=.seq aH.toArray n}={ cls:=.type "list",data:=.seq its'.toArray n'}) (r:Vals ys its') (hz:ys.length<=sizeLine) (t:Nat) :
  Inv X aa Z (upd H p (.lst ys)) { s with heap:=s.heap.update p f,toks:=t}:=by
 have e:(s.heap.update p f).get? p=some { cls:=.type "list",data:=.seq its'.toArray n'}:=by
  rw[qI f ho (by rw[hf] <;> rfl),hf]
 refine I.write (x:=p) (e:=p) (by rw[h];trivial) (.inl rfl) (λb u hb q=>(oJ _ _ (Ne.symm hb)).trans q) ⟨_,e⟩ ?_
 exact⟨hz,its',n',r,e⟩
def wJ:V->V->V->Hp->(Hp->Prop)->Prop:=λo i v H Q=>∃p xs k j,o=.ref p/\i=.int k/\H p=some (.lst xs)/\uT xs.length k=some j/\Q (upd H p (.lst (xs.set j v)))
def VA:um X wJ:=by
 intro aa s Z H o i v ov iv u Q I ro ri rv h;obtain⟨p,xs,k,j,rfl,rfl,hp,hj,q⟩:=h;cases ro;obtain⟨t,rfl⟩:=ri;obtain⟨aH,n,r,ho,hz⟩:=I.lst hp;obtain⟨h1,h2,h3,h4⟩:=Pa hj;have hl:=r.length;have hn:=ye;have I':Inv X aa Z (upd H p (.lst (xs.set j v))) { s with heap:=s.heap.update p (Obj.mapSeq (·.setIfInBounds j u))}:=
  I.y7 hp ho (Tp aH n j u) (r.set rv j) (by rw[w6];exact hz) s.toks
 by_cases h0:0<=k
 .have hk:k.toNat=j:=by
   rw[seqIndex_of h0 h4] at h1;exact Option.some.inj h1
  exact PySem.W.ki_setAt ho h0 (by lia) (by rw[fK,<-hl];exact h4) (by rw[hk];exact⟨_,I',q⟩)
 .have hk:(k+(aH.toArray.size:Int)).toNat=j:=by
   rw[seqIndex_neg (by lia) h3] at h1
   rw[fK,<-hl];exact Option.some.inj h1
  exact PySem.W.ki_setBack ho (by lia) (by rw[fK,<-hl];exact h3) (by lia) (by rw[hk];exact⟨_,I',q⟩)
def SX(lo hi:ai Int)(n:Nat):(sliceBounds lo hi none n).1=((HT.cS n 0 lo:Nat):Int)/\(sliceBounds lo hi none n).2.1=((HT.cS n n hi:Nat):Int)/\(sliceBounds lo hi none n).2.2=1:=by
 refine⟨?_,?_,rfl⟩
 .cases lo with
  |none=>simp[sliceBounds,HT.cS]
  |some i=>
   simp only[sliceBounds,HT.cS,Option.getD_none,show(1:Int) > 0 by decide,pJ]
   by_cases h:i<0
   .simp only[h,pJ] <;> lia
   .simp only[h,lr] <;> lia
 .cases hi with
  |none=>simp[sliceBounds,HT.cS]
  |some i=>
   simp only[sliceBounds,HT.cS,Option.getD_none,show(1:Int) > 0 by decide,pJ]
   by_cases h:i<0
   .simp only[h,pJ] <;> lia
   .simp only[h,lr] <;> lia
def SQ(aH:List aj)(lo hi:ai Int):slicePick aH.toArray lo hi none=((aH.drop (HT.cS aH.length 0 lo)).take (HT.cS aH.length aH.length hi - HT.cS aH.length 0 lo)).toArray:=by
 obtain⟨h1,h2,h3⟩:=SX lo hi aH.toArray.size;unfold slicePick;rw[h1,h2,h3];simp only[sliceRange_one,pick_run,fK] <;> rfl
def zC(K:aL):V->ai Int->ai Int->Hp->VK->Prop:=λx lo hi H Q=>∃a xs,x=.ref a/\dr K H a xs/\∀p,H p=none->Q (.ref p) (upd H p (.lst (nh xs lo hi)))
def Xw:rn X (zC X.K):=by
 intro aa s Z H x v vl vu lo hi sl Q I rx hs pl pu h;obtain⟨a,xs,rfl,hx,q⟩:=h;cases rx;obtain⟨aH,r,ht,hz⟩:=I.list hx;have hlen:=r.length;refine⟨"list",_,slot_list_getitem.lookup,ht.isList.typeIs,?_⟩;refine wpAny_getItem_list_slice ht.isList hs pl pu .none (by simp) ?_ (by rw[fK] <;> lia)
 rw[SQ,<-hlen];refine⟨.ref s.heap.objs.size,_,I.laid (t':=s.toks) (o:=.lst (nh xs lo hi)) (λb ob q=>dy _ q) (cv _) ?_,rfl,q _ (I.bD.fresh (cv _))⟩
 exact⟨ju (M_ xs lo hi) hz,_,0,(r.drop (HT.cS xs.length 0 lo)).take (HT.cS xs.length xs.length hi - HT.cS xs.length 0 lo),i_ _ rfl⟩
def SY:bW X (.builtin "len") (λxs H Q=>∃p ys,xs=[.ref p]/\(dr X.K H p ys\/iI X.K H p ys)/\Q (.int ys.length) H):=by
 intro aa s Z H xs us Q I r h;obtain⟨p,ys,rfl,hq,q⟩:=h;obtain⟨u,rfl,rx⟩:=vals1 r;cases rx;have hn:=ye;rcases hq with hq|hq
 .obtain⟨aH,r',pl,hz⟩:=I.list hq;have hlen:=r'.length;exact Calls.call_len_list pl.isList (by simp only[fK] <;> lia) ⟨.int ys.length,H,I.tok _,⟨s.toks+1,by rw[fK,hlen]⟩,q⟩
 .obtain⟨aH,r',pl,hz⟩:=I.tuple hq;have hlen:=r'.length;exact len_tuple pl (by simp only[fK] <;> lia) ⟨.int ys.length,H,I.tok _,⟨s.toks+1,by rw[fK,hlen]⟩,q⟩
def l5:bW X (.builtin "len") (λxs H Q=>∃z,xs=[.str z]/\z.length<=sizeLine/\Q (.int z.length) H):=by
 intro aa s Z H xs us Q I r h;obtain⟨z,rfl,hz,q⟩:=h;obtain⟨u,rfl,t,rfl⟩:=vals1 r;have hn:=ye;exact len_str (by lia) ⟨.int z.length,H,I.tok _,⟨_,rfl⟩,q⟩
def bW.or{r r':List V->Hp->VK->Prop}(h:bW X f r)(h':bW X f r'):bW X f (λxs H Q=>r xs H Q\/r' xs H Q):=by
 intro aa s Z H xs us Q I rs q;rcases q with q|q
 .exact h aa s Z H xs us Q I rs q
 .exact h' aa s Z H xs us Q I rs q
def S6:bW X (.type "list") (λxs H Q=>∃p ys,xs=[.ref p]/\(dr X.K H p ys\/iI X.K H p ys)/\∀l,H l=none->Q (.ref l) (upd H l (.lst ys))):=by
 intro aa s Z H xs us Q I r h;obtain⟨p,ys,rfl,hq,q⟩:=h;obtain⟨u,rfl,rx⟩:=vals1 r;cases rx;have fin:∀(aH:List aj),Vals ys aH->ys.length<=sizeLine->∀(h':b_) (c':Nat),(∀b o',s.heap.get? b=some o'->h'.get? b=some o')->
   h'.get? s.heap.objs.size=some { cls:=.type "list",dict:=none,data:=.seq aH.toArray c',slots:=#[]}->EP X aa Z Q (.ref s.heap.objs.size) { s with heap:=h'}:=λaH r' hz h' c' kp e=>
  ⟨.ref s.heap.objs.size,_,I.laid (t':=s.toks) kp (cv _) (show bH X.prog X.w _ h' _ (.lst ys) from⟨hz,aH,c',r',e⟩),rfl,q _ (I.bD.fresh (cv _))⟩
 rcases hq with hq|hq
 .obtain⟨aH,r',pl,hz⟩:=I.list hq;have hlen:=r'.length;obtain⟨o,ho,hc,n,hd⟩:=pl.isList;exact call_list_seq p (.inl rfl) ho hc hd (λh' c' kp e=>fin aH r' hz h' c' kp e) (by simp only[fK] <;> lia)
 .obtain⟨aH,r',pl,hz⟩:=I.tuple hq;have hlen:=r'.length;obtain⟨o,ho,hc,n,hd⟩:=pl;exact call_list_seq p (.inr rfl) ho hc hd (λh' c' kp e=>fin aH r' hz h' c' kp e) (by simp only[fK] <;> lia)
def Ed(K:aL)(T:String)(x:V)(H:Hp):Prop:=match x with
 |.str _=>T="str"
 |.int _=>T="int"
 |.ref p=>(T="list"/\∃xs,dr K H p xs)\/(T="tuple"/\∃o,K.lookup p=some o/\o.cls=.type "tuple"/\o.dict=none)\/
   (T="dict"/\((∃kvs,H p=some (.dK kvs))\/(∃kvs,H p=some (.dT kvs))\/∃es ep,H p=some (.dG es ep)))\/(T="set"/\∃S n,H p=some (.set S n))
 |_=>False
def Jt(I:Inv X aa Z H s)(r:RelV x v)(ty:Ed X.K T x H):
  s.TypeIs v T/\∀a,v=.ref a->∃ob,s.heap.get? a=some ob/\ob.dict=none:=by
 cases x with
 |str z=>
  obtain⟨t,rfl⟩:=r;cases(show T="str" from ty);exact⟨typeIs_str s z t,λ_ e=>nomatch e⟩
 |int i=>
  obtain⟨t,rfl⟩:=r;cases(show T="int" from ty);exact⟨typeIs_int s i t,λ_ e=>nomatch e⟩
 |ref p=>
  cases r;rcases ty with⟨rfl,xs,hq⟩|⟨rfl,o,hk,hc,hd⟩|⟨rfl,hk⟩|⟨rfl,S,n,hk⟩
  .obtain⟨aH,_,pl,_⟩:=I.list hq;refine⟨pl.isList.typeIs,λa e=>?_⟩
   cases e;obtain⟨o,n,e,c,hd,_⟩:=pl;exact⟨o,e,hd⟩
  .refine⟨⟨o,I.jK p o hk,hc⟩,λa e=>?_⟩
   cases e;exact⟨o,I.jK _ o hk,hd⟩
  .have z:∃o,s.heap.get? p=some o/\o.ExactDict:=by
    rcases hk with⟨kvs,hk⟩|⟨kvs,hk⟩|⟨es,ep,hk⟩
    .obtain⟨_,_,_,_,o,_,_,e,ex,_⟩:=I.bD p _ hk;exact⟨o,e,ex⟩
    .obtain⟨_,_,_,_,o,_,_,e,ex,_⟩:=I.bD p _ hk;exact⟨o,e,ex⟩
    .obtain⟨_,_,o,_,e,ex,_⟩:=I.bD p _ hk;exact⟨o,e,ex⟩
   obtain⟨o,e,ex⟩:=z;refine⟨⟨o,e,ex.1⟩,λa e2=>?_⟩
   cases e2;exact⟨o,e,ex.2.1⟩
  .obtain⟨o,_,_,_,e,ex,_⟩:=I.bD p _ hk;refine⟨⟨o,e,ex.1⟩,λa e2=>?_⟩
   cases e2;exact⟨o,e,ex.2.1⟩
 |_=>exact False.elim ty
def D0(K:aL)(T:String)(r:V->List V->Hp->VK->Prop)(to:TE):TE:=λZ H Q=>to Z H λx H1=>Ed K T x H1/\r x [] H1 Q
def LQ(K:aL)(T:String)(r:V->List V->Hp->VK->Prop)(to:TE)(t:TA):TE:=λZ H Q=>to Z H λx H1=>Ed K T x H1/\t Z H1 λxs H2=>r x xs H2 Q
variable{o e:Expr}{es:List Expr}{to:TE}{t:TA}{name:Str}{apos bV:Pos}{T id:String}{r:V->List V->Hp->VK->Prop}
def ξ(pa:PlainAttrs T)(slot:Slot T name id)(sj:typeOf (.builtin id)=pure (.type "method_descriptor"))(hm:EF X id r)(ho:PE X o to)
  (cK:attributeBase o name X.env (eval o X.env)=eval o X.env:=by rfl) (cL:(apos.endLine == bV.line)=true:=by rfl):PE X (.Call (.Attribute o name apos) [] [] bV) (D0 X.K T r to):=by
 intro aa s Z H Q I h;refine wpAny_Call_method0_late cK cL (bP (ho aa s Z H _ I h) λv s1 hh=>?_)
 obtain⟨x,H1,I1,r1,ty,q1⟩:=hh;obtain⟨h1,h2⟩:=Jt I1 r1 ty;exact⟨T,id,pa,slot,sj,h1,h2,Calls.callWith_builtin rfl (PySem.evalArgs_none (hm aa s1 Z H1 x [] v [] Q I1 r1 .nil q1))⟩
def Rg(pa:PlainAttrs T)(slot:Slot T name id)(sj:typeOf (.builtin id)=pure (.type "method_descriptor"))(hm:EF X id r)(ho:PE X o to)(ha:PA X (e::es) t)
  (cK:attributeBase o name X.env (eval o X.env)=eval o X.env:=by rfl)
  (sd:((backTo bV (starEach (e::es) X.env)).all (λx => !x.1)&&(backToKw bV (keywordEach [] X.env)).all (λx=>x.1.isSome) && decide ((e::es).length+([]:List Keyword).length+(if([]:List Keyword).isEmpty then 0 else 1)<30))=true:=by rfl)
  (cL:(apos.endLine == bV.line)=true:=by rfl) (hs:starEach (e::es) X.env=(false,eval e X.env)::starEach es X.env:=by rfl) (ku:(backTo bV (starEach es X.env)).any (·.1)=false:=by rfl) :
  PE X (.Call (.Attribute o name apos) (e::es) [] bV) (LQ X.K T r to t):=by
 intro aa s Z H Q I h;refine wpAny_Call_method_late cK sd cL rfl (bP (ho aa s Z H _ I h) λv s1 hh=>?_)
 obtain⟨x,H1,I1,r1,ty,q1⟩:=hh;obtain⟨h1,h2⟩:=Jt I1 r1 ty;refine⟨T,id,pa,slot,sj,h1,h2,?_⟩;have hA:=ha bV aa s1 Z H1 _ I1 q1;rw[hs] at hA ⊢;refine Calls.callWith_builtin (by show(false || (backTo bV (starEach es X.env)).any (·.1))=false;rw[ku] <;> rfl) (Calls.evalArgs_plain ?_)
 exact bP hA λus s2 ⟨vs,H2,I2,r2,q2⟩=>hm aa s2 Z H2 x vs v us Q I2 r1 r2 q2
end
variable{x:V}{us aH:List aj}{t':Nat}
def xu(X:Cx)(id:String)(r:V->List V->Hp->VK->Prop):Prop:=
 ∀(aa:List (ah×Obj)) (s:ay) (Z:St) (H:Hp) (x:V) (xs:List V) (v:aj) (us:List aj) (Q:VK),Inv X aa Z H s->RelV x v->Vals xs us->r x xs H Q->
  wpAny (model X.prog X.w) X.A (call (.builtin id) (v::us)) (EP X aa Z Q) X.xe s
def Vals.one(h:Vals [x] us):∃u,us=[u]/\RelV x u:=by
 cases h with
 |cons r t=>
  cases t;exact⟨_,rfl,r⟩
def Vals.two(h:Vals [x,y] us):∃u v,us=[u,v]/\RelV x u/\RelV y v:=by
 cases h with
 |cons r t=>
  obtain⟨v,rfl,q⟩:=Vals.one t;exact⟨_,_,rfl,r,q⟩
theorem Vals.zero:∀{us:List aj},Vals [] us->us=[]
 |_,.nil=>rfl
section
variable{X:Cx}{aa:List (ah×Obj)}{Z:St}{H:Hp}{s:ay}{l b:ah}{xs ys zs:List V}
def Inv.uV(I:Inv X aa Z H s)(hH:H l=some (.lst xs))
  (e:s.heap.get? l=some { cls:=.type "list",data:=.seq aH.toArray n}) (hf:f aH.toArray=its'.toArray) (hv:Vals ys its') (hz:ys.length<=sizeLine) :
  Inv X aa Z (upd H l (.lst ys)) { s with heap:=s.heap.update l (Obj.mapSeq f),toks:=t'}:=by
 have q:=PySem.IsL.update e f;rw[hf] at q;refine I.write (x:=l) (e:=l) (by rw[hH];exact trivial) (.inl rfl) (λb' u hb hu=>(oJ s.heap (Obj.mapSeq f) (Ne.symm hb)).trans hu) ⟨_,q⟩ ?_
 exact⟨hz,its',_,hv,q⟩
def Inv.Lb(I:Inv X aa Z H s)(hv:Vals ys aH)(hz:ys.length<=sizeLine):
  Inv X aa Z (upd H s.heap.objs.size (.lst ys)) { s with heap:=s.heap.push { cls:=.type "list",data:=.seq aH.toArray},toks:=t'}:=
 I.laid (λ_ _ q=>dy _ q) (cv _) ⟨hz,aH,0,hv,i_ _ rfl⟩
theorem Inv.fresh(I:Inv X aa Z H s):H s.heap.objs.size=none:=I.bD.fresh (cv _)
def Inv.uW(I:Inv X aa Z H s)(hH:H l=some (.lst xs)):xs.length<=sizeLine/\∃aH n,Vals xs aH/\xs.length=aH.length/\s.heap.get? l=some { cls:=.type "list",data:=.seq aH.toArray n}:=by
 obtain⟨z,aH,n,r,e⟩:=I.bD l _ hH;exact⟨z,aH,n,r,r.length,e⟩
end
section
variable{X:Cx}
def Pb:V->List V->Hp->VK->Prop:=λx vs H Q=>∃l xs y,x=.ref l/\vs=[y]/\H l=some (.lst xs)/\xs.length<sizeLine/\Q .aI (upd H l (.lst (xs++[y])))
theorem Ug:xu X "list.append" Pb:=by
 intro aa s Z H x vs v us Q I rx rv h;obtain⟨l,xs,y,rfl,rfl,hH,hz,q⟩:=h;cases rx;obtain⟨u,rfl,ru⟩:=rv.one;obtain⟨z,aH,n,r,hl,e⟩:=I.uW hH;refine call_meets F.slot_list_append ⟨_,e,rfl⟩ F.entry_list_append (F.args_list_append_2 _ _) (PySem.list_append l aH.toArray n u (by rw[fK];lia)) ⟨e,?_⟩
 refine⟨.aI,_,I.uV (its':=aH++[u]) hH e (by simp) (r.append (.cons ru .nil)) ?_,rfl,q⟩
 rw[dZ,zP];lia
def Ql:V->List V->Hp->VK->Prop:=λx vs H Q=>∃l xs,x=.ref l/\vs=[]/\H l=some (.lst xs)/\Q .aI (upd H l (.lst []))
theorem VB:xu X "list.clear" Ql:=by
 intro aa s Z H x vs v us Q I rx rv h;obtain⟨l,xs,rfl,rfl,hH,q⟩:=h;cases rx;have hus:=rv.zero;subst hus;obtain⟨z,aH,n,r,hl,e⟩:=I.uW hH;refine call_meets F.slot_list_clear ⟨_,e,rfl⟩ F.entry_list_clear (F.args_list_clear_1 _) (AutoSeq1.list_clear_list_0 l aH.toArray n (by rw[fK];lia)) ⟨e,?_⟩
 exact⟨.aI,_,I.uV (its':=[]) (ys:=[]) hH e rfl .nil (k_ _),rfl,q⟩
end
section
variable{κ:Type}[DecidableEq κ]
def iR.qj(r:iR o u):o.isSome=u.isSome:=by
 cases o with
 |none=>cases u with
  |none=>rfl
  |some _=>exact(show False from r).elim
 |some _=>cases u with
  |none=>exact(show False from r).elim
  |some _=>rfl
end
variable{X:Cx}{pos:Pos}
section
variable{X:Cx}{aa:List (ah×Obj)}{Z:St}{H:Hp}{s:ay}{a:ah}{y v:V}{u r:aj}{o:ai V}{A:c8}{E:aj->ay->Prop}
def Inv.big(I:Inv X aa Z H s):sysModules<s.heap.objs.size:=by
 have h:mainGlobals<s.heap.objs.size:=(I.mod.glob.keeps I.bk).lt;exact Nat.lt_trans (by decide) h
def Jh(I:Inv X aa Z H s)(mu:Bm (H a))(hs:Heap.SameBut a s.heap h')(he:∃q,h'.get? a=some q)(new:bH X.prog X.w (upd H a ob) h' a ob):
  Inv X aa Z (upd H a ob) { s with heap:=h',toks:=t'}:=
 I.write (x:=a) (e:=a) mu (.inl rfl) (λb q hb z=>(hs.2 b hb).trans z) he new
end
def F5:List (TE×TE)->St->Hp->(List (V×V)->Hp->Prop)->Prop
 |[],_,H,Q=>Q [] H
 |(tk,tv)::r,Z,H,Q=>tk Z H λx H1=>tv Z H1 λy H2=>F5 r Z H2 λps H3=>Q ((x,y)::ps) H3
abbrev VV:List (V×V)->List (aj×aj)->Prop:=Paired λp q=>RelV p.1 q.1/\RelV p.2 q.2
def vz(X:Cx)(pos:Pos)(keys:List (ai Expr))(values:List Expr)(vj:List (TE×TE)):Prop:=
 ∀(aa:List (ah×Obj)) (s:ay) (Z:St) (H:Hp) (Q:List (V×V)->Hp->Prop),Inv X aa Z H s->F5 vj Z H Q->
  wpAny (model X.prog X.w) X.A (evalPairs (pairTrees keys values X.env pos)) (λvs s'=>∃ps H',Inv X aa Z H' s'/\VV ps vs/\Q ps H') X.xe s
def vc:vz X pos [] [] []:=λaa s Z H Q I h=>pairTrees_nil_walk ⟨[],H,I,.nil,h⟩
def VC(hk:PE X k tk)(hv:PE X v tv)(hr:vz X pos ks vs vj):
  vz X pos (some k::ks) (v::vs) ((tk,tv)::vj):=λaa s Z H Q I h=>
 pairTrees_cons_walk (bP (hk aa s Z H _ I h) λu s1 ⟨x,H1,I1,rx,q1⟩=>bP (hv aa s1 Z H1 _ I1 q1) λw2 s2 ⟨y,H2,I2,ry,q2⟩=> bP (hr aa s2 Z H2 _ I2 q2) λws s3 ⟨ps,H3,I3,rel,q3⟩=>⟨(x,y)::ps,H3,I3,.cons ⟨rx,ry⟩ rel,q3⟩)
end L2
namespace ME
open PySem PySem.W PySem.Calls PyProof.Rows
variable{P:Params}{h:b_}{l:OpenLaw}{n:Nat}
def SJ:∀ns vs,WellAll P h vs (ns.map WData.int)->IntsAre vs ns:=by
 intro ns
 induction ns with
 |nil=>
  intro vs w;rw[Ey] at w;cases w;exact .nil
 |cons n ns ih=>
  intro vs w;rw[cZ] at w;cases w with
  |cons a b=>
   cases a;exact .cons _ _ (ih _ b)
def Uh(hn:l.most=some n)
  (uP:l.row.toRowW.claim.pre args=true) (GZ:WellAll P h vals args) :
  ∃a vs ns,vals=[Value.ref a]/\args=[WData.list (ns.map WData.int)]/\h.get? a=some { cls:=.type "list",data:=.seq vs.toArray}/\IntsAre vs ns/\ns.length<=n:=by
 have hsh:WShape.hasAll [] args [.list .int]=true:=(pre_splitW uP).1;have hc:l.pre.holds [] { args:=args}=true:=(pre_splitW uP).2;obtain⟨d,r,rfl,h1,h2⟩:=hasAllW_cons hsh;obtain rfl:=hasAllW_nil h2;obtain⟨xs,rfl,h3⟩:=hasW_list h1;obtain⟨ns,rfl⟩:=items_int h3;have hlen:ns.length<=n:=by
  unfold OpenLaw.pre at hc;have h4:(WTm.not (.lt (.lit (.int (n:Int))) (.len (.arg 0)))).holds [] { args:=[.list (ns.map .int)]}=true:=by
   have h4:=(holds_andW hc).1;rw[hn] at h4;exact h4
  have h5:=condW_of h4 (w_not (w_lt w_lit (w_len_list (w_arg rfl))))
  simp_all
 cases GZ with
 |cons w1 w2=>
  cases w2;cases w1 with
  |list ho jI=>exact⟨_,_,ns,rfl,rfl,ho,SJ ns _ jI,hlen⟩
def Ui(l:OpenLaw)(args:List WData):l.row.toRowW.claim.post args (.bool true) args=true:=
 postW_of (r:=l.row.toRowW) (X:=(true == true))
  (show WShape.has [] (.bool true) .bool=true by first|rfl|decide|simp[WShape.has,WShape.arms,WShape.armsAll])
  (show(WTm.eq .res (.lit (.bool true))).value [] { args:=args,res:=some (.bool true),after:=args}=some (.bool (true == true)) from w_eq_bool (w_res rfl) w_lit) rfl
def ng
  (hn:l.most=some n) (CZ:d.params.defaults=[])
  (call:∀w s₀ s₁ mg mb fa o pm cd doc a vs ns,Ground q loose [] XP w s₀ mg mb s₁.heap->YP w s₁.heap-> s₁.heap.get? fa=some o->o.data=.func (docDef d.name d.params d.body d.scope pm cd doc)->s₁.heap.CodeRec cd d.name->mg d.name=some (.ref fa)-> s₁.heap.get? a=some { cls:=.type "list",data:=.seq vs.toArray}->IntsAre vs ns->ns.length<=n->s₁.gens=#[]-> codeAny (model l.prog w) callerA (.call (.ref fa) ⟨[.ref a],[]⟩) (λr s'=>r=.ok (.ret (.bool true))/\OldK s₁.heap s'.heap/\s'.os=s₁.os/\AllBare s'.gens) s₁) :
  WalkO q loose XP YP l.row.toRowW d [] (λf vs=>PySem.call f vs):=by
 intro w s₀ s₁ mg mb G Y fa o pm cd doc dV kV ho hd r_ hD hmg hg args vals as uP hlay hrd GZ hlo;obtain rfl:dV=.none:=Dflts.none hD CZ;obtain rfl:kV=.none:=Dflts.noKw hD;obtain⟨a,vs,ns,rfl,rfl,yS,hints,hlen⟩:=Uh hn uP GZ;refine enter_call (codeAny_mono (call w s₀ s₁ mg mb fa o pm cd doc a vs ns G Y ho (fd_plain hd) r_ hmg yS hints hlen hg) λr s' hq=>?_)
 obtain⟨rfl,h2,h3,h4⟩:=hq;exact⟨.inl ⟨.bool true,.bool true,[],rfl,λ_=>rfl,.bool true,Ui l _,λ_=>⟨List.Pairwise.nil,λ_ hm=>(nomatch hm)⟩⟩,h2,h3,h4⟩
end ME
namespace L2
open PySem PySem.Spec PyProof.Rows
theorem NJ:∀{vs:List aj} {ns:List Int},IntsAre vs ns->Vals (ns.map V.int) vs
 |_,_,.nil=>.nil
 |_,_,.cons n t h=>.cons ⟨t,rfl⟩ (NJ h)
def xx(H:Hp):Prop:=∀b,H b=none\/∃o xs,H b=some (.Y o (.lst xs))
def VD{K:aL}
  (KX:K.In s₁.heap) (RV:s₁.heap.Ns mainGlobals mg) (hb:s₁.heap.Ns builtinsNs mb) (hbb:∀x:Str,x≠"__name__"->mb x=bootBuiltins x) (KD:s₁.heap.NoLimit) (hg:s₁.gens=#[])
  (ha:s₁.heap.get? a=some { cls:=.type "list",data:=.seq vs.toArray}) (hi:IntsAre vs ns) (hl:ns.length<=sizeLine) (hr:cA k callerA)
  (F:∀base:b_,K.In base->base.Ns mainGlobals mg->dC P w K mg base CX k fa fd [x] sp) (CV:∀s u,BindsTo s fd ⟨[u],[]⟩ [(x,u)])
  (vY:∀H:Hp,xx H->dr K H a (ns.map V.int)->sp [.ref a] H (λv _=>v=.bl true) λ_ _ _=>False)
  (Ki:∀H e s',CX [] H s₁ (λ_ _ _=>False) e s'->False) :
  codeAny (model P w) callerA (.call (.ref fa) ⟨[.ref a],[]⟩) (λr s'=>r=.ok (.ret (.bool true))/\OldK s₁.heap s'.heap/\s'.os=s₁.os/\AllBare s'.gens) s₁:=by
 have rv:=NJ hi;have La:=hi.length;have core:∀H:Hp,xx H->dr K H a (ns.map V.int)->jj P w H s₁.heap->(∀b,H b≠none->b=a)->(H a≠none->K.lookup a=none)->
   codeAny (model P w) callerA (.call (.ref fa) ⟨[.ref a],[]⟩) (λr s'=>r=.ok (.ret (.bool true))/\OldK s₁.heap s'.heap/\s'.os=s₁.os/\AllBare s'.gens) s₁:=by
  intro H hO hS bD hA hK;have oX:∀{b:ah} {o:Obj},s₁.heap.get? b=some o->H b=none->(md s₁.heap H).get? b=some o:=λe n=>Vl e n
  have DC:∀{b:ah} {o:Obj} {es:Array DictEntry} {ep:Nat},s₁.heap.get? b=some o->o.data=.dict es ep->H b=none:=λ{b o es ep} e d=>by
   grind
  have G_:∀{b:ah} {m:Str->ai aj},s₁.heap.Ns b m->(md s₁.heap H).Ns b m:=λ{b m} ⟨o,es,ep,e,d,r⟩=>⟨o,es,ep,oX e (DC e d),d,r⟩
  have RC:K.In (md s₁.heap H):=λb o e=>oX (KX b o e) (by
   grind)
  have hM:Mod K mg (md s₁.heap H):=⟨RC,G_ RV,⟨mb,G_ hb,hbb⟩,let ⟨mc,h1,h2⟩:=KD;⟨mc,G_ h1,h2⟩⟩
  have e0:n6 P w K mg (md s₁.heap H) callerA [] s₁ H:=⟨rfl,hM,λb o e=>Xb e,Ew (T4 _ _),trivial,λb hb=>cR (show b∈([]:List ah) from hb) (by simp),bD,.of_eq hg⟩
  refine codeAny_mono ((F _ RC (G_ RV)).run callerA [] s₁ H ⟨[.ref a],[]⟩ [.ref a] [.ref a] _ _ hr e0 (CV s₁ (.ref a)) (.cons rfl .nil) (vY H hO hS)) λr s' h=>?_
  cases r with
  |error e=>exact(Ki H e s' h).elim
  |ok fl=>
   cases fl with
   |next=>exact False.elim h
   |brk=>exact False.elim h
   |cont=>exact False.elim h
   |ret u=>
    obtain⟨v,H',os,bare,un,KL,r',q⟩:=h;have q':v=.bl true:=q;subst q';obtain rfl:u=Value.bool true:=r';refine⟨rfl,OldK.of_keep λb o e=>?_,os,bare⟩
    cases q:H b with
    |none=>exact un.keep b o e q (by intro z;exact cR (show b∈([]:List ah) from z) (by simp)) (by simp)
    |some u=>
     rcases hO b with z|⟨ob,xs,z⟩
     .rw[q] at z;cases z
     .have z2:=un.ko b ob _ z;obtain⟨e1,_⟩:=bD b _ z;obtain⟨e2,_⟩:=KL b _ z2
      lia
 cases hk:K.lookup a with
 |some o=>
  have e:=KX a o hk;rw[ha] at e;cases e;refine core (λ_=>none) (λ_=>.inl rfl) (.inr ⟨_,vs.toArray,_,hk,rfl,rfl,rfl,by rw[fK,La];exact hl,by simpa using rv⟩) (λb u z=>by have z':(none:ai HO)=some u:=z;cases z') (λb z=>cR rfl z) λz=>cR rfl z
 |none=>
  refine core (λb=>if b=a then some (.Y { cls:=.type "list",data:=.seq vs.toArray} (.lst (ns.map V.int))) else none) (λb=>?_) (.inl (.inr ⟨{ cls:=.type "list",data:=.seq vs.toArray},bJ rfl⟩)) (λb u z=>?_) (λb z=>?_) λ_=>hk
  .by_cases hb:b=a
   .exact .inr ⟨_,_,bJ hb⟩
   .exact .inl (br hb)
  .by_cases hb:b=a
   .have z':=(bJ hb).symm.trans z;cases z';subst hb;exact⟨ha,by rw[bq];exact hl,vs,_,rv,ha⟩
   .have z':=(br hb).symm.trans z;cases z'
  .by_cases hb:b=a
   .exact hb
   .exact cR (br hb) z
def vt{l:PySem.W.OpenLaw}{K:Params->aL}{CX:cI->tH}{sp:cI->Sp}
  (hn:l.most=some n) (yP:n<=sizeLine) (CZ:d.params.defaults=[]) (hr:cA k callerA)
  (hY:∀w h,YP w h->(K w.params).In h)
  (F:∀w mg fa h,(K w.params).In h->h.Ns mainGlobals mg->mg d.name=some (.ref fa)-> ∃fd:lq,(∀s u,BindsTo s fd ⟨[u],[]⟩ [(x,u)])/\ ∀base:b_,(K w.params).In base->base.Ns mainGlobals mg->dC l.prog w (K w.params) mg base (CX w) k fa fd [x] (sp w))
  (vY:∀(w:cI) (H:Hp) (a:ah) (ns:List Int),ns.length<=n->xx H->dr (K w.params) H a (ns.map V.int)->sp w [.ref a] H (λv _=>v=.bl true) λ_ _ _=>False)
  (Ki:∀w H s e s',CX w [] H s (λ_ _ _=>False) e s'->False) :
  PySem.W.WalkO q loose XP YP l.row.toRowW d [] (λf vs=>PySem.call f vs):=by
 refine ME.ng hn CZ λw s₀ s₁ mg mb fa o pm cd doc a vs ns G Y ho hd r_ hmg yS hints hlen hg=>?_
 have KX:=hY w _ Y;obtain⟨fd,hb,hF⟩:=F w mg fa _ KX G.T.g hmg;exact VD KX G.T.g G.T.b G.T.builtins G.T.nolimit hg yS hints (ju hlen yP) hr hF hb (λH hO hS=>vY w H a ns hlen hO hS) λH e s'=>Ki w H s₁ e s'
variable{x qual:Str}{st:Stmt}{f:ah}{H H':Hp}
noncomputable def jw(s:Stmt)(j:Nat):Stmt:=match s with
 |.ClassDef _ _ _ body _ _ _ _ _ _ _=>body.getD j (.Pass ⟨0,0,0,0⟩)
 |_=>.Pass ⟨0,0,0,0⟩
noncomputable def Aj(s:Stmt):Arguments:=match s with
 |.FunctionDef _ a _ _ _ _ _ _ _ _=>a
 |_=>{ posonlyargs:=[],args:=[],vararg:=none,kwonlyargs:=[],kw_defaults:=[],kwarg:=none,defaults:=[]}
def vG(s:Stmt):List Stmt:=match s with
 |.FunctionDef _ _ b _ _ _ _ _ _ _=>b
 |_=>[]
noncomputable def m8(s:Stmt):Scope:=match s with
 |.FunctionDef _ _ _ _ _ _ sc _ _ _=>sc
 |_=>{ kind:=.function,names:=[],isGenerator:=false,isCoroutine:=false}
structure rb (K:aL) (x qual:Str) (st:Stmt) (f:ah) (fd:lq):Prop where
 ex:∃(oc:aj) (od:ai ah) (kV doc pm:aj) (an:ai ah) (fI ct:aj) (ph:Array (ai aj)),
  fd=PySem.W.fnOf x qual (Aj st) (vG st) (m8 st) .none kV doc pm an fI ct/\K.lookup f=some ⟨oc,od,.func fd,ph⟩/\PySem.W.codeIn K fI qual=true
 kp:PySem.W.keepIn K (.ref f)=true
section
variable{P:dB}{w:cI}{K:aL}{mg:Str->ai aj}{base:b_}
def rb.binds(F:rb K x qual st f fd)
  (h:∀kV doc pm an fI ct us,us.length=ps.length->bindArgs (PySem.W.fnOf x qual (Aj st) (vG st) (m8 st) .none kV doc pm an fI ct) ⟨us,[]⟩=pure (ps.zip us)):Binds K fd ps []:=by
 obtain⟨oc,od,kV,doc,pm,an,fI,ct,ph,rfl,lk,r_⟩:=F.ex;exact .all (h kV doc pm an fI ct)
def fun_mk{kV doc pm fI ct:aj}(l:K.lookup f=some ⟨oc,od,.func (PySem.W.fnOf x qual (Aj st) (vG st) (m8 st) .none kV doc pm an fI ct),ph⟩)
  (c:PySem.W.codeIn K fI qual=true) (k:PySem.W.keepIn K (.ref f)=true):rb K x qual st f (PySem.W.fnOf x qual (Aj st) (vG st) (m8 st) .none kV doc pm an fI ct):=⟨⟨oc,od,kV,doc,pm,an,fI,ct,ph,rfl,l,c⟩,k⟩
end
def sv{A B:Prop}(h:B):if false=true then A else B:=by
 rw[br qF];exact h
def sx{A B:Prop}(h:A):if true=true then A else B:=by
 rw[bJ rfl];exact h
def aB(H H':Hp):Prop:=∀b o,H b=some o->H' b=some o
def aB.refl(H:Hp):aB H H:=λ_ _ h=>h
def aB.trans(a:aB H H1)(b:aB H1 H2):aB H H2:=λc o h=>b c o (a c o h)
def aB.free(e:aB H H')(h:H' l=Option.none):H l=Option.none:=by
 cases q:H l with
 |none=>rfl
 |some o=>
  rw[e l o q] at h;cases h
def aB.seq{K:aL}(e:aB H H')(h:dr K H a xs):dr K H' a xs:=by
 rcases h with(h|⟨o,h⟩)|h
 .exact .inl (.inl (e _ _ h))
 .exact .inl (.inr ⟨o,e _ _ h⟩)
 .exact .inr h
end L2
set_option maxHeartbeats 4000000
namespace L2
open PySem PySem.Spec PyProof.Rows
variable{env:Env}{names:List (Str×oK)}{x:Str}{c:ah}{scope:Scope}{X:Cx}
noncomputable def kg(env:Env)(names:List (Str×oK)):List (Str×ah):=((names.filter λy=>y.2 == .free).reverse).map λy=>(y.1,(env.cells.lookup y.1).getD 0)
theorem M'{g:Str->ah}:∀{l:List (Str×oK)},(∃k,(x,k)∈l)->(l.map λy=>(y.1,g y.1)).lookup x=some (g x)
 |[],h=>by obtain⟨k,h⟩:=h;cases h
 |(n,k)::r,h=>by
  show List.lookup x ((n,g n)::_)=_;cases hx:x == n with
  |true=>
   simp_all
  |false=>
   simp only[List.lookup_cons,hx];refine M' (l:=r) ?_
   simp_all
theorem MN{g:Str->ah}:∀{l:List (Str×oK)},(l.map λy=>(y.1,g y.1)).lookup x=some c->c=g x/\∃k,(x,k)∈l
 |[],h=>by cases h
 |(n,k)::r,h=>by
  have h:List.lookup x ((n,g n)::(r.map λy=>(y.1,g y.1)))=some c:=h
  cases hx:x == n with
  |true=>
   simp_all
  |false=>
   simp only[List.lookup_cons,hx] at h;obtain⟨e,k',hk⟩:=MN h;exact⟨e,k',qt _ hk⟩
def Oe(h:(x,NameKind.free)∈names)(hc:env.cells.lookup x=some c):(kg env names).lookup x=some c:=by
 have:=M' (g:=λn=>(env.cells.lookup n).getD 0) (x:=x) (l:=(names.filter λy=>y.2 == .free).reverse) ⟨.free,by simp[h]⟩
 unfold kg;rw[this,hc];rfl
def Ji(hf:∀y∈names,y.2=.free->∃c,env.cells.lookup y.1=some c)(h:(kg env names).lookup x=some c):env.cells.lookup x=some c:=by
 obtain⟨e,k,hk⟩:=MN (g:=λn=>(env.cells.lookup n).getD 0) h
 grind
theorem H0:∀names cs,(∀y∈names,y.2=.free->∃c,env.cells.lookup y.1=some c)->
  (forIn names cs (λ(x:Str×oK) (r:List (Str×ah))=>if(x.2 == NameKind.free)=true then(do let a <-cellOf env x.1;pure (ForInStep.yield ((x.1,a)::r))) else(pure (ForInStep.yield r):Sem (ForInStep (List (Str×ah)))))) =
   pure (kg env names++cs)
 |[],cs,_=>by rw[List.forIn_nil];rfl
 |(n,k)::r,cs,h=>by
  rw[List.forIn_cons];cases hk:k == NameKind.free with
  |true=>
   obtain⟨c,hc⟩:=h (n,k) A6 (by simpa using hk)
   have nV:env.cells.lookup n=some c:=hc;have e:cellOf env n=pure c:=by unfold cellOf;rw[nV]
   simp only[hk,pJ,e,pure_bind];rw[H0 r _ λy hy=>h y (qt _ hy)]
   congr 1
   unfold kg
   simp_all
  |false=>
   simp only[hk,ud,lr,pure_bind];rw[H0 r _ λy hy=>h y (qt _ hy)]
   congr 1
   unfold kg;rw[A9];simp[hk]
def MJ(h:∀y∈scope.names,y.2=.free->∃c,env.cells.lookup y.1=some c):closureFor scope env=pure (kg env scope.names):=by
 have:=H0 (env:=env) scope.names [] h;rw[jW] at this;unfold closureFor;show(forIn scope.names [] _ >>= λr=>pure r)=_
 rw[bind_pure];exact this
theorem MX{env:Env}:∀{names:List (Str×oK)} {x:Str},names.lookup x=some .free->
  (names.map λ(n,k)=>if(k == NameKind.free&&env.scope.kind == .function&&env.kindOf n == some .cell) then(n,NameKind.cell) else(n,k)).lookup x=some .cell\/
  (names.map λ(n,k)=>if(k == NameKind.free&&env.scope.kind == .function&&env.kindOf n == some .cell) then(n,NameKind.cell) else(n,k)).lookup x=some .free
 |[],_,h=>by simp at h
 |(n,k)::r,x,h=>by
  have ih:=@MX env r x
  grind
theorem H9{env:Env}:∀{names:List (Str×oK)} {x:Str} {q:oK},(q=.cell\/q=.free)->(∀y∈names,y.2≠.cell)->
  (names.map λ(n,k)=>if(k == NameKind.free&&env.scope.kind == .function&&env.kindOf n == some .cell) then(n,NameKind.cell) else(n,k)).lookup x=some q->(x,NameKind.free)∈names
 |[],_,_,_,_,h=>by simp at h
 |(n,k)::r,x,q,hq,hn,h=>by
  have ih:=@H9 env r x q hq λy hy=>hn y (qt _ hy)
  grind
def fW(X:Cx)(scope:Scope)(M:List Str)(C:ah)(s:ay)(H:Hp)(fp:List ah):Cx:=
 {X with N:=M,s₀:=s,H₀:=H,env:=compEnvC scope (kg X.env scope.names) C X.env,outer:=X.stack,ex:=fp,fn:=λ_=>false,pn:=[],xe:=λ_ _=>False}
noncomputable def kf(k:Nat)(dD:List Nat)(Z:St):St:=List.replicate k none++dD.map λi=>(Z[i]?).join
def rj(X:Cx)(ifs:List Expr)(t:TT):Prop:=
 ∀(aa:List (ah×Obj)) (s:ay) (Z:St) (H:Hp) (Q:Bool->Hp->Prop),Inv X aa Z H s->t Z H Q->
  wpAny (model X.prog X.w) X.A (forIn ifs true λc r=>if r=true then do let ok <-isTrue c X.env (eval c X.env);pure (ForInStep.yield ok) else pure (ForInStep.yield r)) (TP X aa Z Q) X.xe s
def L3:TT:=λ_ H Q=>Q true H
def Xx:rj X [] L3:=λ_ _ Z H _ I h=>wpAny_tests_nil ⟨H,I,h⟩
def Xy{c:Expr}(hc:PT X c t):rj X [c] t:=λaa s Z H Q I h=>wpAny_tests_one (hc aa s Z H Q I h)
def SF(I:Nat->ay->Prop)
  (turn:∀n s,I n s->wpAny (model prog w) A (pyNext it) (λr s₁=>match r with
   |none=>R (.ok .next) s₁
   |some v=>wpAny (model prog w) A (letOwnedTupleGo target it v) (λ_ s₀=>wpAny (model prog w) A (assign target env v) (λ_ s₂=>
     wpAny (model prog w) A (forIn ifs true λc r=>if r=true then do let ok <-isTrue c env (eval c env);pure (ForInStep.yield ok) else pure (ForInStep.yield r)) (λok s₃=>
      if ok=true then wpAny (model prog w) A (eval elt env) (λx s₄=>
       wpAny (model prog w) A (call (.builtin "list.append") [aU,x]) (λ_ s₅=>∃m,m<n/\I m s₅) (λ_ _=>False) s₄) (λ_ _=>False) s₃
      else ∃m,m<n/\I m s₃) (λ_ _=>False) s₂) (λ_ _=>False) s₀) (λ_ _=>False) s₁) (λ_ _=>False) s)
  (n:Nat) (h:I n s) :
  codeAny (model prog w) A (.compLoop (.ListComp elt [⟨target,iter,ifs,0⟩] scope pos) 0 it aU env) R s:=by
 refine codeAny_loop rfl I (λn s hI=>?_) n h
 show wpAny _ A ((compTurn (.ListComp elt [⟨target,iter,ifs,0⟩] scope pos) 0 it aU env).onRaise (λx=>do noteFrame x env;theTreesLotGoes x)) _ _ s
 refine wpAny_noted ?_;rw[compTurn_list];refine aE (wpAny_standAt (aE (wpAny_mono (turn n s hI) (λr s₁ h₁=>?_) λ_ _ h'=>h'.elim)))
 cases r with
 |none=>exact aY h₁
 |some v=>
  refine aE (wpAny_mono h₁ (λ_ s₀ h₀=>?_) λ_ _ h'=>h'.elim)
  refine aE (wpAny_mono h₀ (λ_ s₂ h₂=>aE (wpAny_mono h₂ (λok s₃ h₃=>?_) λ_ _ h'=>h'.elim)) λ_ _ h'=>h'.elim)
  cases ok with
  |false=>exact aY ⟨rfl,h₃⟩
  |true=>
   exact aE (aE (wpAny_mono h₃ (λx s₄ h₄=>aE (wpAny_mono h₄ (λ_ s₅ h₅=>aY (aY ⟨rfl,h₅⟩)) λ_ _ h'=>h'.elim)) λ_ _ h'=>h'.elim))
variable{H:Hp}{s:ay}{fp:List ah}{wi:TI}
def Inv.Eb(I:Inv X aa Z H s)(hn:H a=none)(hy:X.s₀.heap.objs.size<=a)(hL:a≠X.env.locals)(hC:∀x c,X.env.cells.lookup x=some c->c≠a)
  (hP:∀p∈X.pn++aa,p.1≠a) (new:bH X.prog X.w (upd H a o) s.heap a o):Inv X aa Z (upd H a o) s:=by
 refine⟨I.ok,I.os,I.bare,⟨I.base.keep,I.base.slot,λb ob e n hx=>?_,I.base.there,λb xs e=>?_,λb ob u e=>?_,λb ps e=>?_⟩,I.loc,I.cell,?_,λx c e=>?_,λp hp=>?_,λb u e=>?_,I.len⟩
 .rw[dI (ie (gK (cX e) hy))];exact I.base.free b ob e n hx
 .have z:=I.base.k9 b xs e;rw[dI (rB z hn)];exact z
 .have z:=I.base.ko b ob u e;rw[dI (rB z hn)];exact z
 .obtain⟨m,z⟩:=I.base.k8 b ps e;exact⟨m,by rw[dI (rB z hn)];exact z⟩
 .rw[dI (Ne.symm hL)];exact I.free
 .rw[dI (hC x c e)];exact I.eW x c e
 .obtain⟨e,n,r⟩:=I.pin p hp;exact⟨e,by rw[dI (hP p hp)];exact n,r⟩
 .by_cases hb:b=a
  .grind [aK]
  .rw[dI hb] at e;exact(I.bD b u e).mH (λc v _ q=>q) (λc q=>by rw[dI (rB q hn)];exact q) λc xs q=>by rw[dI (rB q hn)];exact q
def oO(J:It)(g:TG)(tt:TT)(te:TE)(τ₀:St)(H1:Hp)(Fin:List V->Hp->Prop):Prop:=
 ∃(n:Nat) (W:Nat->St->List V->Hp->Prop),W 0 τ₀ [] H1/\∀i τ aU H,i<=n->W i τ aU H->
  (J.stop i H/\Fin aU H)\/(i<n/\J.go i H/\∀x H',J.tG i H x H'->g x τ H' λτ2 H2=>tt τ2 H2 λb H3=>if b=true then te τ2 H3 λv H4=>aU.length<sizeLine/\W (i+1) τ2 (aU++[v]) H4 else W (i+1) τ2 aU H3)
structure eJ (X:Cx) (scope:Scope) (M:List Str) (k:Nat) (dD:List Nat):Prop where
 kind:scope.kind=.function
 cell:∀y∈scope.names,y.2≠.cell
 free:∀y∈scope.names,y.2=.free->X.env.kindOf y.1=some .cell\/X.env.kindOf y.1=some .free
 names:∀y∈scope.names,y.2=.local -> scope.names.lookup y.1=some .local
 len:M.length=k+dD.length
 JU:∀(j i:Nat) (x:Str),dD[j]?=some i->M[k+j]?=some x->X.N[i]?=some x/\scope.names.lookup x=some .free
section
variable{X:Cx}{aa:List (ah×Obj)}{Z:St}{tg elt iter:Expr}{ifs:List Expr}{scope:Scope}{pos:Pos}{M:List Str}{k:Nat}{dD:List Nat}{g:TG}{tt:TT}{te:TE}
def Inv.i4(I:Inv X aa Z H s)(ok:eJ X scope M k dD):∀y∈scope.names,y.2=.free->∃c,X.env.cells.lookup y.1=some c:=λy hy e=>I.ok.has y.1 (ok.free y hy e)
def Inv.block(I:Inv X aa Z H s)(ok:eJ X scope M k dD)(f2:∀b∈fp,ji X aa H b)(AK:∀b∈fp,∃o,s.heap.get? b=some o/\∀v,o.data≠.cell v)
  (hC:s.heap.objs.size<=C) (CT:D≠C) (hD:s.heap.objs.size<=D) (old:∀b o,s.heap.get? b=some o->s4.heap.get? b=some o) (os:s4.os=s.os) (gens:s4.gens=s.gens)
  (ns:s4.heap.Ns C m) (KI:s4.heap.get? D=some oD) (Ku:∀v,oD.data≠.cell v):Inv (fW X scope M C s H fp) [(D,oD)] (kf k dD Z) H s4:=by
 have hf:=I.i4 ok;have fr:∀a,s.heap.objs.size<=a->H a=none:=λa ha=>I.bD.fresh ha
 have nfs:∀b∈km X.stack,b<s.heap.objs.size:=λb hb=>by
  rcases y09.mp (I.kH b hb) with e|e
  .rw[e];exact I.lt
  .exact Nat.lt_of_not_le λz=>I.zg z e
 have cl:∀x c,(kg X.env scope.names).lookup x=some c->X.env.cells.lookup x=some c:=λx c e=>Ji hf e
 refine⟨⟨I.ok.mod,ok.kind,I.ok.glob,I.ok.blt,hC,λx y c e1 e2=>I.ok.inj x y c (cl x c e1) (cl y c e2),λx hx=>?_,λx c e _=>?_,I.ok.hd,I.ok.frames,.inl rfl,λb hb=>?_,I.bs,ju I.ok.rM I.sz,λb o e hb=>?_,λb hb z=>?_,I.stack,I.jT⟩,os,by rw[gens];exact I.bare,Un.kept old,⟨m,ns,λi x v h1 h2 h3=>?_⟩,λx c e=>?_,fr C hC,λx c e=>I.eW x c (cl x c e),λp hp=>?_,I.bD.kept old,?_⟩
 .have hx:(relabel scope X.env).names.lookup x=some .cell\/(relabel scope X.env).names.lookup x=some .free:=hx;have hm:(x,NameKind.free)∈scope.names:=by
   rcases hx with h|h
   .exact H9 (env:=X.env) (.inl rfl) ok.cell h
   .exact H9 (env:=X.env) (.inr rfl) ok.cell h
  obtain⟨c,hc⟩:=hf _ hm rfl;exact⟨c,Oe hm hc⟩
 .cases e
 .obtain⟨f0,f1,f2,f3,f4,f5⟩:=f2 b hb;obtain⟨ob,eb,_⟩:=AK b hb;exact⟨ie (gK (cX eb) hC),λx c e=>f4 x c (cl x c e)⟩
 .obtain⟨f0,f1,f2,f3,f4,f5⟩:=f2 b hb;rcases f3 with q|q
  .exact I.ok.oF b o e q
  .exact cR (gK (cX e) (ju I.ok.rM q)) (jV _)
 .obtain⟨f0,f1,f2,f3,f4,f5⟩:=f2 b hb;rcases y09.mp (I.kH b z) with q|q
  .exact f1 q
  .exact f2 q
 .unfold kf at h2;have hk:¬i<k:=λq=>by
   rw[uc (by simpa using q),Ml] at h2
   split at h2 <;> cases h2
  rw[ub (by simpa using hk),pI,fL] at h2
  cases e:dD[i - k]? with
  |none=>rw[e] at h2;cases h2
  |some j=>
   rw[e] at h2;have CQ:(Z[j]?).join=some v:=Option.some.inj h2;have hj:Z[j]?=some (some v):=by
    cases q:Z[j]? with
    |none=>rw[q] at CQ;cases CQ
    |some z=>rw[q] at CQ;simp at CQ;rw[CQ]
   have yO:k+(i - k)=i:=by lia
   obtain⟨hN,sf⟩:=ok.JU (i - k) j x e (by rw[yO];exact h1)
   have hm:(x,NameKind.free)∈scope.names:=PySem.mem_of_lookup sf;have hkx:=ok.free _ hm rfl;obtain⟨mX,hnX,hlX⟩:=I.loc;obtain⟨u,ru,lk⟩:=hlX j x v hN hj (by rcases hkx with q|q;exact .inr (.inl q);exact .inr (.inr q))
   refine⟨u,ru,.inr ⟨MX (env:=X.env) sf,?_⟩⟩;rcases lk with⟨q,_⟩|⟨_,c,hc,o8⟩
   .lia
   .exact⟨c,Oe hm hc,o8.keeps old⟩
 .obtain⟨v,z⟩:=I.cell x c (cl x c e);exact⟨v,z.keeps old⟩
 .have e:p=(D,oD):=by simpa[fW] using hp
  subst e;exact⟨KI,fr D hD,CT,λz=>cR (gK (nfs D z) hD) (jV _),Ku⟩
 .unfold kf;rw[dZ,pI,bq];exact ok.len.symm
def NK{RR:aj->ah->Result->ay->Prop}{Fin:List V->Hp->Prop}(I2:Inv X aa Z H2 s2)(hc:X.calm=true)(ok:eJ X scope M k dD)
  (T:Turn X.prog X.w X.K tg J fp it tn) (nY:tn 0 s2.heap) (f2:∀b∈fp,ji X aa H2 b)
  (hg:∀C s H fp,PG (fW X scope M C s H fp) tg g) (ht:∀C s H fp,rj (fW X scope M C s H fp) ifs tt) (he:∀C s H fp,PE (fW X scope M C s H fp) elt te)
  (hW:oO J g tt te (kf k dD Z) H2 Fin)
  (hRR:∀D C s' H' aU,Inv X aa Z (upd H' D (.lst aU)) s'->ji X aa (upd H' D (.lst aU)) C->(∃m,s'.heap.Ns C m)->H' D=none->Fin aU H'->RR (.ref D) C (.ok .next) s') :
  wpAny (model X.prog X.w) X.A (newList []) (λaU s₃=>wpAny (model X.prog X.w) X.A (newFunctionEnv scope X.env.globals (kg X.env scope.names) [] X.env.qual none .none (some X.env)) (λCy s₄=> codeAny (model X.prog X.w) X.A (.compStart (.ListComp elt [⟨tg,iter,ifs,0⟩] scope pos) 0 (.ref it) aU { Cy with scope:=relabel scope X.env}) (RR aU Cy.locals) s₄) E s₃) E s2:=by
 refine wpAny_newObj_type (wpAny_newFunctionEnv ok.cell (by intro y hy;simp at hy) (λh₁ hns₁ hsb₁=>?_) ok.kind)
 dsimp only at hns₁ hsb₁ ⊢;generalize Kk:s2.heap.push { cls:=.type "list",dict:=none,data:=.seq ([]:List aj).toArray}=H3 at hns₁ hsb₁ ⊢;have Kj:H3.objs.size=s2.heap.objs.size+1:=by rw[<-Kk,Heap.size_push]
 have CT:s2.heap.objs.size≠H3.objs.size:=by rw[Kj];exact ie (vx _)
 have below:∀b,b<s2.heap.objs.size->b≠H3.objs.size/\b≠s2.heap.objs.size:=λb hb=>⟨by rw[Kj];exact ie (zQ hb),ie hb⟩
 have old:∀b o,s2.heap.get? b=some o->h₁.get? b=some o:=λb o e=>hsb₁.extBut b o (below b (cX e)).1 (dy _ (Kk ▸ dy _ e))
 have uM:h₁.get? s2.heap.objs.size=some { cls:=.type "list",data:=.seq ([]:List aj).toArray 0}:=hsb₁.extBut _ _ CT (dy _ (Kk ▸ i_ _ rfl));have AK:=T.obj 0 _ nY;have uL:s2.heap.objs.size<=H3.objs.size:=by rw[Kj];exact qG _
 obtain⟨N,W,w0,turn⟩:=hW;have Sq:tn 0 h₁:=T.keep _ _ _ nY λb _ o e=>old b o e
 have loop:∀s₃:ay,s₃={ s2 with heap:=h₁,toks:=s2.toks+([]:List (Str×aj)).length}->
   codeAny (model X.prog X.w) X.A (.compLoop (.ListComp elt [⟨tg,iter,ifs,0⟩] scope pos) 0 (.ref it) (.ref s2.heap.objs.size) (compEnvC scope (kg X.env scope.names) H3.objs.size X.env))
    (RR (.ref s2.heap.objs.size) H3.objs.size) s₃:=by
  rintro s₃ rfl;have I3:Inv (fW X scope M H3.objs.size s2 H2 fp) [(s2.heap.objs.size,{ cls:=.type "list",data:=.seq ([]:List aj).toArray 0})] (kf k dD Z) H2 { s2 with heap:=h₁,toks:=s2.toks+([]:List (Str×aj)).length}:=
   I2.block ok f2 AK uL CT (cv _) old rfl rfl hns₁ uM (λv z=>by cases z)
  have Kb:∀b∈fp,b≠H3.objs.size/\b≠s2.heap.objs.size:=λb hb=>let ⟨o,e,_⟩:=AK b hb;below b (cX e)
  have oH:∀{H':Hp} {oD:Obj},(∀b∈fp,H' b=none)->∀b∈fp,ji (fW X scope M H3.objs.size s2 H2 fp) [(s2.heap.objs.size,oD)] H' b:=λ{H' oD} hn b hb=>by
   obtain⟨f0,f1,f2,f3,f4,f5⟩:=f2 b hb;refine⟨hn b hb,(Kb b hb).1,λz=>?_,.inl hb,λx c e=>f4 x c (Ji (I2.i4 ok) e),λp hp z=>?_⟩
   .rcases y09.mp (I2.kH b z) with q|q
    .exact f1 q
    .exact f2 q
   .have e:p=(s2.heap.objs.size,oD):=by simpa[fW] using hp
    subst e;exact(Kb b hb).2 z.symm
  refine SF (λn s'=>∃(i:Nat) (τ:St) (aU:List V) (us:List aj) (c:Nat) (H':Hp),Vals aU us/\aU.length<=sizeLine/\ Inv (fW X scope M H3.objs.size s2 H2 fp) [(s2.heap.objs.size,{ cls:=.type "list",data:=.seq us.toArray c})] τ H' s'/\tn i s'.heap/\(∀b∈fp,H' b=none)/\n=N - i/\i<=N/\W i τ aU H') ?_ N
   ⟨0,kf k dD Z,[],[],0,H2,.nil,k_ _,I3,Sq,λb hb=>(f2 b hb).1,rfl,k_ _,w0⟩
  rintro n s3 ⟨i,τ,aU,us,c,H',rv,hlen,I,st,fr,rfl,hiN,w⟩;have pinD:=(I.pin (s2.heap.objs.size,{ cls:=.type "list",data:=.seq us.toArray c}) (by simp[fW]))
  rcases turn i τ aU H' hiN w with⟨stop,qn⟩|⟨mh,go,step⟩
  .refine bP (T.done (fW X scope M H3.objs.size s2 H2 fp) rfl rfl rfl hc i _ s3 τ H' (λ_ _=>False) I (oH fr) st stop) λr s4 ⟨hr,I4⟩=>?_
   subst hr;have sP:=(I4.pin (s2.heap.objs.size,{ cls:=.type "list",data:=.seq us.toArray c}) (by simp[fW]))
   have kL:∀b∈fp,(b∈X.ex\/X.s₀.heap.objs.size<=b)/\b≠X.env.locals/\(∀x c,X.env.cells.lookup x=some c->c≠b)/\∀p∈X.pn++aa,p.1≠b:=λb hb=>by
    obtain⟨f0,f1,f2,f3,f4,f5⟩:=f2 b hb;exact⟨f3,f1,f4,f5⟩
   have J1:Inv X aa Z H' s4:=I2.vR (ch:=fp) I4.os I4.base I4.bD I4.bare kL;have young:X.s₀.heap.objs.size<=s2.heap.objs.size:=I2.sz;have apart:∀a,s2.heap.objs.size<=a->a≠X.env.locals/\(∀x c,X.env.cells.lookup x=some c->c≠a)/\∀p∈X.pn++aa,p.1≠a:=λa ha=>
    ⟨wW (gK I2.lt ha),λx c e z=>by
     obtain⟨v,q⟩:=I2.cell x c e;exact cR (gK q.lt (by rw[z];exact ha)) (jV _),λp hp z=>cR (gK (cX (I2.pin p hp).1) (by rw[z];exact ha)) (jV _)⟩
   have aD:=apart _ (cv _);have aC:=apart _ uL;have J2:Inv X aa Z (upd H' s2.heap.objs.size (.lst aU)) s4:=J1.Eb sP.2.1 young aD.1 aD.2.1 aD.2.2 ⟨hlen,us,c,rv,sP.1⟩;obtain⟨m,hn,_⟩:=I4.loc;have hCn:H' H3.objs.size=none:=I4.free;refine hRR _ _ s4 H' aU J2 ⟨?_,aC.1,I2.zg uL,.inr (ju young uL),aC.2.1,aC.2.2⟩ ⟨m,hn⟩ sP.2.1 qn;rw[dI (Ne.symm CT)];exact hCn
  .refine bP (T.item (fW X scope M H3.objs.size s2 H2 fp) rfl rfl rfl hc i _ s3 τ H' (λ_ _=>False) I (oH fr) st go) λr s4 ⟨u,hr,h4⟩=>?_
   subst hr;refine bP h4 λ_ s5 hh=>?_
   obtain⟨x,H5,I5,r5,y5,kG,Kd⟩:=hh;have Hu:=I5.pinned (oH Kd) (T.obj _ _ kG);refine bP (hg _ _ _ _ _ s5 τ H5 x u _ Hu r5 (step x H5 y5)) λ_ s6 hh=>?_
   obtain⟨τ6,H6,I6,q6⟩:=hh;refine bP (ht _ _ _ _ _ s6 τ6 H6 _ I6 q6) λb s7 hh=>?_
   obtain⟨H7,I7,q7⟩:=hh;have sy:∀{s':ay} {τ':St} {Hn:Hp},Inv (fW X scope M H3.objs.size s2 H2 fp) ([(s2.heap.objs.size,{ cls:=.type "list",data:=.seq us.toArray c})]++Ci fp s5.heap) τ' Hn s'->tn (i+1) s'.heap/\∀b∈fp,Hn b=none:=λ{s' τ' Hn} I'=>by
    refine⟨T.keep _ _ _ kG λb hb o e=>(I'.pin (b,o) (n4 _ (n4 _ (BD hb e)))).1,λb hb=>?_⟩
    obtain⟨o,e,d⟩:=T.obj _ _ kG b hb;exact(I'.pin (b,o) (n4 _ (n4 _ (BD hb e)))).2.1
   cases b with
   |false=>
    rw[br qF] at q7;show ∃m,m<N - i/\_;obtain⟨st7,fr7⟩:=sy I7;exact⟨N - (i+1),by lia,i+1,τ6,aU,us,c,H7,rv,hlen,I7.eZ,st7,fr7,rfl,mh,q7⟩
   |true=>
    rw[bJ rfl] at q7;show wpAny _ _ (eval elt _) _ _ s7;refine bP (he _ _ _ _ _ s7 τ6 H7 _ I7 q7) λv s8 hh=>?_
    obtain⟨y,H8,I8,r8,KC,w8⟩:=hh;obtain⟨st8,fr8⟩:=sy I8;have pj:=(I8.pin (s2.heap.objs.size,{ cls:=.type "list",data:=.seq us.toArray c}) (by simp[fW]))
    have hul:=rv.length;refine append_at (hsz:=by show us.toArray.size<=sizeLine;rw[fK,<-hul];exact hlen) pj.1 λh9 So e9=>?_
    have e9':h9.get? s2.heap.objs.size=some { cls:=.type "list",data:=.seq (us++[v]).toArray (c+1)}:=by rw[e9,List.push_toArray]
    have SD:=I8.eZ;have Kl:s2.heap.objs.size≠(fW X scope M H3.objs.size s2 H2 fp).env.locals:=pj.2.2.1;have nx:∀(b:ah),H8 b≠none->b≠s2.heap.objs.size:=λb hb z=>hb (by rw[z];exact pj.2.1)
    refine⟨N - (i+1),by lia,i+1,τ6,aU++[y],us++[v],c+1,H8,rv.append (.cons r8 .nil),by rw[dZ,zP];exact KC,?_,?_,fr8,rfl,mh,w8⟩
    .have I9:Inv (fW X scope M H3.objs.size s2 H2 fp) [] τ6 H8 s8:=SD.jS (λp hp=>cR hp (by simp))
     have SA:Inv (fW X scope M H3.objs.size s2 H2 fp) [] τ6 H8 { s8 with heap:=h9}:=I9.turned (t':=s8.toks) (λb o hb e=>(So.2 b hb).trans e) pj.2.1 Kl (.inr (cv _))
      (λx cc e z=>by
       obtain⟨v',q⟩:=I2.cell x cc (Ji (I2.i4 ok) e);exact cR (gK q.lt (by rw[z];exact cv _)) (jV _)) (λp hp=>cR hp (by simp[fW]))
     refine SA.jS λp hp=>?_
     simp_all
    .exact T.keep _ _ _ st8 λb hb o e=>So.extBut b o (Kb b hb).2 e
 exact codeAny_compStart_list (loop _ rfl) (T.self _ 0 _ _ _ Sq (loop _ rfl))
def wR(wi:TI)(g:TG)(tt:TT)(te:TE)(k:Nat)(dD:List Nat):TE:=λZ H Q=>wi Z H λJ H1=>oO J g tt te (kf k dD Z) H1 λaU H'=>∀l,H' l=none->Q (.ref l) (upd H' l (.lst aU))
def Xz(hc:X.calm=true)(ok:eJ X scope M k dD)(hi:PI X tg iter wi)
  (hg:∀C s H fp,PG (fW X scope M C s H fp) tg g) (ht:∀C s H fp,rj (fW X scope M C s H fp) ifs tt) (he:∀C s H fp,PE (fW X scope M C s H fp) elt te)
  (hs:∀x,foldedSetIterable iter X.env x=pure x:=by intro _;rfl):PE X (.ListComp elt [⟨tg,iter,ifs,0⟩] scope pos) (wR wi g tt te k dD):=by
 intro aa s Z H Q I h;rw[eval_ListComp];refine wpAny_comprehension_free (use:=none) rfl hs (MJ (I.i4 ok)) ok.kind ok.names (bP (hi aa s Z H _ I h) λv s1 h1=>bP h1 λG5 s2 h2=>?_)
 obtain⟨it,fp,tn,J,H2,e,I2,T,nY,f2,hW⟩:=h2;subst e;refine NK (RR:=λaU C=>compPost (model X.prog X.w) X.A X.xe none (EP X aa Z Q) aU C) I2 hc ok T nY f2 hg ht he hW ?_
 intro D C s' H' aU I' fC ⟨m,hn⟩ hD hq;refine⟨m,hn,λh' sb=>?_⟩
 obtain⟨f0,f1,f2,f3,f4,f5⟩:=fC;exact⟨.ref D,_,I'.turned (t':=s'.toks) (λb o hb e=>(sb.2 b hb).trans e) f0 f1 f3 f4 f5,rfl,hq D hD⟩
def DR(wi:TI)(g:TG)(tt:TT)(te:TE)(k:Nat)(dD:List Nat)(i:Nat):TS:=λD Z H=>wR wi g tt te k dD Z H λv H'=>D.nx (Z.set i (some v)) H'
def XA(hc:X.calm=true)(ok:eJ X scope M k dD)(hN:X.N.Nodup)(yO:X.N[i]?=some x)(hx:Loc X.env.scope x)(hi:PI X tg iter wi)
  (hg:∀C s H fp,PG (fW X scope M C s H fp) tg g) (ht:∀C s H fp,rj (fW X scope M C s H fp) ifs tt) (he:∀C s H fp,PE (fW X scope M C s H fp) elt te)
  (C_:swapsWith (.ListComp elt [⟨tg,iter,ifs,0⟩] scope pos) (some (.Name x px)) nH.line X.env=pure true)
  (hs:∀x,foldedSetIterable iter X.env x=pure x:=by intro _;rfl) (hf:X.fn x=true\/X.env.scope.names.lookup x=some .local := by first|exact .inl rfl|exact .inr rfl|assumption) :
  PS X (.Assign [.Name x px] (.ListComp elt [⟨tg,iter,ifs,0⟩] scope pos) nH) (DR wi g tt te k dD i):=by
 intro aa s Z H D I h;rw[exec_Assign_Name_used _ _ _ _ C_];refine aE (wpAny_standAt (aE ?_));show wpAny _ X.A (do let _ <-comprehension (.ListComp elt [⟨tg,iter,ifs,0⟩] scope pos) scope X.env _ (newList []) false (eval iter X.env) (some (assign (.Name x px) X.env))) _ _ s
 refine aE (wpAny_mono (wpAny_comprehension_free (use:=some (assign (.Name x px) X.env)) (Q:=λ_ s'=>SP X aa D .next s') rfl hs (MJ (I.i4 ok)) ok.kind ok.names (bP (hi aa s Z H _ I h) λv s1 h1=>bP h1 λG5 s2 h2=>?_)) (λ_ s' hq=>aY (aY hq)) λ_ _ e=>e)
 obtain⟨it,fp,tn,J,H2,e,I2,T,nY,f2,hW⟩:=h2;subst e;refine NK (RR:=λaU C=>compPost (model X.prog X.w) X.A X.xe (some (assign (.Name x px) X.env)) (λ_ s'=>SP X aa D .next s') aU C) I2 hc ok T nY f2 hg ht he hW ?_
 intro D' C s' H' aU I' fC ⟨m,hn⟩ hD hq;obtain⟨f0,f1,f2,f3,f4,f5⟩:=fC;show wpAny _ X.A (assign (.Name x px) X.env (.ref D')) _ _ _;refine wpAny_assign_Name (ND I' hN yO hx (v:=.ref D') rfl (λsR Sz hh=>?_) hf)
 obtain⟨a,sb,ha⟩:=hh;have hCa:C≠a:=by
  rcases ha with e|e
  .rw[e];exact f1
  .exact λz=>f4 _ _ e z.symm
 refine⟨m,hn.sameBut sb hCa,λh' sb'=>⟨_,_,Sz.turned (t':=sR.toks) (λb o hb e=>(sb'.2 b hb).trans e) f0 f1 f3 f4 f5,hq D' hD⟩⟩
end
variable{w:cI}{tg:Expr}{X:Cx}
def iU(c:Nat):Str:=⟨#[c]⟩
def EE(x:Str):It:=⟨λi _=>i<x.cps.size,λi H v H'=>H'=H/\∃c,x.cps[i]?=some c/\v=.str (iU c),λi _=>x.cps.size<=i⟩
def VE{P:dB}{K:aL}(it:ah)(x:Str)(t:Tok)(ty:String)(sj:ty="str_ascii_iterator"\/ty="str_iterator"):Turn P w K tg (EE x) [it] it (λi h=>h.IsStrIter it ty x t i) where
 mem:=by simp
 obj:=λi h st b hb=>by
  have e:b=it:=by simpa using hb
  subst e;obtain⟨o,e,c,d⟩:=st
  simp_all
 keep:=λi h h' st k=>by
  obtain⟨o,e,c,d⟩:=st;exact⟨o,k it (by simp) o e,c,d⟩
 item:=by
  intro X hP hw hK hc i aa s Z H E I hf st hg;subst hP hw hK;have hi:i<x.cps.size:=hg;obtain⟨f0,f1,f2,f3,f4,f5⟩:=hf it (by simp)
  have fin:∀h',h'.IsStrIter it ty x t (i+1)->Heap.SameBut it s.heap h'->∃u,some (Value.str ⟨#[x.cps[i]]⟩ s.toks)=some u/\
    wpAny (model X.prog X.w) X.A (letOwnedTupleGo tg (.ref it) u) (λ_ s2=>∃y H',Inv X aa Z H' s2/\RelV y u/\(EE x).tG i H y H'/\s2.heap.IsStrIter it ty x t (i+1)/\∀b∈[it],H' b=none) E { s with heap:=h',toks:=s.toks+1}:=λh' iM sb=>by
   have I1:Inv X aa Z H { s with heap:=h',toks:=s.toks+1}:=I.turned (λb o hb e=>(sb.2 b hb).trans e) f0 f1 f3 f4 f5
   obtain⟨o,e,c,d⟩:=id iM;refine⟨_,rfl,vP (s:={ s with heap:=h',toks:=s.toks+1}) e c d (by rcases sj with z|z <;> subst z <;> decide) ⟨.str (iU x.cps[i]),H,I1,⟨_,rfl⟩,⟨rfl,_,by simp[hi],rfl⟩,iM,λb hb=>(hf b hb).1⟩⟩
  rcases sj with z|z
  .subst z;exact wpAny_pyNext_ascii_item st (c:=x.cps[i]) (by simp[hi]) fin
  .subst z;exact wpAny_pyNext_wide_item st (c:=x.cps[i]) (by simp[hi]) fin
 done:=by
  intro X hP hw hK hc i aa s Z H E I hf st hg;subst hP hw hK;have hi:x.cps.size<=i:=hg;obtain⟨f0,f1,f2,f3,f4,f5⟩:=hf it (by simp)
  rcases sj with z|z
  .subst z;exact wpAny_pyNext_ascii_end (I.ok.hd hc) st (by simp;lia) λh' eb=>⟨rfl,I.turned (t':=s.toks) (λb o hb e=>eb b o hb e) f0 f1 f3 f4 f5⟩
  .subst z;exact wpAny_pyNext_wide_end (I.ok.hd hc) st (by simp;lia) λh' eb=>⟨rfl,I.turned (t':=s.toks) (λb o hb e=>eb b o hb e) f0 f1 f3 f4 f5⟩
 self:=λ_ _ _ _ _ st h=>by
  rcases sj with z|z
  .subst z;exact wpAny_pyIter_striter_ascii st h
  .subst z;exact wpAny_pyIter_striter_wide st h
def Di(tl:TE):TI:=λZ H R=>tl Z H λx H1=>∃z,x=.str z/\R (EE z) H1
def ο(hl:PE X l tl):PI X tg l (Di tl):=by
 intro aa s Z H R I h;refine bP (hl aa s Z H _ I h) λv s1 hh=>?_
 obtain⟨x,H1,I1,r1,q1⟩:=hh;obtain⟨z,e,q⟩:=q1;subst e;obtain⟨t,rfl⟩:=r1;have key:∀ty:String,ty="str_ascii_iterator"\/ty="str_iterator"->HC X aa Z tg R (.ref s1.heap.objs.size) { s1 with heap:=s1.heap.push { cls:=.type ty,data:=.fields #[.str z t,.int 0 0]}}:=λty sj=>by
  refine⟨s1.heap.objs.size,[s1.heap.objs.size],_,_,H1,rfl,I1.kept (t':=s1.toks) λb o e=>dy _ e,VE _ z t ty sj,⟨_,i_ _ (by rcases sj with e|e <;> subst e <;> rfl),rfl,rfl⟩,λb hb=>?_,q⟩
  have e:b=s1.heap.objs.size:=by simpa using hb
  subst e;exact I1.kl (cv _) (I1.bD.fresh (cv _))
 cases ha:z.cps.all (· < 128)
 .exact wpAny_pyIter_wide ha (key _ (.inr rfl))
 .exact wpAny_pyIter_ascii ha (key _ (.inl rfl))
def gM(names outer:List (Str×oK))(N M:List Str)(k:Nat)(dD:List Nat):Bool:=
 names.all (λy=>y.2 != .cell)&&(names.all (λy=>y.2 != .free || (outer.lookup y.1 == some .cell || outer.lookup y.1 == some .free))&&(names.all (λy=>y.2 != .local || names.lookup y.1 == some .local) && (M.length == k+dD.length&&(List.range dD.length).all (λj=>match dD[j]?,M[k+j]? with|some i,some x=>N[i]? == some x&&names.lookup x == some .free|_,_=>true))))
def eJ.of(outer:List (Str×oK))(N:List Str)(h:gM scope.names outer N M k dD=true)(ho:X.env.scope.names=outer:=by rfl)(hN:X.N=N:=by rfl)(hk:scope.kind=.function:=by rfl):eJ X scope M k dD:=by
 unfold gM at h;simp only[jU,jX,Bool.or_eq_true,bne_iff_ne,ne_eq,beq_iff_eq] at h;obtain⟨h1,h2,h3,h4,h5⟩:=h;refine⟨hk,h1,λy hy e=>?_,λy hy e=>?_,h4,λj i x e1 e2=>?_⟩
 .rcases h2 y hy with z|z
  .exact cR e z
  .show X.env.scope.names.lookup y.1=_\/X.env.scope.names.lookup y.1=_;rw[ho];exact z
 .rcases h3 y hy with z|z
  .exact cR e z
  .exact z
 .have hj:j<dD.length:=(eQ.mp e1).1;have:=h5 j (qp.mpr hj);rw[e1,e2] at this;simp only[jU,beq_iff_eq] at this;rw[hN];exact this
section
variable{X:Cx}
def π:eB X (compareOp .Is) (λx y H Q=>∃a b,x=.bl a/\y=.bl b/\Q (.bl (a == b)) H):=by
 intro aa s Z H x y v u Q I rx ry h;obtain⟨a,b,rfl,rfl,q⟩:=h;cases rx;cases ry;exact is_bool (uy I q rfl)
def XB:eB X (compareOp .IsNot) (λx y H Q=>∃a b,x=.bl a/\y=.bl b/\Q (.bl (a != b)) H):=by
 intro aa s Z H x y v u Q I rx ry h;obtain⟨a,b,rfl,rfl,q⟩:=h;cases rx;cases ry;exact isnot_bool (uy I q rfl)
def Cj(K:aL)(H:Hp):V->String->Prop
 |.aI,n=>n="NoneType"
 |.bl _,n=>n="bool"
 |.int _,n=>n="int"
 |.str _,n=>n="str"
 |.ref a,n=>(n="list"/\∃xs,dr K H a xs)\/(n="tuple"/\∃xs,iI K H a xs)
 |_,_=>False
def qk(k T:String):Bool:=k == T || (k == "bool" && T == "int")
def VF:bW X (.builtin "isinstance") (λxs H Q=>∃x k T,xs=[x,.ty T]/\Cj X.K H x k/\(T="int"\/T="str"\/T="bool"\/T="list"\/T="tuple")/\Q (.bl (qk k T)) H):=by
 intro aa s Z H xs us Q I r h;obtain⟨x,k,T,rfl,hk,hT,q⟩:=h;obtain⟨u,w',rfl,rx,ry⟩:=vals2 r;cases ry;have fin:∀b,b=qk k T->EP X aa Z Q (.bool b) s:=λb e=>uy I q e.symm
 have dQ:∀b,b=qk k T->EP X aa Z Q (.bool b) { s with toks:=s.toks+1}:=λb e=>uy (I.tok _) q e.symm
 cases x with
 |aI=>
  cases rx;have hk:k="NoneType":=hk;subst hk;rcases hT with rfl|rfl|rfl|rfl|rfl
  .exact IsiPair.NoneType_int (dQ _ (by decide))
  .exact IsiPair.NoneType_str (dQ _ (by decide))
  .exact IsiPair.NoneType_bool (dQ _ (by decide))
  .exact IsiPair.NoneType_list (dQ _ (by decide))
  .exact IsiPair.NoneType_tuple (dQ _ (by decide))
 |bl b=>
  cases rx;have hk:k="bool":=hk;subst hk;rcases hT with rfl|rfl|rfl|rfl|rfl
  .exact IsiPair.bool_int (fin _ (by decide))
  .exact IsiPair.bool_str (dQ _ (by decide))
  .exact IsiPair.bool_bool (fin _ (by decide))
  .exact IsiPair.bool_list (dQ _ (by decide))
  .exact IsiPair.bool_tuple (dQ _ (by decide))
 |int i=>
  obtain⟨t,rfl⟩:=rx;have hk:k="int":=hk;subst hk;rcases hT with rfl|rfl|rfl|rfl|rfl
  .exact IsiPair.int_int (fin _ (by decide))
  .exact IsiPair.int_str (dQ _ (by decide))
  .exact IsiPair.int_bool (dQ _ (by decide))
  .exact IsiPair.int_list (dQ _ (by decide))
  .exact IsiPair.int_tuple (dQ _ (by decide))
 |str z=>
  obtain⟨t,rfl⟩:=rx;have hk:k="str":=hk;subst hk;rcases hT with rfl|rfl|rfl|rfl|rfl
  .exact IsiPair.str_int (dQ _ (by decide))
  .exact IsiPair.str_str (fin _ (by decide))
  .exact IsiPair.str_bool (dQ _ (by decide))
  .exact IsiPair.str_list (dQ _ (by decide))
  .exact IsiPair.str_tuple (dQ _ (by decide))
 |ref a=>
  cases rx;rcases hk with⟨hk,ys,hs⟩|⟨hk,ys,hs⟩
  .subst hk;obtain⟨aH,_,⟨o,n,e,hc,_⟩,_⟩:=I.list hs;rcases hT with rfl|rfl|rfl|rfl|rfl
   .exact IsiPair.list_int e hc (dQ _ (by decide))
   .exact IsiPair.list_str e hc (dQ _ (by decide))
   .exact IsiPair.list_bool e hc (dQ _ (by decide))
   .exact IsiPair.list_list e hc (fin _ (by decide))
   .exact IsiPair.list_tuple e hc (dQ _ (by decide))
  .subst hk;obtain⟨aH,_,⟨o,e,hc,_⟩,_⟩:=I.tuple hs;rcases hT with rfl|rfl|rfl|rfl|rfl
   .exact IsiPair.tuple_int e hc (dQ _ (by decide))
   .exact IsiPair.tuple_str e hc (dQ _ (by decide))
   .exact IsiPair.tuple_bool e hc (dQ _ (by decide))
   .exact IsiPair.tuple_list e hc (dQ _ (by decide))
   .exact IsiPair.tuple_tuple e hc (fin _ (by decide))
 |vQ _=>exact False.elim hk
 |AE _=>exact False.elim hk
 |ty _=>exact False.elim hk
def e8s(hg:Gl X x)(hm:X.mg x=none)(hv:bootBuiltins x=some (.type n))(hn:x≠"__name__":=by decide)(hd:(x == ("__debug__":Str))=false:=by decide):PE X (.Name x pos) (tC (.ty n)):=
 Xc hg hm hv rfl hn hd
def S_(aH:List aj)(bs:List Bool)(hv:Vals (bs.map V.bl) aH):TruthOf prog w A (λi v=>aH.toArray[i]?=some v) (λi=>bs.getD i false):=by
 intro i v s Q E hP hQ;have RG:aH[i]?=some v:=by simpa using hP
 have hl:=hv.length;rw[bq] at hl;have hi:i<aH.length:=(eQ.mp RG).1;have hb:(bs.map V.bl)[i]?=some (.bl bs[i]):=by simp[show i<bs.length by lia]
 obtain⟨u,hu,ru⟩:=hv.get hb;rw[RG] at hu;cases hu;cases ru;have e:bs.getD i false=bs[i]:=by simp[show i<bs.length by lia]
 have RJ:Q (bs.getD i false) s:=hQ;rw[e] at RJ;exact wpAny_truthy_bool RJ
def Uj(bs:List Bool):(List.range bs.length).all (λi=>bs.getD i false)=bs.all id:=by
 rw[A_,jX,jX];constructor
 .intro h b hb;obtain⟨i,hi,e⟩:=List.mem_iff_getElem.mp hb
  simp_all
 .intro h i hi;have hi:=qp.mp hi;have:=h bs[i] (A' hi);simp[hi];exact this
def Uk(hc:X.calm=true):bW X (.builtin "all") (λxs H Q=>∃(a:ah) (bs:List Bool),xs=[.ref a]/\dr X.K H a (bs.map V.bl)/\Q (.bl (bs.all id)) H):=by
 intro aa s Z H xs us Q I r h;obtain⟨a,bs,rfl,hs,q⟩:=h;obtain⟨u,rfl,ru⟩:=vals1 r;cases ru;obtain⟨aH,rv,p,hz⟩:=I.list hs;have hl:=rv.length;rw[bq] at hl;refine call_all_walk (wpAny_pyIter_list p.isList ?_);have gP:a≠s.heap.objs.size:=by obtain⟨o,n,e,_⟩:=p;exact ie (cX e)
 refine⟨s.heap.objs.size,_,_,aH.toArray.size,_,_,λi=>bs.getD i false,rfl,Walks.list (A:=X.A.in1) (show X.A.in1.handled=none from I.ok.hd hc) _ a gP aH.toArray,⟨⟨_,i_ _ rfl,rfl,rfl⟩,?_⟩,S_ aH bs rv,λh' tk hk=>?_⟩
 .exact p.isList.at λo e=>dy _ e
 .have e1:aH.toArray.size=bs.length:=by rw[fK,<-hl]
  refine⟨.bl (bs.all id),H,I.kept (h':=h') (t':=tk) (λb o e=>hk b o (λz=>cR (gK (cX e) (Ew (lL.mp z).symm)) (jV _)) (dy _ e)),?_,q⟩
  show Value.bool _=Value.bool _;rw[e1,Uj]
end
structure qL (K:aL) (mg:Str->ai aj) (x:Str) (st:Stmt) (f:ah) (fd:lq) (ps:List Str):Prop where
 fn:rb K x x st f fd
 mg:mg x=some (.ref f)
 bd:Binds K fd ps []
def aB.put(s:aB H H')(h:H' a=none):aB H (upd H' a o):=λb u e=>by
 have z:=s b u e;rw[dI (rB z h)];exact z
def rE(h:H a=none):aB H (upd H a o):=(aB.refl H).put h
def VG(d:α)(h0:0<=k)(hk:k<xs.length):d_ xs k=some (xs.getD k.toNat d):=by
 have Ky:k.toNat<xs.length:=by lia
 have e:xs[k.toNat]?=some (xs.getD k.toNat d):=by simp[Ky]
 have z:=tL e
 rwa[show((k.toNat:Nat):Int)=k by lia] at z
def oZ:bootBuiltins "list"=some (.type "list"):=by decide +kernel
section
variable{X:Cx}
noncomputable def qh(xs:List V)(k:Nat)(y:V):List V:=xs.take k++y::xs.drop k
def Ta(xs:List V)(k:Nat)(y:V):(qh xs k y).length=xs.length+1:=by
 grind [qh]
def Pc:V->List V->Hp->VK->Prop:=λx vs H Q=>∃l xs i y,x=.ref l/\vs=[.int i,y]/\H l=some (.lst xs)/\0<=i/\i<2^62/\xs.length<sizeLine/\Q .aI (upd H l (.lst (qh xs i.toNat y)))
theorem Ul:xu X "list.insert" Pc:=by
 intro aa s Z H x vs v us Q I rx rv h;obtain⟨l,xs,i,y,rfl,rfl,hH,h0,hi,hz,q⟩:=h;cases rx;obtain⟨u,u',rfl,⟨t,rfl⟩,ru⟩:=rv.two;obtain⟨z,aH,n,r,hl,e⟩:=I.uW hH;have Kv:¬(!Builtin.List.listFitsIndex i)=true:=by
  grind [PySem.Builtin.List.listFitsIndex]
 refine call_meets F.slot_list_insert ⟨_,e,rfl⟩ F.entry_list_insert (F.args_list_insert_3 _ _ _) (PySem.AutoSeq1.list_insert_list_int_val_1 l aH.toArray n i t u' Kv (by rw[fK];lia)) ⟨e,?_⟩
 refine⟨.aI,_,I.uV (its':=aH.take i.toNat++u'::aH.drop i.toNat) hH e ?_ ((r.take i.toNat).append (.cons ru (r.drop i.toNat))) ?_,rfl,q⟩
 .have h1:¬i<0:=by lia
  simp only[h1,lr];apply Array.ext';simp only[Array.toList_append,Array.toList_push,Array.toList_extract,fK];rw[List.extract_eq_drop_take,List.extract_eq_drop_take];have e1:min i.toNat aH.length - 0=min i.toNat aH.length:=by lia
  rw[e1];simp only[List.drop_zero];have e2:aH.take (min i.toNat aH.length)=aH.take i.toNat:=by rw[List.take_eq_take_iff];lia
  rw[e2];by_cases hc:i.toNat<=aH.length
  .rw[Nat.min_eq_left hc,Ez (l:=List.drop i.toNat aH) (by rw[A8];lia)]
   simp
  .have hc:aH.length<=i.toNat:=by lia
   rw[Nat.min_eq_right hc,Hm (cv _),Hm hc];simp
 .show(qh xs i.toNat y).length<=sizeLine;rw[Ta];lia
def Hv(a c:Int)(n:Nat):It:=⟨λi _=>i<n,λi H x H'=>H'=H/\x=.int (a+i*c),λi _=>n<=i⟩
def Tb{P:dB}{w:cI}{K:aL}{tg:Expr}(it:ah)(a c:Int)(n:Nat):Turn P w K tg (Hv a c n) [it] it (λi h=>IsRangeIter h it (a+(i:Nat)*c) ((n:Int) - (i:Nat)) c) where
 mem:=by simp
 obj:=λi h st b hb=>by
  simp_all
 keep:=λi h h' st k=>k it (by simp) _ st
 item:=by
  intro X hP hw hK hc i aa s Z H E I hf st hg;subst hP hw hK;obtain⟨f0,f1,f2,f3,f4,f5⟩:=hf it (by simp)
  have W:=Walks.range (prog:=X.prog) (w:=X.w) (I.ok.hd hc) it a c n;refine W.item i s _ _ hg st λv h' tk hv iM kk=>?_
  obtain⟨t,rfl⟩:=hv;have I1:Inv X aa Z H { s with heap:=h',toks:=tk}:=I.turned (λb o hb e=>kk b o (by simpa using hb) e) f0 f1 f3 f4 f5
  exact⟨_,rfl,vP (s:={ s with heap:=h',toks:=tk}) (n:="range_iterator") iM rfl rfl (by decide) ⟨.int (a+i*c),H,I1,⟨t,rfl⟩,⟨rfl,rfl⟩,iM,λb hb=>(hf b hb).1⟩⟩
 done:=by
  intro X hP hw hK hc i aa s Z H E I hf st hg;subst hP hw hK;obtain⟨f0,f1,f2,f3,f4,f5⟩:=hf it (by simp)
  exact wpAny_pyNext_range_end (I.ok.hd hc) st (by have:n<=i:=hg;lia) λh' eb=>⟨rfl,I.turned (t':=s.toks) (λb o hb e=>eb b o hb e) f0 f1 f3 f4 f5⟩
 self:=λ_ _ _ _ _ st h=>wpAny_pyIter_rangeiter st h
def DP:V->ai Int->ai Int->Hp->VK->Prop:=λx lo hi H Q=>∃z,x=.str z/\z.length<=sizeLine/\Q (.str (Txt.slice z lo hi)) H
theorem zH:rn X DP:=by
 intro aa s Z H x v vl vu lo hi sl Q I rx hs pl pu h;obtain⟨z,rfl,hz,q⟩:=h;obtain⟨t,rfl⟩:=rx;refine⟨"str",_,F.slot_str_getitem.lookup,typeIs_str _ _ _,?_⟩;have fin:∀t' k,EP X aa Z Q (.str (Txt.slice z lo hi) t') { s with toks:=k}:=λt' k=>⟨.str _,H,I.tok _,⟨_,rfl⟩,q⟩
 cases pl with
 |none=>
  cases pu with
  |none=>exact wpAny_getItem_str_slice (l:=none) (u:=none) (st:=none) hs rfl (post_val_or_str ⟨ju (Txt.slice_le z _ _) hz,fin⟩)
  |int j tj=>exact wpAny_getItem_str_slice (l:=none) (u:=some (j,tj)) (st:=none) hs rfl (post_val_or_str ⟨ju (Txt.slice_le z _ _) hz,fin⟩)
 |int i ti=>
  cases pu with
  |none=>exact wpAny_getItem_str_slice (l:=some (i,ti)) (u:=none) (st:=none) hs rfl (post_val_or_str ⟨ju (Txt.slice_le z _ _) hz,fin⟩)
  |int j tj=>exact wpAny_getItem_str_slice (l:=some (i,ti)) (u:=some (j,tj)) (st:=none) hs rfl (post_val_or_str ⟨ju (Txt.slice_le z _ _) hz,fin⟩)
def Tq:eB X (binaryOp .Mult) (λx y H Q=>∃z n,x=.str z/\y=.int n/\MulOk z n/\Q (.str (Txt.mul z n)) H):=by
 intro aa s Z H x y v u Q I rx ry h;obtain⟨z,n,rfl,rfl,hm,q⟩:=h;obtain⟨t,rfl⟩:=rx;obtain⟨t',rfl⟩:=ry;exact SB.mul hm λt' k=>⟨.str _,H,I.tok _,⟨_,rfl⟩,q⟩
end
section
variable{X:Cx}{aa:List (ah×Obj)}{Z:St}{H:Hp}{s:ay}
def Vals.at(r:Vals xs us)(h:j<us.toArray.size):∃x,xs[j]?=some x/\RelV x us.toArray[j]:=by
 have hl:=r.length;have h':j<us.length:=by simpa using h
 have hx:xs[j]?=some xs[j]:=by simp[show j<xs.length by lia]
 obtain⟨u,hu,ru⟩:=r.get hx
 simp_all
end
section
variable{X:Cx}
def VH(K:aL)(hK:X.K=K:=by rfl):p4 X (zA K):=hK ▸ Xv
def XC(K:aL)(hK:X.K=K:=by rfl):p4 X (zB K):=hK ▸ ν
def SR(K:aL)(hK:X.K=K:=by rfl):bW X (.builtin "len") (λxs H Q=>∃p ys,xs=[.ref p]/\(dr K H p ys\/iI K H p ys)/\Q (.int ys.length) H):=hK ▸ SY
def VI(K:aL)(hK:X.K=K:=by rfl):rn X (zC K):=hK ▸ Xw
def XD(K:aL)(hK:X.K=K:=by rfl):rn X (zD K):=hK ▸ μ
def Um(K:aL)(hK:X.K=K:=by rfl):bW X (.builtin "isinstance") (λxs H Q=>∃x k T,xs=[x,.ty T]/\Cj K H x k/\(T="int"\/T="str"\/T="bool"\/T="list"\/T="tuple")/\Q (.bl (qk k T)) H):=hK ▸ VF
def SS(K:aL)(hK:X.K=K:=by rfl):bW X (.type "list") (λxs H Q=>∃p ys,xs=[.ref p]/\(dr K H p ys\/iI K H p ys)/\∀l,H l=none->Q (.ref l) (upd H l (.lst ys))):=hK ▸ S6
end
end L2
set_option autoImplicit false
namespace L2
open PySem PySem.Spec PyProof.Rows
theorem Fh{α β:Type}{R:α->β->Prop}:∀{l:List α} {m:List β} (i:Nat) {b:β},Paired R l m->m[i]?=some b->∃a,l[i]?=some a/\R a b
 |_,_,_,_,.nil,e=>by simp at e
 |_,_,0,_,.cons r _,e=>by simp at e;subst e;exact⟨_,rfl,r⟩
 |_,_,i+1,_,.cons _ t,e=>by
  obtain⟨a,h1,h2⟩:=Fh i t (by simpa using e)
  simp_all
def Paired.Ef{α β:Type}{R:α->β->Prop}{l:List α}{b:β}{m:List β}(h:Paired R l (b::m)):∃a l',l=a::l'/\R a b/\Paired R l' m:=by
 cases h with
 |cons r t=>exact⟨_,_,rfl,r,t⟩
def Fi{α β:Type}{R:α->β->Prop}:∀{l:List α} {m:List β} (i:Nat) {a:α},Paired R l m->l[i]?=some a->∃b,m[i]?=some b/\R a b:=by
 intro l m i a h e
 induction h generalizing i with
 |nil=>simp at e
 |cons r _ ih=>cases i with
  |zero=>simp at e;subst e;exact⟨_,rfl,r⟩
  |succ i=>exact ih i (by simpa using e)
inductive D where
 |aI|bl (b:Bool)|int (i:Int)|str (x:Str)|ty (n:String)|ref (n:Nat)
 |lst (xs:List D)|tup (xs:List D)|aA (kvs:List (TK×D))
mutual
def TK.d:TK->D
 |.inl i=>.int i
 |.inr x=>.str x
 |.tp l=>.tup (TK.dl l)
 |.aI=>.aI
def TK.dl:List TK->List D
 |[]=>[]
 |k::l=>TK.d k::TK.dl l
end
noncomputable def uz:D->ai V
 |.aI=>some .aI
 |.bl b=>some (.bl b)
 |.int i=>some (.int i)
 |.str x=>some (.str x)
 |.ty n=>some (.ty n)
 |_=>none
structure Kn where
 F:Hp
 A:List ah
 T:List ah
inductive ag (K:aL) (k:Kn):List V->List D->Prop
 |nil:ag K k [] []
 |flat {v:V} {d:D} {vs:List V} {ds:List D}:uz d=some v->ag K k vs ds->ag K k (v::vs) (d::ds)
 |ref {n:Nat} {a:ah} {vs:List V} {ds:List D}:k.A[n]?=some a->ag K k vs ds->ag K k (.ref a::vs) (.ref n::ds)
 |lst {a:ah} {ws vs:List V} {es ds:List D}:dr K k.F a ws->ag K k ws es->ag K k vs ds->ag K k (.ref a::vs) (.lst es::ds)
 |tup {a:ah} {ws vs:List V} {es ds:List D}:iI K k.F a ws->ag K k ws es->ag K k vs ds->ag K k (.ref a::vs) (.tup es::ds)
 |aA {a:ah} {kvs:List (TK×V×V)} {es:List (TK×D)} {ep:Nat} {vs:List V} {ds:List D}:k.F a=some (.dG kvs ep)->kvs.map (·.1)=es.map (·.1)->ag K k (kvs.map (·.2.1)) (es.map (·.1.d))->ag K k (kvs.map (·.2.2)) (es.map (·.2))->ag K k vs ds->ag K k (.ref a::vs) (.aA es::ds)
def aB.rd{H H':Hp}{a:ah}{u:HO}(e:aB H H')(h:Rd H a u):Rd H' a u:=by
 rcases h with h|⟨o,h⟩
 .exact .inl (e _ _ h)
 .exact .inr ⟨o,e _ _ h⟩
def aB.zI{K:aL}{H H':Hp}{a:ah}{xs:List V}(e:aB H H')(h:iI K H a xs):iI K H' a xs:=h.imp e.rd id
def aB.LO{K:aL}{H H':Hp}{a:ah}{xs:List V}(e:aB H H')(h:dr K H a xs):dr K H' a xs:=h.imp e.rd id
structure Kn.le (k k':Kn):Prop where
 f:aB k.F k'.F
 a:k.A <+: k'.A
def F6{α:Type}{l l':List α}{n:Nat}{x:α}(h:l <+: l')(e:l[n]?=some x):l'[n]?=some x:=by
 obtain⟨t,rfl⟩:=h;rw[uc (eQ.mp e).1];exact e
section
variable{K:aL}{k k':Kn}{v:V}{vs ws:List V}{d:D}{ds es:List D}
def ag.mono(s:k.le k')(h:ag K k vs ds):ag K k' vs ds:=by
 induction h with
 |nil=>exact .nil
 |flat e _ ih=>exact .flat e ih
 |ref e _ ih=>exact .ref (F6 s.a e) ih
 |lst e _ _ i1 i2=>exact .lst (s.f.LO e) i1 i2
 |tup e _ _ i1 i2=>exact .tup (s.f.zI e) i1 i2
 |aA e q _ _ _ i0 i1 i2=>exact .aA (s.f _ _ e) q i0 i1 i2
def ag.length(h:ag K k vs ds):vs.length=ds.length:=by
 induction h with
 |nil=>rfl
 |flat _ _ ih=>exact congrArg _ ih
 |ref _ _ ih=>exact congrArg _ ih
 |lst _ _ _ _ ih=>exact congrArg _ ih
 |tup _ _ _ _ ih=>exact congrArg _ ih
 |aA _ _ _ _ _ _ _ ih=>exact congrArg _ ih
def ag.inv(h:ag K k (v::vs) (d::ds)):ag K k [v] [d]/\ag K k vs ds:=by
 cases h with
 |flat e t=>exact⟨.flat e .nil,t⟩
 |ref e t=>exact⟨.ref e .nil,t⟩
 |lst e i t=>exact⟨.lst e i .nil,t⟩
 |tup e i t=>exact⟨.tup e i .nil,t⟩
 |aA e q j i t=>exact⟨.aA e q j i .nil,t⟩
def ag.cons(h:ag K k [v] [d])(t:ag K k vs ds):ag K k (v::vs) (d::ds):=by
 cases h with
 |flat e _=>exact .flat e t
 |ref e _=>exact .ref e t
 |lst e i _=>exact .lst e i t
 |tup e i _=>exact .tup e i t
 |aA e q j i _=>exact .aA e q j i t
def ag.cB(h:ag K k vs (d::ds)):∃w us,vs=w::us/\ag K k [w] [d]/\ag K k us ds:=by
 cases vs with
 |nil=>have:=h.length;cases this
 |cons w us=>exact⟨w,us,rfl,h.inv⟩
def ag.fT(h:ag K k vs []):vs=[]:=List.eq_nil_of_length_eq_zero h.length
def ag.get{i:Nat}(h:ag K k vs ds)(e:ds[i]?=some d):∃v,vs[i]?=some v/\ag K k [v] [d]:=by
 induction ds generalizing vs i with
 |nil=>cases e
 |cons x ds ih=>
  obtain⟨w,us,rfl,h1,h2⟩:=h.cB;cases i with
  |zero=>cases e;exact⟨w,rfl,h1⟩
  |succ i=>exact ih (vs:=us) (i:=i) h2 e
def ag.append(h:ag K k vs ds)(t:ag K k ws es):ag K k (vs++ws) (ds++es):=by
 induction ds generalizing vs with
 |nil=>rw[h.fT];exact t
 |cons x ds ih=>
  obtain⟨w,us,rfl,h1,h2⟩:=h.cB;exact .cons h1 (ih h2)
def ag.take(n:Nat)(h:ag K k vs ds):ag K k (vs.take n) (ds.take n):=by
 induction n generalizing vs ds with
 |zero=>exact .nil
 |succ n ih=>
  cases ds with
  |nil=>rw[h.fT];exact .nil
  |cons x ds=>
   obtain⟨w,us,rfl,h1,h2⟩:=h.cB;exact .cons h1 (ih h2)
def ag.drop(n:Nat)(h:ag K k vs ds):ag K k (vs.drop n) (ds.drop n):=by
 induction n generalizing vs ds with
 |zero=>exact h
 |succ n ih=>
  cases ds with
  |nil=>rw[h.fT];exact .nil
  |cons x ds=>
   obtain⟨w,us,rfl,h1,h2⟩:=h.cB;exact ih h2
def VJ(ns:List Int):ag K k (ns.map V.int) (ns.map D.int):=by
 induction ns with
 |nil=>exact .nil
 |cons n ns ih=>exact .flat rfl ih
inductive R1 (K:aL) (k:Kn):V->D->Prop
 |flat {v:V} {d:D}:uz d=some v->R1 K k v d
 |ref {n:Nat} {a:ah}:k.A[n]?=some a->R1 K k (.ref a) (.ref n)
 |lst {a:ah} {ws:List V} {es:List D}:dr K k.F a ws->ag K k ws es->R1 K k (.ref a) (.lst es)
 |tup {a:ah} {ws:List V} {es:List D}:iI K k.F a ws->ag K k ws es->R1 K k (.ref a) (.tup es)
 |aA {a:ah} {es:List (TK×V×V)} {kvs:List (TK×D)} {ep:Nat}:k.F a=some (.dG es ep)->es.map (·.1)=kvs.map (·.1)->ag K k (es.map (·.2.1)) (kvs.map (·.1.d))->ag K k (es.map (·.2.2)) (kvs.map (·.2))->R1 K k (.ref a) (.aA kvs)
def ag.one(h:ag K k [v] [d]):R1 K k v d:=by
 cases h with
 |flat q _=>exact .flat q
 |ref q _=>exact .ref q
 |lst q i _=>exact .lst q i
 |tup q i _=>exact .tup q i
 |aA q e i j _=>exact .aA q e i j
def ag.aP{u:V}(h:ag K k [v] [d])(e:uz d=some u):v=u:=by
 cases h.one with
 |flat q=>rw[e] at q;exact(Option.some.inj q).symm
 |_=>cases e
def ag.isRef{n:Nat}(h:ag K k [v] [.ref n]):∃a,v=.ref a/\k.A[n]?=some a:=by
 cases h.one with
 |flat q=>cases q
 |ref e=>exact⟨_,rfl,e⟩
def ag.wa(h:ag K k [v] [.lst es]):∃a ws,v=.ref a/\dr K k.F a ws/\ag K k ws es:=by
 cases h.one with
 |flat q=>cases q
 |lst e i=>exact⟨_,_,rfl,e,i⟩
def ag.isTup(h:ag K k [v] [.tup es]):∃a ws,v=.ref a/\iI K k.F a ws/\ag K k ws es:=by
 cases h.one with
 |flat q=>cases q
 |tup e i=>exact⟨_,_,rfl,e,i⟩
def ag.v_{kvs:List (TK×D)}(h:ag K k [v] [.aA kvs]):∃a es ep,v=.ref a/\k.F a=some (.dG es ep)/\es.map (·.1)=kvs.map (·.1)/\ag K k (es.map (·.2.1)) (kvs.map (·.1.d))/\ag K k (es.map (·.2.2)) (kvs.map (·.2)):=by
 cases h.one with
 |flat q=>cases q
 |aA e q j i=>exact⟨_,_,_,rfl,e,q,j,i⟩
end
end L2
set_option autoImplicit false
namespace L2
open PySem PySem.Spec PyProof.Rows
inductive Bx where
 |lst (xs:List D)|aA (kvs:List (TK×D))
noncomputable def Bx.d:Bx->D
 |.lst xs=>.lst xs
 |.aA kvs=>.aA kvs
inductive Cell where
 |o (c:Bx)|z (c:Bx)|ins (C:ah) (fs:List (Str×D))
structure aT where
 s:List Cell
 r:List Cell
inductive Val where
 |d (x:D)|c (n:Nat)
abbrev Gm:=List (ai Val)
inductive Rv where
 |v (x:Val)|o (c:Bx)
inductive Rs (α:Type) where
 |ok (a:α) (S:aT)|ex (C:ah) (l:ai Int) (S:aT)
abbrev Gx(α:Type):=Gm->aT->ai (Rs α)
def bd{α β:Type}(x:ai (Rs α))(f:α->aT->ai (Rs β)):ai (Rs β):=match x with
 |none=>none
 |some (.ok a S)=>f a S
 |some (.ex C l S)=>some (.ex C l S)
noncomputable def uU:Nat->HO->Bool
 |0,_=>false
 |1,.dG _ _=>true
 |1,_=>false
 |_,_=>true
def eA(K:aL)(k:Kn)(H:Hp)(a:ah):Bx->Prop
 |.lst xs=>∃ws,H a=some (.lst ws)/\ag K k ws xs
 |.aA kvs=>∃es ep,H a=some (.dG es ep)/\es.map (·.1)=kvs.map (·.1)/\ag K k (es.map (·.2.1)) (kvs.map (·.1.d))/\ag K k (es.map (·.2.2)) (kvs.map (·.2))
def bw(K:aL)(k:Kn)(H:Hp)(a:ah):Cell->Prop
 |.o c=>k.F a=none/\eA K k H a c
 |.z c=>k.F a≠none/\ag K k [.ref a] [c.d]
 |.ins C fs=>k.F a=none/\∃dx gs,H a=some (.ins C dx gs)/\gs.map (·.1)=fs.map (·.1)/\ag K k (gs.map (·.2)) (fs.map (·.2))
structure Lay (K:aL) (k:Kn) (H:Hp) (as:List ah) (cs:List Cell):Prop where
 ln:as.length=cs.length
 at':∀(n:Nat) (a:ah) (c:Cell),as[n]?=some a->cs[n]?=some c->bw K k H a c
structure cx (K:aL) (k:Kn) (H:Hp) (S:aT):Prop where
 le:aB k.F H
 nd:(k.A++k.T).Nodup
 r:Lay K k H k.A S.r
 s:Lay K k H k.T S.s
structure Up (q:Nat) (k:Kn) (H:Hp) (k':Kn) (H':Hp):Prop where
 f:aB k.F k'.F
 a:k.A <+: k'.A
 t:k.T <+: k'.T
 h:∀a o,uU q o=true->H a=some o->H' a=some o
def dz(K:aL)(k:Kn)(x:V):Val->Prop
 |.d y=>ag K k [x] [y]
 |.c n=>∃a,x=.ref a/\k.T[n]?=some a
structure ig (K:aL) (k:Kn) (Z:St) (U:Gm):Prop where
 ln:Z.length=U.length
 at':∀(i:Nat) (v:Val),U[i]?=some (some v)->∃x,Z[i]?=some (some x)/\dz K k x v
def oo(K:aL)(k:Kn)(H:Hp)(x:V):Rv->Prop
 |.v y=>dz K k x y
 |.o c=>∃a,x=.ref a/\k.F a=none/\a∉k.A++k.T/\eA K k H a c
section
variable{q:Nat}{K:aL}{k k' R8:Kn}{F' H H' Bl:Hp}{S S':aT}{Z:St}{U:Gm}{n:Nat}{a:ah}{as:List ah}{cs:List Cell}{c:Cell}{b:Bx}
theorem Kn.le.refl:k.le k:=⟨aB.refl _,lh _⟩
def Up.le(u:Up q k H k' H'):k.le k':=⟨u.f,u.a⟩
theorem Up.refl:Up q k H k H:=⟨aB.refl _,lh _,lh _,λ_ _ _ h=>h⟩
theorem Up.trans(x:Up q k H k' H')(y:Up q k' H' R8 Bl):Up q k H R8 Bl:=⟨x.f.trans y.f,x.a.trans y.a,x.t.trans y.t,λa o z h=>y.h a o z (x.h a o z h)⟩
def Up.of(s:aB k.F F')(t:aB H H'):Up q k H ⟨F',k.A,k.T⟩ H':=⟨s,lh _,lh _,λa o _ h=>t a o h⟩
def dz.up{x:V}{v:Val}(h:dz K k x v)(u:Up q k H k' H'):dz K k' x v:=by
 cases v with
 |d y=>exact ag.mono u.le h
 |c n=>obtain⟨a,e,z⟩:=h;exact⟨a,e,F6 u.t z⟩
theorem vA.up{xs:List V}{vs:List Val}(h:Paired (dz K k) xs vs)(u:Up q k H k' H'):Paired (dz K k') xs vs:=Paired.Dv h λ_ _ r=>r.up u
theorem ig.up(h:ig K k Z U)(u:Up q k H k' H'):ig K k' Z U:=⟨h.ln,λi v e=>let ⟨x,z,r⟩:=h.at' i v e;⟨x,z,r.up u⟩⟩
def eA.keep(h:eA K k H a b)(s:k.le k')(e:∀o,H a=some o->H' a=some o):eA K k' H' a b:=by
 cases b with
 |lst xs=>obtain⟨ws,z,r⟩:=h;exact⟨ws,e _ z,r.mono s⟩
 |aA kvs=>obtain⟨es,ep,z,q,r,t⟩:=h;exact⟨es,ep,e _ z,q,r.mono s,t.mono s⟩
theorem bw.keep(h:bw K k H a c)(s:k.le k')(e:∀o,H a=some o->H' a=some o)(fr:k.F a=none->k'.F a=none):bw K k' H' a c:=by
 cases c with
 |o b=>exact⟨fr h.1,h.2.keep s e⟩
 |z b=>exact⟨λz=>h.1 (s.f.free z),h.2.mono s⟩
 |ins C fs=>obtain⟨h0,dx,gs,h1,h2,h3⟩:=h;exact⟨fr h0,dx,gs,e _ h1,h2,h3.mono s⟩
def eA.there(h:eA K k H a b):H a≠none:=λz=>by
 cases b with
 |lst xs=>obtain⟨_,e,_⟩:=h;rw[e] at z;cases z
 |aA kvs=>obtain⟨_,_,e,_⟩:=h;rw[e] at z;cases z
theorem bw.there(h:bw K k H a c)(le:aB k.F H):H a≠none:=by
 cases c with
 |o b=>exact h.2.there
 |z b=>exact λz=>h.1 (le.free z)
 |ins C fs=>obtain⟨_,dx,gs,h1,_⟩:=h;rw[h1];exact λz=>nomatch z
def Lay.get(h:Lay K k H as cs)(e:as[n]?=some a):∃c,cs[n]?=some c/\bw K k H a c:=by
 have hn:n<cs.length:=h.ln ▸ (eQ.mp e).1;exact⟨_,g7 hn,h.at' n a _ e (g7 hn)⟩
def Lay.keep(h:Lay K k H as cs)(f:∀a∈as,∀c,bw K k H a c->bw K k' H' a c):Lay K k' H' as cs:=⟨h.ln,λn a c e1 e2=>f a (tf e1) c (h.at' n a c e1 e2)⟩
def Pd{α:Type}{l:List α}{x y:α}(e:(l++[x])[n]?=some y):l[n]?=some y\/(n=l.length/\y=x):=by
 by_cases h:n<l.length
 .rw[uc h] at e;exact .inl e
 .have h1:=Nat.le_of_not_lt h;rw[ub h1] at e;have h2:n - l.length=0:=Nat.lt_one_iff.mp (eQ.mp e).1;rw[h2] at e;cases e;exact .inr ⟨by lia,rfl⟩
def FN{α:Type}{l:List α}{x:α}:(l++[x])[l.length]?=some x:=by rw[ub (cv _),Mm];rfl
def Lay.push(h:Lay K k H as cs)(hc:bw K k H a c):Lay K k H (as++[a]) (cs++[c]):=by
 refine⟨by rw[dZ,dZ,h.ln];rfl,λn b d e1 e2=>?_⟩
 rcases Pd e1 with e1|⟨z,rfl⟩ <;> rcases Pd e2 with e2|⟨y,rfl⟩
 .exact h.at' n b d e1 e2
 .exact cR (eQ.mp e1).1 (by rw[y,h.ln];exact jV _)
 .exact cR (eQ.mp e2).1 (by rw[z,h.ln];exact jV _)
 .exact hc
def ID{α:Type}{l:List α}{i j:Nat}{x:α}(nd:l.Nodup)(e1:l[i]?=some x)(e2:l[j]?=some x):i=j:=by
 obtain⟨h1,z1⟩:=eQ.mp e1;obtain⟨h2,z2⟩:=eQ.mp e2;exact(Eu nd).mp (z1.trans z2.symm)
def Lay.set(h:Lay K k H as cs)(nd:as.Nodup)(ha:as[n]?=some a)(hc:bw K k' H' a c)(f:∀b∈as,b≠a->∀c,bw K k H b c->bw K k' H' b c):Lay K k' H' as (cs.set n c):=by
 refine⟨by rw[w6];exact h.ln,λj b d e1 e2=>?_⟩
 by_cases e0:n=j
 .subst e0;rw[vw (h.ln ▸ (eQ.mp ha).1)] at e2;cases e2;cases ha.symm.trans e1;exact hc
 .rw[A7 e0] at e2;exact f b (tf e1) (λz=>e0 (ID nd ha (z ▸ e1))) d (h.at' j b d e1 e2)
def Lay.take(h:Lay K k H as cs)(m:Nat):Lay K k H (as.take m) (cs.take m):=by
 refine⟨by rw[wZ,wZ,h.ln],λj b d e1 e2=>?_⟩
 rw[List.getElem?_take] at e1 e2;split at e1
 .rename_i hj
  rw[bJ hj] at e2;exact h.at' j b d e1 e2
 .cases e1
theorem Lay.there(h:Lay K k H as cs)(le:aB k.F H):∀a∈as,H a≠none:=λa m=>by
 obtain⟨n,e⟩:=zR.mp m;obtain⟨c,_,hc⟩:=h.get e;exact hc.there le
theorem cx.there(h:cx K k H S):∀a∈k.A++k.T,H a≠none:=λa m=>(gZ.mp m).elim (h.r.there h.le a) (h.s.there h.le a)
def cx.fresh(h:cx K k H S)(e:H a=none):k.F a=none/\a∉k.A++k.T:=⟨h.le.free e,λm=>h.there a m e⟩
def cx.new(h:cx K k H S)(s1:aB k.F F')(s2:∀a∈k.A++k.T,∀o,H a=some o->H' a=some o)(s3:aB F' H')(fr:∀p∈k.A++k.T,k.F p=none->F' p=none):cx K ⟨F',k.A,k.T⟩ H' S:=
 have go:∀a∈k.A++k.T,∀c,bw K k H a c->bw K ⟨F',k.A,k.T⟩ H' a c:=λa m _ q=>q.keep ⟨s1,lh _⟩ (s2 a m) (fr a m)
 ⟨s3,h.nd,h.r.keep λa m=>go a (Et _ m),h.s.keep λa m=>go a (n4 _ m)⟩
def bw.le(h:bw K k H a c)(s:k.le k')(e:k.F=k'.F):bw K k' H a c:=h.keep s (λ_ z=>z) λz=>by rw[<-e];exact z
def IE{α:Type}{l:List α}{x:α}:l <+: l++[x]:=List.prefix_append _ _
def ρ{α:Type}{l m:List α}{x:α}(h:(l++m).Nodup)(n:x∉l++m):((l++[x])++m).Nodup:=by
 rw[kP];exact(List.perm_middle (l₁:=l) (l₂:=m) (a:=x)).nodup_iff.mpr (qH.mpr ⟨n,h⟩)
def cx.pushS(h:cx K k H S)(hF:k.F a=none)(hn:a∉k.A++k.T)(hb:eA K k H a b):cx K ⟨k.F,k.A,k.T++[a]⟩ H ⟨S.s++[.o b],S.r⟩/\∀q,Up q k H ⟨k.F,k.A,k.T++[a]⟩ H:=by
 have go:k.le ⟨k.F,k.A,k.T++[a]⟩:=⟨aB.refl _,lh _⟩;refine⟨⟨h.le,?_,h.r.keep λ_ _ _ z=>z.le go rfl,(h.s.push (c:=.o b) ⟨hF,hb⟩).keep λ_ _ _ z=>z.le go rfl⟩,λq=>⟨aB.refl _,lh _,IE,λ_ _ _ z=>z⟩⟩
 rw[<-kP];exact kQ.mpr ⟨h.nd,by simp,λx m y m' e=>hn (by rw[lL.mp m'] at e;exact e ▸ m)⟩
def cx.wz(h:cx K k H S)(hn:a∉k.A++k.T)(hc:bw K k H a c):cx K ⟨k.F,k.A++[a],k.T⟩ H ⟨S.s,S.r++[c]⟩/\∀q,Up q k H ⟨k.F,k.A++[a],k.T⟩ H:=by
 have go:k.le ⟨k.F,k.A++[a],k.T⟩:=⟨aB.refl _,IE⟩;exact⟨⟨h.le,ρ h.nd hn,(h.r.push hc).keep λ_ _ _ z=>z.le go rfl,h.s.keep λ_ _ _ z=>z.le go rfl⟩,λq=>⟨aB.refl _,IE,lh _,λ_ _ _ z=>z⟩⟩
def lA(H H':Hp)(a:ah):Prop:=∀b,b≠a->H' b=H b
def BS{o:HO}:lA H (upd H a o) a:=λ_ z=>dI z
def cx.chg(h:cx K k H S)(ho:lA H H' a)(hF:k.F a=none)(hq:∀o,H a=some o->uU q o=false):aB k.F H'/\Up q k H k H'/\∀b,b≠a->∀c,bw K k H b c->bw K k H' b c:=
 ⟨λb o e=>by rw[ho b λz=>by rw[z,hF] at e;cases e];exact h.le b o e,⟨aB.refl _,lh _,lh _,λb o e z=>by
  by_cases y:b=a
  .simp_all
  .rw[ho b y];exact z⟩,λb y c z=>z.keep .refl (λo e=>by rw[ho b y];exact e) id⟩
def cx.DT(h:cx K k H S)(ha:k.A[n]?=some a)(ho:lA H H' a)(hF:k.F a=none)(hq:∀o,H a=some o->uU q o=false)(hc:bw K k H' a c):cx K k H' ⟨S.s,S.r.set n c⟩/\Up q k H k H':=by
 obtain⟨h1,h2,h3⟩:=h.chg ho hF hq;obtain⟨n1,n2,n3⟩:=kQ.mp h.nd;exact⟨⟨h1,h.nd,h.r.set n1 ha hc λb _=>h3 b,h.s.keep λb m=>h3 b λz=>n3 a (tf ha) b m z.symm⟩,h2⟩
def cx.LL(h:cx K k H S)(ha:k.T[n]?=some a)(ho:lA H H' a)(hF:k.F a=none)(hq:∀o,H a=some o->uU q o=false)(hc:bw K k H' a c):cx K k H' ⟨S.s.set n c,S.r⟩/\Up q k H k H':=by
 obtain⟨h1,h2,h3⟩:=h.chg ho hF hq;obtain⟨n1,n2,n3⟩:=kQ.mp h.nd;exact⟨⟨h1,h.nd,h.r.keep λb m=>h3 b λz=>n3 b m a (tf ha) z,h.s.set n2 ha hc λb _=>h3 b⟩,h2⟩
def eA.Y(h:eA K k H a b)(le:aB k.F H)(hF:k.F a=none):∃o,H a=some o/\aB k.F (upd k.F a o)/\aB (upd k.F a o) H/\ag K ⟨upd k.F a o,k.A,k.T⟩ [.ref a] [b.d]:=by
 have sm:∀o,aB k.F (upd k.F a o):=λo=>rE hF
 have sh:∀o,H a=some o->aB (upd k.F a o) H:=λo e p u q=>by
  by_cases z:p=a
  .grind [aK]
  .rw[dI z] at q;exact le p u q
 cases b with
 |lst xs=>
  obtain⟨ws,e,r⟩:=h;exact⟨_,e,sm _,sh _ e,.lst (.inl (.inl aK)) (r.mono ⟨sm _,lh _⟩) .nil⟩
 |aA kvs=>
  obtain⟨es,ep,e,q,r,t⟩:=h;exact⟨_,e,sm _,sh _ e,.aA aK q (r.mono ⟨sm _,lh _⟩) (t.mono ⟨sm _,lh _⟩) .nil⟩
def cx.Ke(h:cx K k H S)(hF:k.F a=none)(hn:a∉k.A++k.T)(hb:eA K k H a b):∃F',cx K ⟨F',k.A,k.T⟩ H S/\(∀q,Up q k H ⟨F',k.A,k.T⟩ H)/\ag K ⟨F',k.A,k.T⟩ [.ref a] [b.d]:=by
 obtain⟨o,e,s1,s2,rp⟩:=hb.Y h.le hF;exact⟨_,h.new s1 (λ_ _ _ z=>z) s2 λp m z=>by rw[dI (show p≠a from λy=>hn (y ▸ m))];exact z,λq=>.of s1 (aB.refl _),rp⟩
def cx.Kf(h:cx K k H S)(ha:k.T[n]?=some a)(hc:S.s[n]?=some (.o b)):∃F',cx K ⟨F',k.A,k.T⟩ H ⟨S.s.set n (.z b),S.r⟩/\(∀q,Up q k H ⟨F',k.A,k.T⟩ H)/\ag K ⟨F',k.A,k.T⟩ [.ref a] [b.d]:=by
 obtain⟨hF,hb⟩:=h.s.at' n a _ ha hc;obtain⟨o,e,s1,s2,rp⟩:=hb.Y h.le hF;obtain⟨n1,n2,n3⟩:=kQ.mp h.nd;have go:∀p,p≠a->∀c,bw K k H p c->bw K ⟨upd k.F a o,k.A,k.T⟩ H p c:=λp y c z=>z.keep ⟨s1,lh _⟩ (λ_ z=>z) λz=>(dI y).trans z
 exact⟨_,⟨s2,h.nd,h.r.keep λp m=>go p λz=>n3 p m a (tf ha) z,h.s.set n2 ha (c:=.z b) ⟨λz=>(nomatch aK.symm.trans z),rp⟩ λp _=>go p⟩,λq=>.of s1 (aB.refl _),rp⟩
theorem cx.take(h:cx K k H S)(m:Nat):cx K ⟨k.F,k.A,k.T.take m⟩ H ⟨S.s.take m,S.r⟩:=
 have go:k.le ⟨k.F,k.A,k.T.take m⟩:=⟨aB.refl _,lh _⟩
 ⟨h.le,h.nd.sublist ((List.Sublist.refl _).append (List.take_sublist _ _)),h.r.keep λ_ _ _ z=>z.le go rfl,(h.s.take m).keep λ_ _ _ z=>z.le go rfl⟩
def Of{α:Type}{l l':List α}{m:Nat}(h:l <+: l')(hm:l.length<=m):l <+: l'.take m:=by
 grind
def Up.take(u:Up q k H k' H'){m:Nat}(h:k.T.length<=m):Up q k H ⟨k'.F,k'.A,k'.T.take m⟩ H':=⟨u.f,u.a,Of u.t h,u.h⟩
end
end L2
set_option autoImplicit false
namespace L2
open PySem PySem.Spec PyProof.Rows
variable{X:Cx}{e:Expr}{t:TE}{t':TT}{v x:V}{k:Kn}{S:aT}{r:R2}{Q:List V->Hp->Prop}{vs:List Val}{ds:List D}{o:List D->ai Rv}
def PE.mono{t':TE}(h:PE X e t)(m:∀Z H Q,t' Z H Q->t Z H Q):PE X e t':=λaa s Z H Q I q=>h aa s Z H Q I (m _ _ _ q)
def PT.mono{t:TT}(h:PT X e t)(m:∀Z H Q,t' Z H Q->t Z H Q):PT X e t':=λaa s Z H Q I q=>h aa s Z H Q I (m _ _ _ q)
def PW.mono{t:TT}(h:PW X e t)(m:∀Z H Q,t' Z H Q->t Z H Q):PW X e t':=λwh aa s Z H Q I q=>h wh aa s Z H Q I (m _ _ _ q)
def PA.mono{e:List Expr}{t t':TA}(h:PA X e t)(m:∀Z H Q,t' Z H Q->t Z H Q):PA X e t':=λpos aa s Z H Q I q=>h pos aa s Z H Q I (m _ _ _ q)
def PS.mono{e:Stmt}{t t':TS}(h:PS X e t)(m:∀D Z H,t' D Z H->t D Z H):PS X e t':=λaa s Z H D I q=>h aa s Z H D I (m _ _ _ q)
def jl.mono{e:List Stmt}{t t':TS}(h:jl X e t)(m:∀D Z H,t' D Z H->t D Z H):jl X e t':=λaa s Z H D I q=>h aa s Z H D I (m _ _ _ q)
abbrev XW:=ah->ai ah->St->Hp->Prop
def Bi(F:Hp)(dx:ai ah):ai Int->Prop
 |none=>dx=none
 |some n=>∃d,dx=some d/\F d=some (.xd [("line",.int n)])
abbrev Rp(α β:Type):=Kn->Hp->β->α->Prop
section
variable{α β α' β':Type}(R:Rp α β){R':Rp α' β'}(K:aL)(W:XW)(q:Nat){Z:St}{H H':Hp}{k k':Kn}{U:Gm}{S:aT}{Q:β->Hp->Prop}{Q':β'->Hp->Prop}
def g8(Z:St)(k:Kn)(H:Hp)(Q:β->Hp->Prop):Rs α->Prop
 |.ok a S=>∀b k' H',Up q k H k' H'->cx K k' H' S->R k' H' b a->Q b H'
 |.ex C l S=>∀dx k' H',Up q k H k' H'->cx K k' H' S->Bi k'.F dx l->W C dx Z H'
def tX(g:Gx α):St->Hp->(β->Hp->Prop)->Prop:=λZ H Q=>∃k U S res,cx K k H S/\ig K k Z U/\g U S=some res/\g8 R K W q Z k H Q res
variable{R K W q}
def g8.up{res:Rs α}(w:g8 R K W q Z k H Q res)(u:Up q k H k' H'):g8 R K W q Z k' H' Q res:=by
 cases res with
 |ok a S=>exact λb k2 H2 u2 k r=>w b k2 H2 (u.trans u2) k r
 |ex C l S=>exact λdx k2 H2 u2 k r=>w dx k2 H2 (u.trans u2) k r
def As{x:ai (Rs α)}{f:α->aT->ai (Rs α')}{res:Rs α'}(e:bd x f=some res):(∃a S,x=some (.ok a S)/\f a S=some res)\/∃C l S,x=some (.ex C l S)/\res=.ex C l S:=by
 obtain _|_|_:=x
 .cases e
 .exact .inl ⟨_,_,rfl,e⟩
 .cases e;exact .inr ⟨_,_,_,rfl,rfl⟩
def tX.bd{g:Gx α}{f:α->aT->ai (Rs α')}{res:Rs α'}(ok:cx K k H S)(gk:ig K k Z U)(e:bd (g U S) f=some res)(w:g8 R' K W q Z k H Q' res)
  (h:∀a S1 b k1 H1,cx K k1 H1 S1->ig K k1 Z U->R k1 H1 b a->f a S1=some res->g8 R' K W q Z k1 H1 Q' res->Up q k H k1 H1->Q b H1):tX R K W q g Z H Q:=by
 rcases As e with⟨a,S1,e1,e2⟩|⟨C,l,S1,e1,rfl⟩
 .exact⟨k,U,S,_,ok,gk,e1,λb k' H' u f9 r=>h a S1 b k' H' f9 (gk.up u) r e2 (w.up u) u⟩
 .exact⟨k,U,S,_,ok,gk,e1,w⟩
def g8.now{a:α}{b:β}(w:g8 R K W q Z k H Q (.ok a S))(ok:cx K k H S)(r:R k H b a):Q b H:=w b k H .refl ok r
def nO{g:Gx α}{Q₂:β->Hp->Prop}(h:tX R K W q g Z H Q)(m:∀b H,Q b H->Q₂ b H):tX R K W q g Z H Q₂:=by
 obtain⟨k,U,S,res,ok,gk,e,w⟩:=h;refine⟨k,U,S,res,ok,gk,e,?_⟩;cases res with
 |ok a S=>exact λb k2 H2 u k r=>m _ _ (w b k2 H2 u k r)
 |ex C l S=>exact w
end
abbrev RE(K:aL):Rp Rv V:=λk H x r=>oo K k H x r
abbrev RA(K:aL):Rp (List Val) (List V):=λk _ xs vs=>Paired (dz K k) xs vs
abbrev RB:Rp Bool Bool:=λ_ _ b a=>b=a
abbrev GE:=Gx Rv
variable{g f:GE}
abbrev GA:=Gx (List Val)
variable{h:GA}
abbrev GT:=Gx Bool
abbrev tE(K:aL)(W:XW)(q:Nat)(g:GE):TE:=tX (RE K) K W q g
abbrev ic(K:aL)(W:XW)(q:Nat)(g:GA):TA:=tX (RA K) K W q g
abbrev tT(K:aL)(W:XW)(q:Nat)(g:GT):TT:=tX RB K W q g
noncomputable def gC(d:D):GE:=λ_ S=>some (.ok (.v (.d d)) S)
noncomputable def rX(i:Nat):GE:=λU S=>((U[i]?).join).map λv=>.ok (.v v) S
def NL{α:Type}{x:ai (ai α)}{v:α}(h:x.join=some v):x=some (some v):=by
 cases x with
 |none=>cases h
 |some y=>exact congrArg some h
noncomputable def mI:Rv->Val
 |.v x=>x
 |.o c=>.d c.d
noncomputable def hpR(S:aT):Rv->Rs Rv
 |.o c=>.ok (.v (.d (.ref S.r.length))) ⟨S.s,S.r++[.o c]⟩
 |r=>.ok r S
def fP(g:GE):GE:=λU S=>bd (g U S) λr S1=>some (hpR S1 r)
noncomputable def gN:GA:=λ_ S=>some (.ok [] S)
def m_(g:GE)(h:GA):GA:=λU S=>bd (g U S) λr S1=>bd (h U S1) λvs S2=>some (.ok (mI r::vs) S2)
section
variable{X:Cx}{K:aL}{W:XW}{q:Nat}{e a b:Expr}{es:List Expr}{l6 fb fc:GE}{fs:GA}{ft fu:GT}{pos:Pos}{Z:St}{H:Hp}
def yu{d:D}(h:PE X e (tC v))(hf:uz d=some v:=by rfl):PE X e (tE K W q (gC d)):=h.mono λZ H Q t=>by
 obtain⟨k,U,S,res,ok,gk,e,w⟩:=t;cases e;exact w.now ok (show ag K k [v] [d] from .flat hf .nil)
def σ{i:Nat}(h:PE X e (D9 i)):PE X e (tE K W q (rX i)):=h.mono λZ H Q t=>by
 obtain⟨k,U,S,res,ok,gk,e,w⟩:=t;obtain⟨v,q,rfl⟩:=dH.mp e;obtain⟨x,hx,r⟩:=gk.at' i v (NL q);exact⟨x,hx,w.now ok (show oo K k H x (.v v) from r)⟩
def qB{r:Rv}(ok:cx K k H S)(h:oo K k H x r):∃k',(∀q,Up q k H k' H)/\cx K k' H S/\dz K k' x (mI r):=by
 cases r with
 |v y=>exact⟨k,λ_=>.refl,ok,h⟩
 |o c=>
  obtain⟨p,rfl,hF,hi,hc⟩:=h;obtain⟨F',f9,u,rp⟩:=ok.Ke hF hi hc;exact⟨_,u,f9,rp⟩
def uG(h:PE X e (tE K W q l6)):PE X e (tE K W q (fP l6)):=h.mono λZ H Q t=>by
 obtain⟨k,U,S,res,ok,gk,e,w⟩:=t;refine tX.bd ok gk e w λr S1 x k1 H1 bM g1 r1 e1 w1 _=>?_
 cases r with
 |v y=>cases e1;exact w1.now bM r1
 |o c=>
  cases e1;obtain⟨p,rfl,hF,hi,hc⟩:=r1;obtain⟨cV,u⟩:=bM.wz hi (c:=.o c) ⟨hF,hc⟩;exact w1 _ _ _ (u q) cV (show ag K _ [.ref p] [.ref S1.r.length] from .ref (by rw[<-bM.r.ln];exact FN) .nil)
def uv(t:ic K W q (m_ g h) Z H Q):tE K W q g Z H λx H1=>ic K W q h Z H1 λxs H2=>Q (x::xs) H2:=by
 obtain⟨k,U,S,res,ok,gk,e,w⟩:=t;refine tX.bd ok gk e w λr S1 x k1 H1 bM g1 r1 e1 w1 _=>?_
 obtain⟨k2,u2,cV,r2⟩:=qB bM r1;refine tX.bd cV (g1.up (u2 q)) e1 (w1.up (u2 q)) λvs S3 xs k3 H3 jM g3 r3 e3 w3 u3=>?_
 cases e3;exact w3.now jM (.cons (r2.up u3) r3)
def vK(t:ic K W q gN Z H Q):Q [] H:=by
 obtain⟨k,U,S,res,ok,gk,e,w⟩:=t;cases e;exact w.now ok .nil
def yv:PA X [] (ic K W q gN):=my.mono λZ H Q t=>vK t
def XE(ha:PE X e (tE K W q g))(hr:PA X es (ic K W q h))(hs:starEach (e::es) X.env=(false,eval e X.env)::starEach es X.env):PA X (e::es) (ic K W q (m_ g h)):=(FL ha hr hs).mono λZ H Q t=>uv t
def Top(K:aL)(k:Kn)(H:Hp)(x:V)(d:D):Prop:=ag K k [x] [d]\/∃p c,x=.ref p/\d=Bx.d c/\eA K k H p c
noncomputable def Cell.jC:Cell->ai D
 |.o c=>some c.d
 |.z c=>some c.d
 |.ins _ _=>none
def jC(S:aT):Val->ai D
 |.d (.ref n)=>(S.r[n]?).bind Cell.jC
 |.d x=>some x
 |.c n=>(S.s[n]?).bind Cell.jC
def ve(S:aT):List Val->ai (List D)
 |[]=>some []
 |v::vs=>(jC S v).bind λd=>(ve S vs).map λds=>d::ds
def Og{x:ah}{c:Cell}{d:D}(h:bw K k H x c)(e:c.jC=some d):Top K k H (.ref x) d:=by
 cases c with
 |o b=>cases e;exact .inr ⟨x,b,rfl,rfl,h.2⟩
 |z b=>cases e;exact .inl h.2
 |ins _ _=>cases e
def F7{v:Val}{d:D}(ok:cx K k H S)(h:dz K k x v)(e:jC S v=some d):Top K k H x d:=by
 cases v with
 |d y=>
  cases y with
  |ref n=>
   obtain⟨p,rfl,h1⟩:=ag.isRef h;obtain⟨c,h2,e⟩:=cG.mp e;exact Og (ok.r.at' n p c h1 h2) e
  |_=>cases e;exact .inl h
 |c n=>
  obtain⟨p,rfl,h1⟩:=h;obtain⟨c,h2,e⟩:=cG.mp e;exact Og (ok.s.at' n p c h1 h2) e
def Pe{xs:List V}(ok:cx K k H S)(h:Paired (dz K k) xs vs)(e:ve S vs=some ds):Paired (Top K k H) xs ds:=by
 induction h generalizing ds with
 |nil=>cases e;exact .nil
 |cons r _ ih=>
  obtain⟨d,e1,e⟩:=cG.mp e;obtain⟨es,e2,rfl⟩:=dH.mp e;exact .cons (F7 ok r e1) (ih e2)
def SE(K:aL)(k':Kn)(H H':Hp)(x:V):Rv->Prop
 |.v (.d y)=>ag K k' [x] [y]
 |.o c=>∃p,x=.ref p/\H p=none/\k'.F p=none/\eA K k' H' p c
 |_=>False
def kU(K:aL)(k:Kn)(H:Hp)(r:Rv)(Q:VK):Prop:=∀x F' H',aB k.F F'->aB H H'->aB F' H'->(∀p,H p≠none->k.F p=none->F' p=none)->SE K ⟨F',k.A,k.T⟩ H H' x r->Q x H'
def cg(K:aL)(r:List V->Hp->VK->Prop)(o:List D->ai Rv):Prop:=∀k H xs ds y Q,aB k.F H->Paired (Top K k H) xs ds->o ds=some y->kU K k H y Q->r xs H Q
def gO(o:List D->ai Rv)(g:GA):GE:=λU S=>bd (g U S) λvs S1=>(ve S1 vs).bind λds=>(o ds).map λr=>.ok r S1
def kU.fin{y:Rv}{Q:VK}(ok:cx K k H S)(w:g8 (RE K) K W q Z k H Q (.ok y S)):kU K k H y Q:=λx F' H' s1 s2 s3 fr nw=>by
 refine w x ⟨F',k.A,k.T⟩ H' (.of s1 s2) (ok.new s1 (λp _ o z=>s2 p o z) s3 λp m=>fr p (ok.there p m)) ?_
 cases y with
 |v z=>
  cases z with
  |d z=>exact nw
  |_=>exact nw.elim
 |o c=>obtain⟨p,e4,e5,e6,e7⟩:=nw;exact⟨p,e4,e6,(ok.fresh e5).2,e7⟩
def uA{r:List V->Hp->VK->Prop}(bD:cg K r o){g:GA}{Q:VK}(t:tE K W q (gO o g) Z H Q):ic K W q g Z H λxs H1=>r xs H1 Q:=by
 obtain⟨k,U,S,res,ok,gk,e,w⟩:=t;refine tX.bd ok gk e w λvs S1 xs k1 H1 bM g1 r1 e1 w1 _=>?_
 obtain⟨ds,e2,e1⟩:=cG.mp e1;obtain⟨y,e3,rfl⟩:=dH.mp e1;exact bD k1 H1 xs ds y Q bM.le (Pe bM r1 e2) e3 (.fin bM w1)
section
variable{k:Kn}{x:V}{Q:VK}
def kU.rep{y:D}(h:kU K k H (.v (.d y)) Q)(le:aB k.F H)(r:ag K k [v] [y]):Q v H:=h v k.F H (aB.refl _) (aB.refl _) le (λ_ _ z=>z) r
theorem kU.flat{y:D}(h:kU K k H (.v (.d y)) Q)(le:aB k.F H)(e:uz y=some v):Q v H:=h.rep le (.flat e .nil)
def kU.lst{ws:List V}(h:kU K k H (.o (.lst ds)) Q)(le:aB k.F H)(r:ag K k ws ds){l:ah}(hn:H l=none):Q (.ref l) (upd H l (.lst ws)):=
 h _ k.F _ (aB.refl _) (rE hn) (le.put hn) (λ_ _ z=>z) ⟨l,rfl,hn,le.free hn,ws,aK,r⟩
def kU.aA{kvs:List (TK×D)}{es:List (TK×V×V)}{ep:Nat}(h:kU K k H (.o (.aA kvs)) Q)(le:aB k.F H)(q:es.map (·.1)=kvs.map (·.1))(r:ag K k (es.map (·.2.1)) (kvs.map (·.1.d)))(t:ag K k (es.map (·.2.2)) (kvs.map (·.2))){l:ah}(hn:H l=none):Q (.ref l) (upd H l (.dG es ep)):=
 h _ k.F _ (aB.refl _) (rE hn) (le.put hn) (λ_ _ z=>z) ⟨l,rfl,hn,le.free hn,es,ep,aK,q,r,t⟩
theorem kU.tup{ws:List V}(h:kU K k H (.v (.d (.tup ds))) Q)(le:aB k.F H)(r:ag K k ws ds){l:ah}(hn:H l=none):Q (.ref l) (upd H l (.tup ws)):=by
 have hF:=le.free hn;refine h _ (upd k.F l (.tup ws)) _ (rE hF) (rE hn) (λb u z=>?_) (λp z1 z2=>by rw[dI (show p≠l from λz=>z1 (z ▸ hn))];exact z2) (show ag K ⟨upd k.F l (.tup ws),k.A,k.T⟩ [.ref l] [.tup ds] from .tup (.inl (.inl aK)) (r.mono ⟨rE hF,lh _⟩) .nil)
 by_cases q:b=l
 .subst q;rw[aK] at z ⊢;exact z
 .rw[dI q] at z ⊢;exact le b u z
noncomputable abbrev Kn.all(k:Kn)(H:Hp):Kn:=⟨H,k.A,k.T⟩
def ag.all{vs:List V}(h:ag K k vs ds)(le:aB k.F H):ag K (k.all H) vs ds:=h.mono ⟨le,lh _⟩
def Top.rep{d:D}(h:Top K k H x d)(le:aB k.F H):ag K (k.all H) [x] [d]:=by
 rcases h with h|⟨p,c,rfl,rfl,h⟩
 .exact h.all le
 .cases c with
  |lst xs=>obtain⟨ws,e,r⟩:=h;exact .lst (.inl (.inl e)) (r.all le) .nil
  |aA kvs=>obtain⟨es,ep,e,q,r,t⟩:=h;exact .aA e q (r.all le) (t.all le) .nil
def Top.flat{d:D}(h:Top K k H x d)(e:uz d=some v):x=v:=by
 rcases h with h|⟨p,c,rfl,rfl,h⟩
 .exact h.aP e
 .cases c <;> cases e
def Top.lst(h:Top K k H x (.lst ds))(le:aB k.F H):∃p ws,x=.ref p/\dr K H p ws/\ag K k ws ds:=by
 rcases h with h|⟨p,c,rfl,e,h⟩
 .obtain⟨p,ws,rfl,q,r⟩:=h.wa;exact⟨p,ws,rfl,le.LO q,r⟩
 .cases c <;> cases e;obtain⟨ws,e,r⟩:=h;exact⟨p,ws,rfl,.inl (.inl e),r⟩
def Top.tup(h:Top K k H x (.tup ds))(le:aB k.F H):∃p ws,x=.ref p/\iI K H p ws/\ag K k ws ds:=by
 rcases h with h|⟨p,c,rfl,e,h⟩
 .obtain⟨p,ws,rfl,q,r⟩:=h.isTup;exact⟨p,ws,rfl,le.zI q,r⟩
 .cases c <;> cases e
def Top.aA{kvs:List (TK×D)}(h:Top K k H x (.aA kvs))(le:aB k.F H):∃p es ep,x=.ref p/\H p=some (.dG es ep)/\es.map (·.1)=kvs.map (·.1)/\ag K k (es.map (·.2.1)) (kvs.map (·.1.d))/\ag K k (es.map (·.2.2)) (kvs.map (·.2)):=by
 rcases h with h|⟨p,c,rfl,e,h⟩
 .obtain⟨p,es,ep,rfl,q,r⟩:=h.v_;exact⟨p,es,ep,rfl,le _ _ q,r⟩
 .cases c <;> cases e;obtain⟨es,ep,h⟩:=h;exact⟨p,es,ep,rfl,h⟩
end
def mC(r:R2):List V->Hp->VK->Prop:=λxs H Q=>∃x y,xs=[x,y]/\r x y H Q
def Lz(r:V->Hp->VK->Prop):List V->Hp->VK->Prop:=λxs H Q=>∃x,xs=[x]/\r x H Q
abbrev bc(f:GE):GA:=m_ f gN
abbrev bR(f g:GE):GA:=m_ f (m_ g gN)
def Gw{r:V->V->Hp->Prop}(h:ic K W q (bR f g) Z H λxs H1=>∃x y,xs=[x,y]/\r x y H1):tE K W q f Z H λx H1=>tE K W q g Z H1 λy H2=>r x y H2:=
 nO (uv h) λx H1 t=>nO (uv t) λy H2 t=>by
  obtain⟨x',y',e,q⟩:=vK t;cases e;exact q
def J7{r:V->Hp->Prop}(h:ic K W q (bc f) Z H λxs H1=>∃x,xs=[x]/\r x H1):tE K W q f Z H r:=
 nO (uv h) λx H1 t=>by
  obtain⟨x',e,q⟩:=vK t;cases e;exact q
def e8u{op:Operator}(ho:eB X (binaryOp op) r)(ok:cg K (mC r) o)(ha:PE X a (tE K W q l6))(hb:PE X b (tE K W q fb)):PE X (.BinOp a op b pos) (tE K W q (gO o (bR l6 fb))):=(e8n ho ha hb).mono λ_ _ _ t=>Gw (uA ok t)
def e8v{op:UnaryOp}{r:V->Hp->VK->Prop}(ho:EL X (unaryOp op) r)(ok:cg K (Lz r) o)(ha:PE X a (tE K W q l6)):PE X (.UnaryOp op a pos) (tE K W q (gO o (bc l6))):=(e8o ho ha).mono λ_ _ _ t=>J7 (uA ok t)
def υ{op:CmpOp}(ho:eB X (compareOp op) r)(ok:cg K (mC r) o)(ha:PE X a (tE K W q l6))(hb:PE X b (tE K W q fb))(hm:behindInMarks op b=false):PE X (.Compare a [op] [b] pos) (tE K W q (gO o (bR l6 fb))):=(Xj ho ha hb hm).mono λ_ _ _ t=>Gw (uA ok t)
def e8w(ho:p4 X r)(ok:cg K (mC r) o)(ha:PE X a (tE K W q l6))(hb:PE X b (tE K W q fb))(hs:Jg b):PE X (.Subscript a b pos) (tE K W q (gO o (bR l6 fb))):=(e8r ho ha hb hs).mono λ_ _ _ t=>Gw (uA ok t)
end
noncomputable def Rv.bool:Rv->ai Bool
 |.v (.d (.bl b))=>some b
 |_=>none
def Rv.uC{r:Rv}{b:Bool}(h:r.bool=some b):r=.v (.d (.bl b)):=by
 obtain(d|_)|_:=r
 .cases d <;> cases h;rfl
 all_goals cases h
noncomputable def zN:D->ai Bool
 |.aI=>some false
 |.bl b=>some b
 |.int i=>some (i != 0)
 |.str y=>if y.length<=1000000 then some ((y.length:Int) != 0) else none
 |.lst xs=>some (!xs.isEmpty)
 |.tup xs=>some (!xs.isEmpty)
 |_=>none
noncomputable def gB(g:GE):GT:=λU S=>bd (g U S) λr S1=>r.bool.map λb=>.ok b S1
def cD(g:GE):GT:=λU S=>bd (g U S) λr S1=>((jC S1 (mI r)).bind zN).map λb=>.ok b S1
noncomputable def de(g:GT):GT:=λU S=>bd (g U S) λb S1=>some (.ok (!b) S1)
noncomputable def CO(c g h:GT):GT:=λU S=>bd (c U S) λb S1=>if b=true then g U S1 else h U S1
noncomputable def fq(b:Bool):GT:=λ_ S=>some (.ok b S)
def dO(g h:GT):GT:=CO g h (fq false)
def gw(g h:GT):GT:=CO g (fq true) h
noncomputable def tV(c:GT)(g h:GE):GE:=λU S=>bd (c U S) λb S1=>if b=true then g U S1 else h U S1
def qf(g h:GE):GE:=tV (gB g) h (gC (.bl false))
def CN(g:GE):GE:=λU S=>bd (gB g U S) λb S1=>some (.ok (.v (.d (.bl (!b)))) S1)
section
variable{X:Cx}{K:aL}{W:XW}{q:Nat}{e a b:Expr}{es rest:List Expr}{f g h:GE}{fs:GA}{ft fu:GT}{pos:Pos}{Z:St}{H:Hp}
def J8{Q:Bool->Hp->Prop}(t:tT K W q (gB f) Z H Q):tE K W q f Z H λx H1=>∃k,x=.bl k/\Q k H1:=by
 obtain⟨k,U,S,res,ok,gk,e,w⟩:=t;refine tX.bd ok gk e w λr S1 x k1 H1 bM g1 r1 e1 w1 _=>?_
 obtain⟨b,e2,rfl⟩:=dH.mp e1;cases Rv.uC e2;exact⟨b,(show ag K k1 [x] [.bl b] from r1).aP rfl,w1.now bM rfl⟩
def XF{d:D}{b:Bool}(le:aB k.F H)(h:Top K k H x d)(e:zN d=some b):xA K x H b:=by
 cases d with
 |aI=>cases h.flat rfl;cases e;rfl
 |bl b=>cases h.flat rfl;cases e;rfl
 |int i=>cases h.flat rfl;cases e;rfl
 |str y=>
  cases h.flat rfl;unfold zN at e;dsimp only at e;split at e
  .cases e;exact⟨ju (by assumption) (by decide),rfl⟩
  .cases e
 |lst xs=>
  cases e;obtain⟨p,ws,rfl,h1,h2⟩:=h.lst le;refine .inl ⟨ws,h1,?_⟩;have:=h2.length
  grind
 |tup xs=>
  cases e;obtain⟨p,ws,rfl,h1,h2⟩:=h.tup le;refine .inr (.inl ⟨ws,h1,?_⟩);have:=h2.length
  grind
 |_=>cases e
def χ(hK:X.K=K)(he:PE X a (tE K W q f))(ht:∀whole,isTrue a X.env whole=(do let v <-whole;standAt a.pos;holding [v] (truthy v))):PT X a (tT K W q (cD f)):=(Vr he ht).mono λZ H Q t=>by
 obtain⟨k,U,S,res,ok,gk,e,w⟩:=t;refine tX.bd ok gk e w λr S1 x k1 H1 bM g1 r1 e1 w1 _=>?_
 obtain⟨b,e2,rfl⟩:=dH.mp e1;obtain⟨d,e3,e4⟩:=cG.mp e2;obtain⟨k2,u2,cV,r2⟩:=qB bM r1;rw[hK];exact⟨b,XF cV.le (F7 cV r2 e3) e4,(w1.up (u2 q)).now cV rfl⟩
def Rw(h:PT X a (sX t))(m:∀Z H Q,tE K W q f Z H Q->t Z H Q):PT X a (tT K W q (gB f)):=h.mono λZ H Q q=>m Z H _ (J8 q)
def yD(h:PT X a (tT K W q ft)):PT X (.UnaryOp .Not a pos) (tT K W q (de ft)):=(ZZ h).mono λZ H Q t=>by
 obtain⟨k,U,S,res,ok,gk,e,w⟩:=t;refine tX.bd ok gk e w λb S1 x k1 H1 bM g1 r1 e1 w1 _=>?_
 cases e1;cases r1;exact w1.now bM rfl
def Gn{β' α':Type}{R':Rp α' β'}{gx gy:Gx α'}{Q':β'->Hp->Prop}(t:tX R' K W q (λU S=>bd (ft U S) λb S1=>if b=true then gx U S1 else gy U S1) Z H Q'):tT K W q ft Z H λb H1=>if b=true then tX R' K W q gx Z H1 Q' else tX R' K W q gy Z H1 Q':=by
 obtain⟨k,U,S,res,ok,gk,e,w⟩:=t;refine tX.bd ok gk e w λb S1 x k1 H1 bM g1 r1 e1 w1 _=>?_
 cases r1;cases b with
 |true=>exact sx ⟨k1,U,S1,res,bM,g1,e1,w1⟩
 |false=>exact sv ⟨k1,U,S1,res,bM,g1,e1,w1⟩
def Cw{α β:Type}{R:Rp α β}{c:α}{b:β}{Q:β->Hp->Prop}(t:tX R K W q (λ_ S=>some (.ok c S)) Z H Q)(r:∀k H,R k H b c):Q b H:=by
 obtain⟨k,U,S,res,ok,gk,e,w⟩:=t;cases e;exact w.now ok (r k H)
def Jj{c:Bool}{p p' q q':Prop}(h:if c=true then p else q)(h1:p->p')(h2:q->q'):if c=true then p' else q':=by
 lia
def yE(ha:PT X a (tT K W q ft))(hb:PW X (.BoolOp .And (b::rest) pos) (tT K W q fu)):PW X (.BoolOp .And (a::b::rest) pos) (tT K W q (dO ft fu)):=(ZY ha hb).mono λZ H Q t=>
 nO (Gn t) λc H1 z=>Jj z id λz=>Cw z λ_ _=>rfl
def CF(ha:PT X a (tT K W q ft))(hb:PW X (.BoolOp .Or (b::rest) pos) (tT K W q fu)):PW X (.BoolOp .Or (a::b::rest) pos) (tT K W q (gw ft fu)):=(e8l ha hb).mono λZ H Q t=>
 nO (Gn t) λc H1 z=>Jj z (λz=>Cw z λ_ _=>rfl) id
def yw(ha:PE X a (tE K W q f))(hb:PE X (.BoolOp .And (b::rest) pos) (tE K W q g)):PE X (.BoolOp .And (a::b::rest) pos) (tE K W q (qf f g)):=(Z0 ha hb).mono λZ H Q t=>
 nO (J8 (Gn t)) λx H1 ⟨c,e,z⟩=>⟨c,e,Jj z id λz=>Cw z λ_ _=>ag.flat rfl .nil⟩
def yy(ha:PE X a (tE K W q f)):PE X (.UnaryOp .Not a pos) (tE K W q (CN f)):=(Z4 ha).mono λZ H Q t=>J8 (by
 obtain⟨k,U,S,res,ok,gk,e,w⟩:=t;refine tX.bd ok gk e w λb S1 x k1 H1 bM g1 r1 e1 w1 _=>?_
 cases e1;cases r1;exact w1.now bM (show ag K k1 [_] [_] from .flat rfl .nil))
def CB{c:Expr}(hc:PT X c (tT K W q ft))(ha:PE X a (tE K W q f))(hb:PE X b (tE K W q g)):PE X (.IfExp c a b pos) (tE K W q (tV ft f g)):=(Vm hc ha hb).mono λZ H Q t=>Gn t
end
noncomputable def oB(S:aT):Val->ai (D×aT)
 |.d x=>some (x,S)
 |.c n=>(S.s[n]?).bind λc=>match c with
  |.o b=>some (b.d,⟨S.s.set n (.z b),S.r⟩)
  |.z b=>some (b.d,S)
  |.ins _ _=>none
def qe:List Val->aT->ai (List D×aT)
 |[],S=>some ([],S)
 |v::vs,S=>(oB S v).bind λp=>(qe vs p.2).map λq=>(p.1::q.1,q.2)
section
variable{K:aL}{k:Kn}{H:Hp}{S S':aT}
def FO{v:Val}{d:D}(ok:cx K k H S)(h:dz K k x v)(e:oB S v=some (d,S')):∃k',(∀q,Up q k H k' H)/\cx K k' H S'/\ag K k' [x] [d]:=by
 cases v with
 |d y=>cases e;exact⟨k,λ_=>.refl,ok,h⟩
 |c n=>
  obtain⟨p,rfl,hp⟩:=h;obtain⟨c,h1,e⟩:=cG.mp e;cases c with
  |o b=>
   cases e;obtain⟨F',f9,u,rp⟩:=ok.Kf hp h1;exact⟨_,u,f9,rp⟩
  |z b=>cases e;exact⟨k,λ_=>.refl,ok,(ok.s.at' n p _ hp h1).2⟩
  |ins C fs=>cases e
def FQ{xs:List V}(ok:cx K k H S)(h:Paired (dz K k) xs vs)(e:qe vs S=some (ds,S')):∃k',(∀q,Up q k H k' H)/\cx K k' H S'/\ag K k' xs ds:=by
 induction vs generalizing xs ds k S with
 |nil=>cases e;cases h;exact⟨k,λ_=>.refl,ok,.nil⟩
 |cons v vs ih=>
  cases h with
  |cons r t=>
   obtain⟨⟨v1,S1⟩,e1,e⟩:=cG.mp e;obtain⟨⟨vs2,S2⟩,e2,e⟩:=dH.mp e;cases e;obtain⟨k1,u1,bM,r1⟩:=FO ok r e1;obtain⟨k2,u2,cV,r2⟩:=ih bM (vA.up t (u1 0)) e2;exact⟨k2,λb=>(u1 b).trans (u2 b),cV,.cons (r1.mono (u2 0).le) r2⟩
end
noncomputable def LK(t:Bool)(p:List D×aT):Rs Rv:=.ok (if t=true then .v (.d (.tup p.1)) else .o (.lst p.1)) p.2
def aV(t:Bool)(g:GA):GE:=λU S=>bd (g U S) λvs S1=>if vs.length<=1000000 then(qe vs S1).map (LK t) else none
section
variable{X:Cx}{K:aL}{W:XW}{q:Nat}{es:List Expr}{fs:GA}{pos:Pos}{Z:St}{H:Hp}
def ml{n:Nat}(h:n<=1000000):n<=sizeLine:=ju h (by decide)
def Qm{t:Bool}{Q:VK}(h:tE K W q (aV t fs) Z H Q):ic K W q fs Z H λxs H1=>xs.length<=sizeLine/\∀p,H1 p=none->Q (.ref p) (upd H1 p (if t=true then .tup xs else .lst xs)):=by
 obtain⟨k,U,S,res,ok,gk,e,w⟩:=h;refine tX.bd ok gk e w λvs S1 xs k1 H1 bM g1 r1 e1 w1 _=>?_
 split at e1
 .rename_i hl
  refine⟨by rw[Paired.length r1];exact ml hl,λp hp=>?_⟩
  obtain⟨⟨ds,S2⟩,e2,e3⟩:=dH.mp e1;obtain⟨k2,u2,cV,r2⟩:=FQ bM r1 e2;have w2:=w1.up (u2 q);cases e3;cases t with
  |false=>exact kU.lst (.fin cV w2) cV.le r2 hp
  |true=>exact kU.tup (.fin cV w2) cV.le r2 hp
 .cases e1
def yz{x1}(h:PA X es (ic K W q fs)):PE X (.Tuple es x1 pos) (tE K W q (aV true fs)):=(η h).mono λZ H Q t=>Qm t
def yx(h:PA X es (ic K W q fs)):PE X (.List es pos) (tE K W q (aV false fs)):=(θ h).mono λZ H Q t=>Qm t
end
variable{base:b_}{env:Env}{outer:List Env}{L e C:ah}{dx:ai ah}{n:Nat}{H:Hp}{Q:Unit->ay->Prop}
structure gb (fs ch:List ah) (h h':b_):Prop where
 keep:∀b o,b∉fs->b∉ch->h.get? b=some o->h'.get? b=some o
 slot:∀b o,b∈fs->b∉ch->h.get? b=some o->∃sl,h'.get? b=some { o with slots:=sl}
def iQ(n:Nat)(h:b_)(H:Hp)(e C:ah)(dx:ai ah):Prop:=n<=e/\H e=none/\∃oe vs,h.get? e=some oe/\oe.cls=.ref C/\oe.dict=dx/\oe.data=.fields vs/\1<vs.size/\
 (vs[1]?=some .none\/∃T oT ts,vs[1]?=some (.ref T)/\n<=T/\H T=none/\T≠e/\h.get? T=some oT/\oT.data=.fields ts/\ts[3]?=some .none)
def Uo(f:Array aj->Array aj)(o:Obj):(Obj.mapFields f o).dict=o.dict:=by obtain⟨c,d,dt,sl⟩:=o;cases dt <;> rfl
section
variable{M:Model}{A:c8}{E:aj->ay->Prop}{s:ay}
def Pf{oe:Obj}{vs:Array aj}{head:aj}{had:Bool}
  (sf:A.frames=some (env::outer)) (hl:s.heap.FunFrames base (env::outer)) (hf:env.frame=some L) (he:s.heap.get? e=some oe) (hc:oe.cls=.ref C) (hx:oe.dict=dx) (hd:oe.data=.fields vs) (hsz:1<vs.size) (hn:n<=s.heap.objs.size) (gP:n<=e) (tW:H e=none) (hH:∀a,s.heap.objs.size<=a->H a=none)
  (h:∀h',gb (km (env::outer)) [e] s.heap h'->iQ n h' H e C dx->Q () { s with heap:=h'}) :
  wpAny M A (do let a <-frameOf env;let pl <-entryPlaceOf L had;let b <-EntryCells.newEntry head a .none (rawInt L) .none pl;setField (.ref e) 1 b) (λ_ s'=>wpAny M A (setFlight (.ref e) none) Q E s') E s:=by
 have ene:e∉km (env::outer):=λm=>by
  obtain⟨_,o,ho,KH⟩:=hl.mem m
  simp_all
 refine aE (wpAny_frameOf_fun sf hl hf λh1 so=>aE (wpAny_entryPlaceOf λpl jR=>?_))
 unfold EntryCells.newEntry newFields;refine aE (wpAny_newObj_type ?_ (jR.sizeOk5 _ _ _ _ _));generalize eN:({ cls:=.type "traceback",dict:=none,data:=.fields ([head,.ref L,.none,rawInt L,.none]++(if pl.isEmpty then List.replicate 6 Value.none else pl)).toArray}:Obj)=oN
 have e1:h1.get? e=some oe:=(so.2.1 e ene).trans he;have e2:(h1.push oN).get? e=some oe:=dy _ e1;have nT:h1.objs.size≠e:=wW (cX e1);have fN:oN.data=.fields ([head,.ref L,.none,rawInt L,.none]++(if pl.isEmpty then List.replicate 6 Value.none else pl)).toArray:=by rw[<-eN]
 have lN:3<([head,.ref L,.none,rawInt L,.none]++(if pl.isEmpty then List.replicate 6 Value.none else pl)).toArray.size:=by simp only[fK,dZ,kO,Ba];lia
 have dE:=Obj.data_mapFields hd (·.setIfInBounds 1 (Value.ref h1.objs.size))
 have e3:=qI (Obj.mapFields (·.setIfInBounds 1 (Value.ref h1.objs.size))) e2 (Obj.isFreed_of_fields dE)
 have t3:((h1.push oN).update e (Obj.mapFields (·.setIfInBounds 1 (Value.ref h1.objs.size)))).get? h1.objs.size=some oN:=(oJ _ _ (Ne.symm nT)).trans (i_ h1 (Obj.isFreed_of_fields fN))
 have dT:=Obj.data_mapFields fN (·.setIfInBounds 3 ((none:ai ah).elim Value.none λf=>rawInt f))
 refine wpAny_setField e2 hd hsz ?_;unfold setFlight;refine aE (wpAny_field e3 dE (x:=.ref h1.objs.size) (by simp[hsz]) ?_)
 rw[bJ (show(Value.ref h1.objs.size != Value.none)=true by simp)]
 refine wpAny_setField t3 fN lN (h _ ⟨λb o hb nV g=>?_,λb o hb nV g=>?_⟩ ⟨gP,tW,_,_,(oJ _ _ nT).trans e3,(Obj.cls_mapFields _ _).trans hc,(Uo _ _).trans hx,dE,by simpa using hsz,.inr ⟨h1.objs.size,_,_,by simp[hsz],by rw[so.1];exact hn,hH _ (by rw[so.1];exact cv _),nT,qI _ t3 (Obj.isFreed_of_fields dT),dT,by simp[Array.getElem?_setIfInBounds,lN]⟩⟩)
 .have be:b≠e:=λz=>nV (by simp[z])
  have b1:h1.get? b=some o:=(so.2.1 b hb).trans g;rw[oJ _ _ (wW (cX b1)),oJ _ _ (Ne.symm be)];exact dy _ b1
 .have be:b≠e:=λz=>nV (by simp[z])
  obtain⟨sl,b1⟩:=so.2.2 b o g;refine⟨sl,?_⟩;rw[oJ _ _ (wW (cX b1)),oJ _ _ (Ne.symm be)];exact dy _ b1
def Qn
  (sf:A.frames=some (env::outer)) (hl:s.heap.FunFrames base (env::outer)) (hf:env.frame=some L) (hn:n<=s.heap.objs.size) (hH:∀a,s.heap.objs.size<=a->H a=none) (fl:iQ n s.heap H e C dx)
  (h:∀h' ch,(∀b∈ch,n<=b/\H b=none)->gb (km (env::outer)) ch s.heap h'->iQ n h' H e C dx->Q () { s with heap:=h'}):wpAny M A (noteFrame (.ref e) env) (λ_ s'=>wpAny M A (setFlight (.ref e) none) Q E s') E s:=by
 obtain⟨gP,tW,oe,vs,he,hc,hx,hd,hsz,h1⟩:=fl;unfold noteFrame;simp only[hf];rcases h1 with h1|⟨T,oT,ts,h1,GX,GI,GK,hT,CY,h3⟩
 .refine aE (wpAny_field he hd h1 ?_);rw[br (by decide)]
  exact Pf sf hl hf he hc hx hd hsz hn gP tW hH λh' l f=>h h' [e] (λb m=>by cases lL.1 m;exact⟨gP,tW⟩) l f
 .refine aE (wpAny_field he hd h1 ?_);rw[bJ (show(Value.ref T != Value.none)=true by simp)]
  refine aE (wpAny_field hT CY h3 ?_);rw[br (show ¬(Value.none == rawInt L)=true by simp[rawInt])]
  refine aE (wpAny_setField hT CY (Bb.mp h3).1 ?_);have ot:∀b,b≠T->(s.heap.update T (Obj.mapFields (·.setIfInBounds 3 Value.none))).get? b=s.heap.get? b:=λb z=>oJ _ _ (Ne.symm z)
  have nr:∀b o,s.heap.get? b=some o->(∀vs,o.data≠.fields vs)->b≠T:=λb o hb KH z=>by
   simp_all
  refine Pf (s:={ s with heap:=s.heap.update T (Obj.mapFields (·.setIfInBounds 3 Value.none))}) sf (hl.of_keeps λb o hb KH=>⟨o,(ot b (nr b o hb KH)).trans hb,rfl⟩) hf ((ot e (Ne.symm GK)).trans he) hc hx hd hsz (by simpa[Heap.size_after_update] using hn) gP tW (λa z=>hH a (by simpa[Heap.size_after_update] using z)) λh' l f=>h h' [e,T] (λb m=>?_) ⟨λb o hb nV g=>?_,λb o hb nV g=>?_⟩ f
  .simp only[y09,y19,or_false] at m;rcases m with rfl|rfl
   .exact⟨gP,tW⟩
   .exact⟨GX,GI⟩
  .simp only[y09,y19,or_false,not_or] at nV;exact l.keep b o hb (by simp[nV.1]) ((ot b nV.2).trans g)
  .simp only[y09,y19,or_false,not_or] at nV;exact l.slot b o hb (by simp[nV.1]) ((ot b nV.2).trans g)
def XG
  (sf:A.frames=some (env::outer)) (hl:s.heap.FunFrames base (env::outer)) (hf:env.frame=some L) (hn:n<=s.heap.objs.size) (hH:∀a,s.heap.objs.size<=a->H a=none) (fl:iQ n s.heap H e C dx)
  (h:∀h' ch,(∀b∈ch,n<=b/\H b=none)->gb (km (env::outer)) ch s.heap h'->iQ n h' H e C dx->Q () { s with heap:=h'}):wpAny M A (leaving env (.ref e)) Q E s:=by
 unfold leaving;exact aE (Qn sf hl hf hn hH fl h)
end
variable{n:Nat}{h h':b_}{H:Hp}{e C:ah}{dx:ai ah}{X:Cx}{ch:List ah}{r:Rv}{x:Str}{k:Kn}{Q:VK}
structure EC (P:dB) (w:cI) (outer:List Env) (H:Hp) (s:ay) (H':Hp) (s':ay) (e C:ah) (dx:ai ah):Prop where
 os:s'.os=s.os
 bare:AllBare s'.gens
 un:Un (km outer) [] H H' s.heap s'.heap
 bD:jj P w H' s'.heap
 GC:iQ s.heap.objs.size s'.heap H' e C dx
def lu(P:dB)(w:cI):tH:=λouter H s E e s'=>∃a C dx H',e=.ref a/\EC P w outer H s H' s' a C dx/\E (.ref C) dx H'
def fO(X:Cx)(W:XW):Prop:=∀(aa:List (ah×Obj)) (Z:St) (H:Hp) (s:ay) (H':Hp) (s':ay) (e C:ah) (dx:ai ah),Inv X aa Z H s->EC X.prog X.w X.stack H s H' s' e C dx->W C dx Z H'->X.xe (.ref e) s'
def iQ.mono{n':Nat}(f:iQ n h H e C dx)(l:n'<=n):iQ n' h H e C dx:=by
 obtain⟨a,b,oe,vs,c1,c2,c3,c4,c5,c6⟩:=f;refine⟨ju l a,b,oe,vs,c1,c2,c3,c4,c5,?_⟩;rcases c6 with c6|⟨T,oT,ts,d1,d2,d3⟩
 .exact .inl c6
 .exact .inr ⟨T,oT,ts,d1,ju l d2,d3⟩
def iQ.lt(f:iQ n h H e C dx):n<=h.objs.size:=by
 obtain⟨a,b,oe,vs,c1,_⟩:=f;exact Mi (Mn a (cX c1))
def EC.inv{aa:List (ah×Obj)}{Z:St}{H':Hp}{s s':ay}(c:EC X.prog X.w X.stack H s H' s' e C dx)(I:Inv X aa Z H s):Inv X aa Z H' s':=
 I.vR (ch:=[]) c.os c.un c.bD c.bare λ_ z=>nomatch z
def gb.bD{P:dB}{w:cI}{fs:List ah}(l:gb fs ch h h')(k:jj P w H h)(hf:∀b∈fs,H b=none)(hc:∀b∈ch,H b=none):jj P w H h':=λb o q=>
 (k b o q).mH (λc u z g=>l.keep c u (λm=>by
  simp_all) (λm=>by
  simp_all) g) (λ_ z=>z) λ_ _ z=>z
def gb.any{fs:List ah}(l:gb fs ch h h'){b:ah}{o:Obj}(g:h.get? b=some o)(hc:b∉ch):∃sl,h'.get? b=some { o with slots:=sl}:=by
 by_cases m:b∈fs
 .exact l.slot b o m hc g
 .exact⟨o.slots,l.keep b o m hc g⟩
def WF(E:XK):XW:=λC dx _ H'=>E (.ref C) dx H'
section
variable{P:dB}{w:cI}{K:aL}{mg:Str->ai aj}{base:b_}{N:List Str}{qual:Str}{scope:Scope}{f:ah}{cd:aj}{A:c8}{outer:List Env}{s₀:ay}{H₀:Hp}{E:XK}
def u9:fO (kZ (lu P w) P w K mg base N qual scope f cd A outer s₀ H₀ E) (WF E):=by
 intro aa Z H s H' s' e C dx I c q;have I':=c.inv I;have sf:(A.deeper (envOfC qual scope s₀.heap.objs.size f cd)).frames=some (envOfC qual scope s₀.heap.objs.size f cd::outer):=I.ok.frames;have sz:s₀.heap.objs.size<=s.heap.objs.size:=I.sz;refine XG (base:=base) (L:=s₀.heap.objs.size) sf I'.stack rfl c.GC.lt (λa z=>I'.bD.fresh z) c.GC λh' ch kL lx fl=>⟨e,C,dx,H',rfl,⟨I'.os,I'.bare,?_,lx.bD I'.bD I'.jT λb m=>(kL b m).2,fl.mono sz⟩,q⟩
 have uY:∀b o,s₀.heap.get? b=some o->b∉ch:=λb o g m=>cR (gK (cX g) (ju sz (kL b m).1)) (jV _)
 have nL:∀b o,s₀.heap.get? b=some o->b∉km outer->b∉km (envOfC qual scope s₀.heap.objs.size f cd::outer):=λb o g z m=>by
  rcases y09.mp (show b∈s₀.heap.objs.size::km outer from m) with m|m
  .exact cR (m ▸ cX g) (jV _)
  .exact z m
 have B:Un (km outer) [] H₀ H' s₀.heap s'.heap:=I'.base;refine⟨λb o g n hb hx=>lx.keep b o (nL b o g hb) (uY b o g) (B.keep b o g n hb hx),λb o g n hb hx=>?_,B.free,λb o g hx=>?_,B.k9,B.ko,B.k8⟩
 .obtain⟨sl,g1⟩:=B.slot b o g n hb hx;obtain⟨DU,g2⟩:=lx.any g1 (uY b o g);exact⟨DU,g2⟩
 .obtain⟨o',g1⟩:=B.there b o g hx;obtain⟨sl,g2⟩:=lx.any g1 (uY b o g);exact⟨_,g2⟩
def DH:PassesOwn (model P w) (A.deeper (envOfC qual scope s₀.heap.objs.size f cd)) (envOfC qual scope s₀.heap.objs.size f cd) (kZ (lu P w) P w K mg base N qual scope f cd A outer s₀ H₀ E).xe:=PassesOwn.leaving
end
def EW(W:XW):St->XK:=λZ c dx H'=>∃C,c=.ref C/\W C dx Z H'
def nB{W:XW}(h:fO X W):vJ (lu X.prog X.w) X (EW W):=λaa Z H s e s' I h'=>by
 obtain⟨a,C,dx,H',rfl,c,C',hc,q⟩:=h';cases hc;exact h aa Z H s H' s' a C dx I c q
abbrev GM:=List Val->aT->ai (Rs Rv)
def qv(K:aL)(q n:Nat)(m:GM):Sp:=λxs H Q E=>xs.length=n/\∃k vs S res,cx K k H S/\Paired (dz K k) xs vs/\m vs S=some res/\g8 (RE K) K (WF E) q [] k H Q res
def gh(m:GM)(n:Nat):Prop:=∀vs S res,m vs S=some res->vs.length=n
noncomputable def ao(m:GM)(g:GA):GE:=λU S=>bd (g U S) m
noncomputable def Rv.ref:Rv->ai Nat
 |.v (.d (.ref n))=>some n
 |_=>none
def Cell.K2(C:ah)(m:Str):Cell->Bool
 |.ins C' fs=>C' == C&&(fs.lookup m).isNone
 |_=>false
noncomputable def a_(C:ah)(x:Str)(m:GM)(f:GE)(g:GA):GE:=λU S=>bd (f U S) λr S1=>r.ref.bind λn=>if(S1.r[n]?).any (Cell.K2 C x)=true then bd (g U S1) λvs S2=>m (.d (.ref n)::vs) S2 else none
noncomputable def Rv.wb:Rv->Bool
 |.v (.d .aI)=>true
 |_=>false
def Rv.su(h:r.wb=true):r=.v (.d .aI):=by
 obtain(d|_)|_:=r
 .cases d <;> cases h;rfl
 all_goals cases h
noncomputable def rW(C:ah)(m:GM)(g:GA):GE:=λU S=>bd (g U S) λvs S1=>bd (m (.d (.ref S1.r.length)::vs) ⟨S1.s,S1.r++[.ins C []]⟩) λr S2=>if r.wb=true then some (.ok (.v (.d (.ref S1.r.length))) S2) else none
def any_some{α:Type}{x:ai α}{p:α->Bool}(h:x.any p=true):∃c,x=some c/\p c=true:=by
 cases x with
 |none=>cases h
 |some c=>exact⟨c,rfl,h⟩
def Rv.mD(h:r.ref=some n):r=.v (.d (.ref n)):=by
 unfold Rv.ref at h;split at h
 .cases h;rfl
 .cases h
def Uq{fs:List (Str×D)}{gs:List (Str×V)}(h:gs.map (·.1)=fs.map (·.1))(e:fs.lookup x=none):gs.lookup x=none:=by
 induction fs generalizing gs with
 |nil=>cases gs with
  |nil=>rfl
  |cons _ _=>cases h
 |cons p fs ih=>
  obtain⟨y,d⟩:=p;cases gs with
  |nil=>cases h
  |cons r gs=>
   grind
section
variable{X:Cx}{K:aL}{W:XW}{Z:St}{H:Hp}{q n:Nat}{m:GM}{g:GA}{f:GE}
def g8.wf{res:Rs Rv}(w:g8 (RE K) K W q Z k H Q res):g8 (RE K) K (WF (EW W Z)) q [] k H Q res:=by
 cases res with
 |ok a S=>exact w
 |ex C l S=>exact λdx k' H' u k r=>⟨C,rfl,w dx k' H' u k r⟩
def Pg(hm:gh m n)(t:tE K W q (ao m g) Z H Q):ic K W q g Z H λxs H1=>qv K q n m (xs++[]) H1 Q (EW W Z):=by
 obtain⟨k,U,S,res,ok,gk,e,w⟩:=t;refine tX.bd ok gk e w λvs S1 xs k1 H1 bM g1 r1 e1 w1 _=>?_
 rw[jW];exact⟨(Paired.length r1).trans (hm _ _ _ e1),k1,vs,S1,res,bM,r1,e1,w1.wf⟩
def Ck{fs:List (Str×D)}{x:V}(ok:cx K k H S)(r:ag K k [x] [.ref n])(hn:S.r[n]?=some (.ins C fs)):∃a dx gs,x=.ref a/\k.A[n]?=some a/\k.F a=none/\H a=some (.ins C dx gs)/\gs.map (·.1)=fs.map (·.1)/\ag K k (gs.map (·.2)) (fs.map (·.2)):=by
 obtain⟨a,rfl,h1⟩:=r.isRef;obtain⟨h0,dx,gs,h2,h3,h4⟩:=ok.r.at' n a _ h1 hn;exact⟨a,dx,gs,rfl,h1,h0,h2,h3,h4⟩
def Ph(hm:gh m n)(t:tE K W q (a_ C x m f g) Z H Q):sU C x (qv K q n m) [] (EW W) (tE K W q f) (ic K W q g) Z H Q:=by
 obtain⟨k,U,S,res,ok,gk,e,w⟩:=t;refine tX.bd ok gk e w λr S1 y k1 H1 bM g1 r1 e1 w1 _=>?_
 obtain⟨j,e2,e3⟩:=cG.mp e1;clear e1;cases Rv.mD e2;split at e3
 .rename_i hi
  obtain⟨c,h1,h2⟩:=any_some hi;cases c with
  |ins C' fs=>
   obtain⟨h3,h4⟩:=Bc.mp h2;cases(beq_iff_eq.mp h3);obtain⟨a,dx,gs,q1,q2,q3,q4,q5,q6⟩:=Ck bM r1 h1;refine⟨a,dx,gs,q1,q4,Uq q5 (Option.isNone_iff_eq_none.mp h4),?_⟩;refine tX.bd bM g1 e3 w1 λvs S2 xs k2 H2 cV g2 r2 e2 w2 u2=>?_
   rw[jW];have r3:Paired (dz K k2) (y::xs) (.d (.ref j)::vs):=.cons (dz.up (v:=.d (.ref j)) r1 u2) r2;exact⟨(Paired.length r3).trans (hm _ _ _ e2),k2,_,S2,res,cV,r3,e2,w2.wf⟩
  |_=>cases h2
 .cases e3
def XH(hm:gh m n)(t:tE K W q (rW C m g) Z H Q):wU C (qv K q n m) [] (EW W) (ic K W q g) Z H Q:=by
 obtain⟨k,U,S,res,ok,gk,e,w⟩:=t;refine tX.bd ok gk e w λvs S1 xs k1 H1 bM g1 r1 e1 w1 _=>?_
 intro x dx hx hdx ne;rw[jW];have sm:aB H1 (upd (upd H1 dx (.own x)) x (.ins C dx [])):=(rE hdx).put (by rw[dI (Ne.symm ne)];exact hx)
 obtain⟨fx,nx⟩:=bM.fresh hx;have cV:cx K k1 _ S1:=bM.new (aB.refl _) (λa _ o z=>sm a o z) (bM.le.trans sm) λ_ _ z=>z
 obtain⟨jM,u3⟩:=cV.wz nx (c:=.ins C []) ⟨fx,dx,[],aK,rfl,.nil⟩;have h3:ag K ⟨k1.F,k1.A++[x],k1.T⟩ [.ref x] [.ref S1.r.length]:=.ref (by rw[<-bM.r.ln];exact FN) .nil
 have u4:Up q k1 H1 ⟨k1.F,k1.A++[x],k1.T⟩ (upd (upd H1 dx (.own x)) x (.ins C dx [])):=(Up.of (aB.refl _) sm).trans (u3 q);have r3:Paired (dz K ⟨k1.F,k1.A++[x],k1.T⟩) (.ref x::xs) (.d (.ref S1.r.length)::vs):=.cons h3 (vA.up r1 u4);rcases As e1 with⟨r,S2,e2,e1⟩|⟨C',l,S2,e2,rfl⟩
 .refine⟨(Paired.length r3).trans (hm _ _ _ e2),_,_,_,_,jM,r3,e2,λv k' H' u f9 r'=>?_⟩
  split at e1
  .rename_i hr
   cases e1;cases Rv.su hr;exact⟨(show ag K k' [v] [.aI] from r').aP rfl,w1 (.ref x) k' H' (u4.trans u) f9 (ag.mono u.le h3)⟩
  .cases e1
 .exact⟨(Paired.length r3).trans (hm _ _ _ e2),_,_,_,_,jM,r3,e2,λex k' H' u f9 r'=>⟨C',rfl,w1 ex k' H' (u4.trans u) f9 r'⟩⟩
end
end L2
set_option autoImplicit false
namespace L2
open PySem PySem.Spec PyProof.Rows
variable{p i:Nat}{P:St->Hp->Prop}{H:Hp}{Z:St}{ts:tJ}
inductive Fr where
 |nx (U:Gm) (S:aT)|bk (U:Gm) (S:aT)|ct (U:Gm) (S:aT)|rt (r:Rv) (S:aT)|ex (C:ah) (l:ai Int) (U:Gm) (S:aT)
abbrev GS:=Gm->aT->ai Fr
section
variable(K:aL)(W:XW)(q:Nat){D:Ends}{k k':Kn}{H H':Hp}{Z:St}{U:Gm}{S:aT}{fr:Fr}
def cw(k:Kn)(H:Hp)(P:St->Hp->Prop)(U:Gm)(S:aT):Prop:=∀Z' k' H',Up q k H k' H'->cx K k' H' S->ig K k' Z' U->P Z' H'
def Done(D:Ends)(k:Kn)(H:Hp):Fr->Prop
 |.nx U S=>cw K q k H D.nx U S
 |.bk U S=>cw K q k H D.bk U S
 |.ct U S=>cw K q k H D.ct U S
 |.rt r S=>∀v k' H',Up q k H k' H'->cx K k' H' S->oo K k' H' v r->D.rt v H'
 |.ex C l U S=>∀dx Z' k' H',Up q k H k' H'->cx K k' H' S->ig K k' Z' U->Bi k'.F dx l->W C dx Z' H'
def tS(f:GS):TS:=λD Z H=>∃k U S fr,cx K k H S/\ig K k Z U/\f U S=some fr/\Done K W q D k H fr
variable{K W q}
def IF{o:HO}(h:p<=q)(e:uU p o=true):uU q o=true:=by
 match p,q with
 |0,_=>cases e
 |1,0=>lia
 |1,1=>exact e
 |1,n+2=>rfl
 |n+2,0=>lia
 |n+2,1=>lia
 |n+2,m+2=>rfl
def Up.weak(u:Up q k H k' H')(h:p<=q):Up p k H k' H':=⟨u.f,u.a,u.t,λa o z e=>u.h a o (IF h z) e⟩
def cw.up(w:cw K q k H P U S)(u:Up q k H k' H'):cw K q k' H' P U S:=λZ' k2 H2 u2 ok g=>w Z' k2 H2 (u.trans u2) ok g
def cw.now(w:cw K q k H P U S)(ok:cx K k H S)(g:ig K k Z U):P Z H:=w Z k H .refl ok g
theorem Done.up(w:Done K W q D k H fr)(u:Up q k H k' H'):Done K W q D k' H' fr:=by
 cases fr with
 |nx U S=>exact cw.up w u
 |bk U S=>exact cw.up w u
 |ct U S=>exact cw.up w u
 |rt r S=>exact λv k2 H2 u2 k r=>w v k2 H2 (u.trans u2) k r
 |ex C l U S=>exact λdx Z' k2 H2 u2 k g r=>w dx Z' k2 H2 (u.trans u2) k g r
theorem Done.weak(w:Done K W q D k H fr)(h:q<=p):Done K W p D k H fr:=by
 cases fr with
 |nx U S=>exact λZ' k2 H2 u=>w Z' k2 H2 (u.weak h)
 |bk U S=>exact λZ' k2 H2 u=>w Z' k2 H2 (u.weak h)
 |ct U S=>exact λZ' k2 H2 u=>w Z' k2 H2 (u.weak h)
 |rt r S=>exact λv k2 H2 u=>w v k2 H2 (u.weak h)
 |ex C l U S=>exact λdx Z' k2 H2 u=>w dx Z' k2 H2 (u.weak h)
def kY{α:Type}(U:Gm)(x:ai (Rs α))(f:α->aT->ai Fr):ai Fr:=match x with
 |none=>none
 |some (.ok a S)=>f a S
 |some (.ex C l S)=>some (.ex C l U S)
def Pj{α:Type}{x:ai (Rs α)}{f:α->aT->ai Fr}(e:kY U x f=some fr):(∃a S,x=some (.ok a S)/\f a S=some fr)\/∃C l S,x=some (.ex C l S)/\fr=.ex C l U S:=by
 obtain _|_|_:=x
 .cases e
 .exact .inl ⟨_,_,rfl,e⟩
 .cases e;exact .inr ⟨_,_,_,rfl,rfl⟩
def tS.Ct{α β:Type}{R:Rp α β}{g:Gx α}{f:α->aT->ai Fr}{Q:β->Hp->Prop}(ok:cx K k H S)(gk:ig K k Z U)(e:kY U (g U S) f=some fr)(w:Done K W q D k H fr)
  (h:∀a S1 b k1 H1,cx K k1 H1 S1->ig K k1 Z U->R k1 H1 b a->f a S1=some fr->Done K W q D k1 H1 fr->Up q k H k1 H1->Q b H1):tX R K W q g Z H Q:=by
 rcases Pj e with⟨a,S1,e1,e⟩|⟨C,l,S1,e1,rfl⟩
 .exact⟨k,U,S,_,ok,gk,e1,λb k' H' u f9 r=>h a S1 b k' H' f9 (gk.up u) r e (w.up u) u⟩
 .exact⟨k,U,S,_,ok,gk,e1,λdx k' H' u f9 r=>w dx Z k' H' u f9 (gk.up u) r⟩
def tS.bd{α β:Type}{R:Rp α β}{g:Gx α}{f:α->aT->ai Fr}{Q:β->Hp->Prop}(ok:cx K k H S)(gk:ig K k Z U)(e:kY U (g U S) f=some fr)(w:Done K W q D k H fr)
  (h:∀a S1 b k1 H1,cx K k1 H1 S1->ig K k1 Z U->R k1 H1 b a->f a S1=some fr->Done K W q D k1 H1 fr->Q b H1):tX R K W q g Z H Q:=tS.Ct ok gk e w λa S1 b k1 H1 h1 h2 h3 h4 h5 _=>h a S1 b k1 H1 h1 h2 h3 h4 h5
end
def gu:GS:=λU S=>some (.nx U S)
noncomputable def fm(f g:GS):GS:=λU S=>(f U S).bind λr=>match r with
 |.nx U S=>g U S
 |r=>some r
noncomputable def au(g:GE):GS:=λU S=>kY U (g U S) λr S1=>some (.rt r S1)
noncomputable def cU(c:GT)(f g:GS):GS:=λU S=>kY U (c U S) λb S1=>if b=true then f U S1 else g U S1
noncomputable def cY(g:GE):GS:=λU S=>kY U (g U S) λ_ S1=>some (.nx U S1)
def asg(mu:Bool)(S:aT):Rv->Val×aT
 |.o c=>if mu=true then(.c S.s.length,⟨S.s++[.o c],S.r⟩) else(.d c.d,S)
 |.v x=>(x,S)
def ar(i:Nat)(mu:Bool)(g:GE):GS:=λU S=>kY U (g U S) λr S1=>if i<U.length then some (.nx (U.set i (some (asg mu S1 r).1)) (asg mu S1 r).2) else none
section
variable{X:Cx}{K:aL}{W:XW}{q:Nat}{st:Stmt}{rest sa sb:List Stmt}{e c:Expr}{f g:GS}{l6:GE}{ft:GT}{pos:Pos}
def yA:jl X [] (tS K W q gu):=pk.mono λD Z H t=>by
 obtain⟨k,U,S,fr,ok,gk,e,w⟩:=t;cases e;exact cw.now w ok gk
def uJ(h1:PS X st (tS K W q f))(h2:jl X rest (tS K W q g)):jl X (st::rest) (tS K W q (fm f g)):=(Vn h1 h2).mono λD Z H t=>by
 obtain⟨k,U,S,fr,ok,gk,e,w⟩:=t;obtain⟨r,e1,e⟩:=cG.mp e;refine⟨k,U,S,r,ok,gk,e1,?_⟩;cases r with
 |nx U1 S1=>exact λZ' k' H' u f9 g'=>⟨k',U1,S1,fr,f9,g',e,w.up u⟩
 |bk U1 S1=>cases e;exact w
 |ct U1 S1=>cases e;exact w
 |rt r S1=>cases e;exact w
 |ex C l U1 S1=>cases e;exact w
def yB(h:PE X e (tE K W q l6)):PS X (.Return (some e) pos) (tS K W q (au l6)):=(Z5 h).mono λD Z H t=>by
 obtain⟨k,U,S,fr,ok,gk,e,w⟩:=t;refine tS.bd ok gk e w λr S1 v k1 H1 bM g1 r1 e1 w1=>?_
 cases e1;exact w1 v k1 H1 .refl bM r1
def CC(hc:PT X c (tT K W q ft))(ha:jl X sa (tS K W q f))(hb:jl X sb (tS K W q g)):PS X (.If c sa sb pos) (tS K W q (cU ft f g)):=(e8m hc ha hb).mono λD Z H t=>by
 obtain⟨k,U,S,fr,ok,gk,e,w⟩:=t;refine tS.bd ok gk e w λb S1 v k1 H1 bM g1 r1 e1 w1=>?_
 cases r1;cases b with
 |true=>exact sx ⟨k1,U,S1,fr,bM,g1,e1,w1⟩
 |false=>exact sv ⟨k1,U,S1,fr,bM,g1,e1,w1⟩
def XI(he:PE X e (tE K W q l6))(hs:swapsWith e none pos.line X.env=pure false):PS X (.Expr e pos) (tS K W q (cY l6)):=(Xe he hs).mono λD Z H t=>by
 obtain⟨k,U,S,fr,ok,gk,e,w⟩:=t;refine tS.bd ok gk e w λr S1 v k1 H1 bM g1 r1 e1 w1=>?_
 cases e1;exact cw.now w1 bM g1
def ψ{mu:Bool}{k:Kn}{S:aT}{x:V}{r:Rv}(ok:cx K k H S)(h:oo K k H x r):∃k',(∀q,Up q k H k' H)/\cx K k' H (asg mu S r).2/\dz K k' x (asg mu S r).1:=by
 cases r with
 |v y=>exact qB ok h
 |o c=>
  cases mu with
  |false=>exact qB (r:=.o c) ok h
  |true=>
   obtain⟨p,rfl,hF,hi,hc⟩:=h;obtain⟨bM,u⟩:=ok.pushS hF hi hc;exact⟨_,u,bM,p,rfl,by rw[<-ok.s.ln];exact FN⟩
def ig.set{k:Kn}{U:Gm}{x:V}{v:Val}(g:ig K k Z U)(r:dz K k x v)(hi:i<U.length):ig K k (Z.set i (some x)) (U.set i (some v)):=by
 refine⟨by rw[w6,w6,g.ln],λj w e=>?_⟩
 by_cases z:i=j
 .subst z;rw[vw hi] at e;cases e;exact⟨x,vw (g.ln ▸ hi),r⟩
 .rw[A7 z] at e ⊢;exact g.at' j w e
def Qo{mu:Bool}{D:Ends}(t:tS K W q (ar i mu l6) D Z H):tE K W q l6 Z H λv H1=>D.nx (Z.set i (some v)) H1:=by
 obtain⟨k,U,S,fr,ok,gk,e,w⟩:=t;refine tS.bd ok gk e w λr S1 v k1 H1 bM g1 r1 e1 w1=>?_
 split at e1
 .cases e1;obtain⟨k2,u,cV,r2⟩:=ψ (mu:=mu) bM r1;exact cw.now (cw.up w1 (u q)) cV ((g1.up (u q)).set r2 (by assumption))
 .cases e1
def ω{mu:Bool}{x:Str}{pos':Pos}(hN:X.N.Nodup)(hi:X.N[i]?=some x)(hx:Loc X.env.scope x)(he:PE X e (tE K W q l6))(hs:swapsWith e (some (.Name x pos')) pos.line X.env=pure false)(hf:X.fn x=true\/X.env.scope.names.lookup x=some .local):
  PS X (.Assign [.Name x pos'] e pos) (tS K W q (ar i mu l6)):=(Γ hN hi hx he hs hf).mono λD Z H t=>Qo t
def dw(c:GT)(f:GS):Nat->GS
 |0=>λ_ _=>none
 |n+1=>λU S=>kY U (c U S) λb S1=>if b=true then(f U S1).bind λr=>match r with
   |.nx U2 S2=>dw c f n U2 S2
   |.ct U2 S2=>dw c f n U2 S2
   |.bk U2 S2=>some (.nx U2 S2)
   |r=>some r
  else some (.nx U S1)
def rP(n:Nat)(hp:PassesOwn (model X.prog X.w) X.A X.env X.xe)(hc:PT X c (tT K W q ft))(hb:jl X sa (tS K W q f)):PS X (.While c sa [] pos) (tS K W q (dw ft f n)):=(Vo hp hc hb).mono λD Z H t=>by
 obtain⟨k,U,S,fr,ok,gk,e,w⟩:=t;refine⟨λn Z H=>∃k U S,cx K k H S/\ig K k Z U/\dw ft f n U S=some fr/\Done K W q D k H fr,⟨n,k,U,S,ok,gk,e,w⟩,?_⟩
 clear ok gk e w;rintro n Z H ⟨k,U,S,ok,gk,e,w⟩;cases n with
 |zero=>cases e
 |succ n=>
  refine tS.bd ok gk e w λb S1 v k1 H1 bM g1 r1 e1 w1=>?_
  cases r1;cases b with
  |false=>cases e1;exact sv (cw.now w1 bM g1)
  |true=>
   refine sx ⟨λZ' H'=>∃k U S,cx K k H' S/\ig K k Z' U/\dw ft f n U S=some fr/\Done K W q D k H' fr,λZ' H' h=>⟨n,vx _,h⟩,?_⟩
   obtain⟨r,e2,e3⟩:=cG.mp (show((f U S1).bind _)=some fr from e1);refine⟨k1,U,S1,r,bM,g1,e2,?_⟩;cases r with
   |nx U2 S2=>exact λZ' k' H' u f9 g'=>⟨k',U2,S2,f9,g',e3,w1.up u⟩
   |ct U2 S2=>exact λZ' k' H' u f9 g'=>⟨k',U2,S2,f9,g',e3,w1.up u⟩
   |bk U2 S2=>cases e3;exact w1
   |rt r S2=>cases e3;exact w1
   |ex C l U2 S2=>cases e3;exact w1
end
abbrev GG:=D->Gm->ai Gm
variable{gs:List GG}
noncomputable def ae(i:Nat):GG:=λd U=>if i<U.length then some (U.set i (some (.d d))) else none
noncomputable def o7:List GG->List D->Gm->ai Gm
 |[],[],U=>some U
 |g::gs,d::ds,U=>(g d U).bind λU1=>o7 gs ds U1
 |_,_,_=>none
def bo(gs:List GG):GG:=λd U=>match d with
 |.tup ds=>o7 gs ds U
 |_=>none
section
variable{K:aL}
def ka(K:aL)(t:TG)(g:GG):Prop:=
 ∀(k:Kn) (H:Hp) (Z:St) (U U1:Gm) (x:V) (d:D) (Q:St->Hp->Prop),aB k.F H->ig K k Z U->ag K k [x] [d]->g d U=some U1->(∀Z',ig K k Z' U1->Q Z' H)->t x Z H Q
def oR(K:aL)(t:tJ)(gs:List GG):Prop:=
 ∀(k:Kn) (H:Hp) (Z:St) (U U1:Gm) (xs:List V) (ds:List D) (Q:St->Hp->Prop),aB k.F H->ig K k Z U->ag K k xs ds->o7 gs ds U=some U1->(∀Z',ig K k Z' U1->Q Z' H)->t xs Z H Q
def vg:ka K (o5 i) (ae i):=by
 intro k H Z U U1 x v Q le gk r e w;unfold ae at e;split at e
 .cases e;exact w _ (gk.set (v:=.d v) r (by assumption))
 .cases e
def vi:oR K CM []:=by
 intro k H Z U U1 xs vs Q le gk r e w;cases vs with
 |nil=>cases e;exact⟨r.fT,w Z gk⟩
 |cons _ _=>cases e
def sY{t:TG}{g:GG}(h1:ka K t g)(h2:oR K ts gs):oR K (vT t ts) (g::gs):=by
 intro k H Z U U1 xs vs Q le gk r e w;cases vs with
 |nil=>cases e
 |cons d ds=>
  obtain⟨U2,e1,e2⟩:=cG.mp e;obtain⟨x,xs,rfl,r1,r2⟩:=r.cB;exact⟨_,_,rfl,h1 k H Z U U2 _ _ _ le gk r1 e1 λZ1 g1=>h2 k H Z1 U2 U1 _ _ Q le g1 r2 e2 w⟩
def Ur:∀{gs:List GG} {vs:List D} {U U1:Gm},o7 gs vs U=some U1->vs.length=gs.length:=by
 intro gs
 induction gs with
 |nil=>intro vs U U1 e;cases vs with
  |nil=>rfl
  |cons _ _=>cases e
 |cons g gs ih=>intro vs U U1 e;cases vs with
  |nil=>cases e
  |cons v vs=>obtain⟨U2,_,e2⟩:=cG.mp e;exact congrArg (·+1) (ih e2)
def zL{n:Nat}(h:oR K ts gs)(hn:n=gs.length):ka K (yH K n ts) (bo gs):=by
 intro k H Z U U1 x d Q le gk r e w;cases d with
 |tup es=>
  obtain⟨a,ws,rfl,sq,rp⟩:=r.isTup;exact⟨a,ws,rfl,le.zI sq,by rw[hn,<-Ur e,rp.length],h k H Z U U1 _ _ Q le gk rp e w⟩
 |_=>cases e
end
def gD(g:GE):Gx D:=λU S=>bd (g U S) λr S1=>(oB S1 (mI r)).map λp=>.ok p.1 p.2
abbrev RD(K:aL):Rp D V:=λk _ x d=>ag K k [x] [d]
section
variable{X:Cx}{K:aL}{W:XW}{q:Nat}{g:GE}{gg:GG}{t:TG}{e tg:Expr}{pos:Pos}
def L0{Q:VK}(t:tX (RD K) K W q (gD g) Z H Q):tE K W q g Z H Q:=by
 obtain⟨k,U,S,res,ok,gk,e,w⟩:=t;refine tX.bd ok gk e w λr S1 x k1 H1 bM g1 r1 e1 w1 _=>?_
 obtain⟨p,e2,rfl⟩:=dH.mp e1;obtain⟨k2,u2,cV,r2⟩:=qB bM r1;obtain⟨k3,u3,jM,r3⟩:=FO cV r2 e2;exact((w1.up (u2 q)).up (u3 q)).now jM r3
end
variable{N:List Str}{n p:Nat}{m:GS}
def aT.cut(S:aT)(b:Nat):aT:=⟨S.s.take b,S.r⟩
def Cs:Cell->ai Rv
 |.o x=>some (.o x)
 |.z x=>some (.v (.d x.d))
 |_=>none
def back(b:Nat)(S:aT):Rv->ai Rv
 |.v (.c n)=>if n<b then some (.v (.c n)) else(S.s[n]?).bind Cs
 |r=>some r
def leave(b:Nat):Fr->ai (Rs Rv)
 |.nx _ S=>some (.ok (.v (.d .aI)) (S.cut b))
 |.rt r S=>(back b S r).map λr'=>.ok r' (S.cut b)
 |.ex C l _ S=>some (.ex C l (S.cut b))
 |_=>none
def runM(p n:Nat)(m:GS):GM:=λvs S=>if vs.length=p then(m (vs.map some++List.replicate (n - vs.length) none) S).bind (leave S.s.length) else none
section
variable{K:aL}{k k':Kn}{H H':Hp}{S:aT}{q b:Nat}
def XJ{v:V}{r r':Rv}(ok:cx K k H S)(h:oo K k H v r)(e:back b S r=some r'):oo K ⟨k.F,k.A,k.T.take b⟩ H v r':=by
 have go:k.le ⟨k.F,k.A,k.T.take b⟩:=⟨aB.refl _,lh _⟩;cases r with
 |o c=>
  cases e;obtain⟨a,e1,e2,e3,e4⟩:=h;exact⟨a,e1,e2,λm=>e3 ((gZ.mp m).elim (Et _) λm=>n4 _ (List.mem_of_mem_take m)),e4.keep go λ_ z=>z⟩
 |v x=>
  cases x with
  |d y=>cases e;exact ag.mono go h
  |c n=>
   obtain⟨a,e1,e2⟩:=h;unfold back at e;dsimp only at e;split at e
   .rename_i hn
    cases e;exact⟨a,e1,by rw[List.getElem?_take,bJ hn];exact e2⟩
   .rename_i hn
    obtain⟨c,h1,h2⟩:=cG.mp e;have h3:=ok.s.at' n a c e2 h1;cases c with
    |ins _ _=>cases h2
    |z x=>cases h2;rw[e1];exact ag.mono go h3.2
    |o x=>
     cases h2;obtain⟨n1,n2,n3⟩:=kQ.mp ok.nd;refine⟨a,e1,h3.1,λm=>?_,h3.2.keep go λ_ z=>z⟩
     rcases gZ.mp m with m|m
     .exact n3 a m a (tf e2) rfl
     .obtain⟨j,hj⟩:=zR.mp m;rw[List.getElem?_take] at hj;split at hj
      .rename_i GU
       have:=ID n2 hj e2;lia
      .cases hj
def Us{xs:List V}{vs:List Val}(h:Paired (dz K k) xs vs)(hn:N.length=n):ig K k (start N xs) (vs.map some++List.replicate (n - vs.length) none):=by
 have hl:=Paired.length h;refine⟨by unfold start;simp[hl,hn],λi v e=>?_⟩
 by_cases hi:i<vs.length
 .rw[uc (by rw[bq];exact hi),fL] at e
  obtain⟨w,e1,e2⟩:=dH.mp e;cases e2;obtain⟨x,h1,h2⟩:=Fh i h e1;refine⟨x,?_,h2⟩;unfold start;rw[uc (by rw[bq,hl];exact hi),fL,h1]
  rfl
 .rw[ub (by rw[bq];lia),Ml] at e
  split at e <;> cases e
end
section
variable{P:dB}{w:cI}{K:aL}{mg:Str->ai aj}{base:b_}
def Qp{x qual:Str}{st:Stmt}{f:ah}{fd:lq}{ps:List Str}{k q:Nat}(F:rb K x qual st f fd)(S:gL N ps (m8 st))(hp:ps.length=p)(hn:N.length=n)
  (r6:∀fI A outer s H E,cA k (A.deeper (envOfC qual (m8 st) s.heap.objs.size f fI))->jl (kZ (lu P w) P w K mg base N qual (m8 st) f fI A outer s H E) (vG st) (tS K (WF E) q m)) :
  dC P w K mg base (lu P w) (k+1) f fd ps (qv K q p (runM p n m)):=by
 obtain⟨oc,od,kV,doc,pm,an,fI,ct,ph,rfl,lk,r_⟩:=F.ex;refine e8q lk r_ S (λvs H Q E h=>h.1.trans hp.symm) λA outer s H xs Q E hr vY=>⟨_,r6 fI A outer s H E hr,?_⟩
 obtain⟨hl,k,vs,S,res,ok,rp,e,w⟩:=vY;unfold runM at e;split at e
 .obtain⟨fr,e1,e2⟩:=cG.mp e;refine⟨k,_,S,fr,ok,Us rp hn,e1,?_⟩;have lb:k.T.length<=S.s.length:=Ew ok.s.ln;cases fr with
  |nx U S'=>
   cases e2;exact λZ' k' H' u f9 g'=>w .aI _ H' (u.take lb) (f9.take _) (show ag K _ [.aI] [.aI] from .flat rfl .nil)
  |bk U S'=>cases e2
  |ct U S'=>cases e2
  |rt r S'=>
   obtain⟨r',e3,rfl⟩:=dH.mp e2;exact λv k' H' u f9 r1=>w v _ H' (u.take lb) (f9.take _) (XJ f9 r1 e3)
  |ex C l U S'=>
   cases e2;exact λdx Z' k' H' u f9 g' el=>w dx _ H' (u.take lb) (f9.take _) el
 .cases e
def lI:gh (runM p n m) p:=λvs S res e=>by
 unfold runM at e;split at e
 .assumption
 .cases e
end
section
variable{prog:dB}{w:cI}{A:c8}{E:aj->ay->Prop}{h:b_}{g:Array GenState}{d:Drawn}{t:Nat}{os:OsState}
variable{nm q:Str}{C N:ah}{bs bm yo:List aj}{hdct:Bool}{sn:List Str}{sub:List aj}{ab:Bool}{col:ai Bool}{dd:ai ah}{k0 k1 k2 k3 k5:ai aj}{B Bn newId Sh mj R6:String}{O5:List aj}
def Ea(Fn:ExcBaseFacts Bn newId R6 O5)(GF:yo.contains (.type Bn)=true)(F:ExcBaseFacts B Sh mj yo)(T:OwnTail h yo bm){mN:Str->ai aj}{rest:List aj}{Q:Fin->ay->Prop}
  (hC:h.get? C=some (excClassObj nm q C N bs bm hdct sn sub ab col dd k0 k1 k2 k3 k5 newId)) (hn:h.Ns N mN) (si:rest.length<=sizeLine)
  (hq:∀i,i=(mN "__init__").getD (.builtin mj)->wpAny (model prog w) A (bindSpecial i (.ref (h.objs.size+1))) (λp s'=>wpAny (model prog w) A (call p.1 (p.2++rest)) (λr sR=>r=.none/\Q (.done (.ret (.ref (h.objs.size+1)))) sR) E s') E ⟨((h.push { cls:=.type "tuple",data:=.seq rest.toArray}).push { cls:=.ref C,data:=.fields #[.ref h.objs.size,.none,.none,.none,.bool false,.none]}),g,d,t,os⟩) :
  wpAny (model prog w) A (Builtin.«type.__call__» ⟨.ref C::rest,[]⟩) Q E ⟨h,g,d,t,os⟩:=by
 repeat (first|with_reducible refine wpAny_loadPart_at hC ?_|with_reducible refine wpAny_madeBy_exc hC ?_|wp_step)
 refine codeAny_call_builtin_code (Code.quiet_builtin _ Fn.quiet) (wpAny_check_new_subU Fn GF T hC (codeAny_exc_new_subU Fn GF F T hC ?_ si));show wpAny _ _ _ _ _ _;have st:∀b o,h.get? b=some o->((h.push { cls:=.type "tuple",data:=.seq rest.toArray}).push { cls:=.ref C,data:=.fields #[.ref h.objs.size,.none,.none,.none,.bool false,.none]}).get? b=some o:=λb o e=>dy _ (dy _ e)
 have hC₁:=st _ _ hC;have yN:((h.push { cls:=.type "tuple",data:=.seq rest.toArray}).push { cls:=.ref C,data:=.fields #[.ref h.objs.size,.none,.none,.none,.bool false,.none]}).get? (h.objs.size+1)=some { cls:=.ref C,data:=.fields #[.ref h.objs.size,.none,.none,.none,.bool false,.none]}:=by heap_get
 have hcC:(Value.ref C::bm).contains (.ref C)=true:=by simp
 unfold isInstance
 repeat (first|with_reducible refine wpAny_loadPart_at yN ?_|(with_reducible refine wpAny_isSubtype_exc hC₁ ?_;rw[hcC])|wp_step)
 show wpAny _ _ (typeLookup (.ref C) _) _ _ _;refine wpAny_typeLookup_tail hC₁ (hn.keeps st) (T.keeps st) F.mroIs F.init.lookup ?_;cases hv:mN "__init__" with
 |none=>
  refine kK (aE (wpAny_mono (hq _ (by rw[hv];rfl)) (λp s' z=>aE (wpAny_mono z (λr sR y=>?_) λ_ _ y=>y)) λ_ _ y=>y))
  obtain⟨rfl,y⟩:=y
  wp_walk
  exact y
 |some v=>
  refine kK (aE (wpAny_mono (hq _ (by rw[hv];rfl)) (λp s' z=>aE (wpAny_mono z (λr sR y=>?_) λ_ _ y=>y)) λ_ _ y=>y))
  obtain⟨rfl,y⟩:=y
  wp_walk
  exact y
def VL(Fn:ExcBaseFacts Bn newId R6 O5)(GF:yo.contains (.type Bn)=true)(F:ExcBaseFacts B Sh mj yo)(T:OwnTail h yo bm){mN:Str->ai aj}{rest:List aj}{Q:aj->ay->Prop}
  (hC:h.get? C=some (excClassObj nm q C N bs bm hdct sn sub ab col dd k0 k1 k2 k3 k5 newId)) (hn:h.Ns N mN) (si:rest.length<=sizeLine)
  (hq:∀i,i=(mN "__init__").getD (.builtin mj)->wpAny (model prog w) (A.under (.builtin "type.__call__" ⟨.ref C::rest,[]⟩)) (bindSpecial i (.ref (h.objs.size+1))) (λp s'=>wpAny (model prog w) (A.under (.builtin "type.__call__" ⟨.ref C::rest,[]⟩)) (call p.1 (p.2++rest)) (λr sR=>r=.none/\Q (.ref (h.objs.size+1)) sR) E s') E ⟨((h.push { cls:=.type "tuple",data:=.seq rest.toArray}).push { cls:=.ref C,data:=.fields #[.ref h.objs.size,.none,.none,.none,.bool false,.none]}),g,d,t,os⟩) :
  wpAny (model prog w) A (call (.ref C) rest) Q E ⟨h,g,d,t,os⟩:=by
 have f1:=tc_lookup;have f2:=tc_bind (.ref C);have hT:(⟨h,g,d,t,os⟩:ay).TypeIs (.ref C) "type":=⟨_,hC,rfl⟩;refine wpAny_call (codeAny_of_tree (show wpAny _ _ (callAny (.ref C) _) _ _ _ from ?_))
 repeat (any_goals (first|assumption|with_reducible refine wpAny_loadPart_at hC ?_|wp_step))
 exact⟨rfl,codeAny_call_builtin_at (Code.quiet_builtin _ (by decide +kernel)) entry_typeCall (wpAny_check_type_call_sub hC (Ea Fn GF F T hC hn si λi e=>hq i e))⟩
end
end L2
namespace L2
open PySem PySem.Spec PySem.W PySem.Calls PyProof.Rows
noncomputable def rR(C t:ah)(d:ai ah):Obj:={ cls:=.ref C,dict:=d,data:=.fields #[.ref t,.none,.none,.none,.bool false,.none]}
section
variable{prog:dB}{w:cI}{A:c8}{E:aj->ay->Prop}{h:b_}{g:Array GenState}{d:Drawn}{tt:Nat}{os:OsState}{x t:ah}
variable{nm q:Str}{C N:ah}{bs bm yo:List aj}{hdct:Bool}{sn:List Str}{sub:List aj}{ab:Bool}{col:ai Bool}{dd:ai ah}{k0 k1 k2 k3 k5:ai aj}{newId:String}
def Ek{u:aj}{Q:aj->ay->Prop}(T:OwnTail h [.type "ValueError",.type "Exception",.type "BaseException",.type "object"] bm)(hC:h.get? C=some (excClassObj nm q C N bs bm hdct sn sub ab col dd k0 k1 k2 k3 k5 newId))(hx:h.get? x=some (rR C t none))
  (hq:∀h',h'.get? x=some (rR C h.objs.size none)->(∀b o,b≠x->h.get? b=some o->h'.get? b=some o)->Q .none ⟨h',g,d,tt,os⟩) :
  wpAny (model prog w) A (call (.builtin "ValueError.__init__") [.ref x,u]) Q E ⟨h,g,d,tt,os⟩:=by
 have FB:=F.excBase_ValueError;have t5:h.get? x=some { cls:=.ref C,data:=.fields #[.ref t,.none,.none,.none,.bool false,.none]}:=hx;refine wpAny_call (codeAny_call_builtin FB.init.plain FB.initEntry (wpAny_check_init_subU FB T hC t5 rfl ?_))
 wp_walk
 refine hq _ ?_ λb o n e=>?_
 .rw[qI _ (dy _ t5) rfl];rfl
 .rw[oJ _ _ (Ne.symm n)];exact dy _ e
end
noncomputable abbrev qc:List aj:=[.type "ValueError",.type "Exception",.type "BaseException",.type "object"]
def f_(K:fU)(C:ah)(bm:List aj)(G3:ai aj):Prop:=∃nm q N bs sn sub ab col dd k0 k1 k2 k3 k5 on AY es ep A1,
 K.lookup C=some (excClassObj nm q C N bs bm true sn sub ab col dd k0 k1 k2 k3 k5 "ValueError.__new__")/\K.lookup N=some ⟨on,AY,.dict es ep,A1⟩/\StrKeys es/\nsFind es "__init__"=G3
section
variable{K:fU}{C C' B0 a:ah}{bm Js:List aj}{i i':ai aj}{l:ai Int}
theorem f_.cls(G:f_ K C bm i):∃cd,clsIn K C=some cd/\cd.mro=.ref C::bm/\cd.hasDict=true/\typeIn K (.ref C)=some (.type "type"):=by
 obtain⟨nm,q,N,bs,sn,sub,ab,col,dd,k0,k1,k2,k3,k5,on,AY,es,ep,A1,g1,g2,g3,g4⟩:=G;exact⟨_,by unfold clsIn;rw[g1],rfl,rfl,by show(K.lookup C).map (·.cls)=_;rw[g1];rfl⟩
def f_.sub(G:f_ K C bm i)(b:aj):subIn K (.ref C) b=some ((Value.ref C::bm).contains b):=by
 obtain⟨cd,c1,c2,c3,c4⟩:=G.cls;show mroIn K C b=_;unfold mroIn;rw[c1,zS,c2];rfl
def f_.exm(G:f_ K C bm i)(G':f_ K C' Js i')(h:(Value.ref C'::Js).contains (.type "BaseException")=true):exmOne K (.ref C) (.ref C')=some ((Value.ref C::bm).contains (.ref C')):=by
 obtain⟨cd,c1,c2,c3,c4⟩:=G'.cls;unfold exmOne;rw[G'.sub,h,bJ (by decide)]
 unfold kitCls;dsimp only;rw[bJ (by rw[c1,c4];rfl)]
 exact G.sub _
end
section
variable{X:Cx}{aa:List (ah×Obj)}{Z:St}{H:Hp}{s:ay}{C B0:ah}{R:aj->ay->Prop}
def VM{u:aj}(G:f_ X.K C (.ref B0::qc) none)(G0:f_ X.K B0 qc none)(I:Inv X aa Z H s)(h:∀h' t,(∀b o,s.heap.get? b=some o->h'.get? b=some o)->h'.get? (s.heap.objs.size+1)=some (rR C t none)->R (.ref (s.heap.objs.size+1)) { s with heap:=h'}):
  wpAny (model X.prog X.w) X.A (call (.ref C) [u]) R X.xe s:=by
 obtain⟨hh,g,d,tt,os⟩:=s;have KX:X.K.In hh:=I.jK;obtain⟨nm,q,N,bs,sn,sub,ab,col,dd,k0,k1,k2,k3,k5,on,AY,es,ep,A1,g1,g2,g3,g4⟩:=G;obtain⟨nm',q',N',bs',sn',sub',ab',col',dd',k0',k1',k2',k3',k5',on',odn',tU,nR,sln',g1',g2',g3',g4'⟩:=G0;have FB:=F.excBase_ValueError;have T:OwnTail hh qc (.ref B0::qc):=.own (KX _ _ g1') (mA:=λn=>nsFind tU n) ⟨_,_,_,KX _ _ g2',rfl,g3',λ_=>rfl⟩ g4' .base
 refine VL FB rfl FB T (KX _ _ g1) (mN:=λn=>nsFind es n) ⟨_,_,_,KX _ _ g2,rfl,g3,λ_=>rfl⟩ (by rw[sizeLine_eq];exact(by decide:1<=16777216)) λi ei=>?_
 rw[g4] at ei;subst ei;have st:∀b o,hh.get? b=some o->((hh.push { cls:=.type "tuple",data:=.seq [u].toArray}).push { cls:=.ref C,data:=.fields #[.ref hh.objs.size,.none,.none,.none,.bool false,.none]}).get? b=some o:=λb o e=>dy _ (dy _ e)
 have yN:((hh.push { cls:=.type "tuple",data:=.seq [u].toArray}).push { cls:=.ref C,data:=.fields #[.ref hh.objs.size,.none,.none,.none,.bool false,.none]}).get? (hh.objs.size+1)=some (rR C hh.objs.size none):=by unfold rR;heap_get
 refine wpAny_of_eq (FB.init.bind _) (Ek (T.keeps st) (st _ _ (KX _ _ g1)) yN λh' e1 e2=>?_)
 exact⟨rfl,h h' _ (λb o z=>e2 b o (ie (zQ (cX z))) (st b o z)) e1⟩
end
noncomputable abbrev Cx.fS(X:Cx)(pn:List (ah×Obj))(E:aj->ay->Prop):Cx:={ X with pn:=pn,xe:=E}
noncomputable abbrev Cx.eI(X:Cx)(e:aj):Cx:={ X with A:=X.A.mark (some e),calm:=false,xe:=λ_ _=>False}
structure Bq (X:Cx) (aa:List (ah×Obj)) (n:Nat):Prop where
 s:X.s₀.heap.objs.size<=n
 l:X.env.locals<n
 c:∀x c,X.env.cells.lookup x=some c->c<n
 p:∀q∈X.pn++aa,q.1<n
section
variable{X:Cx}{aa nC:List (ah×Obj)}{pn:List (ah×Obj)}{Z:St}{H:Hp}{s:ay}{E:aj->ay->Prop}{n:Nat}{ch:List ah}{h':b_}
def Cx.Ok.fS(ok:X.Ok):(X.fS pn E).Ok:=⟨ok.mod,ok.kind,ok.glob,ok.blt,ok.above,ok.inj,ok.has,ok.yp,ok.hd,ok.frames,ok.A2,ok.Gz,ok.bs,ok.rM,ok.oF,ok.qd,ok.iW,ok.uK⟩
def Cx.Ok.eO(ok:(X.fS pn E).Ok):X.Ok:=⟨ok.mod,ok.kind,ok.glob,ok.blt,ok.above,ok.inj,ok.has,ok.yp,ok.hd,ok.frames,ok.A2,ok.Gz,ok.bs,ok.rM,ok.oF,ok.qd,ok.iW,ok.uK⟩
theorem Inv.fS(I:Inv X aa Z H s):Inv (X.fS (X.pn++aa) E) [] Z H s:=⟨I.ok.fS,I.os,I.bare,I.base,I.loc,I.cell,I.free,I.eW,λp hp=>I.pin p (by rw[jW] at hp;exact hp),I.bD,I.len⟩
theorem Inv.eO(I:Inv (X.fS (X.pn++aa) E) nC Z H s):Inv X aa Z H s:=⟨I.ok.eO,I.os,I.bare,I.base,I.loc,I.cell,I.free,I.eW,λp hp=>I.pin p (Et _ hp),I.bD,I.len⟩
def Inv.eI{e:aj}(I:Inv X aa Z H s):Inv (X.eI e) aa Z H s:=
 ⟨⟨I.ok.mod,I.ok.kind,I.ok.glob,I.ok.blt,I.ok.above,I.ok.inj,I.ok.has,I.ok.yp,λz=>(nomatch z),I.ok.frames,I.ok.A2,I.ok.Gz,I.ok.bs,I.ok.rM,I.ok.oF,I.ok.qd,I.ok.iW,I.ok.uK⟩,I.os,I.bare,I.base,I.loc,I.cell,I.free,I.eW,I.pin,I.bD,I.len⟩
def Inv.eY{e:aj}(I:Inv (X.eI e) aa Z H s)(hd:X.calm=true->X.A.handled=none):Inv X aa Z H s:=
 ⟨⟨I.ok.mod,I.ok.kind,I.ok.glob,I.ok.blt,I.ok.above,I.ok.inj,I.ok.has,I.ok.yp,hd,I.ok.frames,I.ok.A2,I.ok.Gz,I.ok.bs,I.ok.rM,I.ok.oF,I.ok.qd,I.ok.iW,I.ok.uK⟩,I.os,I.bare,I.base,I.loc,I.cell,I.free,I.eW,I.pin,I.bD,I.len⟩
def Inv.Sy(I:Inv X aa Z H s):Bq X aa s.heap.objs.size:=⟨I.sz,I.lt,λx c e=>by obtain⟨v,o,ho,_⟩:=I.cell x c e;exact cX ho,λq hq=>cX (I.pin q hq).1⟩
def Bq.far(y:Bq X aa n){b:ah}(h:n<=b):(b∈X.ex\/X.s₀.heap.objs.size<=b)/\b≠X.env.locals/\(∀x c,X.env.cells.lookup x=some c->c≠b)/\∀p∈X.pn++aa,p.1≠b:=
 ⟨.inr (ju y.s h),λz=>cR (gK y.l h) (z ▸ jV _),λx c e z=>cR (gK (y.c x c e) h) (z ▸ jV _),λp hp z=>cR (gK (y.p p hp) h) (z ▸ jV _)⟩
def gb.un{fs:List ah}{h:b_}(l:gb fs ch h h'):Un fs ch H H h h':=
 ⟨λb o g _ hb hx=>l.keep b o hb hx g,λb o g _ hb hx=>l.slot b o hb hx g,λ_ _ _ n _=>n,λb o g hx=>let ⟨_,g2⟩:=l.any g hx;⟨_,g2⟩,λ_ _ q=>q,λ_ _ _ q=>q,λ_ ps q=>⟨#[],by rw[q];simp⟩⟩
def Inv.left{t':Nat}(I:Inv X aa Z H s)(y:Bq X aa n)(l:gb (km X.stack) ch s.heap h')(kL:∀b∈ch,n<=b/\H b=none):Inv X aa Z H { s with heap:=h',toks:=t'}:=
 I.call (g':=s.gens) (d':=s.drawn) (ch:=ch) l.un (l.bD I.bD I.jT λb m=>(kL b m).2) I.bare λb m=>y.far (kL b m).1
def VN{M:Model}{A:c8}{e C:ah}{dx:ai ah}{Q:Unit->ay->Prop}(fl:iQ n s.heap H e C dx)(h:∀h' ch,(∀b∈ch,n<=b/\H b=none)->gb (km X.stack) ch s.heap h'->iQ n h' H e C dx->Q () { s with heap:=h'}):wpAny M A (setFlight (.ref e) none) Q E s:=by
 obtain⟨gP,tW,oe,vs,he,hc,hx,hd,hsz,h1⟩:=fl;unfold setFlight;rcases h1 with h1|⟨T,oT,ts,h1,GX,GI,GK,hT,CY,h3⟩
 .refine aE (wpAny_field he hd h1 ?_);rw[br (by decide)]
  exact aY (h s.heap [] (λ_ z=>nomatch z) ⟨λ_ _ _ _ g=>g,λ_ o _ _ g=>⟨o.slots,g⟩⟩ ⟨gP,tW,oe,vs,he,hc,hx,hd,hsz,.inl h1⟩)
 .refine aE (wpAny_field he hd h1 ?_);rw[bJ (show(Value.ref T != Value.none)=true by simp)]
  have l3:3<ts.size:=(Bb.mp h3).1;have dT:=Obj.data_mapFields CY (·.setIfInBounds 3 ((none:ai ah).elim Value.none λf=>rawInt f))
  refine wpAny_setField hT CY l3 (h _ [T] (λb m=>by cases lL.1 m;exact⟨GX,GI⟩) ⟨λb o _ hb g=>(oJ _ _ (by simpa using Ne.symm (by simpa using hb:b≠T))).trans g,λb o _ hb g=>⟨o.slots,(oJ _ _ (by simpa using Ne.symm (by simpa using hb:b≠T))).trans g⟩⟩ ⟨gP,tW,oe,vs,(oJ _ _ GK).trans he,hc,hx,hd,hsz,.inr ⟨T,_,_,h1,GX,GI,GK,qI _ hT (Obj.isFreed_of_fields dT),dT,by simp[Array.getElem?_setIfInBounds,l3]⟩⟩)
end
end L2
namespace L2
open PySem PySem.Spec PyProof.Rows
variable{P:dB}{w:cI}{K:aL}{tg l:Expr}{X:Cx}{ta:TA}{p pos:Pos}{Q:ai aj->ay->Prop}{n t' x1:Nat}{ob:Obj}{L:List ah}{elts:List Expr}{it:ah}
def rh(K:aL)(a:ah)(n:Nat):It:=
 ⟨λi H=>i<n/\∃xs,dr K H a xs/\xs.length=n,λi H x H'=>H'=H/\∀xs,dr K H a xs->xs[n - 1 - i]?=some x,λi H=>n<=i⟩
def VO(a it:ah)(n:Nat):Turn P w K tg (rh K a n) [it] it (λi h=>i<=n/\h.IsRevIter it a ((n:Int) - 1 - i)) where
 mem:=by simp
 obj:=λi h st b hb=>by
  have e:b=it:=by simpa using hb
  subst e;obtain⟨_,o,e,c,d⟩:=st
  simp_all
 keep:=λi h h' st k=>⟨st.1,st.2.at λo e=>k it (by simp) o e⟩
 item:=by
  intro X hP hw hK hc i aa s Z H E I hf st hg;subst hP hw hK;obtain⟨hi,xs,hq,hx⟩:=hg;obtain⟨aH,rv,p,hz⟩:=I.list hq;have t5:xs[n - 1 - i]?=some xs[n - 1 - i]:=g7 (by lia)
  obtain⟨u,hu,ru⟩:=rv.get t5;obtain⟨f0,f1,f2,f3,f4,f5⟩:=hf it (by simp)
  have nY:s.heap.IsRevIter it a (((n - 1 - i:Nat):Int)):=by
   lia
  refine wpAny_pyNext_rev_item nY p.isList (x:=u) (by simpa using hu) λh' iM sb=>?_
  have I1:Inv X aa Z H { s with heap:=h'}:=I.turned (t':=s.toks) (λb o hb e=>(sb.2 b hb).trans e) f0 f1 f3 f4 f5
  obtain⟨o,e,c,d⟩:=id iM;refine⟨u,rfl,vP (s:={ s with heap:=h'}) e c d (by decide) ⟨_,H,I1,ru,⟨rfl,λys hy=>by rw[I.kA hy hq];exact t5⟩,⟨by lia,?_⟩,λb hb=>(hf b hb).1⟩⟩
  grind
 done:=by
  intro X hP hw hK hc i aa s Z H E I hf st hg;subst hP hw hK;obtain⟨f0,f1,f2,f3,f4,f5⟩:=hf it (by simp)
  have hg:n<=i:=hg;have nY:s.heap.IsRevIter it a (-1):=by
   grind
  exact wpAny_pyNext_rev_end (I.ok.hd hc) nY λh' eb=>⟨rfl,I.turned (t':=s.toks) (λb o hb e=>eb b o hb e) f0 f1 f3 f4 f5⟩
 self:=λ_ _ _ _ _ st h=>wpAny_pyIter_revIter st.2 h
def Dh(K:aL)(ta:TA):TI:=λZ H R=>ta Z H λvs H1=>∃a xs,vs=[.ref a]/\dr K H1 a xs/\R (rh K a xs.length) H1
def e3b(hg:Gl X "reversed")(hm:X.mg "reversed"=none)(ha:PA X [l] ta)(hs:starEach [l] X.env=[(false,eval l X.env)]:=by rfl):PI X tg (.Call (.Name "reversed" p) [l] [] pos) (Dh X.K ta):=by
 intro aa s Z H R I h;refine Call_ (vI I hg hm boot_reversed (PyProof.Rows.callWith_type1 (bP (ha pos aa s Z H _ I h) λus s1 hh=>?_) hs rfl))
 obtain⟨vs,H1,I1,r1,q1⟩:=hh;obtain⟨a,xs,e,hq,q⟩:=q1;subst e;cases r1 with
 |cons r rr=>
  cases rr;cases r;obtain⟨aH,rv,pl,hz⟩:=I1.list hq;have hl:=rv.length;refine call_reversed_list pl.isList ?_;have st:(s1.heap.push (revObj a ((aH.toArray.size:Int) - 1))).IsRevIter s1.heap.objs.size a ((aH.toArray.size:Int) - 1):=⟨_,i_ _ rfl,rfl,rfl⟩;refine wpAny_pyIter_revIter st ?_;refine⟨s1.heap.objs.size,[s1.heap.objs.size],_,_,H1,rfl,I1.kept (t':=s1.toks) λb o e=>dy _ e,VO a _ xs.length,⟨k_ _,?_⟩,λb hb=>?_,q⟩
  .simp_all
  .have e:b=s1.heap.objs.size:=by simpa using hb
   subst e;exact I1.kl (cv _) (I1.bD.fresh (cv _))
section
variable{X:Cx}{aa:List (ah×Obj)}{Z:St}{H:Hp}{A:c8}{E:aj->ay->Prop}{s:ay}{d it:ah}{es:List (TK×V×V)}{ep i:Nat}
theorem Oh{Q:aj->ay->Prop}(I:Inv X aa Z H s)(hd:H d=some (.dG es ep))
  (hQ:Q (.ref s.heap.objs.size) { s with heap:=s.heap.push { cls:=.type "dict_keyiterator",data:=.fields #[.ref d,.int 0 0,.int es.length 0,.int ep 0]}}):wpAny (model X.prog X.w) A (pyIter (.ref d)) Q E s:=by
 obtain⟨_,z,ob,xs,g1,g5,g2,g3,g4⟩:=(show bH X.prog X.w H s.heap d (.dG es ep) from I.bD d _ hd);have hT:s.TypeIs (.ref d) "dict":=⟨ob,g1,g5.1⟩;have hl:xs.size=es.length:=by have:=Paired.length g3;simpa using this.symm
 refine wpAny_pyIter_slot hT F.slot_dict_iter (wpAny_call_entry F.slot_dict_iter hT F.entry_dict_iter ?_ (F.args_dict_iter_1 _));unfold Builtin.«dict.__iter__»;refine aE ?_;unfold Builtin.Dict.dictSlotNone;refine aE (wpAny_notOrdered_dict hT (show wpAny _ _ (pure (Value.ref d)) _ _ s from aY (show wpAny _ _ (Builtin.Dict.showsAll d >>= _) _ _ s from ?_)));unfold Builtin.Dict.showsAll;rw[br (by rw[z];exact qF)]
 refine aE (aY (aE (wpAny_dictEntries g1 g2 (aE (wpAny_dictEpoch g1 g2 ?_)))));refine aE (wpAny_newObj_type (aY ⟨_,rfl,"dict_keyiterator",_,⟨_,i_ _ rfl,rfl⟩,F.slot_dict_keyiterator_next.lookup,?_⟩));simpa[rawInt,hl] using hQ
theorem Nm{xs:Array DictEntry}(g1:s.heap.get? d=some ob)(g2:ob.data=.dict xs ep)(hl:xs.size=n)(hit:s.heap.IsKeyIter it d i n ep)(lt':i<xs.size)
  (hQ:∀h',h'.IsKeyIter it d (i+1) n ep->Heap.SameBut it s.heap h'->Q (some xs[i].key) { s with heap:=h'}):wpAny (model P w) A (pyNext (.ref it)) Q E s:=by
 obtain⟨o,k1,k2,k3⟩:=id hit;unfold pyNext;refine aE (wpAny_attempt (wpAny_callSpecial?_slot (name:=Str.ofString "__next__") hit.typeIs F.slot_dict_keyiterator_next (wpAny_call_entry F.slot_dict_keyiterator_next hit.typeIs F.entry_dict_keyiterator_next (aE (aY (aE (aE ?_)))) (F.args_dict_keyiterator_next_1 _))))
 (first|refine aE (wpAny_typeNameOfWhole_keyiter hit.typeIs (aY ?_))|refine aE (wpAny_typeNameOf_keyiter hit.typeIs (aY ?_)));refine aE (wpAny_fieldsOf k1 k3 ?_)
 have zu:Builtin.Dict_items.ownsTuple "dict_keyiterator"=false:=by decide
 rw[zu]
 (show wpAny _ _ (if(Value.ref d == Value.none)=true then _ else _) _ _ s);rw[br (show ¬((Value.ref d == Value.none)=true) from qF)]
 refine aE (aY (aE (wpAny_dictEntries g1 g2 ?_)));rw[br (by rw[hl];simp)]
 refine aE (aY (aE (wpAny_dictEpoch g1 g2 ?_)));rw[br (by simp)]
 refine aY ?_;dsimp only;rw[br (show ¬((i:Int)<0) by lia),Mo,ue lt']
 refine aE ?_
 (first|refine aE (wpAny_typeNameOfWhole_keyiter hit.typeIs (aY ?_))|refine aE (wpAny_typeNameOf_keyiter hit.typeIs (aY ?_)));refine aE (wpAny_isOneOf_keyiter hit.typeIs ?_)
 (show wpAny _ _ (setField (.ref it) 1 (rawInt ((i:Int)+1)) >>= _) _ _ s);refine aE (wpAny_setField k1 k3 (by simp) ?_)
 have C3:(s.heap.update it (Obj.mapFields (·.setIfInBounds 1 (rawInt ((i:Int)+1))))).IsKeyIter it d (i+1) n ep:=
  ⟨_,qI _ k1 (Obj.isFreed_of_fields (Obj.data_mapFields k3 _)),(Obj.cls_mapFields ..).trans k2,by rw[Obj.data_mapFields k3];simp[rawInt]⟩
 refine aE (kK (aE (wpAny_isOneOf_keyiter (s:={ s with heap:=s.heap.update it (Obj.mapFields (·.setIfInBounds 1 (rawInt ((i:Int)+1))))}) C3.typeIs ?_)))
 show wpAny _ _ (pure xs[i].key) _ _ _;exact aY (aY ⟨_,rfl,aY (hQ _ C3 (Heap.SameBut.update ..))⟩)
def Tr(I:Inv X aa Z H s)(hd:H d=some (.dG es ep))(hit:s.heap.IsKeyIter it d i es.length ep){e:TK×V×V}(hx:es[i]?=some e)
  (hQ:∀key h',RelV e.2.1 key->h'.IsKeyIter it d (i+1) es.length ep->Heap.SameBut it s.heap h'->Q (some key) { s with heap:=h'}):wpAny (model X.prog X.w) A (pyNext (.ref it)) Q E s:=by
 obtain⟨_,z,ob,xs,g1,g5,g2,g3,g4⟩:=(show bH X.prog X.w H s.heap d (.dG es ep) from I.bD d _ hd);have hl:xs.size=es.length:=by have:=Paired.length g3;simpa using this.symm
 obtain⟨x,x1,x2⟩:=Fi i g3 hx;have lt':i<xs.size:=by
  grind
 have ex:xs[i]=x:=by
  have:xs[i]?=some x:=by rw[<-w9];exact x1
  rw[ue lt'] at this;exact Option.some.inj this
 exact Nm g1 g2 hl hit lt' λh' AR sb=>hQ _ h' (by rw[ex];exact x2.2.1) AR sb
theorem NM{xs:Array DictEntry}(hh:A.handled=none)(g1:s.heap.get? d=some ob)(g2:ob.data=.dict xs ep)(hl:xs.size=n)(hit:s.heap.IsKeyIter it d i n ep)(hx:n<=i)
  (hQ:∀h',Heap.ExtBut it s.heap h'->Q none { s with heap:=h'}):wpAny (model P w) A (pyNext (.ref it)) Q E s:=by
 obtain⟨o,k1,k2,k3⟩:=id hit;unfold pyNext;refine aE (wpAny_attempt (wpAny_callSpecial?_slot (name:=Str.ofString "__next__") hit.typeIs F.slot_dict_keyiterator_next (wpAny_call_entry F.slot_dict_keyiterator_next hit.typeIs F.entry_dict_keyiterator_next (aE (aY (aE (aE ?_)))) (F.args_dict_keyiterator_next_1 _))))
 (first|refine aE (wpAny_typeNameOfWhole_keyiter hit.typeIs (aY ?_))|refine aE (wpAny_typeNameOf_keyiter hit.typeIs (aY ?_)));refine aE (wpAny_fieldsOf k1 k3 ?_)
 have zu:Builtin.Dict_items.ownsTuple "dict_keyiterator"=false:=by decide
 rw[zu]
 (show wpAny _ _ (if(Value.ref d == Value.none)=true then _ else _) _ _ s);rw[br (show ¬((Value.ref d == Value.none)=true) from qF)]
 refine aE (aY (aE (wpAny_dictEntries g1 g2 ?_)));rw[br (by rw[hl];simp)]
 refine aE (aY (aE (wpAny_dictEpoch g1 g2 ?_)));rw[br (by simp)]
 refine aY ?_;have hge:xs.size<=i:=by lia
 dsimp only;rw[br (show ¬((i:Int)<0) by lia),Mo,Array.getElem?_eq_none hge]
 refine aE ?_
 (first|refine aE (wpAny_typeNameOfWhole_keyiter hit.typeIs (aY ?_))|refine aE (wpAny_typeNameOf_keyiter hit.typeIs (aY ?_)));(show wpAny _ _ (setField (.ref it) 0 .none >>= _) _ _ s);refine aE (wpAny_setField k1 k3 (by simp) ?_)
 (show wpAny _ _ (newExc (.type "StopIteration") [] >>= _) _ _ _);refine aE ?_
 simp only[newExc,newTuple];refine aE (wpAny_newObj_type (aE (m:=firstArgMember _ _) (wpAny_of_eq (a:=Value.none) (by first|rfl|(simp only[firstArgMember];rfl)) (wpAny_newObj_type ?_ (by size_fits)))) (by size_fits))
 refine aE (wpAny_handled ?_);rw[show A.in1.handled=none from hh]
 (refine aE (aY (wpAny_throw ?_)));refine aE (wpAny_isInstance (T:="StopIteration") (b:=true) ⟨_,i_ _ rfl,rfl⟩ isSubtype_stop ?_)
 exact aY (hQ _ (((Heap.SameBut.update ..).extBut.push _).push _))
def Ut(hh:A.handled=none)(I:Inv X aa Z H s)(hd:H d=some (.dG es ep))(hit:s.heap.IsKeyIter it d i es.length ep)(hx:es.length<=i)
  (hQ:∀h',Heap.ExtBut it s.heap h'->Q none { s with heap:=h'}):wpAny (model X.prog X.w) A (pyNext (.ref it)) Q E s:=by
 obtain⟨_,z,ob,xs,g1,g5,g2,g3,g4⟩:=(show bH X.prog X.w H s.heap d (.dG es ep) from I.bD d _ hd);exact NM hh g1 g2 (by have:=Paired.length g3;simpa using this.symm) hit hx hQ
end
def Hw(a:ah)(n ep:Nat):It:=
 ⟨λi H=>∃es,H a=some (.dG es ep)/\es.length=n/\i<n,λi H x H'=>H'=H/\∀es,H a=some (.dG es ep)->∃e,es[i]?=some e/\e.2.1=x,λi H=>∃es,H a=some (.dG es ep)/\es.length=n/\n<=i⟩
def Uu(a it:ah)(n ep:Nat):Turn P w K tg (Hw a n ep) [it] it (λi h=>h.IsKeyIter it a i n ep) where
 mem:=by simp
 obj:=λi h st b hb=>by
  have e:b=it:=by simpa using hb
  subst e;obtain⟨o,e,c,d⟩:=st
  simp_all
 keep:=λi h h' st k=>st.at λo e=>k it (by simp) o e
 item:=by
  intro X hP hw hK hc i aa s Z H E I hf st hg;subst hP hw hK;obtain⟨es,hd,hl,hi⟩:=hg;subst hl;obtain⟨f0,f1,f2,f3,f4,f5⟩:=hf it (by simp)
  refine Tr I hd st (e:=es[i]) (g7 hi) λkey h' rk iM sb=>?_
  have I1:Inv X aa Z H { s with heap:=h'}:=I.turned (t':=s.toks) (λb o hb e=>(sb.2 b hb).trans e) f0 f1 f3 f4 f5
  obtain⟨o,e,c,d⟩:=id iM;refine⟨key,rfl,vP (s:={ s with heap:=h'}) e c d (by decide) ⟨es[i].2.1,H,I1,rk,⟨rfl,λys hy=>?_⟩,iM,λb hb=>(hf b hb).1⟩⟩
  simp_all
 done:=by
  intro X hP hw hK hc i aa s Z H E I hf st hg;subst hP hw hK;obtain⟨es,hd,hl,hi⟩:=hg;subst hl;obtain⟨f0,f1,f2,f3,f4,f5⟩:=hf it (by simp)
  exact Ut (I.ok.hd hc) I hd st hi λh' eb=>⟨rfl,I.turned (t':=s.toks) (λb o hb e=>eb b o hb e) f0 f1 f3 f4 f5⟩
 self:=λ_ _ _ _ _ st h=>wpAny_pyIter_keyiter st h
def vZ(tl:TE):TI:=λZ H R=>tl Z H λx H1=>∃a es ep,x=.ref a/\H1 a=some (.dG es ep)/\R (Hw a es.length ep) H1
def XM{tl:TE}(hl:PE X l tl):PI X tg l (vZ tl):=by
 intro aa s Z H R I h;refine bP (hl aa s Z H _ I h) λv s1 hh=>?_
 obtain⟨x,H1,I1,r1,q1⟩:=hh;obtain⟨a,es,ep,e,hd,q⟩:=q1;subst e;cases r1;refine Oh I1 hd ?_;refine⟨s1.heap.objs.size,[s1.heap.objs.size],_,_,H1,rfl,I1.kept (t':=s1.toks) λb o e=>dy _ e,Uu a _ _ _,⟨_,i_ _ rfl,rfl,rfl⟩,λb hb=>?_,q⟩
 have e:b=s1.heap.objs.size:=by simpa using hb
 subst e;exact I1.kl (cv _) (I1.bD.fresh (cv _))
def JW{w1 w2:TI}(h1:PI X tg l w1)(h2:PI X tg l w2):PI X tg l (λZ H R=>w1 Z H R\/w2 Z H R):=by
 intro aa s Z H R I h;rcases h with h|h
 .exact h1 aa s Z H R I h
 .exact h2 aa s Z H R I h
open PySem PySem.Spec PyProof.Rows
section
variable{X:Cx}{aa:List (ah×Obj)}{Z:List (ai V)}{H:Hp}{s:ay}{h':b_}
def Inv.vm{T:ah}{o:HO}(I:Inv X aa Z H s)(k:∀b ob,b∉L->s.heap.get? b=some ob->h'.get? b=some ob)(hL:∀b∈L,ji X aa H b)(hT:s.heap.objs.size<=T)
  (new:bH X.prog X.w (upd H T o) h' T o):Inv X aa Z (upd H T o) { s with heap:=h',toks:=t'}:=by
 have hn:H T=none:=I.bD.fresh hT;have nL:∀b u,H b=some u->b∉L:=λb u e z=>by rw[(hL b z).1] at e;cases e
 have nT:∀b u,H b=some u->b≠T:=λb u e z=>by rw[z,hn] at e;cases e
 refine I.step (g':=s.gens) (d':=s.drawn) (ch:=L) (λb hb=>?_) (λb ob _ _ hc e _=>k b ob hc e) (λb ob _ _ hc e _=>⟨ob.slots,k b ob hc e⟩) (λb ob _ e n=>?_)
  (λb ob hc e=>⟨ob,k b ob hc e⟩) (λb xs e=>?_) (λb ob u e=>?_) (λb ps e=>⟨#[],?_⟩) (λm hm=>?_) (λb u e=>?_) I.bare
 .obtain⟨f0,f1,f2,f3,f4,f5⟩:=hL b hb;exact⟨f3,f1,f4,f5⟩
 .rw[dI (λz=>by subst z;exact cR (gK (cX e) hT) (jV _))];exact n
 .rw[dI (nT b _ e)];exact e
 .rw[dI (nT b _ e)];exact e
 .rw[dI (nT b _ e),e];simp
 .obtain⟨ob,es,ep,ho,r⟩:=hm;exact⟨ob,es,ep,k _ ob (λz=>(hL _ z).2.1 rfl) ho,r⟩
 .by_cases hb:b=T
  .grind [aK]
  .rw[dI hb] at e;refine(I.bD b u e).mH (λc v hc q=>k c v ?_ q) (λc q=>by rw[dI (nT c _ q)];exact q) λc xs q=>by rw[dI (nT c _ q)];exact q
   grind
def Inv.Ec(I:Inv X aa Z H s)(k:∀b ob,b∉L->s.heap.get? b=some ob->h'.get? b=some ob)(hL:∀b∈L,ji X aa H b):Inv X aa Z H { s with heap:=h',toks:=t'}:=by
 have nL:∀b u,H b=some u->b∉L:=λb u e z=>by rw[(hL b z).1] at e;cases e
 refine I.step (g':=s.gens) (d':=s.drawn) (ch:=L) (λb hb=>?_) (λb ob _ _ hc e _=>k b ob hc e) (λb ob _ _ hc e _=>⟨ob.slots,k b ob hc e⟩) (λb ob _ e n=>n)
  (λb ob hc e=>⟨ob,k b ob hc e⟩) (λb xs e=>e) (λb ob u e=>e) (λb ps e=>⟨#[],by rw[e];simp⟩) (λm hm=>?_) (λb u e=>?_) I.bare
 .obtain⟨f0,f1,f2,f3,f4,f5⟩:=hL b hb;exact⟨f3,f1,f4,f5⟩
 .obtain⟨ob,es,ep,ho,r⟩:=hm;exact⟨ob,es,ep,k _ ob (λz=>(hL _ z).2.1 rfl) ho,r⟩
 .refine(I.bD b u e).mH (λc v hc q=>k c v ?_ q) (λc q=>q) λc xs q=>q
  grind
end
def zZ(Src:Hp->Prop)(n:Nat)(val:Nat->List V->Prop):It:=
 ⟨λi H=>i<n/\Src H,λi H x H'=>∃p ws,x=.ref p/\H p=none/\val i ws/\H'=upd H p (.tup ws),λi H=>n<=i/\Src H⟩
def NN{FP wr:List ah}{Src:Hp->Prop}{val:Nat->List V->Prop}{tn:Nat->b_->Prop}(mem:it∈FP)(sub:∀b∈wr,b∈FP)
  (obj:∀i h,tn i h->∀b∈FP,∃o,h.get? b=some o/\∀v,o.data≠.cell v) (keep:∀i h h',tn i h->(∀b∈FP,∀o,h.get? b=some o->h'.get? b=some o)->tn i h')
  (hW:∀X,X.prog=P->X.w=w->X.K=K->X.calm=true->∀aa s Z H,Inv X aa Z H s->Src H->∃Kc Pt St Hz,WalksT P w X.A it Kc wr n Pt St Hz/\(∀i,tn i s.heap->St i s.heap)/\(∀i h,St i h->tn i h)/\∀i vals,Pt i vals->∃ws,val i ws/\Vals ws vals.toList/\ws.length<=10)
  (self:∀A i s Q E,tn i s.heap->Q (.ref it) s->wpAny (model P w) A (pyIter (.ref it)) Q E s) :
  Turn P w K (.Tuple elts x1 pos) (zZ Src n val) FP it (λi h=>i<=n/\tn i h) where
 mem:=mem
 obj:=λi h st=>obj i h st.2
 keep:=λi h h' st k=>⟨st.1,keep i h h' st.2 k⟩
 item:=by
  intro X hP hw hK hc i aa s Z H E I hf st hg;obtain⟨Kc,Pt,St,Hz,W,toSt,DE,pv⟩:=hW X hP hw hK hc aa s Z H I hg.2;subst hP hw hK;refine W.item i s _ E hg.1 (toSt i st.2) λT vals h1 tk hPt hsz Ko CU hk1=>?_
  refine⟨.ref T,rfl,W.go elts x1 pos i T _ _ E CU λh2 hSt RQ=>?_⟩
  obtain⟨ws,hv,rv,GZ⟩:=pv i vals hPt;have Km:IsTup h2 T vals:=by
   obtain⟨o,e,c⟩:=Ko;exact⟨o,RQ T o (W.apart i T h1 CU) e,c⟩
  have hn:H T=none:=I.bD.fresh hsz;have I2:Inv X aa Z (upd H T (.tup ws)) { s with heap:=h2,toks:=tk}:=I.vm (L:=wr) (λb ob hb e=>RQ b ob hb (hk1 b ob hb e)) (λb hb=>hf b (sub b hb)) hsz ⟨by rw[sizeLine_eq];lia,vals.toList,rv,by simpa using Km⟩
  refine⟨.ref T,_,I2,rfl,⟨T,ws,rfl,hn,hv,rfl⟩,⟨by have:=hg.1;lia,DE _ _ hSt⟩,λb hb=>?_⟩
  have hb0:=(hf b hb).1;rw[dI]
  .exact hb0
  .intro z;subst z;obtain⟨o,e,_⟩:=obj i s.heap st.2 b hb;exact cR (gK (cX e) hsz) (jV _)
 done:=by
  intro X hP hw hK hc i aa s Z H E I hf st hg;obtain⟨Kc,Pt,St,Hz,W,toSt,DE,pv⟩:=hW X hP hw hK hc aa s Z H I hg.2;subst hP hw hK;have ei:i=n:=by have:=hg.1;have:=st.1;lia
  subst ei;exact W.done s _ E (toSt i st.2) λh2 tk hk=>⟨rfl,I.Ec (L:=wr) (λb ob hb e=>hk b ob hb e) λb hb=>hf b (sub b hb)⟩
 self:=λA i s Q E st h=>self A i s Q E st.2 h
theorem VP{h:b_}{a l:ah}{i:Nat}(p:h.IsListIter a l i):∃o,h.get? a=some o/\∀v,o.data≠.cell v:=by
 obtain⟨o,e,_,d⟩:=p
 simp_all
def Eg(xs:List V)(i:Nat)(ws:List V):Prop:=∃x,xs[i]?=some x/\ws=[.int i,x]
def Uv{e l:ah}(n1:e≠it)(n2:l≠e)(n3:l≠it)(xs:List V):
  Turn P w K (.Tuple elts x1 pos) (zZ (λH=>dr K H l xs) xs.length (Eg xs)) [e,it] e (λi h=>i<=xs.length/\((∃old,IsEnum h e it (i:Int) old)/\h.IsListIter it l i)):=by
 refine NN (FP:=[e,it]) (wr:=[e,it]) (by simp) (λb hb=>hb) (λi h st b hb=>?_) (λi h h' st k=>?_) (λX hP hw hK hc aa s Z H I hS=>?_) (λA i s Q E st h=>?_)
 .grind [VP]
 .obtain⟨⟨old,s1⟩,s2⟩:=st;exact⟨⟨old,k e (by simp) _ s1⟩,s2.at λo q=>k it (by simp) o q⟩
 .subst hP hw hK;obtain⟨uS,LF,p1,_⟩:=I.list hS;have e1:=LF.length;have W:=WalksT.enumerate (prog:=X.prog) (w:=X.w) (A:=X.A) (I.ok.hd hc) e it l n1 n2 n3 uS.toArray;rw[show uS.toArray.size=xs.length by rw[fK,<-e1]] at W
  refine⟨_,_,_,_,W,λi st=>?_,λi h st=>?_,λi vals hp=>?_⟩
  .exact⟨st.1,st.2,p1.isList⟩
  .simp_all
  .obtain⟨t,u,hu,rfl⟩:=hp;have hu:uS[i]?=some u:=by simpa using hu
   have RO:i<xs.length:=by have:=(eQ.mp hu).1;lia
   obtain⟨u',sk,ru⟩:=LF.get (g7 RO);rw[hu] at sk;cases sk;exact⟨[.int i,xs[i]],⟨_,g7 RO,rfl⟩,.cons ⟨t,rfl⟩ (.cons ru .nil),by show 2<=10;decide⟩
 .obtain⟨old,s1⟩:=st.1;exact wpAny_pyIter_enum s1 h
def v3(K:aL)(ta:TA):TI:=λZ H R=>ta Z H λvs H1=>∃a xs,vs=[.ref a]/\dr K H1 a xs/\R (zZ (λH=>dr K H a xs) xs.length (Eg xs)) H1
def XN{fY:Pos}{a:Expr}(hg:Gl X "enumerate")(hm:X.mg "enumerate"=none)(ha:PA X [a] ta)(hs:starEach [a] X.env=[(false,eval a X.env)]:=by rfl):
  PI X (.Tuple elts x1 fY) (.Call (.Name "enumerate" p) [a] [] pos) (v3 X.K ta):=by
 intro aa s Z H R I h;refine Call_ (vI I hg hm PyProof.Rows.Boot.enumerate (PyProof.Rows.callWith_type1 (bP (ha pos aa s Z H _ I h) λus s1 hh=>?_) hs rfl))
 obtain⟨vs,H1,I1,r1,q1⟩:=hh;obtain⟨l1,xs,e,hq1,q⟩:=q1;subst e;cases r1 with
 |cons r rr=>
  cases rr;cases r;obtain⟨uS,LF,p1,_⟩:=I1.list hq1;refine call_enumerate_list p1.isList λh' z1 z2 z3 z4=>?_
  have L1:l1<s1.heap.objs.size:=by obtain⟨o,n,e,_⟩:=p1;exact cX e
  refine wpAny_pyIter_enum z1 ?_;refine⟨s1.heap.objs.size+1,[s1.heap.objs.size+1,s1.heap.objs.size],_,_,H1,rfl,I1.kept (t':=s1.toks) z4,Uv (e:=s1.heap.objs.size+1) (it:=s1.heap.objs.size) (l:=l1) (wW (by lia)) (ie (gK L1 (Ho _ _))) (ie L1) xs,⟨k_ _,⟨_,z1⟩,z2⟩,λb hb=>?_,q⟩
  simp only[y09,y19,or_false] at hb;have l_:s1.heap.objs.size<=b:=by rcases hb with rfl|rfl <;> lia
  exact I1.kl l_ (I1.bD.fresh l_)
noncomputable def gA(i j:Int):Nat:=((j - i+1) / 2).toNat
def MR(i j:Int):Builtin.Range.rangeSize i j 2=(gA i j:Nat):=by
 grind [PySem.Builtin.Range.rangeSize,gA]
def Uw{i j:Int}(h1:-(2^20)<=i)(h2:i<2^20)(h3:-(2^20)<=j)(h4:j<2^20):Builtin.Range.small i j 2=true:=by
 have:=MR i j;unfold gA at this;unfold Builtin.Range.small;rw[this];simp only[Builtin.Range.rangeFitsLong,jU,Bool.or_eq_true,decide_eq_true_eq,beq_iff_eq,show(2:Int) > 0 by decide,pJ]
 lia
section
variable{X:Cx}{pos p:Pos}{tg a b c:Expr}
def v8(ta:TA):TI:=λZ H R=>ta Z H λvs H1=>∃i j:Int,vs=[.int i,.int j,.int 2]/\(-(2^20)<=i/\i<2^20 /\ -(2^20)<=j/\j<2^20)/\R (Hv i 2 (gA i j)) H1
def Ux(hg:Gl X "range")(hm:X.mg "range"=none)(ha:PA X [a,b,c] ta)(hs:starEach [a,b,c] X.env=[(false,eval a X.env),(false,eval b X.env),(false,eval c X.env)]:=by rfl)
  (yU:starEach [b,c] X.env=[(false,eval b X.env),(false,eval c X.env)]:=by rfl):PI X tg (.Call (.Name "range" p) [a,b,c] [] pos) (v8 ta):=by
 intro aa s Z H R I h;refine Call_ (vI I hg hm boot_range (PyProof.Rows.callWith_type1 (bP (ha pos aa s Z H _ I h) λus s1 ⟨vs,H1,I1,r1,q1⟩=>?_) (by rw[hs,yU]) (by rw[yU];rfl)))
 obtain⟨i,j,e,⟨q1,q2,q3,q4⟩,q⟩:=q1;subst e;cases r1 with
 |cons r rr=>
  cases rr with
  |cons r' rr=>
   cases rr with
   |cons r'' rr=>
    cases rr;obtain⟨t,rfl⟩:=r;obtain⟨t',rfl⟩:=r';obtain⟨A3,rfl⟩:=r'';refine call_range_3 (by decide) ?_ (Or.inl (PyProof.noPylong_small (by lia)))
    refine wpAny_pyIter_range (IsRange.new ..) (Uw q1 q2 q3 q4) ?_;have I2:Inv X aa Z H1 { s1 with heap:=s1.heap.push { cls:=.type "range",data:=.fields #[.int i t,.int j t',.int 2 A3]}}:=I1.kept (t':=s1.toks) λb o e=>dy _ e
    refine⟨(s1.heap.push { cls:=.type "range",data:=.fields #[.int i t,.int j t',.int 2 A3]}).objs.size,[(s1.heap.push { cls:=.type "range",data:=.fields #[.int i t,.int j t',.int 2 A3]}).objs.size],_,_,H1,rfl,I2.kept (t':=s1.toks) λb o e=>dy _ e,Tb _ i 2 (gA i j),?_,λb hb=>?_,q⟩
    .have e1:i+((0:Nat):Int)*2=i:=by simp
     have e2:((gA i j:Nat):Int) - ((0:Nat):Int)=Builtin.Range.rangeSize i j 2:=by rw[MR];lia
     show IsRangeIter _ _ (i+((0:Nat):Int)*2) (((gA i j:Nat):Int) - ((0:Nat):Int)) 2;rw[e1,e2];exact i_ _ rfl
    .have e:b=(s1.heap.push { cls:=.type "range",data:=.fields #[.int i t,.int j t',.int 2 A3]}).objs.size:=by simpa using hb
     subst e;exact I2.kl (cv _) (I2.bD.fresh (cv _))
end
end L2
set_option autoImplicit false
namespace L2
open PySem PySem.Spec PyProof.Rows
variable{a:ah}{c lo i j:Int}{k:Kn}{q:Nat}{H H':Hp}
def Kept(q:Nat)(H H':Hp):Prop:=∀a o,uU q o=true->H a=some o->H' a=some o
def jk(K:aL)(k:Kn)(H:Hp)(q:Nat)(x:V):D->Prop
 |.lst ds=>∃a ws,x=.ref a/\ag K k ws ds/\∀H',aB k.F H'->Kept q H H'->dr K H' a ws
 |.tup ds=>∃a ws,x=.ref a/\ag K k ws ds/\∀H',aB k.F H'->Kept q H H'->iI K H' a ws
 |.aA kvs=>∃a es ep,x=.ref a/\es.map (·.1)=kvs.map (·.1)/\ag K k (es.map (·.2.1)) (kvs.map (·.1.d))/\ag K k (es.map (·.2.2)) (kvs.map (·.2))/\∀H',aB k.F H'->Kept q H H'->H' a=some (.dG es ep)
 |.str z=>x=.str z
 |_=>True
noncomputable def Bx.lv:Bx->Nat
 |.lst _=>2
 |.aA _=>1
noncomputable def sg:Cell->ai (Nat×D)
 |.o b=>some (b.lv,b.d)
 |.z b=>some (0,b.d)
 |.ins _ _=>none
def C7(fz:Bool)(S:aT):Rv->ai (Rs (Nat×D))
 |.o c=>some (.ok (0,c.d) S)
 |.v (.d (.ref n))=>(S.r[n]?).bind λc=>(sg c).map λp=>.ok p S
 |.v (.d x)=>some (.ok (0,x) S)
 |.v (.c n)=>if fz=true then(oB S (.c n)).map λp=>.ok (0,p.1) p.2 else(S.s[n]?).bind λc=>(sg c).map λp=>.ok p S
def vU(fz:Bool)(g:GE):Gx (Nat×D):=λU S=>bd (g U S) (λr S1=>C7 fz S1 r)
abbrev RH(K:aL)(q:Nat):Rp (Nat×D) V:=λk H x p=>jk K k H (max q p.1) x p.2
section
variable{X:Cx}{K:aL}{W:XW}{q:Nat}{k:Kn}{H:Hp}{x:V}{d:D}{g:GE}{Z:St}
def Ft(h:ag K k [x] [d]):jk K k H q x d:=by
 cases d with
 |lst ds=>obtain⟨a,ws,rfl,h1,h2⟩:=h.wa;exact⟨a,ws,rfl,h2,λH' s _=>s.LO h1⟩
 |tup ds=>obtain⟨a,ws,rfl,h1,h2⟩:=h.isTup;exact⟨a,ws,rfl,h2,λH' s _=>s.zI h1⟩
 |aA kvs=>obtain⟨a,es,ep,rfl,h1,h2,h3,h4⟩:=h.v_;exact⟨a,es,ep,rfl,h2,h3,h4,λH' s _=>s _ _ h1⟩
 |str z=>exact h.aP rfl
 |_=>exact tF
def K_{o:HO}:uU (max q 2) o=true:=IF (p:=2) (Nat.le_max_right _ _) rfl
def XO{b:Bx}(h:eA K k H a b):jk K k H (max q b.lv) (.ref a) b.d:=by
 cases b with
 |lst xs=>obtain⟨ws,h1,h2⟩:=h;exact⟨a,ws,rfl,h2,λH' _ c=>.inl (.inl (c _ _ K_ h1))⟩
 |aA kvs=>obtain⟨es,ep,h1,h2,h3,h4⟩:=h;exact⟨a,es,ep,rfl,h2,h3,h4,λH' _ c=>c _ _ (IF (p:=1) (Nat.le_max_right _ _) rfl) h1⟩
def NO{c:Cell}{p:Nat×D}(h:bw K k H a c)(e:sg c=some p):jk K k H (max q p.1) (.ref a) p.2:=by
 cases c with
 |o b=>cases e;exact XO h.2
 |z b=>cases e;exact Ft h.2
 |ins _ _=>cases e
def Pk{fz:Bool}{Q:VK}(t:tX (RH K q) K W q (vU fz g) Z H Q):tE K W q g Z H Q:=by
 obtain⟨k,U,S,res,ok,gk,e,w⟩:=t;refine tX.bd ok gk e w λr S1 x k1 H1 bM g1 r1 e1 w1 _=>?_
 cases r with
 |o c=>
  cases e1;obtain⟨k2,u2,cV,r2⟩:=qB bM r1;exact(w1.up (u2 q)).now cV (Ft r2)
 |v y=>
  cases y with
  |d y=>
   cases y with
   |ref n=>
    obtain⟨c,h1,e2⟩:=cG.mp e1;obtain⟨p,h2,rfl⟩:=dH.mp e2;obtain⟨a,rfl,h3⟩:=ag.isRef r1;exact w1.now bM (NO (bM.r.at' n a c h3 h1) h2)
   |_=>cases e1;exact w1.now bM (Ft r1)
  |c n=>
   cases fz with
   |true=>
    obtain⟨p,h1,rfl⟩:=dH.mp (show(oB S1 (.c n)).map _=some res from e1);obtain⟨k2,u2,cV,r2⟩:=FO (v:=.c n) bM r1 h1;exact(w1.up (u2 q)).now cV (Ft r2)
   |false=>
    obtain⟨c,h1,e2⟩:=cG.mp (show(S1.s[n]?).bind _=some res from e1);obtain⟨p,h2,rfl⟩:=dH.mp e2;obtain⟨a,rfl,h3⟩:=r1;exact w1.now bM (NO (bM.s.at' n a c h3 h1) h2)
end
structure iz (K:aL) (k1:Kn) (H1:Hp) (q:Nat) (J:It) (ds:List D):Prop where
 go:∀i k H,k1.le k->aB k.F H->Kept q H1 H->i<ds.length->J.go i H
 stop:∀i k H,k1.le k->aB k.F H->Kept q H1 H->ds.length<=i->J.stop i H
 tG:∀i k H x H',k1.le k->aB k.F H->Kept q H1 H->J.tG i H x H'->∀d,ds[i]?=some d->∃F',aB k.F F'/\aB H H'/\aB F' H'/\(∀p,H p≠none->k.F p=none->F' p=none)/\ag K ⟨F',k.A,k.T⟩ [x] [d]
abbrev RI(K:aL)(q:Nat):Rp (Nat×List D) It:=λk H J p=>iz K k H (max q p.1) J p.2
section
variable{K:aL}{k1:Kn}{H1:Hp}{q n:Nat}{ds:List D}{J:It}{a:ah}{ws xs:List V}
def iz.old(hn:ds.length=n)(h1:∀i H,aB k1.F H->Kept q H1 H->i<n->J.go i H)(h2:∀i H,aB k1.F H->Kept q H1 H->n<=i->J.stop i H)(h3:∀i H x H' d,aB k1.F H->Kept q H1 H->J.tG i H x H'->ds[i]?=some d->H'=H/\ag K k1 [x] [d]):iz K k1 H1 q J ds where
 go:=λi k H l s c hi=>h1 i H (l.f.trans s) c (hn ▸ hi)
 stop:=λi k H l s c hi=>h2 i H (l.f.trans s) c (hn ▸ hi)
 tG:=λi k H x H' l s c y d hd=>by
  obtain⟨rfl,r⟩:=h3 i H x H' d (l.f.trans s) c y hd;exact⟨k.F,aB.refl _,aB.refl _,s,λ_ _ z=>z,r.mono l⟩
def iz.DB{Src:Hp->Prop}{val:Nat->List V->Prop}{f:Nat->List D}(hs:∀H,aB k1.F H->Kept q H1 H->Src H)(hv:∀i us,i<n->val i us->ag K k1 us (f i)):iz K k1 H1 q (zZ Src n val) ((List.range n).map λi=>.tup (f i)) where
 go:=λi k H l s c hi=>⟨by simpa using hi,hs H (l.f.trans s) c⟩
 stop:=λi k H l s c hi=>⟨by simpa using hi,hs H (l.f.trans s) c⟩
 tG:=λi k H x H' l s c y d hd=>by
  obtain⟨p,us,rfl,hp,hw,rfl⟩:=y;have hi:i<n:=by have:=(eQ.mp hd).1;simpa using this
  rw[fL,zT hi] at hd;cases hd;have hF:=s.free hp;refine⟨upd k.F p (.tup us),rE hF,rE hp,λb u z=>?_,λb z1 z2=>?_,.tup (.inl (.inl aK)) ((hv i us hi hw).mono ⟨l.f.trans (rE hF),l.a⟩) .nil⟩
  .by_cases z3:b=p
   .subst z3;rw[aK] at z ⊢;exact z
   .rw[dI z3] at z ⊢;exact s b u z
  grind [dI]
def XQ(h:∀H',aB k1.F H'->Kept q H1 H'->dr K H' a ws)(r:ag K k1 ws ds):iz K k1 H1 q (Hx K a) ds:=
 .old r.length.symm (λi H s c hi=>⟨ws,ws[i],h H s c,g7 _⟩) (λi H s c hi=>⟨ws,h H s c,hi⟩) λi H x H' d s c y hd=>by
  obtain⟨rfl,y⟩:=y;obtain⟨v,h1,h2⟩:=r.get hd
  simp_all
def e3c(h:∀H',aB k1.F H'->Kept q H1 H'->iI K H' a ws)(r:ag K k1 ws ds):iz K k1 H1 q (Hy K a) ds:=
 .old r.length.symm (λi H s c hi=>⟨ws,ws[i],h H s c,g7 _⟩) (λi H s c hi=>⟨ws,h H s c,hi⟩) λi H x H' d s c y hd=>by
  obtain⟨rfl,y⟩:=y;obtain⟨v,h1,h2⟩:=r.get hd
  simp_all
def e3d(h:∀H',aB k1.F H'->Kept q H1 H'->dr K H' a ws)(r:ag K k1 ws ds):iz K k1 H1 q (rh K a ws.length) ds.reverse:=
 .old (by rw[List.length_reverse,r.length]) (λi H s c hi=>⟨hi,ws,h H s c,rfl⟩) (λi H s c hi=>hi) λi H x H' d s c y hd=>by
  obtain⟨rfl,y⟩:=y;have hi:=(eQ.mp hd).1;rw[List.length_reverse] at hi;rw[List.getElem?_reverse hi,<-r.length] at hd;obtain⟨v,h1,h2⟩:=r.get hd
  simp_all
def XR{es:List (TK×V×V)}{ep:Nat}(h:∀H',aB k1.F H'->Kept q H1 H'->H' a=some (.dG es ep))(r:ag K k1 (es.map (·.2.1)) ds):iz K k1 H1 q (Hw a es.length ep) ds:=
 .old (by rw[<-r.length,bq]) (λi H s c hi=>⟨es,h H s c,rfl,hi⟩) (λi H s c hi=>⟨es,h H s c,rfl,hi⟩) λi H x H' d s c y hd=>by
  obtain⟨rfl,y⟩:=y;obtain⟨v,h1,h2⟩:=r.get hd;rw[fL] at h1;obtain⟨e,h3,rfl⟩:=dH.mp h1;obtain⟨e',h4,rfl⟩:=y es (h _ s c);cases h3.symm.trans h4;exact⟨rfl,h2⟩
def e3e{z:Str}:iz K k1 H1 q (EE z) (z.cps.toList.map λc=>.str (iU c)):=
 .old (by rw[bq,Hk]) (λi H s _ hi=>hi) (λi H s _ hi=>hi) λi H x H' d s _ y hd=>by
  obtain⟨rfl,c,h1,rfl⟩:=y;rw[fL,w9,h1] at hd;cases hd;exact⟨rfl,.flat rfl .nil⟩
def mE(lo c:Int)(n:Nat):List D:=(List.range n).map λ(i:Nat)=>D.int (lo+(i:Int)*c)
def XS:iz K k1 H1 q (Hv lo c n) (mE lo c n):=
 .old (by unfold mE;rw[bq,w_]) (λi H s _ hi=>hi) (λi H s _ hi=>hi) λi H x H' d s _ y hd=>by
  obtain⟨rfl,rfl⟩:=y;have hi:=(eQ.mp hd).1;unfold mE at hi hd;rw[bq,w_] at hi;rw[fL,zT hi] at hd;cases hd;exact⟨rfl,.flat rfl .nil⟩
def gG(lo:Int)(n:Nat):List D:=(List.range n).map λ(i:Nat)=>D.int (lo+(i:Int))
theorem e3f:iz K k1 H1 q (ED lo n) (gG lo n):=
 .old (by unfold gG;rw[bq,w_]) (λi H s _ hi=>hi) (λi H s _ hi=>hi) λi H x H' d s _ y hd=>by
  obtain⟨rfl,rfl⟩:=y;have hi:=(eQ.mp hd).1;unfold gG at hi hd;rw[bq,w_] at hi;rw[fL,zT hi] at hd;cases hd;exact⟨rfl,.flat rfl .nil⟩
end
abbrev lX:=Gx (Nat×List D)
def ba(fz:Bool)(o:D->ai (List D))(g:GE):lX:=λU S=>bd (vU fz g U S) λp S1=>(o p.2).map λds=>.ok (p.1,ds) S1
noncomputable def et:D->ai (List D)
 |.lst ds=>some ds
 |.tup ds=>some ds
 |.aA kvs=>some (kvs.map (·.1.d))
 |.str z=>some (z.cps.toList.map λc=>.str (iU c))
 |_=>none
noncomputable def zE:D->ai (List D)
 |.lst ds=>some ds.reverse
 |_=>none
def eU(ds:List D):List D:=(List.range ds.length).map λi=>.tup [.int (i:Nat),(ds[i]?).getD .aI]
def J9:D->ai (List D)
 |.lst ds=>some (eU ds)
 |_=>none
noncomputable def iV:Val->ai Int
 |.d (.int i)=>some i
 |_=>none
def Gp{v:Val}(h:iV v=some i):v=.d (.int i):=by
 cases v with
 |d x=>cases x <;> cases h;rfl
 |c n=>cases h
def k7:List Val->ai (List D)
 |[a]=>(iV a).bind λj=>if Nat.ble j.natAbs 1000000000000=true then some (gG 0 j.toNat) else none
 |_=>none
def zF:List Val->ai (List D)
 |[a,b,c]=>(iV a).bind λi=>(iV b).bind λj=>(iV c).bind λc=>if c=2/\(Nat.ble i.natAbs 1000000&&Nat.ble j.natAbs 1000000)=true then some (mE i 2 (gA i j)) else none
 |_=>none
noncomputable def iX(o:List Val->ai (List D))(g:GA):lX:=λU S=>bd (g U S) λvs S1=>(o vs).map λds=>.ok (0,ds) S1
section
variable{X:Cx}{K:aL}{W:XW}{q:Nat}{g:GE}{ga:GA}{fz:Bool}{Z:St}{H:Hp}{R:It->Hp->Prop}
def BN{o:D->ai (List D)}(t:tX (RI K q) K W q (ba fz o g) Z H R):(∀Q:VK,tE K W q g Z H Q)\/∃d ds n,o d=some ds/\∀Q:VK,(∀k1 H1 x,aB k1.F H1->jk K k1 H1 n x d->(∀J,iz K k1 H1 n J ds->R J H1)->Q x H1)->tE K W q g Z H Q:=by
 obtain⟨k,U,S,res,ok,gk,e,w⟩:=t;rcases As e with⟨⟨n,d⟩,S1,e1,e2⟩|⟨C,l,S1,e1,rfl⟩
 .obtain⟨ds,e3,rfl⟩:=dH.mp e2;exact .inr ⟨d,ds,max q n,e3,λQ h=>Pk ⟨k,U,S,_,ok,gk,e1,λx k1 H1 u bM r=>h k1 H1 x bM.le r λJ j=>w J k1 H1 u bM j⟩⟩
 .exact .inl λQ=>Pk ⟨k,U,S,_,ok,gk,e1,w⟩
def jk.now{x:V}{P:Hp->Prop}{n:Nat}(h:∀H',aB k.F H'->Kept n H H'->P H')(le:aB k.F H):P H:=h H le λ_ _ _ z=>z
def Dg(K:aL)(te:TE):TI:=λZ H R=>v5 K te Z H R\/Dj K te Z H R\/vZ te Z H R\/Di te Z H R
def e3g{tg l:Expr}{te:TE}(h:PE X l te):PI X tg l (Dg X.K te):=JW (Xh h) (JW (Θ h) (JW (XM h) (ο h)))
def e3h(t:tX (RI K q) K W q (ba fz et g) Z H R):Dg K (tE K W q g) Z H R:=by
 rcases BN t with h|⟨d,ds,n,e,h⟩
 .exact .inl (h _)
 .cases d with
  |lst _=>
   cases e;refine .inl (h _ λk1 H1 x le hd j=>?_)
   obtain⟨a,ws,rfl,q2,q1⟩:=hd;exact⟨a,rfl,⟨ws,jk.now (x:=.aI) q1 le⟩,j _ (XQ q1 q2)⟩
  |tup _=>
   cases e;refine .inr (.inl (h _ λk1 H1 x le hd j=>?_))
   obtain⟨a,ws,rfl,q2,q1⟩:=hd;exact⟨a,rfl,⟨ws,jk.now (x:=.aI) q1 le⟩,j _ (e3c q1 q2)⟩
  |aA kvs=>
   cases e;refine .inr (.inr (.inl (h _ λk1 H1 x le hd j=>?_)))
   obtain⟨a,es,ep,rfl,q2,q3,q4,q1⟩:=hd;exact⟨a,es,ep,rfl,jk.now (x:=.aI) q1 le,j _ (XR q1 q3)⟩
  |str z=>
   cases e;exact .inr (.inr (.inr (h _ λk1 H1 x le hd j=>⟨z,hd,j _ e3e⟩)))
  |_=>cases e
def XT(t:tX (RI K q) K W q (ba fz zE g) Z H R):Dh K (sT (tE K W q g) sW) Z H R:=by
 rcases BN t with h|⟨d,ds,n,e,h⟩
 .exact h _
 .cases d with
  |lst _=>
   cases e;refine h _ λk1 H1 x le hd j=>?_
   obtain⟨a,ws,rfl,q2,q1⟩:=hd;exact⟨a,ws,rfl,jk.now (x:=.aI) q1 le,j _ (e3d q1 q2)⟩
  |_=>cases e
def e3i(t:tX (RI K q) K W q (ba fz J9 g) Z H R):v3 K (sT (tE K W q g) sW) Z H R:=by
 rcases BN t with h|⟨d,ds,n,e,h⟩
 .exact h _
 .cases d with
  |lst es=>
   cases e;refine h _ λk1 H1 x le hd j=>?_
   obtain⟨a,ws,rfl,q2,q1⟩:=hd;refine⟨a,ws,rfl,jk.now (x:=.aI) q1 le,j _ ?_⟩;unfold eU;rw[<-q2.length];refine .DB q1 λi us hi hv=>?_
   obtain⟨x,h1,rfl⟩:=hv;obtain⟨d,hd⟩:∃d,es[i]?=some d:=⟨es[i]'(by rw[<-q2.length];exact hi),g7 _⟩
   obtain⟨v,h3,h4⟩:=q2.get hd;cases h1.symm.trans h3;rw[hd];exact .flat rfl h4
  |_=>cases e
theorem rep1{xs:List V}(h:Paired (dz K k) xs [.d (.int j)]):xs=[.int j]:=by
 cases h with
 |cons r t=>cases t;rw[(show ag K k [_] [_] from r).aP rfl]
def rep2{xs:List V}(h:Paired (dz K k) xs [.d (.int i),.d (.int j)]):xs=[.int i,.int j]:=by
 cases h with
 |cons r t=>rw[(show ag K k [_] [_] from r).aP rfl,rep1 t]
def rep3{xs:List V}(h:Paired (dz K k) xs [.d (.int i),.d (.int j),.d (.int c)]):xs=[.int i,.int j,.int c]:=by
 cases h with
 |cons r t=>rw[(show ag K k [_] [_] from r).aP rfl,rep2 t]
def NP{o:List Val->ai (List D)}{Q:List V->Hp->Prop}(t:tX (RI K q) K W q (iX o ga) Z H R)(h:∀vs ds k1 H1 xs,o vs=some ds->(∀J,iz K k1 H1 (max q 0) J ds->R J H1)->Paired (dz K k1) xs vs->Q xs H1):ic K W q ga Z H Q:=by
 obtain⟨k,U,S,res,ok,gk,e,w⟩:=t;rcases As e with⟨vs,S1,e1,e2⟩|⟨C,l,S1,e1,rfl⟩
 .obtain⟨ds,e3,rfl⟩:=dH.mp e2;exact⟨k,U,S,_,ok,gk,e1,λxs k1 H1 u bM r=>h vs ds k1 H1 xs e3 (λJ j=>w J k1 H1 u bM j) r⟩
 .exact⟨k,U,S,_,ok,gk,e1,w⟩
def XU(t:tX (RI K q) K W q (iX k7 ga) Z H R):v7 (ic K W q ga) Z H R:=NP t λvs ds k1 H1 xs e j r=>by
 obtain _|⟨v,_|_⟩:=vs
 .cases e
 .obtain⟨i,e1,e2⟩:=cG.mp e;clear e;cases Gp e1;split at e2
  .rename_i h
   have h:=zU h
   grind [rep1,e3f]
  .cases e2
 .cases e
def XX(t:tX (RI K q) K W q (iX zF ga) Z H R):v8 (ic K W q ga) Z H R:=NP t λvs ds k1 H1 xs e j r=>by
 obtain _|⟨a,_|⟨b,_|⟨c,_|_⟩⟩⟩:=vs <;> try cases e
 .obtain⟨_,e1,e4⟩:=cG.mp e;obtain⟨_,e2,e5⟩:=cG.mp e4;obtain⟨_,e3,e6⟩:=cG.mp e5;clear e e4 e5;cases Gp e1;cases Gp e2;cases Gp e3;split at e6
  .rename_i h
   obtain⟨rfl,h⟩:=h;obtain⟨h1,h2⟩:=Bc.mp h;have h1:=zU h1;have h2:=zU h2;cases e6;exact⟨_,_,rep3 r,⟨by lia,by lia,by lia,by lia⟩,j _ XS⟩
  .cases e6
end
def aN(g:GG)(f:GS):List D->GS
 |[]=>λU S=>some (.nx U S)
 |d::ds=>λU S=>(g d U).bind λU1=>(f U1 S).bind λr=>match r with
   |.nx U2 S2=>aN g f ds U2 S2
   |.ct U2 S2=>aN g f ds U2 S2
   |.bk U2 S2=>some (.nx U2 S2)
   |r=>some r
noncomputable def bG(q:Nat)(src:lX)(g:GG)(f:Nat->GS):GS:=λU S=>kY U (src U S) λp S1=>aN g (f (max q p.1)) p.2 U S1
def Up.kept{k':Kn}(u:Up q k H k' H'):Kept q H H':=u.h
def Kept.refl:Kept q H H:=λ_ _ _ z=>z
def Kept.trans{Bl:Hp}(a:Kept q H H')(b:Kept q H' Bl):Kept q H Bl:=λx o z h=>b x o z (a x o z h)
theorem Kept.same(a:aB H H'):Kept q H H':=λx o _ h=>a x o h
section
variable{X:Cx}{K:aL}{W:XW}{q:Nat}{tg iter:Expr}{body:List Stmt}{wi:TI}{t:TG}{gg:GG}{f:Nat->GS}{src:lX}{pos:Pos}
def e3j(hp:PassesOwn (model X.prog X.w) X.A X.env X.xe)(hc:X.calm=true)(hi:PI X tg iter wi)(qg:∀Z H R,tX (RI K q) K W q src Z H R->wi Z H R)(hg:PG X tg t)(ht:ka K t gg)(hb:∀n,jl X body (tS K W n (f n)))(hs:∀x,foldedSetIterable iter X.env x=pure x):
  PS X (.For tg iter body [] pos) (tS K W q (bG q src gg f)):=by
 intro aa s Z H De I t;obtain⟨k,U,S,fr,ok,gk,e,w⟩:=t;rcases Pj e with⟨⟨n,ds⟩,S1,e1,e⟩|⟨C,l,S1,e1,rfl⟩
 .
  refine Qj hp hc hi hg (hb (max q n)) hs aa s Z H De I (qg _ _ _ ⟨k,U,S,_,ok,gk,e1,λJ k1 H1 u1 bM r1=>?_⟩)
  have w1:=(w.up u1).weak (Nat.le_max_left q n);have g1:=gk.up u1;clear w gk ok e1 u1;refine⟨λi m Z H=>m=ds.length - i/\i<=ds.length/\∃k U S,cx K k H S/\ig K k Z U/\k1.le k/\Kept (max q n) H1 H/\aN gg (f (max q n)) (ds.drop i) U S=some fr/\Done K W (max q n) De k H fr,⟨_,rfl,k_ _,k1,U,S1,bM,g1,.refl,.refl,e,w1⟩,?_⟩
  rintro i m Z H ⟨rfl,hi,k,U,S,ok,gk,l,c,e,w⟩;rcases Nat.lt_or_ge i ds.length with h|h
  .rw[Mp h] at e;refine .inr ⟨r1.go i k H l ok.le c h,λZ' H'=>∃k U S,cx K k H' S/\ig K k Z' U/\k1.le k/\Kept (max q n) H1 H'/\aN gg (f (max q n)) (ds.drop (i+1)) U S=some fr/\Done K W (max q n) De k H' fr,λZ' H' z=>⟨_,by lia,rfl,h,z⟩,λx H' y=>?_⟩
   obtain⟨F',s1,s2,s3,s4,rp⟩:=r1.tG i k H x H' l ok.le c y _ (g7 h);have u:Up (max q n) k H ⟨F',k.A,k.T⟩ H':=.of s1 s2;obtain⟨U1,e1,e2⟩:=cG.mp e;obtain⟨r,e3,e4⟩:=cG.mp e2;have f9:cx K ⟨F',k.A,k.T⟩ H' S:=ok.new s1 (λp _ o z=>s2 p o z) s3 λp m=>s4 p (ok.there p m)
   have l':k1.le ⟨F',k.A,k.T⟩:=⟨l.f.trans s1,l.a⟩;refine ht _ H' Z U U1 x ds[i] _ s3 (gk.up u) rp e1 λZ1 g1=>⟨_,U1,S,r,f9,g1,e3,?_⟩
   have w':=w.up u;have c':Kept (max q n) H1 H':=c.trans (.same s2);cases r with
   |nx U2 S2=>exact λZ' k2 H2 u2 cV g2=>⟨k2,U2,S2,cV,g2,⟨l'.f.trans u2.f,l'.a.trans u2.a⟩,c'.trans u2.kept,e4,w'.up u2⟩
   |ct U2 S2=>exact λZ' k2 H2 u2 cV g2=>⟨k2,U2,S2,cV,g2,⟨l'.f.trans u2.f,l'.a.trans u2.a⟩,c'.trans u2.kept,e4,w'.up u2⟩
   |bk U2 S2=>cases e4;exact w'
   |rt r S2=>cases e4;exact w'
   |ex C l U2 S2=>cases e4;exact w'
  .rw[Hm h] at e;cases e;exact .inl ⟨r1.stop i k H l ok.le c h,cw.now w ok gk⟩
 .exact Qj hp hc hi hg (hb q) hs aa s Z H De I (qg _ _ _ ⟨k,U,S,_,ok,gk,e1,λdx k' H' u f9 r=>w dx Z k' H' u f9 (gk.up u) r⟩)
end
end L2
set_option autoImplicit false
namespace L2
open PySem PySem.Spec PyProof.Rows
variable{ds:List D}{U:Gm}{Z:St}
def tP{α β:Type}(x:ai (Rs α))(f:α->aT->ai (Rs β)):ai (Rs β):=match x with
 |some (.ok a S)=>f a S
 |_=>none
def W0:XW:=λ_ _ _ _=>False
def aZ(gg:GG)(tt:GT)(te:GE):List D->Gm->aT->List D->ai (Rs (List D))
 |[],_,S,aU=>some (.ok aU S)
 |d::ds,U,S,aU=>(gg d U).bind λU1=>tP (tt U1 S) λb S1=>if b=true then tP (gD te U1 S1) λx S2=>if aU.length<1000000 then aZ gg tt te ds U1 S2 (aU++[x]) else none else aZ gg tt te ds U1 S1 aU
def uE(n:Nat)(dD:List Nat)(U:Gm):Gm:=List.replicate n none++dD.map λi=>(U[i]?).join
def bQ(q:Nat)(src:lX)(gg:GG)(tt:Nat->GT)(te:Nat->GE)(n:Nat)(dD:List Nat):GE:=λU S=>bd (src U S) λp S1=>bd (aZ gg (tt (max q p.1)) (te (max q p.1)) p.2 (uE n dD U) S1 []) λds S2=>some (.ok (.o (.lst ds)) S2)
section
variable{X:Cx}{K:aL}{W:XW}{q:Nat}{tg iter elt:Expr}{ifs:List Expr}{scope:Scope}{wi:TI}{t:TG}{gg:GG}{tt:Nat->GT}{te:Nat->GE}{src:lX}{pos:Pos}{M:List Str}{n:Nat}{dD:List Nat}
def FR{α β:Type}{x:ai (Rs α)}{f:α->aT->ai (Rs β)}{res:Rs β}(e:tP x f=some res):∃a S,x=some (.ok a S)/\f a S=some res:=by
 unfold tP at e;split at e
 .exact⟨_,_,rfl,e⟩
 .cases e
def VQ{tt:GT}{te:GE}{S:aT}{aU:List D}{res:Rs (List D)}(e:aZ gg tt te ds U S aU=some res):∃l S',res=.ok l S':=by
 induction ds generalizing U S aU with
 |nil=>cases e;exact⟨_,_,rfl⟩
 |cons d ds ih=>
  obtain⟨U1,_,e⟩:=cG.mp e;obtain⟨b,S1,_,e⟩:=FR e;cases b with
  |false=>exact ih e
  |true=>
   obtain⟨x,S2,_,e⟩:=FR (show tP _ _=some res from e);split at e
   .exact ih e
   .cases e
def XY{k:Kn}(g:ig K k Z U):ig K k (kf n dD Z) (uE n dD U):=by
 refine⟨by unfold kf uE;rw[dZ,dZ,bq,bq,pI,pI],λi v e=>?_⟩
 unfold uE at e;unfold kf;by_cases hi:i<n
 .rw[uc (by rw[pI];exact hi),Ml,bJ hi] at e;cases e
 .have hi:=Nat.le_of_not_lt hi;rw[ub (by rw[pI];exact hi),pI,fL] at e ⊢
  obtain⟨j,h1,h2⟩:=dH.mp e;obtain⟨x,h3,h4⟩:=g.at' j v (NL h2)
  simp_all
def e3k{J:It}{k1:Kn}{H1:Hp}{m:Nat}{out:List D}{S1 S2:aT}{τ:St}{gt:GT}{ge:GE}{g8:List V->Hp->Prop}(ht:ka K t gg)(r1:iz K k1 H1 m J ds)(bM:cx K k1 H1 S1)(g1:ig K k1 τ U)(e:aZ gg gt ge ds U S1 []=some (.ok out S2))
  (w:∀k H vs,Up m k1 H1 k H->cx K k H S2->ag K k vs out->g8 vs H):oO J t (tT K W0 m gt) (tE K W0 m ge) τ H1 g8:=by
 refine⟨ds.length,λi τ vs H=>i<=ds.length/\∃k U S aU,cx K k H S/\ig K k τ U/\ag K k vs aU/\Up m k1 H1 k H/\aZ gg gt ge (ds.drop i) U S aU=some (.ok out S2),⟨k_ _,k1,U,S1,[],bM,g1,.nil,.refl,e⟩,?_⟩
 rintro i τ vs H hi ⟨_,k,U,S,aU,ok,gk,rv,u,e⟩;rcases Nat.lt_or_ge i ds.length with h|h
 .rw[Mp h] at e;refine .inr ⟨h,r1.go i k H u.le ok.le u.kept h,λx H' y=>?_⟩
  obtain⟨F',s1,s2,s3,s4,rp⟩:=r1.tG i k H x H' u.le ok.le u.kept y _ (g7 h);have u2:Up m k H ⟨F',k.A,k.T⟩ H':=.of s1 s2;have f9:cx K ⟨F',k.A,k.T⟩ H' S:=ok.new s1 (λp _ o z=>s2 p o z) s3 λp m=>s4 p (ok.there p m)
  obtain⟨U1,e1,e2⟩:=cG.mp e;refine ht _ H' τ U U1 x ds[i] _ s3 (gk.up u2) rp e1 λτ1 g1=>?_
  obtain⟨b,S3,e3,e4⟩:=FR e2;refine⟨_,U1,S,_,f9,g1,e3,λb' k3 H3 u3 jM r3=>?_⟩
  cases r3;have u4:=(u.trans u2).trans u3;cases b with
  |false=>exact sv ⟨h,k3,U1,S3,aU,jM,g1.up u3,rv.mono (u2.trans u3).le,u4,e4⟩
  |true=>
   obtain⟨y,S4,e5,e6⟩:=FR (show tP _ _=some _ from e4);refine sx (L0 ⟨_,U1,S3,_,jM,g1.up u3,e5,λv k5 H5 u5 mq r5=>?_⟩)
   split at e6
   .rename_i hl
    refine⟨gK (by rw[rv.length];exact hl) (by decide),h,k5,U1,S4,aU++[y],mq,(g1.up u3).up u5,(rv.mono ((u2.trans u3).trans u5).le).append r5,u4.trans u5,e6⟩
   .cases e6
 .rw[Hm h] at e;cases e;exact .inl ⟨r1.stop i k H u.le ok.le u.kept h,w k H vs u ok rv⟩
def Pl{H:Hp}{Q:VK}(ht:ka K t gg)(h:tE K W q (bQ q src gg tt te n dD) Z H Q):∃m,tX (RI K q) K W q src Z H λJ H1=>oO J t (tT K W0 m (tt m)) (tE K W0 m (te m)) (kf n dD Z) H1 λaU H'=>∀l,H' l=none->Q (.ref l) (upd H' l (.lst aU)):=by
 obtain⟨k,U,S,res,ok,gk,e,w⟩:=h;rcases As e with⟨⟨m,ds⟩,S1,e1,e2⟩|⟨C,l,S1,e1,rfl⟩
 .refine⟨max q m,k,U,S,_,ok,gk,e1,λJ k1 H1 u1 bM r1=>?_⟩
  rcases As e2 with⟨out,S2,e3,e4⟩|⟨C,l,S2,e3,rfl⟩
  .cases e4;refine e3k ht r1 bM (XY (gk.up u1)) e3 λk2 H2 vs u2 cV rv l hl=>?_
   exact kU.lst (.fin cV ((w.up u1).up (u2.weak (Nat.le_max_left q m)))) cV.le rv hl
  .obtain⟨_,_,z⟩:=VQ e3;cases z
 .exact⟨0,k,U,S,_,ok,gk,e1,w⟩
def XZ(hc:X.calm=true)(ok:eJ X scope M n dD)(hi:PI X tg iter wi)(qg:∀Z H R,tX (RI K q) K W q src Z H R->wi Z H R)(ht:ka K t gg)
  (hg:∀C s H fp,PG (fW X scope M C s H fp) tg t) (hT:∀m C s H fp,rj (fW X scope M C s H fp) ifs (tT K W0 m (tt m))) (hE:∀m C s H fp,PE (fW X scope M C s H fp) elt (tE K W0 m (te m)))
  (hs:∀x,foldedSetIterable iter X.env x=pure x):PE X (.ListComp elt [⟨tg,iter,ifs,0⟩] scope pos) (tE K W q (bQ q src gg tt te n dD)):=λaa s Z H Q I h=>by
 obtain⟨m,h⟩:=Pl ht h;exact Xz hc ok hi hg (hT m) (hE m) hs aa s Z H Q I (qg _ _ _ h)
def X0{mu:Bool}{i:Nat}{x:Str}{px nH:Pos}(hc:X.calm=true)(ok:eJ X scope M n dD)(hN:X.N.Nodup)(yO:X.N[i]?=some x)(hx:Loc X.env.scope x)(hi:PI X tg iter wi)(qg:∀Z H R,tX (RI K q) K W q src Z H R->wi Z H R)(ht:ka K t gg)
  (hg:∀C s H fp,PG (fW X scope M C s H fp) tg t) (hT:∀m C s H fp,rj (fW X scope M C s H fp) ifs (tT K W0 m (tt m))) (hE:∀m C s H fp,PE (fW X scope M C s H fp) elt (tE K W0 m (te m)))
  (C_:swapsWith (.ListComp elt [⟨tg,iter,ifs,0⟩] scope pos) (some (.Name x px)) nH.line X.env=pure true) (hs:∀x,foldedSetIterable iter X.env x=pure x) (hf:X.fn x=true\/X.env.scope.names.lookup x=some .local) :
  PS X (.Assign [.Name x px] (.ListComp elt [⟨tg,iter,ifs,0⟩] scope pos) nH) (tS K W q (ar i mu (bQ q src gg tt te n dD))):=λaa s Z H D I h=>by
 obtain⟨m,h⟩:=Pl ht (Qo h);exact XA hc ok hN yO hx hi hg (hT m) (hE m) C_ hs hf aa s Z H D I (qg _ _ _ h)
end
end L2
namespace L2
open PySem PySem.Spec PySem.W PySem.Calls PyProof.Rows
variable{hs:List ExceptHandler}
noncomputable def nP(C:ah)(fe:GE):GS:=λU S=>kY U (fe U S) λ_ S1=>some (.ex C none U S1)
section
variable{X:Cx}{K:fU}{W:XW}{q:Nat}{C B0:ah}{x:Str}{p cp pos:Pos}{e:Expr}{fe:GE}
def VR(G:f_ K C (.ref B0::qc) none)(G0:f_ K B0 qc none)(hk:keepIn K (.ref C)=true)(hm:X.mg x=some (.ref C))(hp:fO X W)(he:PE X e (tE K W q fe))(hc:X.calm=true)(hg:Gl X x)(jm:(x == ("__debug__":Str))=false)
  (mi:starEach [e] X.env=(false,eval e X.env)::starEach [] X.env) (hK:X.K=K):PS X (.Raise (some (.Call (.Name x p) [e] [] cp)) none pos) (tS K W q (nP C fe)):=by
 subst hK;intro aa s Z H D I t;have t1:tE X.K W q fe Z H λ_ H1=>W C none Z H1:=by
  obtain⟨k,U,S,fr,ok,gk,e,w⟩:=t;refine tS.bd ok gk e w λr S1 v k1 H1 bM g1 r1 e1 w1=>?_
  cases e1;exact w1 none Z k1 H1 .refl bM g1 rfl
 obtain⟨nm,qq,N,bs,sn,sub,ab,col,dd,k0,k1,k2,k3,k5,on,AY,es,ep,A1,g1,g2,g3,g4⟩:=id G;rw[arm_exec_Raise];show wpAny _ _ (do standAt pos;raiseStmt X.env (some (do let v <-eval (.Call (.Name x p) [e] [] cp) X.env;standAt pos;pure v)) none) _ _ _
 refine aE (wpAny_standAt (wpAny_raiseStmt_made_sub (C:=C) (nm:=nm) (q:=qq) (N:=N) (bs:=bs) (bm:=.ref B0::qc) (hdct:=true) (sn:=sn) (sub:=sub) (ab:=ab) (col:=col) (dd:=dd) (k0:=k0) (k1:=k1) (k2:=k2) (k3:=k3) (k5:=k5) (newId:="ValueError.__new__") rfl (I.ok.hd hc) (aE (bP ?_ λv s3 h3=>aE (wpAny_standAt (aY h3))))))
 refine wpAny_Call_Name_kw (xW I hg hm ?_ jm);have jR:(backTo cp (starEach [] X.env)).any (·.1)=false:=rfl
 refine PySem.W.callWith_K (h₀:=X.base) I.ok.mod.AS hk (bP ((FL he my mi) cp aa s Z H (λvs H1=>vs.length=1/\W C none Z H1) I (nO t1 λ_ H1 h=>⟨rfl,h⟩)) λus s1 hh=>?_) mi jR
 obtain⟨vs,H1,I1,r,hl,pp⟩:=hh;refine⟨I1.jK,?_⟩;obtain⟨u,rfl⟩:∃u,us=[u]:=by
  have l:=r.length;rw[hl] at l;cases us with
  |nil=>cases l
  |cons u us=>cases us with
   |nil=>exact⟨u,rfl⟩
   |cons _ _=>cases l
 refine VM G G0 I1 λh' t kp g=>⟨_,t,rfl,kp _ _ (I1.jK _ _ g1),g,?_⟩
 exact hp aa Z H1 s1 H1 _ _ C none I1 ⟨rfl,I1.bare,Un.kept kp,I1.bD.kept kp,qG _,I1.bD.fresh (qG _),_,_,g,rfl,rfl,rfl,by show 1<6;decide,.inl rfl⟩ pp
end
abbrev GH:=(ah->ai Bool)×GS
variable{gs:List GH}
noncomputable def AX:Fr->ai Fr
 |.ex _ _ _ _=>none
 |r=>some r
def sZ:List GH->ah->GS
 |[],_=>λ_ _=>none
 |h::hs,C=>λU S=>(h.1 C).bind λb=>if b=true then(h.2 U S).bind AX else sZ hs C U S
def rY(f:GS)(hs:List GH):GS:=λU S=>(f U S).bind λr=>match r with
 |.ex C _ U1 S1=>sZ hs C U1 S1
 |r=>some r
section
variable{X:Cx}{K:fU}{W:XW}{q:Nat}
theorem SP.eY{aa:List (ah×Obj)}{D:Ends}{f:Flow}{s':ay}{e:aj}(h:SP (X.eI e) aa D f s')(hd:X.calm=true->X.A.handled=none):SP X aa D f s':=by
 cases f with
 |next=>obtain⟨Z',H',I,q⟩:=h;exact⟨Z',H',I.eY hd,q⟩
 |brk=>obtain⟨Z',H',I,q⟩:=h;exact⟨Z',H',I.eY hd,q⟩
 |cont=>obtain⟨Z',H',I,q⟩:=h;exact⟨Z',H',I.eY hd,q⟩
 |ret u=>obtain⟨v,Z',H',I,r,q⟩:=h;exact⟨v,Z',H',I.eY hd,r,q⟩
def Done.AX{D:Ends}{k:Kn}{H:Hp}{r fr:Fr}(w:Done K W q D k H fr)(e:L2.AX r=some fr):Done K W0 q D k H r:=by
 cases r with
 |ex _ _ _ _=>cases e
 |_=>cases e;exact w
def HB(X:Cx)(K:fU)(W:XW)(q:Nat)(hs:List ExceptHandler)(gs:List GH):Prop:=∀(aa:List (ah×Obj)) (Z:St) (H:Hp) (s:ay) (D:Ends) (e C:ah) (dx:ai ah) (k:Kn) (U:Gm) (S:aT) (fr:Fr) (n:Nat),Inv X aa Z H s->Bq X aa n->iQ n s.heap H e C dx->cx K k H S->ig K k Z U->sZ gs C U S=some fr->Done K W q D k H fr->
 wpAny (model X.prog X.w) X.A (handleBy (.ref e) X.env hs) (SP X aa D) X.xe s
def yJ:HB X K W q [] []:=λ_ _ _ _ _ _ _ _ _ _ _ _ _ _ _ _ _ _ e _=>nomatch e
def X1{x:Str}{np hp:Pos}{b0:Stmt}{nI:List Stmt}{wh:ah->ai Bool}{g:GS}{Cc:ah}(hm:X.mg x=some (.ref Cc))(hw:∀C b,wh C=some b->exmOne K (.ref C) (.ref Cc)=some b)(hS:∀e,jl (X.eI e) (b0::nI) (tS K W0 q g))(rest:HB X K W q hs gs)(hg:Gl X x)(jm:(x == ("__debug__":Str))=false)(hK:X.K=K):
  HB X K W q (.ExceptHandler (some (.Name x np)) none (b0::nI) hp::hs) ((wh,g)::gs):=by
 subst hK;intro aa Z H s D e C dx k U S fr n I y f ok gk ee w;obtain⟨bb,q1,ee⟩:=cG.mp ee;dsimp only at q1 ee;refine wpAny_handleBy_cons (codeAny_handlers_test (xW (I.eI (e:=.ref e)) hg hm ?_ jm)) (by intro q;cases q)
 obtain⟨gP,tW,oe,vs,he,hc,hr⟩:=id f;have LT:Looks (model X.prog X.w) s.heap (typeOf (.ref e)) (.ref C):=by
  rw[<-hc];exact(Looks.ld he).andThen .now
 refine(exm_one I.jK LT (hw C bb q1)).here ?_;cases bb with
 |true=>
  obtain⟨r,e2,e3⟩:=cG.mp (show(g U S).bind L2.AX=some fr from ee);refine codeAny_handlers_suite (VN (X:=X) f λh' ch kL lx f2=>?_)
  have I2:Inv X aa Z H { s with heap:=h',toks:=s.toks}:=I.left y lx kL;refine wpAny_mono (hS (.ref e) aa _ Z H D I2.eI ⟨k,U,S,r,ok,gk,e2,w.AX e3⟩) (λfl s2 q=>?_) λ_ _ z=>z.elim
  exact q.eY I.ok.hd
 |false=>exact rest aa Z H s D e C dx k U S fr n I y f ok gk ee w
theorem SP.eO{aa:List (ah×Obj)}{E:aj->ay->Prop}{D:Ends}{f:Flow}{s':ay}(h:SP (X.fS (X.pn++aa) E) [] D f s'):SP X aa D f s':=by
 cases f with
 |next=>obtain⟨Z',H',I,q⟩:=h;exact⟨Z',H',I.eO,q⟩
 |brk=>obtain⟨Z',H',I,q⟩:=h;exact⟨Z',H',I.eO,q⟩
 |cont=>obtain⟨Z',H',I,q⟩:=h;exact⟨Z',H',I.eO,q⟩
 |ret u=>obtain⟨v,Z',H',I,r,q⟩:=h;exact⟨v,Z',H',I.eO,r,q⟩
def yC{body:List Stmt}{h0:ExceptHandler}{f:GS}{pos:Pos}(hb:∀pn E W,fO (X.fS pn E) W->jl (X.fS pn E) body (tS K W q f))(hh:HB X K W q (h0::hs) gs)(mi:X.stack=X.env::X.outer)(hf:X.env.frame=some X.env.locals):
  PS X (.Try body (h0::hs) [] [] pos) (tS K W q (rY f gs)):=by
 intro aa s Z H D I t;obtain⟨k,U,S,fr,ok,gk,e,w⟩:=t;obtain⟨r1,e1,e⟩:=cG.mp e;refine wpAny_Try_except ?_;have hp:fO (X.fS (X.pn++aa) λe s₁=>wpAny (model X.prog X.w) X.A (noteFrame e X.env) (λ_ s₂=>wpAny (model X.prog X.w) X.A (setFlight e none) (λ_ s₃=>wpAny (model X.prog X.w) X.A (handleBy e X.env (h0::hs)) (SP X aa D) X.xe s₃) X.xe s₂) X.xe s₁)
   (λC dx Z' H'=>∃k' U1 S1 fr,cx K k' H' S1/\ig K k' Z' U1/\sZ gs C U1 S1=some fr/\Done K W q D k' H' fr):=by
  intro nC Z' H1 s1 H' s' e C dx I1 c q;obtain⟨k',U2,S2,fr2,cV,gk2,e2,w2⟩:=q;have I':Inv X aa Z' H' s':=(c.inv I1).eO;have J:Inv X aa Z' H1 s1:=I1.eO;refine Qn (base:=X.base) (n:=s1.heap.objs.size) (by rw[<-mi];exact I.ok.frames) (by rw[<-mi];exact I'.stack) hf c.GC.lt (λa z=>I'.bD.fresh z) c.GC λh' ch kL lx fl=>?_
  rw[<-mi] at lx;have I3:Inv X aa Z' H' { s' with heap:=h',toks:=s'.toks}:=I'.left J.Sy lx kL;exact hh aa Z' H' _ D e C dx k' U2 S2 fr2 _ I3 J.Sy fl cV gk2 e2 w2
 refine wpAny_mono (hb _ _ _ hp [] s Z H D I.fS ⟨k,U,S,r1,ok,gk,e1,?_⟩) (λff s1 z=>?_) λe s1 z=>z
 .cases r1 with
  |ex C l U1 S1=>exact λdx Z' k' H' u f9 g' el=>⟨k',U1,S1,fr,f9,g',e,w.up u⟩
  |_=>cases e;exact w
 .have z:=z.eO;cases ff with
  |next=>
   obtain⟨Z',H',J,r⟩:=z;exact pk aa s1 Z' H' D J r
  |brk=>exact z
  |cont=>exact z
  |ret u=>exact z
end
end L2
namespace L2
open PySem PySem.Spec PyProof.Rows
variable{K:aL}{es:List D}{j n:Nat}
abbrev bK(K:aL)(H:Hp):List V->List D->Prop:=ag K ⟨H,[],[]⟩
def ag.Hj{H H1:Hp}{vs:List V}{ds:List D}(h:ag K ⟨H,[],[]⟩ vs ds)(s:aB H H1):ag K ⟨H1,[],[]⟩ vs ds:=ag.mono (k:=⟨H,[],[]⟩) ⟨s,lh ([]:List ah)⟩ h
section
variable{X:Cx}
mutual
def ec:D->D->Bool
 |.lst xs,.lst ys=>iC xs ys
 |.tup xs,.tup ys=>iC xs ys
 |.aI,.aI=>true
 |.bl a,.bl b=>a == b
 |.bl a,.int b=>(if a then 1 else 0) == b
 |.int a,.bl b=>a == (if b then 1 else 0)
 |.int a,.int b=>a == b
 |.str a,.str b=>a == b
 |_,_=>false
def iC:List D->List D->Bool
 |[],[]=>true
 |x::xs,y::ys=>ec x y&&iC xs ys
 |_,_=>false
end
noncomputable def fX:Nat->D->Bool
 |n+1,.lst xs=>xs.all (fX n)
 |n+1,.tup xs=>xs.all (fX n)
 |_,.aI=>true
 |_,.bl _=>true
 |_,.int _=>true
 |_,.str _=>true
 |_,_=>false
theorem IG:∀{xs ys:List D},xs.length≠ys.length->iC xs ys=false
 |[],[],h=>cR rfl h
 |[],_::_,_=>rfl
 |_::_,[],_=>rfl
 |x::xs,y::ys,h=>by show(ec x y&&iC xs ys)=false;rw[IG (by simpa using h),Mq]
theorem IH:∀{xs ys:List D} (n:Nat),xs.length=n->ys.length=n->iC xs ys=(List.range n).all λj=>ec (xs.getD j .aI) (ys.getD j .aI)
 |[],[],0,_,_=>rfl
 |x::xs,y::ys,n+1,h1,h2=>by
  show(ec x y&&iC xs ys)=_;rw[IH n (by simpa using h1) (by simpa using h2),List.range_succ_eq_map,tq,xa]
  rfl
 |[],_,_+1,h,_=>by simp at h
 |_::_,[],_+1,_,h=>by simp at h
 |_::_,_,0,h,_=>by simp at h
 |[],_::_,0,_,h=>by simp at h
variable{aa:List (ah×Obj)}{Z:St}{H:Hp}{s:ay}
def F8{F:Hp}{ws:List V}(r:bK K F ws es){aH:List aj}(rv:Vals ws aH)(h:j<aH.toArray.size):∃x,RelV x aH.toArray[j]/\bK K F [x] [es.getD j .aI]/\j<es.length:=by
 obtain⟨x,hx,rx⟩:=rv.at h;have hl:=r.length;have hj:j<es.length:=by
  grind
 obtain⟨y,hy,ry⟩:=r.get (i:=j) (d:=es[j]) (by simp[hj])
 rw[hx] at hy;cases hy;refine⟨x,rx,?_,hj⟩;rw[show es.getD j .aI=es[j] by simp[hj]]
 exact ry
def Fu{p:D->Bool}(h:es.all p=true)(hj:j<es.length):p (es.getD j .aI)=true:=by
 simp_all
inductive xy (K:aL) (H:Hp) (s:ay):aj->D->Prop
 |none:xy K H s .none .aI
 |bool (b:Bool):xy K H s (.bool b) (.bl b)
 |int (i:Int) (t:Tok):xy K H s (.int i t) (.int i)
 |str (x:Str) (t:Tok):xy K H s (.str x t) (.str x)
 |list {a:ah} {aH:List aj} {ws:List V} {es:List D}:s.heap.IsList a aH.toArray->Vals ws aH->bK K H ws es->xy K H s (.ref a) (.lst es)
 |tuple {a:ah} {aH:List aj} {ws:List V} {es:List D}:s.heap.IsTuple a aH.toArray->Vals ws aH->bK K H ws es->xy K H s (.ref a) (.tup es)
def Qq(I:Inv X aa Z H s){x:V}{u:aj}{d:D}(r:bK X.K H [x] [d])(ru:RelV x u)(ok:fX n d=true):xy X.K H s u d:=by
 cases r.one with
 |lst q i=>
  cases ru;obtain⟨aH,rv,pl,_⟩:=I.list q;exact .list pl.isList rv i
 |tup q i=>
  cases ru;obtain⟨aH,rv,pl,_⟩:=I.tuple q;exact .tuple pl rv i
 |aA _ _ _ _=>cases n <;> cases ok
 |ref _=>cases n <;> cases ok
 |flat q=>
  cases d with
  |aI=>cases q;cases ru;exact .none
  |bl b=>cases q;cases ru;exact .bool b
  |int i=>cases q;obtain⟨t,rfl⟩:=ru;exact .int i t
  |str z=>cases q;obtain⟨t,rfl⟩:=ru;exact .str z t
  |ty _=>cases n <;> cases ok
  |lst _=>cases q
  |tup _=>cases q
  |aA _=>cases q
  |ref _=>cases q
def B6(h:fX n (.lst es)=true):∃m,n=m+1/\es.all (fX m)=true:=by
 cases n with
 |zero=>cases h
 |succ n=>exact⟨n,rfl,h⟩
def B7(h:fX n (.tup es)=true):∃m,n=m+1/\es.all (fX m)=true:=by
 cases n with
 |zero=>cases h
 |succ n=>exact⟨n,rfl,h⟩
def NQ(h:∀d∈es,ec d d=true):iC es es=true:=by
 induction es with
 |nil=>rfl
 |cons d es ih=>show(ec d d&&iC es es)=true;rw[h d (by simp),ih λd m=>h d (by simp[m])];rfl
theorem II:∀(n:Nat) {d:D},fX n d=true->ec d d=true:=by
 intro n
 induction n with
 |zero=>intro d h;cases d <;> first|(cases h;done)|exact rfl|exact cT _
 |succ n ih=>
  intro d h;cases d with
  |lst es=>exact NQ λd m=>ih (jX.mp h d m)
  |tup es=>exact NQ λd m=>ih (jX.mp h d m)
  |aA _=>cases h
  |ref _=>cases h
  |ty _=>cases h
  |_=>first|exact rfl|exact cT _
def S7{xs ys:List D}(hl:xs.length=ys.length)(h:∀j,j<xs.length->xs.getD j .aI=ys.getD j .aI):xs=ys:=by
 apply List.ext_getElem hl;intro j h1 h2;have:=h j h1;simpa[h1,h2] using this
noncomputable def L5:V->D
 |.bl b=>.bl b
 |.int i=>.int i
 |.str x=>.str x
 |.ty n=>.ty n
 |_=>.aI
def NR{d:D}{v:V}(h:uz d=some v):d=L5 v:=by cases d <;> cases h <;> rfl
def Ag{d:D}{a:ah}(h:uz d=some (.ref a)):False:=by cases d <;> cases h
theorem FT(I:Inv X aa Z H s):∀(n m:Nat) {x:V} {d e:D},bK X.K H [x] [d]->bK X.K H [x] [e]->fX n d=true->fX m e=true->d=e:=by
 intro n
 induction n using Nat.strongRecOn with
 |ind n ih=>
 intro m x d e rd re od oe;have go:∀{ws:List V} {es nq:List D} {n' m':Nat},n'<n->bK X.K H ws es->bK X.K H ws nq->es.all (fX n')=true->nq.all (fX m')=true->es=nq:=by
  intro ws es nq n' m' hn r1 r2 o1 o2;have l1:=r1.length;have l2:=r2.length;refine S7 (by lia) λj hj=>?_
  have GU:j<nq.length:=by lia
  obtain⟨v,g1,g2⟩:=r1.get (i:=j) (d:=es[j]) (by simp[hj])
  obtain⟨v',p1,p2⟩:=r2.get (i:=j) (d:=nq[j]) (by simp[GU])
  rw[g1] at p1;cases p1;rw[show es.getD j .aI=es[j] by simp[hj],show nq.getD j .aI=nq[j] by simp[GU]]
  exact ih n' hn m' g2 p2 (jX.mp o1 _ (A' hj)) (jX.mp o2 _ (A' GU))
 cases rd.one with
 |flat q=>
  cases re.one with
  |flat q'=>
   rw[NR q,NR q']
  |lst _ _=>exact(Ag q).elim
  |tup _ _=>exact(Ag q).elim
  |aA _ _ _ _=>exact(Ag q).elim
  |ref _=>exact(Ag q).elim
 |lst q i=>
  obtain⟨n',rfl,zh⟩:=B6 od;cases re.one with
  |flat q'=>exact(Ag q').elim
  |lst q' i'=>
   obtain⟨m',rfl,zj⟩:=B6 oe;cases I.kA q q';rw[go (vx _) i i' zh zj]
  |tup q' i'=>
   obtain⟨_,_,p1,_⟩:=I.list q;obtain⟨_,_,p2,_⟩:=I.tuple q';exact cR rfl (SeqAt.ne_of_list_tuple p1.isList p2)
  |aA _ _ _ _=>cases m <;> cases oe
  |ref _=>cases m <;> cases oe
 |tup q i=>
  obtain⟨n',rfl,zh⟩:=B7 od;cases re.one with
  |flat q'=>exact(Ag q').elim
  |tup q' i'=>
   obtain⟨m',rfl,zj⟩:=B7 oe;cases I.lK q q';rw[go (vx _) i i' zh zj]
  |lst q' i'=>
   obtain⟨_,_,p1,_⟩:=I.list q';obtain⟨_,_,p2,_⟩:=I.tuple q;exact cR rfl (SeqAt.ne_of_list_tuple p1.isList p2)
  |aA _ _ _ _=>cases m <;> cases oe
  |ref _=>cases m <;> cases oe
 |aA _ _ _ _=>cases n <;> cases od
 |ref _=>cases n <;> cases od
def Ju(I:Inv X aa Z H s):∀(n m:Nat) {A:c8} {x y:V} {u v:aj} {d e:D},bK X.K H [x] [d]->bK X.K H [y] [e]->fX n d=true->fX m e=true->RelV x u->RelV y v->A.units+n<cLine->
  SeqAt.EqAt A s u v (ec d e)/\SeqAt.RcAt A s u v (ec d e):=by
 intro n
 induction n using Nat.strongRecOn with
 |ind n ih=>
 intro m A x y u v d e rd re od oe ru rv hu;have fR:A.units<cLine:=by lia
 have s1:=Qq I rd ru od;have s2:=Qq I re rv oe;cases s1 with
 |none=>
  cases s2 with
  |none=>
   exact⟨SeqAt.EqAt.same _,SeqAt.RcAt.none_none⟩
  |bool a2=>
   exact⟨SeqAt.EqAt.none_bool a2,SeqAt.RcAt.none_bool a2⟩
  |int a2 t2=>
   exact⟨SeqAt.EqAt.none_int a2 t2,SeqAt.RcAt.none_int a2 t2⟩
  |str a2 t2=>
   exact⟨SeqAt.EqAt.none_str a2 t2,SeqAt.RcAt.none_str a2 t2⟩
  |list l2 v2 r2=>
   exact⟨SeqAt.EqAt.none_list l2 fR,SeqAt.RcAt.none_list l2 fR⟩
  |tuple l2 v2 r2=>
   exact⟨SeqAt.EqAt.none_tuple l2 fR,SeqAt.RcAt.none_tuple l2 fR⟩
 |bool a1=>
  cases s2 with
  |none=>
   exact⟨SeqAt.EqAt.bool_none a1,SeqAt.RcAt.bool_none a1⟩
  |bool a2=>
   exact⟨SeqAt.EqAt.bool_bool a1 a2,SeqAt.RcAt.bool_bool a1 a2⟩
  |int a2 t2=>
   exact⟨SeqAt.EqAt.bool_int a1 a2 t2,SeqAt.RcAt.bool_int a1 a2 t2⟩
  |str a2 t2=>
   exact⟨SeqAt.EqAt.bool_str a1 a2 t2,SeqAt.RcAt.bool_str a1 a2 t2⟩
  |list l2 v2 r2=>
   exact⟨SeqAt.EqAt.bool_list a1 l2 fR,SeqAt.RcAt.bool_list a1 l2 fR⟩
  |tuple l2 v2 r2=>
   exact⟨SeqAt.EqAt.bool_tuple a1 l2 fR,SeqAt.RcAt.bool_tuple a1 l2 fR⟩
 |int a1 t1=>
  cases s2 with
  |none=>
   exact⟨SeqAt.EqAt.int_none a1 t1,SeqAt.RcAt.int_none a1 t1⟩
  |bool a2=>
   exact⟨SeqAt.EqAt.int_bool a1 t1 a2,SeqAt.RcAt.int_bool a1 t1 a2⟩
  |int a2 t2=>
   exact⟨SeqAt.EqAt.int_int a1 t1 a2 t2,SeqAt.RcAt.int_int a1 t1 a2 t2⟩
  |str a2 t2=>
   exact⟨SeqAt.EqAt.int_str a1 t1 a2 t2,SeqAt.RcAt.int_str a1 t1 a2 t2⟩
  |list l2 v2 r2=>
   exact⟨SeqAt.EqAt.int_list a1 t1 l2 fR,SeqAt.RcAt.int_list a1 t1 l2 fR⟩
  |tuple l2 v2 r2=>
   exact⟨SeqAt.EqAt.int_tuple a1 t1 l2 fR,SeqAt.RcAt.int_tuple a1 t1 l2 fR⟩
 |str a1 t1=>
  cases s2 with
  |none=>
   exact⟨SeqAt.EqAt.str_none a1 t1,SeqAt.RcAt.str_none a1 t1⟩
  |bool a2=>
   exact⟨SeqAt.EqAt.str_bool a1 t1 a2,SeqAt.RcAt.str_bool a1 t1 a2⟩
  |int a2 t2=>
   exact⟨SeqAt.EqAt.str_int a1 t1 a2 t2,SeqAt.RcAt.str_int a1 t1 a2 t2⟩
  |str a2 t2=>
   exact⟨SeqAt.EqAt.str_str a1 t1 a2 t2,SeqAt.RcAt.str_str a1 t1 a2 t2⟩
  |list l2 v2 r2=>
   exact⟨SeqAt.EqAt.str_list a1 t1 l2 fR,SeqAt.RcAt.str_list a1 t1 l2 fR⟩
  |tuple l2 v2 r2=>
   exact⟨SeqAt.EqAt.str_tuple a1 t1 l2 fR,SeqAt.RcAt.str_tuple a1 t1 l2 fR⟩
 |@list a aH ws es l1 v1 r1=>
  cases s2 with
  |none=>
   exact⟨SeqAt.EqAt.list_none l1 fR,SeqAt.RcAt.list_none l1 fR⟩
  |bool a2=>
   exact⟨SeqAt.EqAt.list_bool a2 l1 fR,SeqAt.RcAt.list_bool a2 l1 fR⟩
  |int a2 t2=>
   exact⟨SeqAt.EqAt.list_int a2 t2 l1 fR,SeqAt.RcAt.list_int a2 t2 l1 fR⟩
  |str a2 t2=>
   exact⟨SeqAt.EqAt.list_str a2 t2 l1 fR,SeqAt.RcAt.list_str a2 t2 l1 fR⟩
  |@list b k6 L_ nq l2 v2 r2=>
   obtain⟨n',rfl,zh⟩:=B6 od;obtain⟨m',rfl,zj⟩:=B6 oe;have la:=v1.length;have lb:=v2.length;have la':=r1.length;have lb':=r2.length;have rc:SeqAt.RcAt A s (.ref a) (.ref b) (ec (.lst es) (.lst nq)):=by
    show SeqAt.RcAt A s _ _ (iC es nq);by_cases hl:es.length=nq.length
    .rw[IH aH.toArray.size (by simp only[fK];lia) (by simp only[fK];lia)]
     refine SeqAt.RcAt.lists (A:=A) l1 l2 (by simp only[fK];lia) fR λj h1 h2=>?_
     obtain⟨x1,q1,q2,q3⟩:=F8 r1 v1 h1;obtain⟨y1,p1,p2,p3⟩:=F8 r2 v2 h2;exact(ih n' (vx _) m' q2 p2 (Fu zh q3) (Fu zj p3) q1 p1 (by show A.units+1+n'<cLine;lia)).1
    grind [IG,PySem.SeqAt.RcAt.lists_lengths]
   grind [RelV.inj,FT,II,PySem.SeqAt.EqAt.same,PySem.SeqAt.EqAt.of_refs]
  |tuple l2 v2 r2=>
   exact⟨SeqAt.EqAt.list_tuple l1 l2 fR,SeqAt.RcAt.list_tuple l1 l2 fR⟩
 |@tuple a aH ws es l1 v1 r1=>
  cases s2 with
  |none=>
   exact⟨SeqAt.EqAt.tuple_none l1 fR,SeqAt.RcAt.tuple_none l1 fR⟩
  |bool a2=>
   exact⟨SeqAt.EqAt.tuple_bool a2 l1 fR,SeqAt.RcAt.tuple_bool a2 l1 fR⟩
  |int a2 t2=>
   exact⟨SeqAt.EqAt.tuple_int a2 t2 l1 fR,SeqAt.RcAt.tuple_int a2 t2 l1 fR⟩
  |str a2 t2=>
   exact⟨SeqAt.EqAt.tuple_str a2 t2 l1 fR,SeqAt.RcAt.tuple_str a2 t2 l1 fR⟩
  |list l2 v2 r2=>
   exact⟨SeqAt.EqAt.tuple_list l1 l2 fR,SeqAt.RcAt.tuple_list l1 l2 fR⟩
  |@tuple b k6 L_ nq l2 v2 r2=>
   obtain⟨n',rfl,zh⟩:=B7 od;obtain⟨m',rfl,zj⟩:=B7 oe;have la:=v1.length;have lb:=v2.length;have la':=r1.length;have lb':=r2.length;have rc:SeqAt.RcAt A s (.ref a) (.ref b) (ec (.tup es) (.tup nq)):=by
    have z:=SeqAt.RcAt.tuples (A:=A) (e:=λj=>ec (es.getD j .aI) (nq.getD j .aI)) l1 l2 fR λj h1 h2=>by
     obtain⟨x1,q1,q2,q3⟩:=F8 r1 v1 h1;obtain⟨y1,p1,p2,p3⟩:=F8 r2 v2 h2;exact(ih n' (vx _) m' q2 p2 (Fu zh q3) (Fu zj p3) q1 p1 (by show A.units+1+n'<cLine;lia)).1
    show SeqAt.RcAt A s _ _ (iC es nq);by_cases hl:es.length=nq.length
    .rw[IH aH.toArray.size (by simp only[fK];lia) (by simp only[fK];lia)]
     have e1:k6.toArray.size=aH.toArray.size:=by simp only[fK];lia
     rw[e1,Nat.min_self,cT,Bool.and_true] at z;exact z
    .rw[IG hl];have e1:(aH.toArray.size == k6.toArray.size)=false:=by rw[qJ];simp only[fK];lia
     rw[e1,Mq] at z;exact z
   grind [RelV.inj,FT,II,PySem.SeqAt.EqAt.same,PySem.SeqAt.EqAt.of_refs]
end
mutual
theorem Jk:∀k j:TK,ec k.d j.d=decide (k=j)
 |.inl a,.inl b=>by show(a == b)=_;rw[A_];simp
 |.inr a,.inr b=>by show(a == b)=_;rw[A_];simp
 |.tp l,.tp m=>by show iC (TK.dl l) (TK.dl m)=_;rw[nj l m,A_];simp
 |.inl _,.inr _=>rfl
 |.inl _,.tp _=>rfl
 |.inr _,.inl _=>rfl
 |.inr _,.tp _=>rfl
 |.tp _,.inl _=>rfl
 |.tp _,.inr _=>rfl
 |.aI,.aI=>rfl
 |.aI,.inl _=>rfl
 |.aI,.inr _=>rfl
 |.aI,.tp _=>rfl
 |.inl _,.aI=>rfl
 |.inr _,.aI=>rfl
 |.tp _,.aI=>rfl
theorem nj:∀l m:List TK,iC (TK.dl l) (TK.dl m)=decide (l=m)
 |[],[]=>rfl
 |a::l,b::m=>by show(ec a.d b.d&&iC (TK.dl l) (TK.dl m))=_;rw[Jk a b,nj l m,A_];simp
 |[],_::_=>rfl
 |_::_,[]=>rfl
end
theorem F9:∀l:List TK,TK.dl l=l.map TK.d
 |[]=>by simp[TK.dl]
 |a::l=>by simp[TK.dl,F9 l]
theorem Ak:∀(n:Nat) {k:TK},k.ok n=true->fX n k.d=true
 |n,.inl i,_=>by cases n <;> rfl
 |n,.inr i,_=>by cases n <;> rfl
 |n,.aI,_=>by cases n <;> rfl
 |0,.tp l,h=>by simp[TK.ok] at h
 |n+1,.tp l,h=>by
  show(TK.dl l).all (fX n)=true;rw[F9,xa];refine jX.mpr λa m=>?_
  exact Ak n (jX.mp (by simpa only[TK.ok] using h) a m)
def Uy{α:Type}{M:Model}{A:c8}{E:aj->ay->Prop}{s:ay}{c:Prop}[Decidable c]{a b:Sem α}{Q:α->ay->Prop}(h1:wpAny M A a Q E s)(h2:wpAny M A b Q E s):wpAny M A (if c then a else b) Q E s:=by
 split
 .exact h1
 .exact h2
theorem MY(w:cI):∀l m:List TK,TK.eH w (l++m)=TK.eH w l++TK.eH w m
 |[],m=>by simp[TK.eH]
 |a::l,m=>by simp[TK.eH,MY w l m]
section
variable{X:Cx}{aa:List (ah×Obj)}{Z:St}{H:Hp}
def Pm{A:c8}{E:aj->ay->Prop}{s:ay}{y:V}{u:aj}{i:Int}{Q:Int->ay->Prop}(r:bK X.K H [y] [TK.d (.inl i)])(ru:RelV y u)(h:∀t,Q (TK.hash X.w (.inl i)) { s with toks:=t}):wpAny (model X.prog X.w) A (pyHash u) Q E s:=by
 cases(show y=.int i from ag.aP r rfl);obtain⟨t,rfl⟩:=ru;exact wpAny_pyHash_int (by simpa only[TK.hash] using h _)
def Pn{A:c8}{E:aj->ay->Prop}{s:ay}{y:V}{u:aj}{i:Str}{Q:Int->ay->Prop}(r:bK X.K H [y] [TK.d (.inr i)])(ru:RelV y u)(h:∀t,Q (TK.hash X.w (.inr i)) { s with toks:=t}):wpAny (model X.prog X.w) A (pyHash u) Q E s:=by
 cases(show y=.str i from ag.aP r rfl);obtain⟨t,rfl⟩:=ru;exact wpAny_pyHash_str (by simpa only[TK.hash] using h _)
theorem Po{A:c8}{E:aj->ay->Prop}{s:ay}{y:V}{u:aj}{Q:Int->ay->Prop}(r:bK X.K H [y] [TK.d .aI])(ru:RelV y u)(h:∀t,Q (TK.hash X.w .aI) { s with toks:=t}):wpAny (model X.prog X.w) A (pyHash u) Q E s:=by
 cases(show y=.aI from ag.aP r rfl);cases ru;have hT:s.TypeIs .none "NoneType":=rfl;unfold pyHash;have hv:[Value.none].any Value.onHeap=false:=rfl;refine aE ?_;rw[cRoomFor,br (by rw[hv];exact qF)];refine aY ?_
 refine aE (wpAny_specialOf hT F.slot_NoneType_hash.lookup ?_);show wpAny _ _ (if(some (Value.builtin "NoneType.__hash__") == some Value.none)=true then _ else _) Q E s
 rw[br (by rw[beq_builtin_none];exact qF)]
 refine aE (wpAny_specialOf hT F.slot_NoneType_hash.lookup ?_);show wpAny _ _ (callSpecialIfBoundUnlessNone? .none "__hash__" _ >>= _) Q E s;refine aE (wpAny_callSpecialIfBoundUnlessNone?_slot hT F.slot_NoneType_hash (wpAny_call_entry F.slot_NoneType_hash hT F.entry_NoneType_hash (show wpAny _ _ (do ret (<-mkInt 4238894112)) _ _ s from wpAny_ret_mkInt ?_) (F.args_NoneType_hash_1 _)))
 refine aY ?_
 grind [TK.hash]
theorem Oi:∀(n:Nat) {A:c8} {E:aj->ay->Prop} {s:ay} {y:V} {u:aj} {k:TK} {Q:Int->ay->Prop},Inv X aa Z H s->bK X.K H [y] [k.d]->k.ok n=true->RelV y u->A.units+n<cLine->
  (∀t,Q (k.hash X.w) { s with toks:=t})->wpAny (model X.prog X.w) A (pyHash u) Q E s:=by
 intro n
 induction n with
 |zero=>
  intro A E s y u k Q I r ok ru hu h;cases k with
  |tp l=>simp[TK.ok] at ok
  |inl i=>exact Pm r ru h
  |inr x=>exact Pn r ru h
  |aI=>exact Po r ru h
 |succ n ih=>
  intro A E s y u k Q I r ok ru hu h;cases k with
  |inl i=>exact Pm r ru h
  |inr x=>exact Pn r ru h
  |aI=>exact Po r ru h
  |tp l=>
   obtain⟨a,ws,rfl,q,i⟩:=ag.isTup r;cases ru;obtain⟨aH,rv,pl,_⟩:=I.tuple q;have hT:s.TypeIs (.ref a) "tuple":=pl.typeIs;obtain⟨o,g1,g2,nn,g3⟩:=pl;have ok:l.all (TK.ok n)=true:=by simpa only[TK.ok] using ok
   show wpAny _ _ (pyHashByItsType (.ref a)) Q E s;unfold pyHashByItsType;refine aE (wpAny_cRoomFor_or (.inr (by lia)) (aE (wpAny_specialOf hT F.slot_tuple_hash.lookup ?_)))
   dsimp only;rw[br (by rw[beq_builtin_none];exact qF)]
   refine aE (wpAny_specialOf hT F.slot_tuple_hash.lookup (aE ?_));refine wpAny_callSpecialIfBoundUnlessNone?_slot hT F.slot_tuple_hash (wpAny_call_entry F.slot_tuple_hash hT F.entry_tuple_hash ?_ (F.args_tuple_hash_1 _));show wpAny _ _ (Builtin.Tuple.tupleItemsOf (.ref a) >>= λz=>_) _ _ s
   refine aE (wpAny_tupleItemsOf g1 g3 (aE ?_));rw[<-Array.forIn_toList];refine wpAny_forIn_list _ (λrest (b:Array Int) s'=>∃done left wl t,l=done++left/\bK X.K H wl (TK.dl left)/\Vals wl rest/\b.toList=TK.eH X.w done/\s'={ s with toks:=t}) _ ?_ ?_ _ _ ⟨[],l,ws,s.toks,rfl,i,rv,by simp[TK.eH],rfl⟩
   .rintro x rest b s' ⟨done,left,wl,t,e,r',v',hb,rfl⟩;obtain⟨w1,wl,rfl,LG,v'⟩:=Paired.Ef v';cases left with
    |nil=>have:=r'.length;simp[TK.dl] at this
    |cons k1 left=>
     simp only[TK.dl] at r';have bM:k1.ok n=true:=jX.mp ok k1 (by rw[e];simp)
     have fin:∀t',∃vS wj Sx A3,l=vS++wj/\bK X.K H Sx (TK.dl wj)/\Vals Sx rest/\(b.push (k1.hash X.w)).toList=TK.eH X.w vS/\({ s with toks:=t'}:ay)={ s with toks:=A3}:=
      λt'=>⟨done++[k1],left,wl,t',by simp[e],r'.inv.2,v',by rw[MY,<-hb];simp[TK.eH],rfl⟩
     exact aE (ih (I.tok t) r'.inv.1 bM LG (by show A.units+1+n<cLine;lia) λt'=>by
      first
       |exact aY (fin t')
       |exact aE (aY (aY (fin t'))))
   .rintro b s' ⟨done,left,wl,t,e,r',v',hb,rfl⟩;cases v';have hl:left=[]:=by
     cases left with
     |nil=>rfl
     |cons _ _=>have:=r'.length;simp[TK.dl] at this
    subst hl;rw[jW] at e;subst e;show wpAny _ _ (retInt (Builtin.Tuple.tupleHashOf b.toList)) _ _ _;rw[hb];refine wpAny_ret_mkInt ?_;have h':∀t,Q (reduceHash (Builtin.Tuple.tupleHashOf (TK.eH X.w l))) { s with toks:=t}:=λt=>by simpa only[TK.hash] using h t
    unfold reduceHash at h';show wpAny _ _ (if(decide (-(2:Int)^63<=Builtin.Tuple.tupleHashOf (TK.eH X.w l))&&decide (Builtin.Tuple.tupleHashOf (TK.eH X.w l)<2^63))=true then _ else _) Q E _
    split
    .rename_i hc
     rw[bJ hc] at h';exact aY (h' _)
    .rename_i hc
     rw[br hc] at h';exact aE (wpAny_rule (aY (h' _)))
theorem NS:∀(n:Nat) {A:c8} {E:aj->ay->Prop} {s:ay} {y:V} {u:aj} {k:TK} {Q:Bool->ay->Prop},Inv X aa Z H s->bK X.K H [y] [k.d]->k.ok n=true->RelV y u->Q true s->
  wpAny (model X.prog X.w) A (eqIsQuiet n u) Q E s:=by
 intro n
 induction n with
 |zero=>
  intro A E s y u k Q I r ok ru h;cases k with
  |tp l=>simp[TK.ok] at ok
  |inl i=>cases(show _=.int i from ag.aP r rfl);obtain⟨t,rfl⟩:=ru;rw[eqIsQuiet_byValue 0 rfl];exact aY h
  |inr i=>cases(show _=.str i from ag.aP r rfl);obtain⟨t,rfl⟩:=ru;rw[eqIsQuiet_byValue 0 rfl];exact aY h
  |aI=>cases(show _=.aI from ag.aP r rfl);cases ru;rw[eqIsQuiet_byValue 0 rfl];exact aY h
 |succ n ih=>
  intro A E s y u k Q I r ok ru h;cases k with
  |inl i=>cases(show _=.int i from ag.aP r rfl);obtain⟨t,rfl⟩:=ru;rw[eqIsQuiet_byValue (n+1) rfl];exact aY h
  |inr i=>cases(show _=.str i from ag.aP r rfl);obtain⟨t,rfl⟩:=ru;rw[eqIsQuiet_byValue (n+1) rfl];exact aY h
  |aI=>cases(show _=.aI from ag.aP r rfl);cases ru;rw[eqIsQuiet_byValue (n+1) rfl];exact aY h
  |tp l=>
   obtain⟨a,ws,rfl,q,i⟩:=ag.isTup r;cases ru;obtain⟨aH,rv,pl,_⟩:=I.tuple q;have hT:s.TypeIs (.ref a) "tuple":=pl.typeIs;obtain⟨o,g1,g2,nn,g3⟩:=pl;have ok:l.all (TK.ok n)=true:=by simpa only[TK.ok] using ok
   unfold eqIsQuiet;refine aE (wpAny_specialOf hT F.slot_tuple_eq.lookup (aE (wpAny_isInstance hT isSubtype_tuple_tuple ?_)));simp only[e_,ud,lr];refine aE (wpAny_seqItems g1 g3 (aE ?_));show wpAny _ _ (forIn aH.toArray _ _) _ _ s;rw[<-Array.forIn_toList];refine wpAny_forIn_list _ (λrest r s'=>r.1=none/\s'=s/\∃left wl,bK X.K H wl (TK.dl left)/\Vals wl rest/\∀x∈left,x.ok n=true) _ ?_ ?_ _ _ ⟨rfl,rfl,l,ws,i,rv,λx m=>jX.mp ok x m⟩
   .rintro v rest r s' ⟨hr,rfl,left,wl,r',v',hk⟩;obtain⟨w1,wl,rfl,LG,v'⟩:=Paired.Ef v';cases left with
    |nil=>have:=r'.length;simp[TK.dl] at this
    |cons k1 left=>
     simp only[TK.dl] at r';refine aE (ih I r'.inv.1 (hk k1 (by simp)) LG ?_)
     simp only[e_,ud,lr];exact aY ⟨rfl,rfl,left,wl,r'.inv.2,v',λx m=>hk x (by simp[m])⟩
   .rintro⟨r1,r2⟩ s' ⟨hr,rfl,_⟩;cases(show r1=none from hr);exact aY h
structure Bh (X:Cx) (A:c8) (E:aj->ay->Prop) (s:ay) (xs:Array DictEntry) (es:List (TK×V×V)) (k:TK) (u:aj):Prop where
 ent:∀(j:Nat) (x:DictEntry),xs[j]?=some x->∃e,es[j]?=some e/\jb X.w e x/\(∀(R:Bool->ay->Prop),R (decide (e.1=k)) s->wpAny (model X.prog X.w) A (eqBool x.key u) R E s)/\
  ∀(R:Bool->ay->Prop),R true s->wpAny (model X.prog X.w) A (eqIsQuiet 8 x.key) R E s
 ents:∀(j:Nat) (e:TK×V×V),es[j]?=some e->∃x:DictEntry,xs[j]?=some x/\jb X.w e x
 uniq:∀(i j:Nat) (e f:TK×V×V),es[i]?=some e->es[j]?=some f->e.1=k->f.1=k->i=j
def e3l{A:c8}{E:aj->ay->Prop}{s:ay}{xs:Array DictEntry}{es:List (TK×V×V)}{k:TK}{y:V}{u:aj}(I:Inv X aa Z H s)(g3:Paired (jb X.w) es xs.toList)(g4:(es.map (·.1)).Nodup)
  (rk:bK X.K H (es.map (·.2.1)) (es.map (·.1.d))) (ry:bK X.K H [y] [k.d]) (ok:k.ok 8=true) (ru:RelV y u) (hu:A.units+8<cLine):Bh X A E s xs es k u where
 ent:=λj x hx=>by
  obtain⟨e,e1,e2⟩:=Fh j g3 (by rw[w9];exact hx)
  obtain⟨v,v1,v2⟩:=rk.get (i:=j) (d:=e.1.d) (by rw[fL,e1];rfl)
  rw[fL,e1] at v1;cases v1;refine⟨e,e1,e2,λR hR=>?_,λR hR=>NS 8 I v2 e2.2.2.2 e2.2.1 hR⟩
  refine(Ju I 8 8 v2 ry (Ak 8 e2.2.2.2) (Ak 8 ok) e2.2.1 ru hu).1 X.prog X.w E R ?_;rw[Jk];exact hR
 ents:=λj e he=>by
  obtain⟨x,x1,x2⟩:=Fi j g3 he
  simp_all
 uniq:=λi j e f he hf ek fk=>by
  have hi:(es.map (·.1))[i]?=some k:=by rw[fL,he,<-ek];rfl
  have hj:(es.map (·.1))[j]?=some k:=by rw[fL,hf,<-fk];rfl
  exact(List.getElem?_inj (eQ.mp hi).1 g4).mp (hi.trans hj.symm)
section
variable{A:c8}{E:aj->ay->Prop}{s:ay}{d:ah}{o:Obj}{xs:Array DictEntry}{ep:Nat}{es:List (TK×V×V)}{k:TK}{u:aj}{Q:ai Nat->ay->Prop}
noncomputable abbrev nD(xs:Array DictEntry)(h:Int):List Nat:=placesWithHash xs.size (λi=>xs[i]?.map (·.hash)) h
def mB{h:Int}{i:Nat}:i∈nD xs h↔∃x,xs[i]?=some x/\x.hash=h:=by
 unfold nD placesWithHash;rw[qE,qp];constructor
 .rintro⟨h1,h2⟩;refine⟨xs[i],ue h1,?_⟩;dsimp only at h2;rw[ue h1] at h2;simpa using h2
 .rintro⟨x,h1,h2⟩;refine⟨(Bb.mp h1).1,?_⟩;dsimp only;rw[h1,Bd,h2];simp
def Uz{h:Int}:(nD xs h).Nodup:=List.Nodup.sublist Be Mr
def Bh.nD(D:Bh X A E s xs es k u){e:TK×V×V}(he:es[j]?=some e)(ek:e.1=k):j∈nD xs (k.hash X.w):=by
 obtain⟨x,x1,x2⟩:=D.ents j e he;exact mB.mpr ⟨x,x1,by rw[x2.1,ek]⟩
def UA(D:Bh X A E s xs es k u)(g1:s.heap.get? d=some o)(g2:o.data=.dict xs ep)
  (q0:(∀(j:Nat) (e:TK×V×V),es[j]?=some e->e.1≠k)->Q none s) (q1:∀j e,es[j]?=some e->e.1=k->Q (some j) s) :
  wpAny (model X.prog X.w) A (dictWalkPlain d u (k.hash X.w) xs (nD xs (k.hash X.w))) Q E s:=by
 unfold dictWalkPlain;refine aE (wpAny_forIn_list _ (λrest b s'=>s'=s/\b=(none,())/\∃done,nD xs (k.hash X.w)=done++rest/\∀j e,j∈done->es[j]?=some e->e.1≠k) _ ?_ ?_ _ _ ⟨rfl,rfl,[],rfl,λ_ _ m=>by cases m⟩)
 .rintro i rest b s' ⟨rfl,rfl,done,hd,t4⟩;obtain⟨x,x1,x2⟩:=mB.mp (show i∈nD xs (k.hash X.w) by rw[hd];simp)
  obtain⟨e,e1,e2,eq,_⟩:=D.ent i x x1;simp only[x1];rw[bJ (by rw[x2];simp)]
  refine aE (wpAny_dictEpoch g1 g2 (aE (eq _ (aE (wpAny_dictEpoch g1 g2 ?_)))));rw[br (by simp)]
  by_cases ek:e.1=k
  .rw[nK ek];exact aE (wpAny_rule (aY (aY (q1 i e e1 ek))))
  .rw[oM ek];refine aE (wpAny_rule (aY ⟨rfl,rfl,done++[i],by simp[hd],λj f m hf=>?_⟩))
   rcases gZ.mp m with m|m
   .exact t4 j f m hf
   .simp at m;subst m;rw[e1] at hf;cases hf;exact ek
 .rintro b s' ⟨rfl,rfl,done,hd,t4⟩;refine aY (q0 λj e he ek=>t4 j e ?_ he ek)
  have:=D.nD he ek
  simp_all
def idv(u:aj):aj:=u
def VS(D:Bh X A E s xs es k u)(g1:s.heap.get? d=some o)(g2:o.data=.dict xs ep)(hq:∀R,R true s->wpAny (model X.prog X.w) A (eqIsQuiet 8 u) R E s)
  (hs:∀z t,u=.str z t->k=.inr z) (mi:∀(j:Nat) (x:DictEntry) (e:TK×V×V) z t,xs[j]?=some x->es[j]?=some e->x.key=.str z t->e.1=.inr z) (hh:∀a (j:Nat) (x:DictEntry) (e:TK×V×V),u=.ref a->xs[j]?=some x->es[j]?=some e->x.key=u->e.1=k)
  (q0:(∀(j:Nat) (e:TK×V×V),es[j]?=some e->e.1≠k)->Q none s) (q1:∀j e,es[j]?=some e->e.1=k->Q (some j) s) :
  wpAny (model X.prog X.w) A (dictFind d u (k.hash X.w)) Q E s:=by
 have walk:=UA D g1 g2 q0 q1;have stored:∀v∈(nD xs (k.hash X.w)).filterMap (λi=>xs[i]?.map (·.key)),∀(R:Bool->ay->Prop),R true s->wpAny (model X.prog X.w) A (eqIsQuiet 8 v) R E s:=by
  intro v hv R hR;obtain⟨i,_,hi⟩:=wY.mp hv;cases hx:xs[i]? with
  |none=>rw[hx] at hi;cases hi
  |some x=>
   rw[hx] at hi;obtain rfl:x.key=v:=by simpa using hi
   obtain⟨e,_,_,_,h⟩:=D.ent i x hx;exact h R hR
 have tell:∀(R:Bool->ay->Prop),R false s->wpAny (model X.prog X.w) A (tableMayTell u ((nD xs (k.hash X.w)).filterMap λi=>xs[i]?.map (·.key))) R E s:=by
  intro R hR;unfold tableMayTell;split
  .exact aY hR
  .refine aE (hq _ ?_);simp only[e_,ud,lr];refine aE (wpAny_forIn_list _ (λrest r s'=>s'=s/\r=(none,())/\∀v∈rest,∀(R:Bool->ay->Prop),R true s->wpAny (model X.prog X.w) A (eqIsQuiet 8 v) R E s) _ ?_ ?_ _ _ ⟨rfl,rfl,stored⟩)
   .rintro x rest r s' ⟨rfl,rfl,hr⟩;refine aE (hr x (by simp) _ ?_)
    simp only[e_,ud,lr];exact aY ⟨rfl,rfl,λv hv=>hr v (by simp[hv])⟩
   .rintro r s' ⟨rfl,rfl,_⟩;exact aY hR
 have tell2:∀(R:Bool->ay->Prop),R false s->wpAny (model X.prog X.w) A (if((nD xs (k.hash X.w)).filterMap (λi=>xs[i]?.map (·.key)) == [u])=true then pure false else tableMayTell u ((nD xs (k.hash X.w)).filterMap λi=>xs[i]?.map (·.key))) R E s:=by
  intro R hR;split
  .exact aY hR
  .exact tell R hR
 have fin:∀(i:Nat) (x:DictEntry) (e:TK×V×V),xs[i]?=some x->es[i]?=some e->jb X.w e x->(x.hash == k.hash X.w)=false->e.1≠k:=λi x e _ _ he hf ek=>by
  rw[he.1,ek] at hf;simp at hf
 unfold dictFind
 (try with_reducible refine kK ?_);refine aE (wpAny_dictEntries g1 g2 ?_)
 dsimp only;by_cases jI:((u::(nD xs (k.hash X.w)).filterMap λi=>xs[i]?.map (·.key)).all carriedByValue)=true
 .rw[bJ jI];split;next=>
   rename Str=>z
   split;next KP=>
    unfold foundByValue;cases hf:xs.findIdx? (λe=>e.key.isStr z) with
    |none=>
     refine aY (q0 λj e he ek=>?_)
     obtain⟨x,x1,x2⟩:=D.ents j e he;have n1:=Array.findIdx?_eq_none_iff.mp hf x (Array.mem_of_getElem? x1);have e2:=x2.2.1;have n2:isExactStrKey x.key=true:=by
      have h:=Array.all_eq_true.mp KP j (Bb.mp x1).1;rw[(Bb.mp x1).2] at h;exact h
     cases hk:x.key with
     |str z2 t2=>
      have e3:=mi j x e z2 t2 x1 he hk;rw[ek,hs z _ rfl] at e3;cases e3;rw[hk] at n1;simp[Value.isStr] at n1
     |_=>rw[hk] at n2;cases n2
    |some i=>
     obtain⟨mh,hi,_⟩:=Array.findIdx?_eq_some_iff_getElem.mp hf;obtain⟨e,e1,e2,eq,_⟩:=D.ent i xs[i] (ue mh);have ek:e.1=k:=by
      cases hk:xs[i].key with
      |str z2 t2=>
       rw[hk] at hi;have:z2=z:=by simpa[Value.isStr] using hi
       subst this;rw[mi i _ e z2 t2 (ue mh) e1 hk,hs z2 _ rfl]
      |_=>rw[hk] at hi;simp[Value.isStr] at hi
     simp only[ue mh];refine aE (wpAny_dictEpoch g1 g2 (aE (eq _ (aE (wpAny_dictEpoch g1 g2 ?_)))));rw[br (by simp),nK ek]
     exact aE (wpAny_rule (aY (q1 i e e1 ek)))
   next=>exact walk
  next=>exact walk
 .rw[br jI];have DD:∀z t,u=.str z t->¬(xs.all λe=>isExactStrKey e.key)=true:=by
   intro z t hu hx;refine jI (jX.mpr λv hv=>?_)
   rcases y09.mp hv with rfl|hv
   .rw[hu];rfl
   .obtain⟨i,_,hi⟩:=wY.mp hv;cases t6:xs[i]? with
    |none=>rw[t6] at hi;cases hi
    |some x=>
     rw[t6] at hi;obtain rfl:x.key=v:=by simpa using hi
     have h:=Array.all_eq_true.mp hx i (Bb.mp t6).1;rw[(Bb.mp t6).2] at h;cases hk:x.key with
     |str _ _=>rfl
     |_=>rw[hk] at h;cases h
  have wm:∀a,u=.ref a->¬(xs.any λe=>e.key == u&&e.hash != k.hash X.w)=true:=by
   intro a hu hx;rw[Array.any_eq_true] at hx;obtain⟨i,hi,hc⟩:=hx;rw[jU,beq_iff_eq,bne_iff_ne] at hc;obtain⟨e,e1,e2,_⟩:=D.ent i xs[i] (ue hi);have:=hh a i _ e hu (ue hi) e1 hc.1;exact hc.2 (by rw[e2.1,this])
  have Kw:u=idv u:=rfl;refine(λ(key:?P)=>?main) ?k
  case main=>
   rw(occs:=.pos [1]) [Kw];split
   .rename_i hz
    rw[br (DD _ _ hz)];rw(occs:=.pos [1]) [Kw];split
    .rename_i ha
     rw[br (wm _ ha)];exact key
    .exact key
   .rw(occs:=.pos [1]) [Kw];split
    .rename_i ha
     rw[br (wm _ ha)];exact key
    .exact key
  refine(λ(ql:?P2)=>?Du) ?k2
  case Du=>
   refine Uy ?_ ?_
   .refine aE (aY ?_);exact ql
   .refine aE (tell _ ?_);exact ql
  all_goals (
   show wpAny _ _ (if(false&&_)=true then _ else _) _ _ _
   rw[br (by rw[Bool.false_and];exact qF)]
   refine aE (wpAny_forIn_list _ (λrest b s'=>s'=s/\∃hit done,b=(none,hit)/\nD xs (k.hash X.w)=done++rest/\((hit=none/\∀(j:Nat) (e:TK×V×V),j∈done->es[j]?=some e->e.1≠k)\/∃(j:Nat) (e:TK×V×V),hit=some j/\j∈done/\es[j]?=some e/\e.1=k)) _ ?_ ?_ _ _
    ⟨rfl,none,[],rfl,rfl,.inl ⟨rfl,λ_ _ m=>by cases m⟩⟩)
   .rintro i rest b s' ⟨rfl,hit,done,rfl,hd,hH⟩;obtain⟨x,x1,x2⟩:=mB.mp (show i∈nD xs (k.hash X.w) by rw[hd];simp)
    obtain⟨e,e1,e2,eq,_⟩:=D.ent i x x1;have hni:i∉done:=λm=>by
     have:=Uz (xs:=xs) (h:=k.hash X.w);rw[hd] at this;exact(kQ.mp this).2.2 i m i (by simp) rfl
    simp only[x1];rw[bJ (by rw[x2];simp)]
    refine aE (wpAny_dictEpoch g1 g2 (aE (eq _ (aE (wpAny_dictEpoch g1 g2 ?_)))));rw[br (by simp)]
    by_cases ek:e.1=k
    .rw[nK ek];rcases hH with⟨rfl,t4⟩|⟨j,f,rfl,jd,jf,fk⟩
     .first|rw[bJ rfl]|skip
      simp only[zV,ud,lr];first|refine aE (aY ?_)|skip
      refine aE (wpAny_rule ?_);split
      .exact aY (aY (q1 i e e1 ek))
      .exact aY ⟨rfl,some i,done++[i],rfl,by simp[hd],.inr ⟨i,e,rfl,by simp,e1,ek⟩⟩
     .exact cR (D.uniq i j e f e1 jf ek fk) λz=>hni (by rw[z];exact jd)
    .rw[oM ek];have nx:(hit=none/\∀(j:Nat) (e:TK×V×V),j∈done++[i]->es[j]?=some e->e.1≠k)\/∃(j:Nat) (e:TK×V×V),hit=some j/\j∈done++[i]/\es[j]?=some e/\e.1=k:=by
      rcases hH with⟨h0,t4⟩|⟨j,f,h0,jd,jf,fk⟩
      .refine .inl ⟨h0,λj f m hf=>?_⟩
       rcases gZ.mp m with m|m
       .exact t4 j f m hf
       .simp at m;subst m;rw[e1] at hf;cases hf;exact ek
      .exact .inr ⟨j,f,h0,by simp[jd],jf,fk⟩
     simp only[ud,lr];refine aE (wpAny_rule ?_);first|rw[br (by simp)]|skip
     first
      |exact aY ⟨rfl,hit,done++[i],rfl,by simp[hd],nx⟩
      |exact aE (aY (aY ⟨rfl,hit,done++[i],rfl,by simp[hd],nx⟩))
   .rintro b s' ⟨rfl,hit,done,rfl,hd,hH⟩;rcases hH with⟨rfl,t4⟩|⟨j,f,rfl,jd,jf,fk⟩
    .refine aY (q0 λj e he ek=>t4 j e ?_ he ek)
     have:=D.nD he ek;rw[hd] at this;simpa using this
    .exact aY (q1 j f jf fk))
end
end
variable{k:TK}{y:V}{o:ai V}{Q:aj->ay->Prop}{H':Hp}
noncomputable def jO(es:List (TK×V×V))(k:TK):ai V:=(es.find? λe=>decide (e.1=k)).map (·.2.2)
noncomputable def dW:List (TK×V×V)->TK->V->V->List (TK×V×V)
 |[],k,y,v=>[(k,y,v)]
 |e::es,k,y,v=>if e.1=k then(e.1,e.2.1,v)::es else e::dW es k y v
noncomputable def qo(es:List (TK×V×V))(k:TK)(ep:Nat):Nat:=if(es.any λe=>decide (e.1=k))=true then ep else ep+1
def iA(K:aL)(H:Hp)(a:ah)(y:V)(r:ai V):Prop:=∃es ep k,H a=some (.dG es ep)/\bK K H (es.map (·.2.1)) (es.map (·.1.d))/\bK K H [y] [k.d]/\k.ok 8=true/\r=jO es k
def xD(K:aL)(H:Hp)(a:ah)(y v:V)(H':Hp):Prop:=∃es ep k,H a=some (.dG es ep)/\bK K H (es.map (·.2.1)) (es.map (·.1.d))/\bK K H [y] [k.d]/\k.ok 8=true/\es.length<sizeLine/\H'=upd H a (.dG (dW es k y v) (qo es k ep))
def X2{j:TK}(e:k.d=j.d)(h:k.ok 8=true):k=j:=by
 have h1:=Jk k j;rw[<-e,II 8 (Ak 8 h)] at h1
 lia
section
variable{X:Cx}{aa:List (ah×Obj)}{Z:St}{H:Hp}
def Pp{z:Str}{t:Tok}(r:bK X.K H [y] [k.d])(ru:RelV y (.str z t)):k=.inr z:=by
 cases k with
 |inl i=>cases(show _=.int i from ag.aP r rfl);obtain⟨t,e⟩:=ru;cases e
 |inr i=>cases(show _=.str i from ag.aP r rfl);obtain⟨t,e⟩:=ru;cases e;rfl
 |tp l=>simp only[TK.d] at r;cases r with|flat q _=>cases q|tup q _ _=>cases ru
 |aI=>cases(show _=.aI from ag.aP r rfl);cases ru
def Pq{a:ah}(ru:RelV y (.ref a)):y=.ref a:=by
 cases y with
 |ref b=>cases ru;rfl
 |aI=>cases ru
 |bl _=>cases ru
 |ty _=>cases ru
 |_=>obtain⟨t,e⟩:=ru;cases e
section
variable{A:c8}{E:aj->ay->Prop}{s:ay}{d:ah}{es:List (TK×V×V)}{k:TK}{y v:V}{u r:aj}
def Qr{o:Obj}{xs:Array DictEntry}{ep:Nat}{Q:ai Nat->ay->Prop}(I:Inv X aa Z H s)(g1:s.heap.get? d=some o)(g2:o.data=.dict xs ep)(g3:Paired (jb X.w) es xs.toList)(g4:(es.map (·.1)).Nodup)
  (rk:bK X.K H (es.map (·.2.1)) (es.map (·.1.d))) (ry:bK X.K H [y] [k.d]) (ok:k.ok 8=true) (ru:RelV y u) (hu:A.units+8<cLine)
  (q0:(∀(j:Nat) (e:TK×V×V),es[j]?=some e->e.1≠k)->Q none s) (q1:∀j e,es[j]?=some e->e.1=k->Q (some j) s):wpAny (model X.prog X.w) A (dictFind d u (k.hash X.w)) Q E s:=by
 have at':∀(j:Nat) (x:DictEntry) (e:TK×V×V),xs[j]?=some x->es[j]?=some e->jb X.w e x/\bK X.K H [e.2.1] [e.1.d]:=by
  intro j x e hx he;obtain⟨e',e1,e2⟩:=Fh j g3 (by rw[w9];exact hx)
  rw[he] at e1;cases e1;obtain⟨v,v1,v2⟩:=rk.get (i:=j) (d:=e.1.d) (by rw[fL,he];rfl)
  simp_all
 refine VS (e3l I g3 g4 rk ry ok ru hu) g1 g2 (λR hR=>NS 8 I ry ok ru hR) (λz t e=>Pp ry (by rw[<-e];exact ru)) (λj x e z t hx he hk=>?_) (λa j x e sk hx he hk=>?_) q0 q1
 .obtain⟨g,r'⟩:=at' j x e hx he;exact Pp r' (by rw[<-hk];exact g.2.1)
 .obtain⟨g,r'⟩:=at' j x e hx he;have h1:=g.2.1;rw[hk,sk] at h1;rw[sk] at ru;rw[Pq h1] at r';rw[Pq ru] at ry;exact X2 (FT I 8 8 r' ry (Ak 8 g.2.2.2) (Ak 8 ok)) g.2.2.2
def UB(h:∀(j:Nat) (e:TK×V×V),es[j]?=some e->e.1≠k):jO es k=none:=by
 unfold jO;rw[List.find?_eq_none.mpr λe m z=>?_,Option.map_none]
 obtain⟨j,hj⟩:=zR.mp m;exact h j e hj (tD z)
def UC(hn:(es.map (·.1)).Nodup){e:TK×V×V}(he:es[j]?=some e)(ek:e.1=k):jO es k=some e.2.2:=by
 induction es generalizing j with
 |nil=>simp at he
 |cons x es ih=>
  rw[cZ,qH] at hn;unfold jO;rw[Bf];cases j with
  |zero=>
   simp only[List.getElem?_cons_zero,Option.some.injEq] at he;subst he;rw[nK ek];rfl
  |succ j=>
   simp only[List.getElem?_cons_succ] at he;have ne:¬x.1=k:=λz=>hn.1 (by rw[z,<-ek];exact fy.mpr ⟨e,tf he,rfl⟩)
   rw[oM ne];exact ih hn.2 he
def Io{Q:ai aj->ay->Prop}(hu:A.units+8<cLine)(I:Inv X aa Z H s)(g:iA X.K H d y o)(ru:RelV y u)(h:∀w t,iR o w->Q w { s with toks:=t}):
  wpAny (model X.prog X.w) A (dictGet d u) Q E s:=by
 obtain⟨es,ep,k,hd,rk,ry,ok,rfl⟩:=g;obtain⟨_,_,ob,xs,g1,_,g2,g3,g4⟩:=(show bH X.prog X.w H s.heap d (.dG es ep) from I.bD d _ hd);unfold dictGet
 (try with_reducible refine kK ?_);refine aE (Oi 8 I ry ok ru hu λt=>aE (Qr (I.tok t) g1 g2 g3 g4 rk ry ok ru hu (λq0=>?_) (λj e he ek=>?_)))
 .exact aY (h none t (by rw[UB q0];exact tF))
 .obtain⟨x,x1,x2⟩:=Fi j g3 he;refine aE (wpAny_dictEntries (s:={ s with toks:=t}) g1 g2 (aY ?_));rw[<-w9,x1];exact h (some x.val) t (by rw[UC g4 he ek];exact x2.2.2.1)
def iA.ty(I:Inv X aa Z H s)(g:iA X.K H d y o):s.TypeIs (.ref d) "dict"/\(d == sysModules)=false:=by
 obtain⟨es,ep,k,hd,_⟩:=g;obtain⟨_,z,ob,xs,g1,g5,_⟩:=(show bH X.prog X.w H s.heap d (.dG es ep) from I.bD d _ hd);exact⟨⟨ob,g1,g5.1⟩,z⟩
def NT(hu:A.units+9<cLine)(I:Inv X aa Z H s)(g:iA X.K H d y (some v))(ru:RelV y u)(h:∀w' s',Inv X aa Z H s'->RelV v w'->Q w' s'):wpAny (model X.prog X.w) A (getItem (.ref d) u) Q E s:=by
 have hT:=(g.ty I).1;unfold getItem
 (try with_reducible refine kK ?_);refine aE (wpAny_sequenceKey hT (by decide) (aE (wpAny_callSpecial?_slot (name:=Str.ofString "__getitem__") hT slot_dict_getitem (wpAny_call_entry slot_dict_getitem hT entry_dict_getitem ?_ (args_dict_getitem _ _)))))
 show wpAny _ _ (dictGet d u >>= _) _ _ s;refine aE (Io (by show A.units+1+8<cLine;lia) I g ru λw t mF=>?_)
 obtain⟨w',rfl,r'⟩:=iR.some_of mF;exact aY ⟨w',rfl,aY (h w' _ (I.tok t) r')⟩
def Nn{Q:Bool->ay->Prop}(hu:A.units+9<cLine)(I:Inv X aa Z H s)(g:iA X.K H d y o)(ru:RelV y u)(h:∀s',Inv X aa Z H s'->Q o.isSome s'):wpAny (model X.prog X.w) A (contains (.ref d) u) Q E s:=by
 obtain⟨hT,hd⟩:=g.ty I;unfold contains
 (try with_reducible refine kK ?_);refine aE (wpAny_specialOf hT slot_dict_contains.lookup ?_)
 dsimp only;rw[br (by rw[beq_builtin_none];exact qF)]
 refine aE (wpAny_callSpecialUnlessNone?_slot (name:=Str.ofString "__contains__") hT slot_dict_contains (wpAny_call_entry slot_dict_contains hT entry_dict_contains ?_ (args_dict_contains _ _)));show wpAny _ _ (dictGet d u >>= _) _ _ s;refine aE (Io (by show A.units+1+8<cLine;lia) I g ru λw t mF=>?_)
 have e:=mF.qj;cases w with
 |some w=>
  show wpAny _ _ (ret (.bool true)) _ _ _;refine aY ⟨_,rfl,wpAny_truthy_bool ?_⟩;have:=h _ (I.tok t)
  simp_all
 |none=>
  show wpAny _ _ (Builtin.Dict.pendingKey? d u >>= _) _ _ _;refine aE (wpAny_pendingKey_other hd (aY ⟨_,rfl,wpAny_truthy_bool ?_⟩));have:=h _ (I.tok t)
  simp_all
def Mg(hu:A.units+9<cLine)(I:Inv X aa Z H s)(g:iA X.K H d y o)(ru:RelV y u)(h:∀s',Inv X aa Z H s'->Q (.bool o.isSome) s'):wpAny (model X.prog X.w) A (compareOp .In u (.ref d)) Q E s:=
 aE (Nn hu I g ru λs' I'=>aY (h s' I'))
def X3(hu:A.units+9<cLine)(I:Inv X aa Z H s)(g:iA X.K H d y o)(ru:RelV y u)(h:∀s',Inv X aa Z H s'->Q (.bool (!o.isSome)) s'):wpAny (model X.prog X.w) A (compareOp .NotIn u (.ref d)) Q E s:=
 aE (Nn hu I g ru λs' I'=>aY (h s' I'))
theorem E5(k:TK)(y v:V):∀es:List (TK×V×V),(dW es k y v).length<=es.length+1
 |[]=>by simp[dW]
 |e::es=>by
  unfold dW;have:=E5 k y v es;split <;> simp <;> lia
theorem Oj:∀{es:List (TK×V×V)},(∀(j:Nat) (e:TK×V×V),es[j]?=some e->e.1≠k)->dW es k y v=es++[(k,y,v)]
 |[],_=>rfl
 |e::es,h=>by
  unfold dW;rw[br (h 0 e rfl),Oj λj x hx=>h (j+1) x (by simpa using hx)]
  rfl
def X4{w:cI}{xs:List DictEntry}(g3:Paired (jb w) es xs)(ry:RelV y u)(rv:RelV v r)(ok:k.ok 8=true):Paired (jb w) (es++[(k,y,v)]) (xs++[⟨k.hash w,u,r⟩]):=by
 induction g3 with
 |nil=>exact .cons ⟨rfl,ry,rv,ok⟩ .nil
 |cons a _ ih=>exact .cons a ih
theorem Pu{w:cI}:∀{es:List (TK×V×V)} {xs:List DictEntry} {j:Nat} {e:TK×V×V},Paired (jb w) es xs->(es.map (·.1)).Nodup->es[j]?=some e->e.1=k->RelV v r->
  Paired (jb w) (dW es k y v) (xs.modify j λx=>{ x with val:=r})/\(dW es k y v).map (·.1)=es.map (·.1)
 |_,_,_,_,.nil,_,he,_,_=>by simp at he
 |_::es,_::xs,0,e,.cons a t,hn,he,ek,rv=>by
  simp only[List.getElem?_cons_zero,Option.some.injEq] at he;subst he;unfold dW;rw[bJ ek];exact⟨.cons ⟨a.1,a.2.1,rv,a.2.2.2⟩ t,rfl⟩
 |x::es,_::xs,j+1,e,.cons a t,hn,he,ek,rv=>by
  simp only[List.getElem?_cons_succ] at he;rw[cZ,qH] at hn;have ne:¬x.1=k:=λz=>hn.1 (by rw[z,<-ek];exact fy.mpr ⟨e,tf he,rfl⟩)
  unfold dW;rw[br ne];have ih:=Pu t hn.2 he ek rv;exact⟨.cons a ih.1,by rw[cZ,cZ,ih.2]⟩
def Ip{Q:Unit->ay->Prop}(hu:A.units+8<cLine)(I:Inv X aa Z H s)(g:xD X.K H d y v H')(ru:RelV y u)(rv:RelV v r)(h:∀s',Inv X aa Z H' s'->Q () s'):
  wpAny (model X.prog X.w) A (dictSet d u r) Q E s:=by
 obtain⟨es,ep,k,hd,rk,ry,ok,hl,rfl⟩:=g;obtain⟨_,z,ob,xs,g1,g5,g2,g3,g4⟩:=(show bH X.prog X.w H s.heap d (.dG es ep) from I.bD d _ hd);have hz:xs.size<=sizeLine:=by have:=Paired.length g3;simp at this;lia
 have GV:(dW es k y v).length<=sizeLine:=by have:=E5 k y v es;lia
 unfold dictSet
 (try with_reducible refine kK ?_);refine aE (Oi 8 I ry ok ru hu λt=>?_)
 unfold dictSetHashed
 (try with_reducible refine kK ?_);refine aE (Qr (I.tok t) g1 g2 g3 g4 rk ry ok ru hu (λq0=>?_) (λj e he ek=>?_))
 .have Ru:dW es k y v=es++[(k,y,v)]:=Oj q0;have J_:qo es k ep=ep+1:=br (by
   rw[List.any_eq_true];rintro⟨e,m,q⟩;obtain⟨j,hj⟩:=zR.mp m;exact q0 j e hj (tD q))
  rw[J_] at h;refine aE (wpAny_rule (wpAny_updateDictKeys (hz:=hz) (s:={ s with toks:=t}) g1 g2 (h _ ?_)));refine Jh (I.tok t) (by rw[hd];exact tF) (Heap.SameBut.update ..) ⟨_,qI _ g1 (Obj.isFreed_of_dict (Obj.data_mapDictKeys g2 _))⟩ ⟨GV,z,_,_,qI _ g1 (Obj.isFreed_of_dict (Obj.data_mapDictKeys g2 _)),g5.mapDictKeys _,Obj.data_mapDictKeys g2 _,?_,?_⟩
  .rw[Ru,Array.toList_push];exact X4 g3 ru rv ok
  .rw[Ru,fZ,kQ];refine⟨g4,by simp,λa m b m' e=>?_⟩
   simp at m';subst m';obtain⟨x,mx,rfl⟩:=fy.mp m;obtain⟨j,hj⟩:=zR.mp mx;exact q0 j x hj e
 .have em:=Pu (y:=y) g3 g4 he ek rv;have J_:qo es k ep=ep:=bJ (List.any_eq_true.mpr ⟨e,tf he,nK ek⟩);rw[J_] at h;refine aE (wpAny_rule (aE (wpAny_updateDict (s:={ s with toks:=t}) g1 g2 (wpAny_point (h _ ?_)))));refine Jh (I.tok t) (by rw[hd];exact tF) (Heap.SameBut.update ..) ⟨_,qI _ g1 (Obj.isFreed_of_dict (Obj.data_mapDict g2 _))⟩ ⟨GV,z,_,_,qI _ g1 (Obj.isFreed_of_dict (Obj.data_mapDict g2 _)),g5.mapDict _,Obj.data_mapDict g2 _,?_,?_⟩
  all_goals simp_all
def UD{Q:Unit->ay->Prop}(hu:A.units+9<cLine)(I:Inv X aa Z H s)(g:xD X.K H d y v H')(ru:RelV y u)(rv:RelV v r)(h:∀s',Inv X aa Z H' s'->Q () s'):
  wpAny (model X.prog X.w) A (setItem (.ref d) u r) Q E s:=by
 have hT:s.TypeIs (.ref d) "dict":=by
  obtain⟨es,ep,k,hd,rk,ry,ok,_⟩:=g;exact(iA.ty I ⟨es,ep,k,hd,rk,ry,ok,rfl⟩).1
 unfold setItem
 (try with_reducible refine kK ?_);refine aE (wpAny_sequenceKey hT (by decide) (aE (wpAny_callSpecial?_slot (name:=Str.ofString "__setitem__") hT slot_dict_setitem (wpAny_call_entry slot_dict_setitem hT entry_dict_setitem ?_ (args_dict_setitem _ _ _)))))
 show wpAny _ _ (Builtin.Dict.notOrdered "__setitem__" ⟨[.ref d,u,r],[]⟩ >>= _) _ _ s;refine aE (wpAny_notOrdered_dict hT ?_);show wpAny _ _ (dictSet d u r >>= λz=>_) _ _ s
 exact aE (Ip (by show A.units+1+8<cLine;lia) I g ru rv λs' I'=>aY ⟨.none,rfl,aY (h s' I')⟩)
def e3m(hu:A.units+9<cLine)(I:Inv X aa Z H s)(g:iA X.K H d y o)(ru:RelV y u)(h:∀w' s',Inv X aa Z H s'->RelV (o.getD .aI) w'->Q w' s'):
  wpAny (model X.prog X.w) A (call (.builtin "dict.get") [.ref d,u]) Q E s:=by
 obtain⟨hT,hd⟩:=g.ty I;refine wpAny_call_entry PySem.F.slot_dict_get hT PySem.F.entry_dict_get ?_ (PySem.F.args_dict_get_2 _ _);show wpAny _ _ (dictGet d u >>= _) _ _ s;refine aE (Io (by show A.units+1+8<cLine;lia) I g ru λw t mF=>?_)
 cases o with
 |none=>
  cases w with
  |none=>
   show wpAny _ _ (Builtin.Dict.missed d u >>= _) _ _ _;exact aE (wpAny_missed_other hd (aY ⟨.none,rfl,h .none _ (I.tok t) rfl⟩))
  |some w=>exact mF.elim
 |some v'=>
  cases w with
  |none=>exact mF.elim
  |some w=>exact aY ⟨w,rfl,h w _ (I.tok t) mF⟩
end
end
section
variable{X:Cx}
def sQ(K:aL):R2:=λx y H Q=>∃l b xs zs,x=.ref l/\y=.ref b/\dr K H l xs/\dr K H b zs/\xs.length+zs.length<=sizeLine/\∀p,H p=none->Q (.ref p) (upd H p (.lst (xs++zs)))
def X5:eB X (binaryOp .Add) (sQ X.K):=by
 intro aa s Z H x y v u Q I rx ry h;obtain⟨l,b,xs,zs,rfl,rfl,hH,hB,hz,q⟩:=h;cases rx;cases ry;obtain⟨aH,r,pl,_⟩:=I.list hH;obtain⟨k6,r2,Lw,_⟩:=I.list hB;have hl:=r.length;have GV:=r2.length;obtain⟨⟨cls,dd,data,sl⟩,ho,hc,n,hd⟩:=id pl.isList;obtain⟨⟨cls2,Zm,data2,He⟩,RW,r9,n2,hd2⟩:=id Lw.isList;simp only at hc hd r9 hd2;subst hc hd r9 hd2;have ea:aH.toArray++k6.toArray=(aH++k6).toArray:=by simp
 refine concat_meets ⟨_,ho,rfl⟩ ⟨_,RW,rfl⟩ noFill_list_add seq_list_add PySem.F.slot_list_add PySem.F.entry_list_add (PySem.F.args_list_add_2 _ _) (list_addW l b aH.toArray k6.toArray n n2 dd Zm sl He (by simp only[fK];lia)) ⟨ho,RW,?_⟩
 rw[ea];exact⟨.ref _,_,I.Lb (t':=s.toks) (r.append r2) (by rw[dZ];lia),rfl,q _ I.fresh⟩
def VT(K:aL)(hK:X.K=K:=by rfl):eB X (binaryOp .Add) (sQ K):=hK ▸ X5
end
variable{n:Nat}
instance (z:Str) (n:Int):Decidable (MulOk z n):=by unfold MulOk;infer_instance
abbrev rd(x:D):Rv:=.v (.d x)
section
variable{K:aL}{k:Kn}{H:Hp}{x:V}{xs:List V}{d e:D}{vs:List V}{ds:List D}
def ag.AZ(h:ag K k vs ds)(ok:ds.all (fX n)=true):ag K ⟨k.F,[],[]⟩ vs ds:=by
 induction h generalizing n with
 |nil=>exact .nil
 |flat e _ ih=>rw[tq,jU] at ok;exact .flat e (ih ok.2)
 |ref _ _ _=>rw[tq,jU] at ok;obtain⟨ok,_⟩:=ok;cases n <;> cases ok
 |lst e _ _ i1 i2=>
  rw[tq,jU] at ok;obtain⟨m,rfl,o⟩:=B6 ok.1;exact .lst e (i1 o) (i2 ok.2)
 |tup e _ _ i1 i2=>
  rw[tq,jU] at ok;obtain⟨m,rfl,o⟩:=B7 ok.1;exact .tup e (i1 o) (i2 ok.2)
 |aA _ _ _ _ _ _ _ _=>rw[tq,jU] at ok;obtain⟨ok,_⟩:=ok;cases n <;> cases ok
theorem Top.AZ(h:Top K k H x d)(le:aB k.F H)(ok:fX n d=true):bK K H [x] [d]:=ag.AZ (k:=k.all H) (n:=n) (h.rep le) (by rw[tq,ok];rfl)
def Top.Sj(r:ag K k vs ds)(le:aB k.F H)(ok:ds.all (fX n)=true):bK K H vs ds:=ag.AZ (k:=k.all H) (n:=n) (r.all le) ok
mutual
theorem sC:∀{v:V} (j:TK),ag K k [v] [j.d]->ag K ⟨k.F,[],[]⟩ [v] [j.d]
 |_,.inl i,h=>by simp only[TK.d] at h ⊢;rw[h.aP rfl];exact .flat rfl .nil
 |_,.inr x,h=>by simp only[TK.d] at h ⊢;rw[h.aP rfl];exact .flat rfl .nil
 |_,.aI,h=>by simp only[TK.d] at h ⊢;rw[h.aP rfl];exact .flat rfl .nil
 |_,.tp l,h=>by
  simp only[TK.d] at h ⊢;obtain⟨a,ws,rfl,q,r⟩:=h.isTup;exact .tup q (sE l r) .nil
theorem sE:∀{vs:List V} (l:List TK),ag K k vs (TK.dl l)->ag K ⟨k.F,[],[]⟩ vs (TK.dl l)
 |_,[],h=>by simp only[TK.dl] at h ⊢;rw[h.fT];exact .nil
 |_,j::l,h=>by
  simp only[TK.dl] at h ⊢;obtain⟨w,us,rfl,h1,h2⟩:=h.cB;exact .cons (sC j h1) (sE l h2)
end
def Pw{es:List (TK×V×V)}{kvs:List (TK×D)}(q:es.map (·.1)=kvs.map (·.1))(r:ag K k (es.map (·.2.1)) (kvs.map (·.1.d)))(le:aB k.F H):bK K H (es.map (·.2.1)) (es.map (·.1.d)):=by
 have e1:kvs.map (·.1.d)=TK.dl (kvs.map (·.1)):=by rw[F9,dh];rfl
 have e2:es.map (·.1.d)=TK.dl (es.map (·.1)):=by rw[F9,dh];rfl
 rw[e1,<-q] at r;rw[e2];exact sE (k:=k.all H) _ (r.all le)
def Px(h:Paired (Top K k H) xs [d]):∃x,xs=[x]/\Top K k H x d:=by
 cases h with
 |cons r t=>cases t;exact⟨_,rfl,r⟩
def X6(h:Paired (Top K k H) xs [d,e]):∃x y,xs=[x,y]/\Top K k H x d/\Top K k H y e:=by
 cases h with
 |cons r t=>obtain⟨y,rfl,r'⟩:=Px t;exact⟨_,_,rfl,r,r'⟩
end
noncomputable def o1(f:D->ai Rv):List D->ai Rv
 |[a]=>f a
 |_=>none
noncomputable def o2(f:D->D->ai Rv):List D->ai Rv
 |[a,b]=>f a b
 |_=>none
section
variable{X:Cx}{K:aL}
def sM{r:List V->Hp->VK->Prop}{f:D->ai Rv}(h:∀k H x a y Q,aB k.F H->Top K k H x a->f a=some y->kU K k H y Q->r [x] H Q):cg K r (o1 f):=λk H xs ds y Q le t e res=>by
 unfold o1 at e;split at e
 .obtain⟨x,rfl,t1⟩:=Px t;exact h k H x _ y Q le t1 e res
 .cases e
def u0{r:List V->Hp->VK->Prop}{f:D->D->ai Rv}(h:∀k H x z a b y Q,aB k.F H->Top K k H x a->Top K k H z b->f a b=some y->kU K k H y Q->r [x,z] H Q):cg K r (o2 f):=λk H xs ds y Q le t e res=>by
 unfold o2 at e;split at e
 .obtain⟨x,z,rfl,t1,t2⟩:=X6 t;exact h k H x z _ _ y Q le t1 t2 e res
 .cases e
def wq{r:R2}{f:D->D->ai Rv}(h:∀k H x z a b y Q,aB k.F H->Top K k H x a->Top K k H z b->f a b=some y->kU K k H y Q->r x z H Q):cg K (mC r) (o2 f):=u0 λk H x z a b y Q le t1 t2 e res=>⟨x,z,rfl,h k H x z a b y Q le t1 t2 e res⟩
noncomputable def x_:D->D->ai Rv
 |.int i,.int j=>some (rd (.int (i+j)))
 |.str x,.str y=>if x.length+y.length<=1000000 then some (rd (.str (x++y))) else none
 |.lst xs,.lst ys=>if xs.length+ys.length<=1000000 then some (.o (.lst (xs++ys))) else none
 |_,_=>none
def wB(K:aL):R2:=λx y H Q=>pA (λi j=>.int (i+j)) x y H Q\/(∃i j,x=.str i/\y=.str j/\i.length+j.length<=sizeLine/\Q (.str (i++j)) H)\/sQ K x y H Q
def X7(K:aL)(hK:X.K=K):eB X (binaryOp .Add) (wB K):=zq.or (oG.or (VT K hK))
def e3n:cg K (mC (wB K)) (o2 x_):=wq λk H x z a b y Q le t1 t2 e res=>by
 cases a with
 |int _=>cases b with
  |int _=>cases e;cases t1.flat rfl;cases t2.flat rfl;exact .inl ⟨_,_,rfl,rfl,res.flat le rfl⟩
  |_=>cases e
 |str _=>cases b with
  |str _=>
   have e:(if _ then _ else _)=_:=e
   split at e
   .cases e;cases t1.flat rfl;cases t2.flat rfl;exact .inr (.inl ⟨_,_,rfl,rfl,ml (by assumption),res.flat le rfl⟩)
   .cases e
  |_=>cases e
 |lst _=>cases b with
  |lst _=>
   have e:(if _ then _ else _)=_:=e
   split at e
   .cases e;obtain⟨a1,ws1,rfl,s1,r1⟩:=t1.lst le;obtain⟨a2,L_,rfl,s2,r2⟩:=t2.lst le;exact .inr (.inr ⟨a1,a2,ws1,L_,rfl,rfl,s1,s2,ml (by rw[r1.length,r2.length];assumption),λp hp=>res.lst le (r1.append r2) hp⟩)
   .cases e
  |_=>cases e
 |_=>cases e
noncomputable def eL(C:Int->Int->Bool)(f:Int->Int->D):D->D->ai Rv
 |.int i,.int j=>if C i j=true then some (rd (f i j)) else none
 |_,_=>none
def Cm{r:R2}{C:Int->Int->Bool}{f:Int->Int->D}{g:Int->Int->V}(hf:∀i j,uz (f i j)=some (g i j))(hr:∀i j H Q,C i j=true->Q (g i j) H->r (.int i) (.int j) H Q):cg K (mC r) (o2 (eL C f)):=wq λk H x z a b y Q le t1 t2 e res=>by
 unfold eL at e;split at e
 .split at e
  .cases e;cases t1.flat rfl;cases t2.flat rfl;exact hr _ _ _ _ (by assumption) (res.flat le (hf _ _))
  .cases e
 .cases e
noncomputable abbrev ua:Int->Int->Bool:=λ_ _=>true
def e3o:cg K (mC (pA λi j=>.int (i - j))) (o2 (eL ua λi j=>.int (i - j))):=Cm (λ_ _=>rfl) λ_ _ _ _ _ q=>⟨_,_,rfl,rfl,q⟩
def X8:cg K (mC (rI xl λi j=>.int (i / j))) (o2 (eL (λ_ j=>decide (0<j/\j<1073741824)) λi j=>.int (i / j))):=Cm (λ_ _=>rfl) λi j _ _ c q=>⟨_,_,rfl,rfl,show xl i j from tD (p:=0<j/\j<1073741824) c,q⟩
def e3p:cg K (mC (rI (λ_ j=>0<j) λi j=>.int (i%j))) (o2 (eL (λ_ j=>decide (0<j)) λi j=>.int (i%j))):=Cm (λ_ _=>rfl) λ_ _ _ _ c q=>⟨_,_,rfl,rfl,tD c,q⟩
def e3q:cg K (mC (rI xm λi j=>.int (i^j.toNat))) (o2 (eL (λi j=>decide (0<=j/\j<=1000000/\i.natAbs<2^64)) λi j=>.int (i^j.toNat))):=Cm (λ_ _=>rfl) λi j _ _ c q=>⟨_,_,rfl,rfl,show xm i j from tD (p:=0<=j/\j<=1000000/\i.natAbs<2^64) c,q⟩
def Jv{f:Int->Int->Bool}:cg K (mC (pA λi j=>.bl (f i j))) (o2 (eL ua λi j=>.bl (f i j))):=Cm (λ_ _=>rfl) λ_ _ _ _ _ q=>⟨_,_,rfl,rfl,q⟩
noncomputable def uX:D->D->ai Rv
 |.int i,.int j=>if(-(2^64)<i/\i<2^64)\/(-(2^64)<j/\j<2^64) then some (rd (.int (i*j))) else none
 |.str z,.int j=>if MulOk z j then some (rd (.str (Txt.mul z j))) else none
 |_,_=>none
def wH:R2:=λx y H Q=>rI uf (λi j=>.int (i*j)) x y H Q\/∃z n,x=.str z/\y=.int n/\MulOk z n/\Q (.str (Txt.mul z n)) H
def X9:eB X (binaryOp .Mult) wH:=zt.or Tq
def e3r:cg K (mC wH) (o2 uX):=wq λk H x z a b y Q le t1 t2 e res=>by
 unfold uX at e;split at e
 .split at e
  .cases e;cases t1.flat rfl;cases t2.flat rfl;exact .inl ⟨_,_,rfl,rfl,by assumption,res.flat le rfl⟩
  .cases e
 .split at e
  .cases e;cases t1.flat rfl;cases t2.flat rfl;exact .inr ⟨_,_,rfl,rfl,by assumption,res.flat le rfl⟩
  lia
 lia
noncomputable def uZ:D->ai Rv
 |.int i=>some (rd (.int (-i)))
 |_=>none
def e3s:cg K (Lz (rU λi=>.int (-i))) (o1 uZ):=sM λk H x a y Q le t e res=>by
 unfold uZ at e;split at e
 .cases e;cases t.flat rfl;exact⟨_,rfl,_,rfl,res.flat le rfl⟩
 .cases e
end
end L2
namespace L2
open PySem PySem.Spec PySem.W PySem.Calls PyProof.Rows
variable{P:dB}{w:cI}{o:Expr}{to:TE}{apos bV pos:Pos}{elts:List Expr}{x1:Nat}
def fV(es:List (TK×V×V)):Prop:=∀e∈es,∃x,e.1=.inr x/\e.2.1=.str x
def X_{es:List (TK×V×V)}{xs:List DictEntry}(p:Paired (jb w) es xs)(h:fV es):∃kvs:List (Str×aj),(∀x∈xs,∃k,(strKind P w).is k x.key=true/\x.hash=(strKind P w).hash k)/\Pairs (strKind P w) xs kvs/\kvs.map (λp=>TK.inr p.1)=es.map (·.1)/\Vals (es.map (·.2.2)) (kvs.map (·.2)):=by
 induction p with
 |nil=>exact⟨[],by simp,.nil,rfl,.nil⟩
 |@cons e x es xs r t ih=>
  obtain⟨kvs,h1,h2,h3,h4⟩:=ih λe m=>h e (qt _ m)
  obtain⟨z,e1,e2⟩:=h e (A6 ..);obtain⟨r1,r2,r3,r4⟩:=r;rw[e2] at r2;obtain⟨t',r2⟩:=r2;have hk:(strKind P w).is z x.key=true:=by rw[r2];show Value.isStrOf z (.str z t')=true;simp[Value.isStrOf]
  refine⟨(z,x.val)::kvs,λy m=>?_,.cons hk rfl h2,by rw[cZ,cZ,h3,e1],.cons r3 h4⟩
  rcases y09.mp m with rfl|m
  .exact⟨z,hk,by rw[r1,e1];rfl⟩
  .exact h1 y m
section
variable{X:Cx}{aa:List (ah×Obj)}{Z:St}{H:Hp}{s:ay}{d:ah}{es:List (TK×V×V)}{ep:Nat}
def tM(I:Inv X aa Z H s)(hd:H d=some (.dG es ep))(ht:fV es):∃kvs,s.heap.DictAt (strKind X.prog X.w) d kvs ep/\Vals (es.map (·.2.2)) (kvs.map (·.2))/\kvs.map (λp=>TK.inr p.1)=es.map (·.1)/\kvs.length<=sizeLine/\(d == sysModules)=false:=by
 obtain⟨hz,lo,ob,xs,g1,g5,g2,g3,g4⟩:=(show bH X.prog X.w H s.heap d (.dG es ep) from I.bD d _ hd);obtain⟨kvs,h1,h2,h3,h4⟩:=X_ (P:=X.prog) g3 ht;refine⟨kvs,⟨ob,xs,g1,g5,g2,λx m=>h1 x (Mj.mpr m),h2,?_⟩,h4,h3,?_,lo⟩
 all_goals grind [List.length_map]
def B8(I:Inv X aa Z H s)(hd:H d=some (.dG es ep)):s.TypeIs (.ref d) "dict"/\∀a,Value.ref d=.ref a->∃ob,s.heap.get? a=some ob/\ob.dict=none:=
 Jt (x:=.ref d) I rfl (.inr (.inr (.inl ⟨rfl,.inr (.inr ⟨es,ep,hd⟩)⟩)))
def Ts{ys:List V}{kvs:List (Str×aj)}{aU:Array aj}(rv:Vals ys (kvs.map (·.2)))(h:ItemsOf (λi v=>∃k,kvs[i]?=some (k,v)) aU kvs.length):Vals ys aU.toList:=by
 have e:aU.toList=kvs.map (·.2):=by
  apply Hq;intro i;by_cases hi:i<aU.toList.length
  .have C2:i<aU.size:=by simpa using hi
   obtain⟨k,hk⟩:=h.2 i aU[i] (ue C2)
   simp_all
  .rw[xg (by lia),xg (by rw[bq];have:=h.1;simp at hi;lia)]
 rw[e];exact rv
def e3t(to:TE):TE:=λZ H Q=>to Z H λx H1=>∃d es ep,x=.ref d/\H1 d=some (.dG es ep)/\fV es/\∀q,H1 q=none->Q (.ref q) (upd H1 q (.lst (es.map (·.2.2))))
def VU{p:Pos}(C1:Gl X "list")(KG:X.mg "list"=none)(ho:PE X o to)(hc:X.calm=true)
  (hs:starEach [.Call (.Attribute o "values" apos) [] [] bV] X.env=[(false,eval (.Call (.Attribute o "values" apos) [] [] bV) X.env)]:=by rfl)
  (cK:attributeBase o "values" X.env (eval o X.env)=eval o X.env:=by rfl) (cL:(apos.endLine == bV.line)=true:=by rfl):PE X (.Call (.Name "list" p) [.Call (.Attribute o "values" apos) [] [] bV] [] pos) (e3t to):=by
 intro aa s Z H Q I h;refine Call_ (vI I C1 KG oZ (PyProof.Rows.callWith_type1 ?_ hs rfl));rw[hs];show wpAny _ _ (spliced ((false,eval (.Call (.Attribute o "values" apos) [] [] bV) X.env)::[])) _ _ s;refine Calls.spliced_cons (wpAny_Call_method0_late cK cL (bP (ho aa s Z H _ I h) λv s1 hh=>?_))
 obtain⟨x,H1,I1,r1,d,es,ep,rfl,hd,ht,q⟩:=hh;cases r1;obtain⟨t1,t2⟩:=B8 I1 hd;obtain⟨kvs,D1,D2,D3,D4,lo⟩:=tM I1 hd ht;refine⟨"dict","dict.values",PySem.F.plainAttrs_dict,PySem.F.slot_dict_values,PySem.F.type_dict_values,t1,t2,Calls.callWith_builtin rfl (PySem.evalArgs_none ?_)⟩;refine call_meetsIn PySem.F.slot_dict_values t1 PySem.F.entry_dict_values (PySem.F.args_dict_values_1 _) (meets_dict_values (strKind X.prog X.w) d lo) ⟨⟨kvs,D1.dictOf⟩,?_⟩;refine Calls.spliced_nil ?_;refine kdl_call (kdl_values (knd:=strKind X.prog X.w) (r:=s1.heap.objs.size) (d:=d) (kvs:=kvs) (ep:=ep)) (I1.ok.hd hc) ⟨⟨_,i_ _ rfl,rfl,rfl⟩,D1.push _⟩ D4 λh' tk aU c kp hg hi=>?_
 have sz:(s1.heap.push { cls:=.type "dict_values",data:=.fields #[.ref d]}).objs.size=s1.heap.objs.size+1:=by simp[Heap.push]
 rw[show({ s1 with heap:=s1.heap.push { cls:=.type "dict_values",data:=.fields #[.ref d]}}:ay).heap.objs.size=s1.heap.objs.size+1 from sz] at hg ⊢;have rv:=Ts D2 hi;refine⟨.ref (s1.heap.objs.size+1),_,I1.laid (t':=tk) (λb o e=>kp b o (dy _ e)) (qG _) (show bH X.prog X.w _ h' _ (.lst (es.map (·.2.2))) from⟨?_,aU.toList,c,rv,by simpa using hg⟩),rfl,q _ (I1.bD.fresh (qG _))⟩
 grind [List.length_map]
noncomputable def wc:TK->Bool
 |.inr _=>true
 |_=>false
theorem Qs{K:fU}{F:Kn}:∀{ws:List (TK×V×V)} {ks:List TK},ws.map (·.1)=ks->ag K F (ws.map (·.2.1)) (ks.map (·.d))->ks.all wc=true->fV ws
 |[],_,_,_,_=>λe m=>nomatch m
 |w::ws,[],e,_,_=>by cases e
 |w::ws,k::ks,e,r,a=>by
  rw[cZ,List.cons.injEq] at e;obtain⟨e1,e2⟩:=e;rw[tq,jU] at a;rw[cZ,cZ] at r;intro y m;rcases y09.mp m with rfl|m
  .cases k with
   |inr x=>
    refine⟨x,e1,?_⟩;have:=r.inv.1;obtain⟨y1,y2,y3⟩:=y;dsimp only at this ⊢;exact this.aP rfl
   |inl _=>cases a.1
   |tp _=>cases a.1
   |aI=>cases a.1
  .exact Qs e2 r.inv.2 a.2 y m
end
def SH:entryFor table "dict_itemiterator.__iter__"=some Builtin.«dict_keyiterator.__iter__»:=
 entryFor_alias (id':="dict_keyiterator.__iter__") (by kernel_rfl) rfl (by decide +kernel) (by kernel_rfl)
section
variable{prog:dB}{w:cI}{A:c8}{E:aj->ay->Prop}{s:ay}{it d:ah}{kvs:List (Str×aj)}{ep:Nat}
def MZ{i n ep:Nat}{ok ov:aj}{Q:aj->ay->Prop}(hit:IsItemIter s.heap it d i n ep ok ov)(h:Q (.ref it) s):wpAny (model prog w) A (pyIter (.ref it)) Q E s:=by
 have hT:s.TypeIs (.ref it) "dict_itemiterator":=⟨_,hit,rfl⟩;refine wpAny_pyIter_slot hT PySem.F.slot_dict_itemiterator_iter (wpAny_call_entry PySem.F.slot_dict_itemiterator_iter hT SH ?_ (PySem.F.args_dict_itemiterator_iter_1 _));show wpAny _ _ (ret (.ref it)) _ _ s;exact aY ⟨_,rfl,"dict_itemiterator",_,hT,PySem.F.slot_dict_itemiterator_next.lookup,h⟩
def Tc(hh:A.handled=none)(it d:ah)(gP:d≠it)(kvs:List (Str×aj))(ep:Nat):
  WalksT prog w A it [it,d] [it] kvs.length (λi vals=>∃k x key,kvs[i]?=some (k,x)/\(PySem.strKind prog w).is k key=true/\vals=#[key,x])
   (λi h=>(∃ok ov,IsItemIter h it d i kvs.length ep ok ov)/\h.DictAt (PySem.strKind prog w) d kvs ep)
   (λi T h=>(∃ok ov,IsItemIterOut h it d (i+1) kvs.length ep ok ov T)/\T≠it/\h.DictAt (PySem.strKind prog w) d kvs ep) where
 sub:=λb hb=>by simp at hb;simp[hb]
 frame:=λi h h' ⟨⟨ok,ov,a⟩,b⟩ k=>⟨⟨ok,ov,k it (by simp) _ a⟩,b.at' λo e=>k d (by simp) o e⟩
 item:=λi s Q E hi ⟨⟨ok,ov,a⟩,b⟩ hQ=>by
  obtain⟨⟨k,x⟩,hx⟩:∃p,kvs[i]?=some p:=⟨kvs[i],by simp[hi]⟩
  have lt:it<s.heap.objs.size:=cX a;refine wpAny_pyNext_items_item a b hx λkey h' hk o1 o2 o3 kp=>?_
  exact hQ s.heap.objs.size #[key,x] h' s.toks ⟨k,x,key,hx,hk,rfl⟩ (cv _) ⟨_,o2,rfl,_,rfl⟩ ⟨⟨_,_,o1⟩,wW lt,b.at' λo e=>kp d o gP e⟩ λb o hb e=>kp b o (λz=>hb (by simp[z])) e
 go:=λelts k pos i T s Q E ⟨⟨ok,ov,a⟩,b,c⟩ hQ=>wpAny_letOwnedTupleGo_items a λh' a' sb=>hQ h' ⟨⟨ok,ov,a'⟩,c.at' λo e=>(sb.2 d gP).trans e⟩ λb o hb e=>(sb.2 b (λz=>hb (by simp[z]))).trans e
 apart:=λi T h ⟨_,b,_⟩=>by simpa using b
 done:=λs Q E ⟨⟨ok,ov,a⟩,b⟩ hQ=>wpAny_pyNext_items_end hh a b (by simp) λh' eb=>hQ h' s.toks λb o hb e=>eb b o (λz=>hb (by simp[z])) e
 self:=λi s Q E ⟨⟨ok,ov,a⟩,_⟩ hQ=>MZ a hQ
end
def Eh(es:List (TK×V×V))(i:Nat)(ws:List V):Prop:=∃e,es[i]?=some e/\ws=[e.2.1,e.2.2]
def Tt{K:fU}{it d:ah}(gP:d≠it)(es:List (TK×V×V))(ep:Nat):
  Turn P w K (.Tuple elts x1 pos) (zZ (λH=>H d=some (.dG es ep)/\fV es) es.length (Eh es)) [it] it (λi h=>i<=es.length/\∃ok ov,IsItemIter h it d i es.length ep ok ov):=by
 refine NN (FP:=[it]) (wr:=[it]) (by simp) (λb hb=>hb) (λi h st b hb=>?_) (λi h h' st k=>?_) (λX hP hw hK hc aa s Z H I hS=>?_) (λA i s Q E st h=>?_)
 .grind
 .obtain⟨ok,ov,a⟩:=st;exact⟨ok,ov,k it (by simp) _ a⟩
 .subst hP hw hK;obtain⟨kvs,D1,D2,D3,D4,lo⟩:=tM I hS.1 hS.2;have l1:kvs.length=es.length:=by have:=congrArg List.length D3;simpa using this
  have W:=Tc (prog:=X.prog) (w:=X.w) (A:=X.A) (I.ok.hd hc) it d gP kvs ep;rw[l1] at W;refine⟨_,_,_,_,W,λi st=>⟨st,D1⟩,λi h st=>st.1,λi vals hp=>?_⟩
  obtain⟨k,x,key,k1,k2,rfl⟩:=hp;have hi:i<es.length:=by have:=(eQ.mp k1).1;lia
  have e3:es[i]?=some es[i]:=g7 hi;refine⟨[es[i].2.1,es[i].2.2],⟨_,e3,rfl⟩,.cons ?_ (.cons ?_ .nil),by show 2<=10;decide⟩
  .obtain⟨z,z1,z2⟩:=hS.2 es[i] (A' hi);have k3:(kvs.map (λp=>TK.inr p.1))[i]?=(es.map (·.1))[i]?:=by rw[D3]
   rw[fL,fL,k1,e3] at k3;have k4:TK.inr k=es[i].1:=Option.some.inj k3;rw[z1] at k4;cases k4;rw[z2];exact Value.isStrOf_shape k2
  .obtain⟨u,u1,u2⟩:=D2.get (i:=i) (x:=es[i].2.2) (by rw[fL,e3];rfl)
   rw[fL,k1] at u1;cases u1;exact u2
 .obtain⟨ok,ov,a⟩:=st;exact MZ a h
def Qt(to:TE):TI:=λZ H R=>to Z H λx H1=>∃d es ep,x=.ref d/\H1 d=some (.dG es ep)/\fV es/\R (zZ (λH=>H d=some (.dG es ep)/\fV es) es.length (Eh es)) H1
section
variable{X:Cx}{K:fU}
def VW{fY:Pos}(ho:PE X o to)(cK:attributeBase o "items" X.env (eval o X.env)=eval o X.env:=by rfl)(cL:(apos.endLine == bV.line)=true:=by rfl):
  PI X (.Tuple elts x1 fY) (.Call (.Attribute o "items" apos) [] [] bV) (Qt to):=by
 intro aa s Z H R I h;refine wpAny_Call_method0_late cK cL (bP (ho aa s Z H _ I h) λv s1 hh=>?_)
 obtain⟨x,H1,I1,r1,d,es,ep,rfl,hd,ht,q⟩:=hh;cases r1;obtain⟨t1,t2⟩:=B8 I1 hd;obtain⟨kvs,D1,D2,D3,D4,lo⟩:=tM I1 hd ht;have l1:kvs.length=es.length:=by have:=congrArg List.length D3;simpa using this
 have ld:d<s1.heap.objs.size:=D1.lt_size;refine⟨"dict","dict.items",PySem.F.plainAttrs_dict,PySem.F.slot_dict_items,PySem.F.type_dict_items,t1,t2,Calls.callWith_builtin rfl (PySem.evalArgs_none ?_)⟩;refine call_meetsIn PySem.F.slot_dict_items t1 PySem.F.entry_dict_items (PySem.F.args_dict_items_1 _) (meets_dict_items (PySem.strKind X.prog X.w) d lo) ⟨⟨kvs,D1.dictOf⟩,?_⟩;refine wpAny_pyIter_items (knd:=PySem.strKind X.prog X.w) (v:=s1.heap.objs.size) (d:=d) (kvs:=kvs) (ep:=ep) ⟨_,i_ _ rfl,rfl,rfl⟩ (D1.push _) ?_;have sz:(s1.heap.push { cls:=.type "dict_items",data:=.fields #[.ref d]}).objs.size=s1.heap.objs.size+1:=by simp[Heap.push]
 have hg:=i_ (s1.heap.push { cls:=.type "dict_items",data:=.fields #[.ref d]}) (o:={ cls:=.type "dict_itemiterator",data:=.fields #[.none,.bool false,.ref d,.int 0 0,.int kvs.length 0,.int ep 0,.none,.none]}) rfl;rw[l1] at hg ⊢;refine⟨(s1.heap.push { cls:=.type "dict_items",data:=.fields #[.ref d]}).objs.size,[(s1.heap.push { cls:=.type "dict_items",data:=.fields #[.ref d]}).objs.size],_,_,H1,rfl,I1.kept (t':=s1.toks) λb o e=>dy _ (dy _ e),Tt (it:=(s1.heap.push { cls:=.type "dict_items",data:=.fields #[.ref d]}).objs.size) (d:=d) (by rw[sz];exact ie (zQ ld)) es ep,⟨k_ _,.none,.none,hg⟩,λb hb=>?_,q⟩
 cases lL.mp hb;have l_:s1.heap.objs.size<=(s1.heap.push { cls:=.type "dict_items",data:=.fields #[.ref d]}).objs.size:=by rw[sz];exact qG _
 exact I1.kl l_ (I1.bD.fresh l_)
end
end L2
namespace L2
open PySem PySem.Spec PyProof.Rows
section
variable{X:Cx}{K:aL}
def DI(K:aL):R2:=λx y H Q=>∃d e,bK K H [x] [d]/\bK K H [y] [e]/\fX 40 d=true/\fX 40 e=true/\Q (.bl (ec d e)) H
def e3u(K:aL)(hu:X.A.units+40<cLine)(hK:X.K=K:=by rfl):eB X (compareOp .Eq) (DI K):=by
 subst hK;intro aa s Z H x y v u Q I rx ry h;obtain⟨d,e,r1,r2,o1,o2,q⟩:=h;exact(Ju I 40 40 r1 r2 o1 o2 rx ry hu).2 X.prog X.w _ _ ⟨.bl _,H,I,rfl,q⟩
open Classical in
noncomputable def nW (K:aL) (H:Hp) (dx:D) (u:aj):Bool:=decide (∃x d,RelV x u/\bK K H [x] [d]/\fX 40 d=true/\ec d dx=true)
open Classical in
def Qu{aa:List (ah×Obj)}{s:ay}{Z:St}{H:Hp}(I:Inv X aa Z H s){dx d:D}{x:V}{u:aj}(rx:RelV x u)(r:bK X.K H [x] [d])(ok:fX 40 d=true):nW X.K H dx u=ec d dx:=by
 unfold nW;rw[A_,y9a];constructor
 .rintro⟨x',d',rx',r',f9,e⟩;have:=RelV.inj rx rx';subst this;rw[FT I 40 40 r r' ok f9];exact e
 .exact λe=>⟨x,d,rx,r,ok,e⟩
def F_{aa:List (ah×Obj)}{s:ay}{Z:St}{H:Hp}(I:Inv X aa Z H s){dx:D}{ws:List V}{aH:List aj}{ds:List D}(t:Vals ws aH)(rp:bK X.K H ws ds)(ok:ds.all (fX 40)=true):aH.any (nW X.K H dx)=ds.any λd=>ec d dx:=by
 induction t generalizing ds with
 |nil=>
  cases ds with
  |nil=>rfl
  |cons _ _=>have:=rp.length;simp at this
 |cons r t ih=>
  cases ds with
  |nil=>have:=rp.length;simp at this
  |cons d ds=>
   rw[tq,jU] at ok;rw[List.any_cons,List.any_cons,Qu I r rp.inv.1 ok.1,ih rp.inv.2 ok.2]
def Ga{aa:List (ah×Obj)}{s:ay}{Z:St}{H:Hp}(I:Inv X aa Z H s){dx:D}{y:V}{v:aj}{A:c8}(rv:RelV y v)(ry:bK X.K H [y] [dx])(oy:fX 40 dx=true)(hu:A.units+40<cLine):
  ∀{ws:List V} {aH:List aj} {ds:List D},Vals ws aH->bK X.K H ws ds->ds.all (fX 40)=true->∀u∈aH,SeqAt.EqAt A s u v (nW X.K H dx u):=by
 intro ws aH ds t
 induction t generalizing ds with
 |nil=>intro _ _ u m;cases m
 |cons r t ih=>
  intro rp ok u' m;cases ds with
  |nil=>have:=rp.length;simp at this
  |cons d ds=>
   rw[tq,jU] at ok;rcases y09.mp m with rfl|m
   .rw[Qu I r rp.inv.1 ok.1];exact(Ju I 40 40 rp.inv.1 ry ok.1 oy r rv hu).1
   .exact ih rp.inv.2 ok.2 u' m
noncomputable def zG:D->ai (List D)
 |.lst ds=>some ds
 |.tup ds=>some ds
 |_=>none
def zy(K:aL)(neg:Bool):R2:=λx y H Q=>
 (∃d e ds,bK K H [x] [d]/\bK K H [y] [e]/\zG e=some ds/\fX 40 d=true/\ds.all (fX 40)=true/\Q (.bl (if neg then !ds.any λz=>ec z d else ds.any λz=>ec z d)) H)\/
 (∃i j,x=.str i/\y=.str j/\Q (.bl (if neg then !(!(Builtin.Str.occurrences j i 0 j.length 1).isEmpty) else !(Builtin.Str.occurrences j i 0 j.length 1).isEmpty)) H)\/
 ∃a o,y=.ref a/\iA K H a x o/\Q (.bl (if neg then !o.isSome else o.isSome)) H
def e3v(K:aL)(hu:X.A.units+41<cLine)(hK:X.K=K:=by rfl):eB X (compareOp .In) (zy K false):=by
 subst hK;intro aa s Z H x y v u Q I rx ry h;rcases h with⟨d,e,ds,r1,r2,es,o1,o2,q⟩|⟨i,j,rfl,rfl,q⟩|⟨a,o,rfl,g,q⟩
 .have sk:X.A.in1.units+40<cLine:=by show X.A.units+1+40<cLine;lia
  cases r2.one with
  |flat z=>cases e <;> first|(cases z;done)|cases es
  |lst sq i=>
   cases es;cases ry;obtain⟨aH,r,pl,hz⟩:=I.list sq;refine SeqAt.in_listAt (nW X.K H d) pl.isList (λw hw=>Ga I rx r1 o1 sk r i o2 w (by simpa using hw)) ⟨.bl _,H,I,rfl,?_⟩
   rw[show aH.toArray.any (nW X.K H d)=aH.any (nW X.K H d) by simp,F_ I r i o2]
   exact q
  |tup sq i=>
   cases es;cases ry;obtain⟨aH,r,pl,hz⟩:=I.tuple sq;refine SeqAt.in_tupleAt (nW X.K H d) pl (λw hw=>Ga I rx r1 o1 sk r i o2 w (by simpa using hw)) ⟨.bl _,H,I,rfl,?_⟩
   rw[show aH.toArray.any (nW X.K H d)=aH.any (nW X.K H d) by simp,F_ I r i o2]
   exact q
  |aA _ _ _ _=>cases es
  |ref _=>cases es
 .exact T9 aa s Z H _ _ v u Q I rx ry ⟨i,j,rfl,rfl,q⟩
 .cases ry;exact Mg (by lia) I g rx λs3 I3=>⟨.bl o.isSome,H,I3,rfl,q⟩
def UE(K:aL)(hu:X.A.units+41<cLine)(hK:X.K=K:=by rfl):eB X (compareOp .NotIn) (zy K true):=by
 subst hK;intro aa s Z H x y v u Q I rx ry h;rcases h with⟨d,e,ds,r1,r2,es,o1,o2,q⟩|⟨i,j,rfl,rfl,q⟩|⟨a,o,rfl,g,q⟩
 .have sk:X.A.in1.units+40<cLine:=by show X.A.units+1+40<cLine;lia
  cases r2.one with
  |flat z=>cases e <;> first|(cases z;done)|cases es
  |lst sq i=>
   cases es;cases ry;obtain⟨aH,r,pl,hz⟩:=I.list sq;refine SeqAt.notIn_listAt (nW X.K H d) pl.isList (λw hw=>Ga I rx r1 o1 sk r i o2 w (by simpa using hw)) ⟨.bl _,H,I,rfl,?_⟩
   rw[show aH.toArray.any (nW X.K H d)=aH.any (nW X.K H d) by simp,F_ I r i o2]
   exact q
  |tup sq i=>
   cases es;cases ry;obtain⟨aH,r,pl,hz⟩:=I.tuple sq;refine SeqAt.notIn_tupleAt (nW X.K H d) pl (λw hw=>Ga I rx r1 o1 sk r i o2 w (by simpa using hw)) ⟨.bl _,H,I,rfl,?_⟩
   rw[show aH.toArray.any (nW X.K H d)=aH.any (nW X.K H d) by simp,F_ I r i o2]
   exact q
  |aA _ _ _ _=>cases es
  |ref _=>cases es
 .exact SV aa s Z H _ _ v u Q I rx ry ⟨i,j,rfl,rfl,q⟩
 .cases ry;exact X3 (by lia) I g rx λs3 I3=>⟨.bl (!o.isSome),H,I3,rfl,q⟩
def Gy(ne:Bool)(a b:D):ai Rv:=if(fX 40 a&&fX 40 b)=true then some (rd (.bl (if ne=true then !ec a b else ec a b))) else none
def e8y:cg K (mC (DI K)) (o2 (Gy false)):=wq λk H x z a b y Q le t1 t2 e res=>by
 unfold Gy at e;split at e
 .rename_i h
  obtain⟨h1,h2⟩:=Bc.mp h;cases e;exact⟨_,_,t1.AZ le h1,t2.AZ le h2,h1,h2,res.flat le rfl⟩
 .cases e
mutual
def qD:D->ai TK
 |.int i=>some (.inl i)
 |.str x=>some (.inr x)
 |.aI=>some .aI
 |.tup l=>(nJ l).map .tp
 |_=>none
def nJ:List D->ai (List TK)
 |[]=>some []
 |d::l=>(qD d).bind λk=>(nJ l).map λks=>k::ks
end
def jL:D->ai TK
 |.int i=>some (.inl i)
 |.str x=>some (.inr x)
 |.aI=>some .aI
 |.tup l=>(nJ l).bind λks=>if TK.ok 8 (.tp ks)=true then some (.tp ks) else none
 |_=>none
mutual
theorem e8z:∀{d:D} {k:TK},qD d=some k->k.d=d
 |.int i,k,e=>by simp only[qD] at e;cases e;simp[TK.d]
 |.str i,k,e=>by simp only[qD] at e;cases e;simp[TK.d]
 |.tup l,k,e=>by
  simp only[qD] at e;obtain⟨ks,h1,rfl⟩:=dH.mp e;simp only[TK.d];rw[oI h1]
 |.aI,k,e=>by simp only[qD] at e;cases e;simp[TK.d]
 |.ref _,k,e=>by simp[qD] at e
 |.bl _,k,e=>by simp[qD] at e
 |.ty _,k,e=>by simp[qD] at e
 |.lst _,k,e=>by simp[qD] at e
 |.aA _,k,e=>by simp[qD] at e
theorem oI:∀{l:List D} {ks:List TK},nJ l=some ks->TK.dl ks=l
 |[],ks,e=>by simp only[nJ] at e;cases e;simp[TK.dl]
 |d::l,ks,e=>by
  simp only[nJ] at e;obtain⟨k,h1,e⟩:=cG.mp e;obtain⟨wg,h2,rfl⟩:=dH.mp e;simp only[TK.dl];rw[e8z h1,oI h2]
end
def Al{d:D}{k:TK}(e:jL d=some k):k.d=d/\k.ok 8=true:=by
 cases d with
 |int i=>cases e;exact⟨by simp[TK.d],rfl⟩
 |str i=>cases e;exact⟨by simp[TK.d],rfl⟩
 |aI=>cases e;exact⟨by simp[TK.d],rfl⟩
 |tup l=>
  simp only[jL] at e;obtain⟨ks,h1,e⟩:=cG.mp e
  grind [TK.d,oI]
 |_=>cases e
def aO(kvs:List (TK×D))(k:TK):ai D:=(kvs.find? λkv=>decide (kv.1=k)).map (·.2)
theorem Jl{F:Kn}{k:TK}:∀{ws:List (TK×V×V)} {kvs:List (TK×D)},ws.map (·.1)=kvs.map (·.1)->ag K F (ws.map (·.2.2)) (kvs.map (·.2))->(jO ws k=none/\aO kvs k=none)\/∃v d,jO ws k=some v/\aO kvs k=some d/\ag K F [v] [d]
 |[],[],_,_=>.inl ⟨rfl,rfl⟩
 |w::ws,p::kvs,h,r=>by
  rw[cZ,cZ] at h;injection h with h1 h2;unfold jO aO;rw[Bf,Bf,h1];by_cases e:p.1=k
  .rw[nK e];exact .inr ⟨w.2.2,p.2,rfl,rfl,r.inv.1⟩
  .rw[oM e];exact Jl h2 r.inv.2
 |[],_::_,h,_=>by simp at h
 |_::_,[],h,_=>by simp at h
def vv{k:Kn}{H:Hp}{x y:V}{kvs:List (TK×D)}{d:D}{j:TK}(le:aB k.F H)(t1:Top K k H x (.aA kvs))(t2:Top K k H y d)(hk:jL d=some j):∃a o,x=.ref a/\iA K H a y o/\((o=none/\aO kvs j=none)\/∃v e,o=some v/\aO kvs j=some e/\ag K k [v] [e]):=by
 obtain⟨a,es,ep,rfl,h1,h2,h3,h4⟩:=t1.aA le;obtain⟨k1,k2⟩:=Al hk;refine⟨a,jO es j,rfl,⟨es,ep,j,h1,Pw h2 h3 le,?_,k2,rfl⟩,Jl h2 h4⟩;have:=t2.rep le;rw[<-k1] at this;exact sC (k:=k.all H) j this
def AN(neg:Bool)(a b:D):ai Rv:=match b with
 |.aA kvs=>(jL a).map λj=>rd (.bl (if neg=true then !(aO kvs j).isSome else(aO kvs j).isSome))
 |.str j=>(match a with
  |.str i=>some (rd (.bl (if neg=true then !(!(Builtin.Str.occurrences j i 0 j.length 1).isEmpty) else !(Builtin.Str.occurrences j i 0 j.length 1).isEmpty)))
  |_=>none)
 |e=>(zG e).bind λds=>if(fX 40 a&&ds.all (fX 40))=true then some (rd (.bl (if neg=true then !ds.any λz=>ec z a else ds.any λz=>ec z a))) else none
def Ya{k:Kn}{H:Hp}{x:V}{e:D}{ds:List D}(le:aB k.F H)(t:Top K k H x e)(h:zG e=some ds)(ok:ds.all (fX 40)=true):bK K H [x] [e]:=by
 cases e with
 |lst _=>cases h;obtain⟨p,ws,rfl,q,r⟩:=t.lst le;exact .lst q (Top.Sj r le ok) .nil
 |tup _=>cases h;obtain⟨p,ws,rfl,q,r⟩:=t.tup le;exact .tup q (Top.Sj r le ok) .nil
 |_=>cases h
def Rh(neg:Bool):cg K (mC (zy K neg)) (o2 (AN neg)):=wq λk H x z a b y Q le t1 t2 e res=>by
 unfold AN at e;split at e
 .obtain⟨j,hj,rfl⟩:=dH.mp e;obtain⟨p,o,rfl,g,h⟩:=vv le t2 t1 hj;refine .inr (.inr ⟨p,o,rfl,g,?_⟩);have z:=res.flat le rfl;rcases h with⟨rfl,h⟩|⟨v,e,rfl,h,_⟩ <;> rw[h] at z <;> exact z
 .split at e
  .cases e;cases t1.flat rfl;cases t2.flat rfl;exact .inr (.inl ⟨_,_,rfl,rfl,res.flat le rfl⟩)
  .cases e
 .obtain⟨ds,h1,e⟩:=cG.mp e;split at e
  .rename_i h
   obtain⟨h2,h3⟩:=Bc.mp h;cases e;exact .inl ⟨_,_,ds,t1.AZ le h2,Ya le t2 h1 h3,h1,h2,h3,res.flat le rfl⟩
  .cases e
def zz(neg:Bool):R2:=λx y H Q=>(y=.aI/\Q (.bl (if neg then !decide (x=.aI) else decide (x=.aI))) H)\/∃a b,x=.bl a/\y=.bl b/\Q (.bl (if neg then a != b else a == b)) H
def e3x:eB X (compareOp .Is) (zz false):=zr.or π
def Yb:eB X (compareOp .IsNot) (zz true):=u7.or XB
noncomputable def sH:D->Bool
 |.aI=>true
 |_=>false
def AQ(neg:Bool)(a b:D):ai Rv:=match b with
 |.aI=>some (rd (.bl (if neg=true then !sH a else sH a)))
 |.bl b=>(match a with
  |.bl a=>some (rd (.bl (if neg=true then a != b else a == b)))
  |_=>none)
 |_=>none
def VX{k:Kn}{H:Hp}{x:V}{d:D}(h:Top K k H x d):decide (x=.aI)=sH d:=by
 rcases h with h|⟨p,c,rfl,rfl,h⟩
 .cases h.one with
  |flat q=>cases d <;> cases q <;> rfl
  |_=>rfl
 .cases c <;> rfl
def Ri(neg:Bool):cg K (mC (zz neg)) (o2 (AQ neg)):=wq λk H x z a b y Q le t1 t2 e res=>by
 unfold AQ at e;split at e
 .cases e;cases t2.flat rfl;refine .inl ⟨rfl,?_⟩;rw[VX t1];exact res.flat le rfl
 .split at e
  .cases e;cases t1.flat rfl;cases t2.flat rfl;exact .inr ⟨_,_,rfl,rfl,res.flat le rfl⟩
  .cases e
 .cases e
def DK(K:aL):R2:=λx y H Q=>zA K x y H Q\/zB K x y H Q\/DL x y H Q\/∃a v,x=.ref a/\iA K H a y (some v)/\Q v H
def Yc(hu:X.A.units+9<cLine):p4 X (λx y H Q=>∃a v,x=.ref a/\iA X.K H a y (some v)/\Q v H):=by
 intro value slice aa s Z H x y v u Q I rx ry h hs;obtain⟨a,w,rfl,g,q⟩:=h;cases rx;exact tail_any (g.ty I).1 PySem.F.slot_dict_getitem.lookup (NT hu I g ry λw' s3 I3 mF=>⟨w,H,I3,mF,q⟩) hs
def K3(K:aL)(hu:X.A.units+41<cLine)(hK:X.K=K):p4 X (DK K):=by
 subst hK;exact(VH X.K rfl).or ((XC X.K rfl).or (yY.or (Yc (by lia))))
noncomputable def intD:D->ai Int
 |.int k=>some k
 |_=>none
def FU{i:D}{k:Int}(h:intD i=some k):i=.int k:=by
 cases i with
 |int _=>cases h;rfl
 |_=>cases h
def Py{F:Kn}{ws:List V}{ds:List D}{i:Int}{d:D}(r:ag K F ws ds)(e:d_ ds i=some d):∃v,d_ ws i=some v/\ag K F [v] [d]:=by
 unfold d_ at e ⊢;rw[r.length];cases q:uT ds.length i with
 |none=>rw[q] at e;cases e
 |some j=>
  rw[q] at e;exact r.get e
def G6(a i:D):ai Rv:=match a with
 |.lst ds=>(intD i).bind λk=>(d_ ds k).map rd
 |.tup ds=>(intD i).bind λk=>(d_ ds k).map rd
 |.str z=>(intD i).bind λk=>if z.length<=1000000 then(d_ z.cps.toList k).map λc=>rd (.str ⟨#[c]⟩) else none
 |.aA kvs=>(jL i).bind λj=>(aO kvs j).map rd
 |_=>none
def e9a:cg K (mC (DK K)) (o2 G6):=wq λk H x z a b y Q le t1 t2 e res=>by
 unfold G6 at e;split at e
 .obtain⟨i,hi,e⟩:=cG.mp e;cases FU hi;cases t2.flat rfl;obtain⟨d,h1,rfl⟩:=dH.mp e;obtain⟨p,ws,rfl,q,r⟩:=t1.lst le;obtain⟨v,h2,h3⟩:=Py r h1;exact .inl ⟨p,ws,i,v,rfl,rfl,q,h2,res.rep le h3⟩
 .obtain⟨i,hi,e⟩:=cG.mp e;cases FU hi;cases t2.flat rfl;obtain⟨d,h1,rfl⟩:=dH.mp e;obtain⟨p,ws,rfl,q,r⟩:=t1.tup le;obtain⟨v,h2,h3⟩:=Py r h1;exact .inr (.inl ⟨p,ws,i,v,rfl,rfl,q,h2,res.rep le h3⟩)
 .obtain⟨i,hi,e⟩:=cG.mp e;cases FU hi;cases t2.flat rfl;cases t1.flat rfl;split at e
  .obtain⟨c,h1,rfl⟩:=dH.mp e;exact .inr (.inr (.inl ⟨_,i,c,rfl,rfl,ml (by assumption),h1,res.flat le rfl⟩))
  .cases e
 .obtain⟨j,hj,e⟩:=cG.mp e;obtain⟨d,h1,rfl⟩:=dH.mp e;obtain⟨p,o,rfl,g,h⟩:=vv le t1 t2 hj;rcases h with⟨_,h⟩|⟨v,e,rfl,h,r⟩
  .lia
  .rw[h] at h1;cases h1;exact .inr (.inr (.inr ⟨p,v,rfl,g,res.rep le r⟩))
 .cases e
noncomputable def cutD(ds:List D)(lo hi:ai Int):List D:=(ds.drop (HT.cS ds.length 0 lo)).take (HT.cS ds.length ds.length hi - HT.cS ds.length 0 lo)
def DO(K:aL):V->ai Int->ai Int->Hp->VK->Prop:=λx lo hi H Q=>DP x lo hi H Q\/zC K x lo hi H Q\/zD K x lo hi H Q
def LN(K:aL)(hK:X.K=K):rn X (DO K):=zH.or ((VI K hK).or (XD K hK))
def LM(a:D)(lo hi:ai Int):ai Rv:=match a with
 |.str z=>if z.length<=1000000 then some (rd (.str (Txt.slice z lo hi))) else none
 |.lst ds=>some (.o (.lst (cutD ds lo hi)))
 |.tup ds=>if HT.cS ds.length 0 lo=0/\HT.cS ds.length ds.length hi=ds.length then none else some (rd (.tup (cutD ds lo hi)))
 |_=>none
def Pz{k:Kn}{ws:List V}{ds:List D}{lo hi:ai Int}(r:ag K k ws ds):ag K k (nh ws lo hi) (cutD ds lo hi):=by
 unfold nh cutD;rw[r.length];exact(r.drop _).take _
def e9b{k:Kn}{H:Hp}{x:V}{a:D}{y:Rv}{Q:VK}{lo hi:ai Int}(le:aB k.F H)(t:Top K k H x a)(e:LM a lo hi=some y)(res:kU K k H y Q):DO K x lo hi H Q:=by
 unfold LM at e;split at e
 .split at e
  .cases e;cases t.flat rfl;exact .inl ⟨_,rfl,ml (by assumption),res.flat le rfl⟩
  .cases e
 .cases e;obtain⟨p,ws,rfl,q,r⟩:=t.lst le;exact .inr (.inl ⟨p,ws,rfl,q,λl hl=>res.lst le (Pz r) hl⟩)
 .split at e
  .cases e
  .rename_i gP
   cases e;obtain⟨p,ws,rfl,q,r⟩:=t.tup le;exact .inr (.inr ⟨p,ws,rfl,q,by rw[r.length];exact gP,λl hl=>res.tup le (Pz r) hl⟩)
 .cases e
abbrev GO:=Gx (ai Int)
abbrev z0:Rp (ai Int) (ai Int):=λ_ _ b a=>b=a
noncomputable def yf:GO:=λ_ S=>some (.ok none S)
noncomputable def Rv.int:Rv->ai Int
 |.v (.d (.int i))=>some i
 |_=>none
noncomputable def yg(g:GE):GO:=λU S=>bd (g U S) λr S1=>r.int.map λi=>.ok (some i) S1
def vL(f:GE)(lo hi:GO):GE:=λU S=>bd (f U S) λr S1=>bd (lo U S1) λl S2=>bd (hi U S2) λu S3=>((jC S3 (mI r)).bind λd=>LM d l u).map λy=>.ok y S3
def Rv.jr{r:Rv}{i:Int}(h:r.int=some i):r=rd (.int i):=by
 obtain(d|_)|_:=r
 .cases d <;> cases h;rfl
 all_goals cases h
section
variable{W:XW}{q:Nat}{e:Expr}{lo hi:ai Expr}{f:GE}{fl fh:GO}{pos p2:Pos}
def uH:PO X none (tX z0 K W q yf):=λaa s Z H Q I t=>Xt aa s Z H Q I (Cw t λ_ _=>rfl)
def uI(h:PE X e (tE K W q f)):PO X (some e) (tX z0 K W q (yg f)):=λaa s Z H Q I t=>Xu h aa s Z H Q I (by
 obtain⟨k,U,S,res,ok,gk,e,w⟩:=t;refine tX.bd ok gk e w λr S1 x k1 H1 bM g1 r1 e1 w1 _=>?_
 obtain⟨i,e2,rfl⟩:=dH.mp e1;cases Rv.jr e2;exact⟨i,(show ag K k1 [x] [.int i] from r1).aP rfl,w1.now bM rfl⟩)
def VY(he:PE X e (tE K W q f))(hl:PO X lo (tX z0 K W q fl))(hu:PO X hi (tX z0 K W q fh))(hK:X.K=K):PE X (.Subscript e (.Slice lo hi none p2) pos) (tE K W q (vL f fl fh)):=(Vz (LN K hK) he hl hu).mono λZ H Q t=>by
 obtain⟨k,U,S,res,ok,gk,e,w⟩:=t;refine tX.bd ok gk e w λr S1 x k1 H1 bM g1 r1 e1 w1 _=>?_
 obtain⟨k2,u2,cV,r2⟩:=qB bM r1;refine tX.bd cV (g1.up (u2 q)) e1 (w1.up (u2 q)) λl S3 l' k3 H3 jM g3 r3 e3 w3 u3=>?_
 cases r3;refine tX.bd jM g3 e3 w3 λu S4 u' k4 H4 qm g4 r4 e4 w4 u4=>?_
 cases r4;obtain⟨y,e5,rfl⟩:=dH.mp e4;obtain⟨d,e6,e7⟩:=cG.mp e5;exact e9b qm.le (F7 qm ((r2.up u3).up u4) e6) e7 (.fin qm w4)
end
end
section
variable{X:Cx}{K:aL}
def i6:List Int->Int
 |[]=>0
 |x::xs=>xs.foldl (λa b=>if b<a then b else a) x
def UG(xs:List Int):∀x:Int,(xs.foldl (λa b=>if b<a then b else a) x<=x/\∀y∈xs,xs.foldl (λa b=>if b<a then b else a) x<=y)/\(xs.foldl (λa b=>if b<a then b else a) x=x\/xs.foldl (λa b=>if b<a then b else a) x∈xs):=by
 induction xs with
 |nil=>intro x;exact⟨⟨Ms _,λy m=>by cases m⟩,.inl rfl⟩
 |cons z xs ih=>
  grind
def NU{xs:List Int}(h:xs≠[]):i6 xs∈xs/\∀y∈xs,i6 xs<=y:=by
 cases xs with
 |nil=>exact cR rfl h
 |cons x xs=>
  obtain⟨⟨h1,h2⟩,h3⟩:=UG xs x;refine⟨?_,λy m=>?_⟩
  .rcases h3 with h3|h3
   .show List.foldl _ x xs∈_
    simp_all
   .exact .tail _ h3
  .rcases y09.mp m with rfl|m
   .exact h1
   .exact h2 y m
theorem Np:∀{is:List Int} {aH:List aj},Vals (is.map V.int) aH->∃ps:List (Int×Tok),aH=ps.map (λp=>Value.int p.1 p.2)/\ps.map (·.1)=is
 |[],aH,h=>by
  rw[Ey] at h;cases h;exact⟨[],rfl,rfl⟩
 |i::is,aH,h=>by
  rw[cZ] at h;cases h with
  |cons r t=>
   obtain⟨ps,e1,e2⟩:=Np t;obtain⟨tk,rfl⟩:=r;exact⟨(i,tk)::ps,by rw[e1];rfl,by rw[cZ,e2]⟩
def VZ(K:aL)(hc:X.calm=true:=by rfl)(hK:X.K=K:=by rfl):bW X (.builtin "min") (λxs H Q=>∃a is,xs=[.ref a]/\dr K H a (is.map V.int)/\is≠[]/\Q (.int (i6 is)) H):=by
 subst hK;intro aa s Z H xs us Q I r h;obtain⟨a,is,rfl,hs,gP,q⟩:=h;obtain⟨u,rfl,ru⟩:=vals1 r;cases ru;obtain⟨aH,rv,p,hz⟩:=I.list hs;obtain⟨ps,e1,e2⟩:=Np rv;subst e1;have hl:0<ps.length:=by
  grind
 have el:(ps.map λp=>Value.int p.1 p.2).toArray=intItems ps.toArray:=by unfold intItems;simp
 have pl:=p.isList;rw[el] at pl;refine min_intList (I.ok.hd hc) pl (by simpa using hl) λv h' tk hv hk=>?_
 obtain⟨b1,b2⟩:=argBest_lt (numAt ps.toArray) (ps.toArray.size - 1);generalize argBest (λi j=>decide (numAt ps.toArray i<numAt ps.toArray j)) (ps.toArray.size - 1)=n at *
 have hn:n<ps.length:=by simp at b1;lia
 have C6:∀j (hj:j<ps.length),numAt ps.toArray j=(ps[j]).1:=λj hj=>by unfold numAt;simp[hj]
 have KQ:v=Value.int (ps[n]).1 (ps[n]).2:=by
  unfold intItems at hv;simp[hn] at hv;exact hv.symm
 have hm:i6 is=(ps[n]).1:=by
  obtain⟨m1,m2⟩:=NU gP;have i1:(ps[n]).1∈is:=by rw[<-e2];exact mP (f:=(·.1)) (A' hn)
  have c1:=m2 _ i1;rw[<-e2] at m1;obtain⟨pp,KO,hp2⟩:=fy.mp m1;obtain⟨j,hj,ej⟩:=List.mem_iff_getElem.mp KO;have c2:=b2 j (by simp;lia)
  rw[C6 n hn,C6 j hj,ej] at c2;rw[e2] at hp2;lia
 rw[KQ];exact⟨.int (i6 is),H,I.kept (h':=h') (t':=tk) λb o e=>hk b o e,⟨(ps[n]).2,by rw[hm]⟩,q⟩
def kx:List D->ai (List Int)
 |[]=>some []
 |.int i::ds=>(kx ds).map λis=>i::is
 |_=>none
theorem NV:∀is:List Int,kx (is.map .int)=some is
 |[]=>rfl
 |i::is=>by rw[cZ];show(kx (is.map .int)).map _=_;rw[NV is];rfl
theorem NW:∀{ds:List D} {is:List Int},kx ds=some is->ds=is.map .int
 |[],is,e=>by cases e;rfl
 |d::ds,is,e=>by
  cases d with
  |int i=>
   obtain⟨js,e1,e2⟩:=dH.mp (show(kx ds).map _=some is from e);rw[<-e2,NW e1];rfl
  |_=>cases e
theorem Na{F:Kn}:∀{ws:List V} {is:List Int},ag K F ws (is.map .int)->ws=is.map .int
 |[],[],_=>rfl
 |[],_::_,h=>by have:=h.length;simp at this
 |_::_,[],h=>by have:=h.length;simp at this
 |w::ws,i::is,h=>by
  rw[cZ] at h;have h1:=h.inv.1;have h2:=Na h.inv.2;rw[h2,cZ];rw[h1.aP rfl]
end
end L2
namespace L2
open PySem PySem.Spec PySem.W PyProof.Rows
section
variable{X:Cx}{K:aL}
def L4(k:String):Bool:=k == "tuple" || k == "list"
def wD(K:fU):List V->Hp->VK->Prop:=λxs H Q=>∃x k q,xs=[x,.ref q]/\Cj K H x k/\iI K H q [.ty "tuple",.ty "list"]/\Q (.bl (L4 k)) H
def UH(K:fU)(hK:X.K=K:=by rfl):bW X (.builtin "isinstance") (wD K):=by
 subst hK;intro aa s Z H xs us Q I r h;obtain⟨x,k,q,rfl,hk,hq,qq⟩:=h;obtain⟨u,w',rfl,rx,ry⟩:=vals2 r;cases ry;obtain⟨aH,rv,⟨ot,h1,h2,n,h3⟩,_⟩:=I.tuple hq;obtain⟨oc,odd,odt,ph⟩:=ot;dsimp only at h2 h3;subst h2;subst h3;obtain⟨u1,u2,rfl,r1,r2⟩:=vals2 rv;cases r1;cases r2;have fin:∀b,b=L4 k->∀tk,EP X aa Z Q (.bool b) { s with toks:=tk}:=λb e tk=>uy (I.tok _) qq e.symm
 cases x with
 |aI=>
  cases rx;have hk:k="NoneType":=hk;subst hk;exact kia_tup (b:=false) kitx_none I.jK tF h1 (by rfl) (λz=>nomatch z) (fin _ rfl)
 |bl b=>
  cases rx;have hk:k="bool":=hk;subst hk;exact kia_tup (b:=false) kitx_bool I.jK tF h1 (by rfl) (λz=>nomatch z) (fin _ rfl)
 |int i=>
  obtain⟨t,rfl⟩:=rx;have hk:k="int":=hk;subst hk;exact kia_tup (b:=false) kitx_int I.jK tF h1 (by rfl) (λz=>nomatch z) (fin _ rfl)
 |str z=>
  obtain⟨t,rfl⟩:=rx;have hk:k="str":=hk;subst hk;exact kia_tup (b:=false) kitx_str I.jK tF h1 (by rfl) (λz=>nomatch z) (fin _ rfl)
 |ref a=>
  cases rx;rcases hk with⟨hk,ys,hs⟩|⟨hk,ys,hs⟩
  .subst hk;obtain⟨aH,_,⟨o,n,e,hc,_⟩,_⟩:=I.list hs;exact kia_tup (b:=true) kitx_list I.jK ⟨o,e,hc⟩ h1 (by rfl) (λz=>nomatch z) (fin _ rfl)
  .subst hk;obtain⟨aH,_,⟨o,e,hc,_⟩,_⟩:=I.tuple hs;exact kia_tup (b:=true) kitx_tuple I.jK ⟨o,e,hc⟩ h1 (by rfl) (λz=>nomatch z) (fin _ rfl)
 |vQ _=>exact False.elim hk
 |AE _=>exact False.elim hk
 |ty _=>exact False.elim hk
end
end L2
namespace L2
open PySem PySem.Spec PyProof.Rows
variable{A:c8}{E:aj->ay->Prop}{s:ay}{ep:Nat}
theorem Td{Q:Bool->ay->Prop}{P:dB}{w:cI}{d:ah}(hT:s.TypeIs (.ref d) "dict")(h:Q false s):wpAny (model P w) A (Builtin.List.listLengthHint (.ref d)) Q E s:=by
 unfold Builtin.List.listLengthHint;refine aE (wpAny_specialOf hT F.slot_dict_len.lookup ?_);dsimp only;rw[show splitId "dict.__len__"=some ("dict","__len__") from by decide +kernel]
 dsimp only;refine aE (wpAny_isInstance (b:=true) hT (by rw[isSubtype_type];kernel_rfl) ?_)
 rw[br (by decide)]
 refine wpAny_ite_true (by decide +kernel) (aE (wpAny_typeOf hT ?_))
 exact aY h
section
variable{P:dB}{w:cI}{A:c8}{E:aj->ay->Prop}{s:ay}
def UI{n:Nat}{ob:Obj}{xs:Array DictEntry}(hh:A.handled=none)(J d:ah)(gP:d≠J)(g2:ob.data=.dict xs ep)(hl:xs.size=n):
  Walks P w A J [J,d] [J] n (λi v=>xs[i]?.map (·.key)=some v) (λi h=>h.IsKeyIter J d i n ep/\h.get? d=some ob) where
 sub:=λb hb=>by simp at hb;simp[hb]
 frame:=λ_ _ _ st hk=>⟨st.1.at λo e=>hk J (by simp) o e,hk d (by simp) _ st.2⟩
 item:=λi s Q E hi st hQ=>by
  have lt:i<xs.size:=by lia
  refine Nm st.2 g2 hl st.1 lt λh' AR sb=>?_
  exact hQ _ h' s.toks (by rw[ue lt];rfl) ⟨AR,(sb.2 d gP).trans st.2⟩ λb o hb e=>sb.extBut b o (λh=>hb (by simp[h])) e
 done:=λs Q E st hQ=>NM hh st.2 g2 hl st.1 (cv _) λh' he'=>hQ h' s.toks λb o hb e=>he' b o (λh=>hb (by simp[h])) e
 self:=λ_ _ _ _ st hQ=>wpAny_pyIter_keyiter st.1 hQ
end
theorem PB:∀{ys:List V} {us:List aj},ys.length=us.length->(∀(j:Nat) (y:V) (u:aj),ys[j]?=some y->us[j]?=some u->RelV y u)->Vals ys us
 |[],[],_,_=>.nil
 |y::ys,u::us,hl,h=>.cons (h 0 y u rfl rfl) (PB (by simpa using hl) λj y' u' e1 e2=>h (j+1) y' u' (by simpa using e1) (by simpa using e2))
 |[],_::_,h,_=>by simp at h
 |_::_,[],h,_=>by simp at h
section
variable{X:Cx}{aa:List (ah×Obj)}{Z:St}{H:Hp}
theorem SM{d:ah}{es:List (TK×V×V)}{Q:aj->ay->Prop}(hh:A.handled=none)(I:Inv X aa Z H s)(hd:H d=some (.dG es ep))
  (hQ:∀s',(∀b u,s.heap.get? b=some u->s'.heap.get? b=some u)->s'={ s with heap:=s'.heap,toks:=s'.toks}->(∃aH c,Vals (es.map (·.2.1)) aH/\s'.heap.get? s.heap.objs.size=some { cls:=.type "list",data:=.seq aH.toArray c})->Q (.ref s.heap.objs.size) s') :
  wpAny (model X.prog X.w) A (call (.type "list") [.ref d]) Q E s:=by
 obtain⟨hz,z,ob,xs,g1,g5,g2,g3,g4⟩:=(show bH X.prog X.w H s.heap d (.dG es ep) from I.bD d _ hd);have hl:xs.size=es.length:=by have:=Paired.length g3;simpa using this.symm
 have ld:d<s.heap.objs.size:=cX g1;refine callType_codes (Q₁:=λobj s₁=>obj=.ref s.heap.objs.size/\s₁={ s with heap:=s.heap.push { cls:=.type "list",data:=.seq #[]}}) F.called_list (F.typeCall_list_1 _) F.entry_list_init (code_list_new _ ⟨rfl,rfl⟩) λobj s₁ q₁=>?_
 obtain⟨rfl,rfl⟩:=q₁;have gS:(s.heap.push { cls:=.type "list",data:=.seq #[]}).get? s.heap.objs.size=some { cls:=.type "list",data:=.seq #[]}:=i_ _ rfl;refine⟨⟨_,gS,rfl⟩,F.args_list_init_2 _ _,?_⟩;show wpAny _ _ (do let old <-Builtin.List.listItems (.ref s.heap.objs.size);Builtin.List.listUpdate (.ref s.heap.objs.size) (λ_=>#[]);letGo old.toList.reverse;Builtin.List.listExtendWith (.ref s.heap.objs.size) (.ref d) .none) _ _ _
 refine aE ?_;unfold Builtin.List.listItems;refine aE (wpAny_seqItems gS rfl (aY ?_));show wpAny _ _ (updateSeq s.heap.objs.size (λ_=>#[]) >>= λ_=>letGo (#[]:Array aj).toList.reverse >>= λ_=>Builtin.List.listExtendWith (.ref s.heap.objs.size) (.ref d) .none) _ _ _
 refine aE (wpAny_updateSeq gS rfl ?_);have gT:=qI (Obj.mapSeq (λ_=>(#[]:Array aj))) gS rfl
 refine aE (wpAny_letGo ?_);have nS:∀b u,s.heap.get? b=some u->b≠s.heap.objs.size:=λb u e z=>by rw[z] at e;exact jV _ (cX e)
 have k1:∀b u,s.heap.get? b=some u->((s.heap.push { cls:=.type "list",data:=.seq #[]}).update s.heap.objs.size (Obj.mapSeq (λ_=>(#[]:Array aj)))).get? b=some u:=
  λb u e=>(oJ _ _ (Ne.symm (nS b u e))).trans (dy _ e)
 have Su:((s.heap.push { cls:=.type "list",data:=.seq #[]}).update s.heap.objs.size (Obj.mapSeq (λ_=>(#[]:Array aj)))).objs.size=s.heap.objs.size+1:=by simp[Heap.update,Heap.push]
 generalize(s.heap.push { cls:=.type "list",data:=.seq #[]}).update s.heap.objs.size (Obj.mapSeq (λ_=>(#[]:Array aj)))=h1 at *
 have I1:Inv X aa Z H { s with heap:=h1,toks:=s.toks}:=I.kept k1;have hT1:Shared.TypeIs { s with heap:=h1} (.ref d) "dict":=⟨ob,k1 _ _ g1,g5.1⟩;unfold Builtin.List.listExtendWith;refine aE (wpAny_typeOf hT1 ?_);have ne:s.heap.objs.size≠d:=λe=>jV _ (e ▸ ld)
 have c1:Builtin.List.listSameRef (.ref s.heap.objs.size) (.ref d)=false:=by simp[Builtin.List.listSameRef,ne]
 have c2:(Value.type "dict" == Value.type "list")=false:=by decide
 have c3:(Value.type "dict" == Value.type "tuple")=false:=by decide
 simp only[c1,c2,c3,Bool.or_false,ud,lr];refine aE (Oh I1 hd ?_);have Km:Shared.TypeIs { s with heap:=h1.push { cls:=.type "dict_keyiterator",data:=.fields #[.ref d,.int 0 0,.int es.length 0,.int ep 0]}} (.ref d) "dict":=⟨ob,dy _ (k1 _ _ g1),g5.1⟩;refine aE (kK (Td Km ?_));refine wpAny_ite_true (by decide +kernel) (aE (wpAny_rule (aE ?_)))
 show wpAny _ _ (updateSeq s.heap.objs.size (·.push .none) >>= λ_=>updateSeq s.heap.objs.size (·.pop)) _ _ _
 have gU:=dy { cls:=.type "dict_keyiterator",data:=.fields #[.ref d,.int 0 0,.int es.length 0,.int ep 0]} gT;refine aE (wpAny_updateSeq gU rfl ?_);have gV:=qI (Obj.mapSeq (·.push Value.none)) gU rfl
 refine wpAny_updateSeq (hz:=by seq_fits) gV rfl ?_
 have gW:=qI (Obj.mapSeq (·.pop)) gV rfl
 have gJ:(h1.push { cls:=.type "dict_keyiterator",data:=.fields #[.ref d,.int 0 0,.int es.length 0,.int ep 0]}).get? h1.objs.size=some { cls:=.type "dict_keyiterator",data:=.fields #[.ref d,.int 0 0,.int es.length 0,.int ep 0]}:=i_ _ rfl;have Lk:∀b o,b≠s.heap.objs.size->(h1.push { cls:=.type "dict_keyiterator",data:=.fields #[.ref d,.int 0 0,.int es.length 0,.int ep 0]}).get? b=some o->
   (((h1.push { cls:=.type "dict_keyiterator",data:=.fields #[.ref d,.int 0 0,.int es.length 0,.int ep 0]}).update s.heap.objs.size (Obj.mapSeq (·.push Value.none))).update s.heap.objs.size (Obj.mapSeq (·.pop))).get? b=some o:=
  λb o hb e=>(oJ _ _ (Ne.symm hb)).trans ((oJ _ _ (Ne.symm hb)).trans e)
 have hJ:h1.objs.size≠s.heap.objs.size:=by rw[Su];exact Nat.succ_ne_self _
 have dJ:d≠h1.objs.size:=ie (by rw[Su];exact zQ ld)
 have W:=(UI (P:=X.prog) (w:=X.w) (A:=A.in1.in1) (n:=es.length) (ep:=ep) hh h1.objs.size d dJ g2 hl).toS;have hSf:s.heap.objs.size∉[h1.objs.size,d]:=λm=>by
  grind
 refine aY ⟨plainId_quiet F.plain_extend_loop _,codeAny_extend_loopS W hz _ hSf _ es.length 0 _ _ _ rfl (k_ _) ⟨⟨_,Lk _ _ hJ gJ,rfl,rfl⟩,Lk _ _ (Ne.symm ne) (dy _ (k1 _ _ g1))⟩ gW (ItemsOf.nil _) λs' B5 c' hm hS' uM=>?_⟩
 obtain⟨m1,m2,m3,m4,m5⟩:=hm;have tU:s'={ s with heap:=s'.heap,toks:=s'.toks}:=by
  cases s'
  lia
 refine⟨rfl,hQ s' (λb u e=>m1 b u (λq=>?_) (Lk b u (nS b u e) (dy _ (k1 b u e)))) tU ⟨B5.toList,c',?_,by simpa using hS'⟩⟩
 .rcases y09.mp q with q|q
  .exact nS b u e q
  .rw[lL] at q;have:=cX e
   lia
 .have h2:B5.size=es.length:=uM.1;refine PB (by simp[h2]) λj y u e1 e2=>?_
  rw[fL] at e1;obtain⟨e,e3,rfl⟩:=dH.mp e1;obtain⟨x,x1,x2⟩:=Fi j g3 e3;have h3:=uM.2 j u (by rw[<-w9];exact e2)
  have x1:xs[j]?=some x:=by rw[<-w9];exact x1
  have h3:Option.map (λx=>x.key) xs[j]?=some u:=h3
  rw[x1] at h3;cases h3;exact x2.2.1
def Sn(K:aL):List V->Hp->VK->Prop:=λxs H Q=>∃d es ep,xs=[.ref d]/\H d=some (.dG es ep)/\∀l,H l=none->Q (.ref l) (upd H l (.lst (es.map (·.2.1))))
def Tu(hc:X.calm=true):bW X (.type "list") (Sn X.K):=by
 intro aa s Z H xs us Q I r h;obtain⟨d,es,ep,rfl,hd,q⟩:=h;obtain⟨u,rfl,ru⟩:=vals1 r;cases ru;refine SM (I.ok.hd hc) I hd λs' kp tU hh=>?_
 obtain⟨aH,c,rv,g⟩:=hh;have hz:=(show bH X.prog X.w H s.heap d (.dG es ep) from I.bD d _ hd).1;rw[tU];exact⟨.ref s.heap.objs.size,_,I.laid kp (cv _) (show bH X.prog X.w _ s'.heap _ (.lst (es.map (·.2.1))) from⟨by rw[bq];exact hz,aH,c,rv,g⟩),rfl,q _ (I.bD.fresh (cv _))⟩
end
section
variable{X:Cx}{K:aL}
def pB(r:V->List V->Hp->VK->Prop):List V->Hp->VK->Prop:=λvs H Q=>∃x xs,vs=x::xs/\r x xs H Q
def dY:List D->ai (List Str)
 |[]=>some []
 |.str x::ds=>(dY ds).map λxs=>x::xs
 |_=>none
theorem NX:∀xs:List Str,dY (xs.map .str)=some xs
 |[]=>rfl
 |i::is=>by rw[cZ];show(dY (is.map .str)).map _=_;rw[NX is];rfl
theorem Fj:∀{ds:List D} {xs:List Str},dY ds=some xs->ds=xs.map .str
 |[],xs,e=>by cases e;rfl
 |d::ds,xs,e=>by
  cases d with
  |str i=>
   obtain⟨js,e1,e2⟩:=dH.mp (show(dY ds).map _=some xs from e);rw[<-e2,Fj e1];rfl
  |_=>cases e
theorem HW{F:Kn}:∀{ws:List V} {xs:List Str},ag K F ws (xs.map .str)->ws=xs.map .str
 |[],[],_=>rfl
 |[],_::_,h=>by have:=h.length;simp at this
 |_::_,[],h=>by have:=h.length;simp at this
 |w::ws,i::is,h=>by
  rw[cZ] at h;have h1:=h.inv.1;have h2:=HW h.inv.2;rw[h2,cZ];rw[h1.aP rfl]
theorem H_:∀{xs:List Str} {aH:List aj},Vals (xs.map V.str) aH->∃ps:List (Str×Tok),aH=ps.map (λp=>Value.str p.1 p.2)/\ps.map (·.1)=xs
 |[],aH,h=>by
  rw[Ey] at h;cases h;exact⟨[],rfl,rfl⟩
 |i::is,aH,h=>by
  rw[cZ] at h;cases h with
  |cons r t=>
   obtain⟨ps,e1,e2⟩:=H_ t;obtain⟨tk,rfl⟩:=r;exact⟨(i,tk)::ps,by rw[e1];rfl,by rw[cZ,e2]⟩
def iB:List D->ai (List Bool)
 |[]=>some []
 |.bl b::ds=>(iB ds).map λbs=>b::bs
 |_=>none
theorem Nq:∀{ds:List D} {bs:List Bool},iB ds=some bs->ds=bs.map .bl
 |[],bs,e=>by cases e;rfl
 |d::ds,bs,e=>by
  cases d with
  |bl i=>
   obtain⟨js,e1,e2⟩:=dH.mp (show(iB ds).map _=some bs from e);rw[<-e2,Nq e1];rfl
  |_=>cases e
theorem b2i{F:Kn}:∀{ws:List V} {bs:List Bool},ag K F ws (bs.map .bl)->ws=bs.map .bl
 |[],[],_=>rfl
 |[],_::_,h=>by have:=h.length;simp at this
 |_::_,[],h=>by have:=h.length;simp at this
 |w::ws,i::is,h=>by
  rw[cZ] at h;have h1:=h.inv.1;have h2:=b2i h.inv.2;rw[h2,cZ];rw[h1.aP rfl]
def UJ(K:aL)(hc:X.calm=true:=by rfl)(hK:X.K=K:=by rfl):bW X (.builtin "all") (λxs H Q=>∃(a:ah) (bs:List Bool),xs=[.ref a]/\dr K H a (bs.map V.bl)/\Q (.bl (bs.all id)) H):=hK ▸ Uk hc
noncomputable def Au(z:Str):aj->Bool
 |.str y _=>y == z
 |_=>false
def Qv(K:aL):V->List V->Hp->VK->Prop:=λx xs H Q=>∃(a:ah) (ys:List Str) (z:Str) (j:Nat),x=.ref a/\xs=[.str z]/\dr K H a (ys.map V.str)/\ys[j]?=some z/\(∀i y,i<j->ys[i]?=some y->y≠z)/\Q (.int (j:Nat)) H
theorem V0(K:aL)(hK:X.K=K:=by rfl):xu X "list.index" (Qv K):=by
 subst hK;intro aa s Z H x xs v us Q I rx rs h;obtain⟨a,ys,z,j,rfl,rfl,hq,hj,gP,q⟩:=h;cases rx;obtain⟨u,rfl,ru⟩:=vals1 rs;obtain⟨t,rfl⟩:=ru;obtain⟨aH,rv,p,hz⟩:=I.list hq;obtain⟨ps,e1,e2⟩:=H_ rv;subst e1;obtain⟨ob,n,eo,tZ,hdi,hda⟩:=p;have hlen:ps.length=ys.length:=by rw[<-e2,bq]
 have hjl:j<ys.length:=(eQ.mp hj).1;have hit:∀i (hi:i<ps.length),(ps.map λp=>Value.str p.1 p.2)[i]?=some (Value.str ps[i].1 ps[i].2):=λi hi=>by simp[hi]
 have G1:∀i (hi:i<ps.length),ys[i]?=some ps[i].1:=λi hi=>by rw[<-e2];simp[hi]
 have hsz:(ps.map λp=>Value.str p.1 p.2).toArray.size=ps.length:=by simp
 have Kx:ps[j].1=z:=by
  simp_all
 obtain⟨cl,di,da,sl⟩:=ob;cases tZ;cases hda;have G2:ys.length<=16777216:=by rw[bq,sizeLine_eq] at hz;exact hz
 refine call_meets F.slot_list_index ⟨_,eo,rfl⟩ F.entry_list_index (F.args_list_index_2 _ _) (SeqAt.list_indexAt a _ n di sl (.str z t) (Au z) j (by rw[hsz];lia) (by lia) ?_ ?_) ⟨eo,?_,?_⟩
 .simp[Au,Kx]
 .intro i hi o9;rw[hsz] at hi;have:=gP i _ o9 (G1 i hi);simp[Au];exact this
 .intro y hy;simp at hy;obtain⟨b,t',_,rfl⟩:=hy;exact SeqAt.EqAt.str_str b t' z t
 .exact⟨.int (j:Nat),H,I.tok _,⟨_,rfl⟩,q⟩
def findS(ys:List Str)(z:Str):ai Nat:=ys.findIdx? (· == z)
def Ac{ys:List Str}{z:Str}{j:Nat}(e:findS ys z=some j):ys[j]?=some z/\∀i y,i<j->ys[i]?=some y->y≠z:=by
 unfold findS at e;rw[List.findIdx?_eq_some_iff_getElem] at e;obtain⟨h,h1,h2⟩:=e;refine⟨by rw[g7 h];congr 1;exact eq_of_beq h1,λi y hi ey=>?_⟩
 have:=h2 i hi;obtain⟨hl,e3⟩:=eQ.mp ey;rw[e3] at this;intro z';subst z';simp at this
def PC:V->List V->Hp->VK->Prop:=λx xs H Q=>∃(l:ah) (ys:List Str) (z:Str) (j:Nat),x=.ref l/\xs=[.str z]/\H l=some (.lst (ys.map V.str))/\ys[j]?=some z/\(∀i y,i<j->ys[i]?=some y->y≠z)/\Q .aI (upd H l (.lst ((ys.eraseIdx j).map V.str)))
theorem Fl{α β:Type}(f:α->β):∀(xs:List α) (j:Nat),(xs.map f).eraseIdx j=(xs.eraseIdx j).map f
 |[],j=>by simp
 |_::_,0=>rfl
 |x::xs,j+1=>by show f x::(xs.map f).eraseIdx j=f x::(xs.eraseIdx j).map f;rw[Fl f xs j]
theorem MS:∀{ps:List (Str×Tok)},Vals ((ps.map (·.1)).map V.str) (ps.map λp=>Value.str p.1 p.2)
 |[]=>.nil
 |p::ps=>.cons ⟨p.2,rfl⟩ MS
theorem UK:xu X "list.remove" PC:=by
 intro aa s Z H x xs v us Q I rx rs h;obtain⟨l,ys,z,j,rfl,rfl,hH,hj,gP,q⟩:=h;cases rx;obtain⟨u,rfl,ru⟩:=vals1 rs;obtain⟨t,rfl⟩:=ru;obtain⟨hz,aH,n,rv,hl,eo⟩:=I.uW hH;obtain⟨ps,e1,e2⟩:=H_ rv;subst e1;have hlen:ps.length=ys.length:=by rw[<-e2,bq]
 have hjl:j<ys.length:=(eQ.mp hj).1;have G1:∀i (hi:i<ps.length),ys[i]?=some ps[i].1:=λi hi=>by rw[<-e2];simp[hi]
 have hsz:(ps.map λp=>Value.str p.1 p.2).toArray.size=ps.length:=by simp
 have Kx:ps[j].1=z:=by
  have:=G1 j (by lia)
  rw[hj] at this;exact(Option.some.inj this).symm
 refine call_meets F.slot_list_remove ⟨_,eo,rfl⟩ F.entry_list_remove (F.args_list_remove_2 _ _) (MeetsSeq.list_remove l _ n (.str z t) (Au z) ?_ j (by rw[hsz];lia) ?_ ?_ (by rw[hsz,hlen];simpa using hz)) ⟨eo,?_⟩
 .intro y hy;simp at hy;obtain⟨b,t',_,rfl⟩:=hy;show MeetsSeq.EqGives _ _ (b == z);rw[<-SeqAt.str_beq];exact SeqRoads2.EqGives.str b z t' t
 .simp[Au,Kx]
 .intro i hi o9;rw[hsz] at hi;have:=gP i _ o9 (G1 i hi);simp[Au];exact this
 .refine⟨.aI,_,I.uV (its':=(ps.eraseIdx j).map λp=>Value.str p.1 p.2) hH eo ?_ ?_ ?_,rfl,q⟩
  .apply Array.toList_inj.mp;simp[Array.toList_eraseIdxIfInBounds,Fl]
  .rw[<-e2,Fl];exact MS
  .rw[bq];have:=List.length_eraseIdx_le ys j;rw[bq] at hz;lia
end
end L2
namespace L2
open PySem PySem.Spec PySem.W PyProof.Rows
def V1{P:dB}{w:cI}{xs:List DictEntry}{kvs:List (Str×aj)}(p:Pairs (strKind P w) xs kvs):∀{es:List (TK×V×V)},(∀x∈xs,∃k,(strKind P w).is k x.key=true/\x.hash=(strKind P w).hash k)->kvs.map (λp=>TK.inr p.1)=es.map (·.1)->Vals (es.map (·.2.2)) (kvs.map (·.2))->fV es->Paired (jb w) es xs:=by
 induction p with
 |nil=>
  intro es _ e _ _;cases es with
  |nil=>exact .nil
  |cons _ _=>cases e
 |@cons x kv xs kvs h1 h2 _ ih=>
  intro es hk e v t;cases es with
  |nil=>cases e
  |cons a es=>
   rw[cZ,cZ,List.cons.injEq] at e;cases v with
   |cons v1 v2=>
    refine .cons ?_ (ih (λy m=>hk y (.tail _ m)) e.2 v2 λy m=>t y (.tail _ m))
    obtain⟨k,k1,k2⟩:=hk x (.head _);obtain⟨z,t1,t2⟩:=t a (.head _);have i1:Value.isStrOf kv.1 x.key=true:=h1;have i2:Value.isStrOf k x.key=true:=k1;cases hx:x.key with
    |str s tk=>
     rw[hx] at i1 i2;have j1:s=kv.1:=by simpa[Value.isStrOf] using i1
     have j2:s=k:=by simpa[Value.isStrOf] using i2
     have j3:kv.1=z:=by
      lia
     refine⟨?_,?_,by rw[h2];exact v1,by rw[t1];rfl⟩
     .rw[k2,t1,<-j2,j1,j3];rfl
     .rw[t2,hx,j1,j3];exact⟨tk,rfl⟩
    |_=>rw[hx] at i1;cases i1
noncomputable def i7(z:Str)(k:TK):Bool:=decide (k≠.inr z)
theorem PD(z:Str):∀{es:List (TK×V×V)} {kvs:List (Str×aj)},kvs.map (λp=>TK.inr p.1)=es.map (·.1)->Vals (es.map (·.2.2)) (kvs.map (·.2))->(without kvs z).map (λp=>TK.inr p.1)=(es.filter λe=>i7 z e.1).map (·.1)/\Vals ((es.filter λe=>i7 z e.1).map (·.2.2)) ((without kvs z).map (·.2))
 |[],[],_,_=>⟨rfl,.nil⟩
 |[],_::_,e,_=>by cases e
 |_::_,[],e,_=>by cases e
 |a::es,kv::kvs,e,v=>by
  rw[cZ,cZ,List.cons.injEq] at e;cases v with
  |cons v1 v2=>
   obtain⟨i1,i2⟩:=PD z e.2 v2;unfold without at *;by_cases h:kv.1=z
   .grind [i7]
   .have h':i7 z a.1=true:=by unfold i7;rw[<-e.1];simpa using h
    rw[A9,A9,bJ (by simpa using h),bJ h']
    exact⟨by rw[cZ,cZ,i1,e.1],.cons v1 i2⟩
theorem Qw(z:Str){v:V}:∀{es:List (TK×V×V)} {kvs:List (Str×aj)},kvs.map (λp=>TK.inr p.1)=es.map (·.1)->Vals (es.map (·.2.2)) (kvs.map (·.2))->jO es (.inr z)=some v->∃u,valueAt kvs z=some u/\RelV v u
 |[],[],_,_,h=>by cases h
 |[],_::_,e,_,_=>by cases e
 |_::_,[],e,_,_=>by cases e
 |a::es,kv::kvs,e,vs,h=>by
  rw[cZ,cZ,List.cons.injEq] at e;cases vs with
  |cons v1 v2=>
   unfold jO at h;unfold valueAt;rw[Bf] at h ⊢;by_cases g:kv.1=z
   .simp_all
   .have g':¬a.1=.inr z:=by rw[<-e.1];intro x;cases x;exact g rfl
    rw[oM g'] at h;rw[oM g];exact Qw z e.2 v2 h
def wI(K:aL):V->List V->Hp->VK->Prop:=λx vs H Q=>∃d es ep z v,x=.ref d/\vs=[.str z]/\H d=some (.dG es ep)/\fV es/\jO es (.inr z)=some v/\∀nR,Q v (upd H d (.dG (es.filter λe=>i7 z e.1) nR))
def Yd{X:Cx}(K:aL):xu X "dict.pop" (wI K):=by
 intro aa s Z H x xs v us Q I rx rs h;obtain⟨d,es,ep,z,v',rfl,rfl,hd,ht,hv,q⟩:=h;cases rx;obtain⟨u,rfl,ru⟩:=rs.one;obtain⟨tk,rfl⟩:=ru;obtain⟨kvs,D1,D2,D3,D4,lo⟩:=tM I hd ht;obtain⟨w,hw,mF⟩:=Qw z D3 D2 hv;refine call_meetsIn PySem.F.slot_dict_pop (B8 I hd).1 PySem.F.entry_dict_pop (PySem.F.args_dict_pop_2 _ _) (meets_dict_pop_there (strKind X.prog X.w) d (k:=z) (by show Value.isStrOf z (.str z tk)=true;simp[Value.isStrOf]) [] (.inl rfl) (by rfl)) ⟨kvs,w,D1.dictOf,D4,hw,λh' hD hs=>?_⟩
 obtain⟨o,xs,nR,g1,g2,g3,g4,g5,g6⟩:=hD;obtain⟨f1,f2⟩:=PD z D3 D2;obtain⟨hz,_⟩:=(show bH X.prog X.w H s.heap d (.dG es ep) from I.bD d _ hd);refine⟨v',_,Jh (ob:=.dG (es.filter λe=>i7 z e.1) nR) I (by rw[hd];exact tF) hs ⟨_,g1⟩ ⟨?_,lo,o,xs,g1,g2,g3,V1 g5 (λx m=>g4 x (Mj.mp m)) f1 f2 λe m=>ht e (qE.mp m).1,?_⟩,mF,q nR⟩
 .exact ju (tu _ _) hz
 .rw[<-f1,show(λp:Str×aj=>TK.inr p.1)=TK.inr∘(·.1) from rfl,<-dh]
  exact List.Pairwise.map _ (λa b ne z=>ne (by cases z;rfl)) g6
end L2
namespace L2
open PySem PySem.Spec PyProof.Rows
section
variable{X:Cx}{K:aL}
def wC(K:aL):V->List V->Hp->VK->Prop:=λx xs H Q=>∃a y o,x=.ref a/\xs=[y]/\iA K H a y o/\Q (o.getD .aI) H
def Ye(K:aL)(hu:X.A.units+41<cLine)(hK:X.K=K:=by rfl):xu X "dict.get" (wC K):=by
 subst hK;intro aa s Z H x xs v us Q I r rs h;obtain⟨a,y,o,rfl,rfl,g,q⟩:=h;obtain⟨u,rfl,ru⟩:=Vals.one rs;cases r;exact e3m (by lia) I g ru λw' s' I' mF=>⟨o.getD .aI,H,I',mF,q⟩
end
end L2
namespace L2
open PySem PySem.Spec PySem.W PyProof.Rows
end L2
namespace L2
open PySem PySem.Spec PyProof.Rows
def IJ{P:dB}{w:cI}{H:Hp}(h:b_)(hb:sysModules<h.objs.size):bH P w H (h.push { cls:=.type "dict",data:=.dict #[]}) h.objs.size (.dG [] 0):=
 ⟨k_ _,qJ.mpr (Ne.symm (ie hb)),_,#[],i_ _ rfl,⟨rfl,rfl,rfl⟩,rfl,.nil,EA⟩
def e3z:TE:=λ_ H Q=>∀p,H p=none->Q (.ref p) (upd H p (.dG [] 0))
end L2
namespace L2
open PySem PySem.Spec PySem.W PyProof.Rows
variable{H:Hp}{ps:List (TK×V×V)}{A:c8}{l:ah}{ys:List V}{E:aj->ay->Prop}{s:ay}
def MK:entryFor table "dict.update.loop"=some Builtin.«dict.update.loop»:=entryFor_of_tree (by kernel_rfl)
def EO:plainId "dict.update.loop"=true:=by decide +kernel
def fE(es:List (TK×V×V))(ps:List (TK×V×V)):List (TK×V×V):=ps.foldl (λes p=>dW es p.1 p.2.1 p.2.2) es
def Fv{d:ah}{o:HO}(h:H d=none):aB H (upd H d o):=λb u e=>by
 grind [dI]
section
variable{X:Cx}{aa:List (ah×Obj)}{Z:St}{H:Hp}
structure jP (K:aL) (H:Hp) (ys:List V) (ps:List (TK×V×V)):Prop where
 len:ys.length=ps.length
 item:∀(i:Nat) p,ps[i]?=some p->∃a,ys[i]?=some (.ref a)/\iI K H a [p.2.1,p.2.2]/\bK K H [p.2.1] [p.1.d]/\p.1.ok 8=true
def Tv(es ps:List (TK×V×V)):(fE es ps).length<=es.length+ps.length:=by
 induction ps generalizing es with
 |nil=>exact cv _
 |cons p ps ih=>
  grind [E5,fE]
def Nr(K:aL)(h:∀p∈ps,bK K H [p.2.1] [p.1.d]):∀{es:List (TK×V×V)},bK K H (es.map (·.2.1)) (es.map (·.1.d))->bK K H ((fE es ps).map (·.2.1)) ((fE es ps).map (·.1.d)):=by
 induction ps with
 |nil=>exact λr=>r
 |cons p ps ih=>
  intro es r;refine ih (λq m=>h q (.tail _ m)) ?_
  have hp:=h p (.head _);clear ih h
  induction es with
  |nil=>exact hp
  |cons e es ih=>
   obtain⟨r1,r2⟩:=ag.inv r;show bK K H ((if e.1=p.1 then(e.1,e.2.1,p.2.2)::es else e::dW es p.1 p.2.1 p.2.2).map (·.2.1)) ((if e.1=p.1 then(e.1,e.2.1,p.2.2)::es else e::dW es p.1 p.2.1 p.2.2).map (·.1.d))
   split
   .exact .cons r1 r2
   .exact .cons r1 (ih r2)
def Tw{R:Result->ay->Prop}{d J:ah}(hd:H d=none)(hl:dr X.K H l ys)(hp:jP X.K H ys ps)(hh:A.handled=none)(hu:A.units+12<cLine)(hn:ps.length<1000)
  (hJ:∀u,ji X aa (upd H d u) J)
  (fin:∀s ep,Inv X aa Z (upd H d (.dG (fE [] ps) ep)) s->R (.ok (.ret .none)) s) :
  ∀n i ep s tk,ps.length - i=n->i<=ps.length->Inv X aa Z (upd H d (.dG (fE [] (ps.take i)) ep)) s->s.heap.IsListIter J l i->codeAny (model X.prog X.w) A (.builtin "dict.update.loop" ⟨[.ref d,.ref J,.int (i:Int) tk,.none],[]⟩) R s:=by
 intro n
 induction n with
 |zero=>
  intro i ep s tk hi hi2 I it;have e:i=ps.length:=by lia
  subst e;refine codeAny_builtin MK ?_;rw[Around.under_plainId EO _];show wpAny _ A.in1 (pyNext (.ref J) >>= _) _ _ s;have mf:=(Fv (o:=.dG (fE [] (ps.take ps.length)) ep) hd).seq hl;obtain⟨aH,rv,p,hz⟩:=I.list mf;obtain⟨f0,f1,f2,f3,f4,f5⟩:=hJ (.dG (fE [] (ps.take ps.length)) ep);have hlen:=rv.length;have C5:=hp.len;refine aE (wpAny_pyNext_list_end hh it p.isList (by simp;lia) λh' eb=>?_)
  have I1:=I.turned (t':=s.toks) (λb o hb e=>eb b o hb e) f0 f1 f3 f4 f5
  rw[List.take_length] at I1;exact aE (aY (aY (fin _ ep I1)))
 |succ n ih=>
  intro i ep s tk hi hi2 I it;have lt:i<ps.length:=by lia
  obtain⟨a,ya,sq,rk,ok⟩:=hp.item i ps[i] (g7 lt);refine codeAny_builtin MK ?_;rw[Around.under_plainId EO _];show wpAny _ A.in1 (pyNext (.ref J) >>= _) _ _ s;have sm:=Fv (o:=.dG (fE [] (ps.take i)) ep) hd;obtain⟨aH,rv,p,hz⟩:=I.list (sm.seq hl);obtain⟨u,hu1,ru⟩:=rv.get ya;obtain rfl:u=Value.ref a:=ru;obtain⟨f0,f1,f2,f3,f4,f5⟩:=hJ (.dG (fE [] (ps.take i)) ep);refine aE (wpAny_pyNext_list_item it p.isList (x:=.ref a) (by simpa using hu1) λh' AR sb=>?_)
  have I1:Inv X aa Z (upd H d (.dG (fE [] (ps.take i)) ep)) { s with heap:=h'}:=I.turned (t':=s.toks) (λb o hb e=>(sb.2 b hb).trans e) f0 f1 f3 f4 f5
  obtain⟨k6,Hc,tp,_⟩:=I1.tuple (sm.zI sq);obtain⟨w1,w2,rfl,r1,r2⟩:∃w1 w2,k6=[w1,w2]/\RelV ps[i].2.1 w1/\RelV ps[i].2.2 w2:=by
   cases Hc with
   |cons r1 t=>
    cases t with
    |cons r2 t=>cases t;exact⟨_,_,rfl,r1,r2⟩
  obtain⟨o,ho,hc,n0,uN⟩:∃o,h'.get? a=some o/\o.cls=.type "tuple"/\∃n,o.data=.seq #[w1,w2] n:=by
   obtain⟨o,h1,h2,h3⟩:=tp;exact⟨o,h1,h2,h3⟩
  have hT:({ s with heap:=h'}:ay).TypeIs (.ref a) "tuple":=⟨o,ho,hc⟩;refine aE (kK (aE (wpAny_tryCatch ?_)));unfold Builtin.Dict.pairItems;refine aE (wpAny_typeOf hT ?_);rw[bJ (by decide)]
  refine aE (m:=seqItems? (.ref a)) (aE (wpAny_load ho ?_));rw[uN];refine aY (aY ?_);show wpAny _ _ (holding [w1,w2] (dictSet d w1 w2)) _ _ _;refine kK ?_;have I2:=I1.pinned (fp:=[J]) (λb hb=>by rw[lL.mp hb];exact hJ _) (λb hb=>by
   rw[lL.mp hb];obtain⟨oj,ej,_,dj⟩:=AR
   simp_all)
  have tk1:ps.take (i+1)=ps.take i++[ps[i]]:=(List.take_append_getElem lt).symm;have hpa:dW (fE [] (ps.take i)) ps[i].1 ps[i].2.1 ps[i].2.2=fE [] (ps.take (i+1)):=by rw[tk1];unfold fE;rw[Mt];rfl
  have hlen:=Tv [] (ps.take i);rw[wZ,Ba] at hlen;refine Ip (H':=upd (upd H d (.dG (fE [] (ps.take i)) ep)) d (.dG (fE [] (ps.take (i+1))) (qo (fE [] (ps.take i)) ps[i].1 ep))) (show A.in1.units+8<cLine from ?_) I2 ⟨_,ep,ps[i].1,aK,?_,(ag.Hj rk sm),ok,?_,by rw[hpa]⟩ r1 r2 λs' I3=>?_
  .lia
  .exact ag.Hj (H:=H) (Nr X.K (λq m=>by
    obtain⟨j,hj⟩:=zR.mp (List.mem_of_mem_take m);obtain⟨_,_,_,r,_⟩:=hp.item j q hj;exact r) .nil) sm
  .exact gK (by lia:(fE [] (ps.take i)).length<1000000) (by decide)
  .have eu:upd (upd H d (.dG (fE [] (ps.take i)) ep)) d (.dG (fE [] (ps.take (i+1))) (qo (fE [] (ps.take i)) ps[i].1 ep))=upd H d (.dG (fE [] (ps.take (i+1))) (qo (fE [] (ps.take i)) ps[i].1 ep)):=by
    funext b;unfold upd;split <;> rfl
   rw[eu] at I3;obtain⟨oj,ej,cj,dj⟩:=id AR;have ej':s'.heap.get? J=some oj:=(I3.pin (J,oj) (n4 _ (n4 _ (BD (by simp) ej)))).1
   refine aY ⟨plainId_quiet EO _,?_⟩;exact ih (i+1) _ s' _ (by lia) lt I3.eZ ⟨oj,ej',cj,dj⟩
theorem UL{aH:Array aj}{Q:ai aj->ay->Prop}(pl:PlainL s.heap l aH)(hA:A.handled=none)
  (h:∀h' tk,(∀b u,s.heap.get? b=some u->h'.get? b=some u)->Q none { s with heap:=h',toks:=tk}):wpAny (model X.prog X.w) A (getAttr? (.ref l) "keys") Q E s:=by
 obtain⟨o,n,hx,hc,hd,uN⟩:=pl;obtain⟨c,aA,dat,sl⟩:=o;simp only at hc uN hd;subst hc uN hd;obtain⟨hp,g,d,tk,os⟩:=s;have hT:∀Sw,(⟨hp,g,d,Sw,os⟩:ay).TypeIs (.ref l) "list":=λ_=>⟨_,hx,rfl⟩
 have f1:=sub_AttributeError;have f3:=F.slot_list_getattribute.lookup;have f4:=F.slot_list_getattribute.bind (.ref l);have f5:=am_list_getattr_none;unfold getAttr? getAttrBy? getAttrBy
 repeat (any_goals (first|assumption|exact hT _|((with_reducible show wpAny _ _ (call (Value.builtin "list.__getattribute__") _ _) _ _ _);refine call_meets F.slot_list_getattribute (hT _) am_entry_list_getattribute (F.args_list_getattribute_2 _ _) (meets_getattribute_miss_list l aH n sl "keys" _ (by rw[typeLookup_type,builtinLookup_eq_fast];kernel_rfl) (by decide) (by size_fits)) ⟨hx,hA,λh' Sw e t5=>?_⟩)|wp_step))
 obtain⟨t',u',he⟩:=t5.there;show wpAny _ _ (getattributeRaised _ _ _ _ _ _ _) _ _ _;unfold getattributeRaised
 repeat (any_goals (first|assumption|wp_step))
 exact h _ _ t5.keeps
theorem SK{Q:aj->ay->Prop}(I:Inv X aa Z H s)(hl:dr X.K H l ys)(hp:jP X.K H ys ps)(hh:A.handled=none)(hu:A.units+20<cLine)(hn:ps.length<1000)
  (q:∀s' ep,Inv X aa Z (upd H s.heap.objs.size (.dG (fE [] ps) ep)) s'->Q (.ref s.heap.objs.size) s'):wpAny (model X.prog X.w) A (call (.type "dict") [.ref l]) Q E s:=by
 refine callType_codes (Q₁:=λobj s₁=>obj=.ref s.heap.objs.size/\s₁={ s with heap:=s.heap.push { cls:=.type "dict",data:=.dict #[]}}) F.kt_called_dict (F.kt_typeCall_dict_1 _) F.entry_dict_init (kt_code_dict_new _ ⟨rfl,rfl⟩) ?_
 rintro obj s₁ ⟨rfl,rfl⟩;have hd:H s.heap.objs.size=none:=I.bD.fresh (cv _);have I1:=I.laid (a:=s.heap.objs.size) (o:=.dG [] 0) (h':=s.heap.push { cls:=.type "dict",data:=.dict #[]}) (t':=s.toks) (λ_ _ q=>dy _ q) (cv _) (IJ s.heap I.big)
 generalize s.heap.objs.size=d at *;generalize s.heap.push { cls:=.type "dict",data:=.dict #[]}=KO at *;have hT:=(B8 I1 aK).1;obtain⟨aH,rv,pl,hz⟩:=I1.list ((Fv hd).seq hl);have hTl:({ s with heap:=KO,toks:=s.toks}:ay).TypeIs (.ref l) "list":=by
  obtain⟨o,n,h1,h2,_⟩:=pl;exact⟨o,h1,h2⟩
 refine⟨hT,F.args_dict_init_2 _ _,?_⟩;unfold Builtin.«dict.__init__»;refine aE ?_;unfold Builtin.Dict.selfAndRest;refine aE (wpAny_notOrdered_dict hT ?_);show wpAny _ _ (pure (d,[Value.ref l])) _ _ _;refine aY ?_;show wpAny _ _ (Builtin.Dict.updateFrom "dict.__init__" d (.ref l) [] .none) _ _ _;unfold Builtin.Dict.updateFrom;refine aE (wpAny_typeOf hTl ?_);rw[bJ (by decide)]
 refine aE (UL (X:=X) pl (show A.in1.in1.handled=none from hh) λh' tk kp=>?_)
 have I2:Inv X aa Z (upd H d (.dG [] 0)) { s with heap:=h',toks:=tk}:=I1.kept (t':=tk) kp;obtain⟨k6,Hc,Lw,_⟩:=I2.list ((Fv hd).seq hl);show wpAny _ _ (rule _ >>= _) _ _ _;refine aE (wpAny_rule ?_);refine aE (wpAny_pyIter_list Lw.isList ?_);have I3:=I2.kept (h':=h'.push { cls:=.type "list_iterator",data:=.fields #[.ref l,.int 0 0]}) (t':=tk) (λ_ _ e=>dy _ e)
 have Rc:d<h'.objs.size:=by
  obtain⟨_,_,o,xs,g1,_⟩:=(show bH X.prog X.w _ h' d (.dG [] 0) from I2.bD d _ aK);exact cX g1
 refine aY ⟨plainId_quiet EO _,?_⟩;refine Tw (A:=A.in1) (J:=h'.objs.size) hd hl hp hh (show A.units+1+12<cLine by lia) hn (λu=>I2.kl (cv _) ?_) (λs' ep I4=>⟨rfl,q s' ep I4⟩) ps.length 0 0 _ _ rfl (k_ _) I3 ⟨_,i_ _ rfl,rfl,rfl⟩
 rw[dI (wW Rc)];have:=I2.bD.fresh (cv _)
 rwa[dI (wW Rc)] at this
def Qx(K:aL):List V->Hp->VK->Prop:=λvs H Q=>∃a ys ps,vs=[.ref a]/\dr K H a ys/\jP K H ys ps/\ps.length<1000/\∀p ep,H p=none->Q (.ref p) (upd H p (.dG (fE [] ps) ep))
def Tz(K:aL)(hu:X.A.units+41<cLine)(hc:X.calm=true:=by rfl)(hK:X.K=K:=by rfl):bW X (.type "dict") (Qx K):=by
 subst hK;intro aa s Z H xs us Q I r h;obtain⟨a,ys,ps,rfl,hl,hp,hn,q⟩:=h;obtain⟨u,rfl,ru⟩:=vals1 r;cases ru;exact SK I hl hp (I.ok.hd hc) (by lia) hn λs' ep I'=>⟨.ref s.heap.objs.size,_,I',rfl,q _ ep (I.bD.fresh (cv _))⟩
end
end L2
namespace L2
open PySem PySem.Spec PySem.W PySem.Calls PyProof.Rows
section
variable{prog:dB}{w:cI}{A:c8}{E:aj->ay->Prop}{s:ay}
def Qy{vs:List aj}(h:vs.length<2):(arrOf (SortSt.mk' general' (vs.toArray.zip vs.toArray) #[] 7 none)).map (·.2)=vs.toArray:=by
 grind
def TB{a:ah}{vs:List aj}{n:Nat}{P:Fin->ay->Prop}(ho:s.heap.get? a=some (seqObj "list" vs.toArray n))(h1:vs.length<2)
  (h:P (.done (.ret .none)) { s with heap:=sortedHeap s.heap a vs vs.toArray}):wpAny (model prog w) A (Builtin.«list.sort» ⟨[.ref a],[]⟩) P E s:=by
 rw[list_sort_plain];have ha:a<s.heap.objs.size:=cX ho;have hz:vs.length<=sizeLine:=by rw[sizeLine_eq];lia
 refine aE (listItems_at ho rfl ?_);refine aE (listUpdate_at ho rfl ?_ (by rw[fK];exact hz) (k_ _))
 obtain⟨e1,yQ⟩:∃e1,(s.heap.update a (Obj.mapSeq λ_=>#[])).get? a=some (seqObj "list" #[] e1):=⟨_,get?_update_seq ho (λ_=>#[])⟩
 refine aE (seqEpoch_at yQ rfl ?_);refine aE (wpAny_newTuple ?_ (by show vs.length<=_;exact hz))
 refine aE (wpAny_newList ?_ (k_ _));refine kK ?_;have yR:(((s.heap.update a (Obj.mapSeq λ_=>#[])).push (seqObj "tuple" vs.toArray 0)).push (seqObj "list" #[] 0)).get? a=some (seqObj "list" #[] e1):=by
  rw[EB _ _ _ (by rw[size_push',Mu];exact ie (zQ ha)),EB _ _ _ (by rw[Mu];exact ie ha)]
  exact yQ
 show wpAny (model prog w) A _ P E { s with heap:=((s.heap.update a (Obj.mapSeq λ_=>#[])).push (seqObj "tuple" vs.toArray 0)).push (seqObj "list" #[] 0)}
 dsimp only;have h2:vs.toArray.size<2:=by simpa using h1
 rw[bJ h2,bJ h2];refine aE (aY ?_);rw[StateT.run_pure];refine aE (aY ?_);dsimp only;refine aE (seqEpoch_at yR rfl ?_);refine aE (listUpdate_at yR rfl ?_ (k_ _) (by rw[Qy h1,fK];first|exact hz|exact Bg hz))
 simp only[bne_self_eq_false,ud,lr];rw[Qy h1];exact aY h
def V2{vs:List aj}{h0:b_}{Q:aj->ay->Prop}(h1:vs.length<2)(h:∀h' c,(∀b o,h0.get? b=some o->h'.get? b=some o)->h'.get? h0.objs.size=some (seqObj "list" vs.toArray c)->Q (.ref h0.objs.size) { s with heap:=h'}):
  wpAny (model prog w) A (call (.builtin "list.sort") [.ref h0.objs.size]) (λ_ s'=>Q (.ref h0.objs.size) s') E { s with heap:=h0.push (seqObj "list" vs.toArray 0)}:=by
 have ho:(h0.push (seqObj "list" vs.toArray 0)).get? h0.objs.size=some (seqObj "list" vs.toArray 0):=i_ _ rfl;refine wpAny_call_entry slot_list_sort ⟨_,ho,rfl⟩ entry_list_sort ?_ (args_list_sort _);refine TB (s:={ s with heap:=h0.push (seqObj "list" vs.toArray 0)}) ho h1 ⟨_,rfl,?_⟩;have lt:h0.objs.size<(h0.push (seqObj "list" vs.toArray 0)).objs.size:=cX ho;obtain⟨e1,yQ⟩:∃e1,((h0.push (seqObj "list" vs.toArray 0)).update h0.objs.size (Obj.mapSeq λ_=>#[])).get? h0.objs.size=some (seqObj "list" #[] e1):=⟨_,get?_update_seq ho (λ_=>#[])⟩
 have yR:((((h0.push (seqObj "list" vs.toArray 0)).update h0.objs.size (Obj.mapSeq λ_=>#[])).push (seqObj "tuple" vs.toArray 0)).push (seqObj "list" #[] 0)).get? h0.objs.size=some (seqObj "list" #[] e1):=dy _ (dy _ yQ)
 have ho7:=get?_update_seq yR (λ_=>vs.toArray)
 refine h _ _ (λb o e=>?_) ho7
 have nb:b≠h0.objs.size:=ie (cX e);unfold sortedHeap;rw[Hr _ _ _ _ nb];refine dy _ (dy _ ?_);rw[Hr _ _ _ _ nb];exact dy _ e
def UM{P:List aj->Prop}{r:ah}{Q:aj->ay->Prop}(h1:∀vs,P vs->vs.length<2)(hc:∀R:List aj->ay->Prop,(∀vs h' tk,P vs->(∀b o,s.heap.get? b=some o->h'.get? b=some o)->R vs { s with heap:=h',toks:=tk})->wpAny (model prog w) A.in1 (collect (.ref r)) R E s)
  (h:∀vs (h0:b_) (tk:Nat),P vs->(∀b o,s.heap.get? b=some o->h0.get? b=some o)->∀h' c,(∀b o,h0.get? b=some o->h'.get? b=some o)->h'.get? h0.objs.size=some (seqObj "list" vs.toArray c)->Q (.ref h0.objs.size) { s with heap:=h',toks:=tk}):wpAny (model prog w) A (call (.builtin "sorted") [.ref r]) Q E s:=by
 refine Calls.call_function_entry kind_sorted plain_sorted entry_sorted (args_sorted1 _) ?_;unfold Builtin.«sorted»;refine aE (m:=checkCount "sorted" 1 1 _) (aY ?_);refine aE (hc _ λvs h' tk hP kp=>?_)
 have hl:=h1 vs hP;refine aE (wpAny_newList ?_ (by rw[sizeLine_eq];lia))
 refine aE (kK (wpAny_mono (V2 (s:={ s with heap:=h',toks:=tk}) (h0:=h') (vs:=vs) (Q:=λv s'=>Q v s') hl λh2 c Dr hg=>h vs h' tk hP kp h2 c Dr hg) (λ_ s' x=>?_) λ_ _ e=>e))
 exact aY ⟨_,rfl,x⟩
end
section
variable{X:Cx}{K:fU}
theorem IK:∀{ys:List V} {us:List aj},ys.length=us.length->(∀(j:Nat) (y:V) (u:aj),ys[j]?=some y->us[j]?=some u->RelV y u)->Vals ys us
 |[],[],_,_=>.nil
 |[],_::_,h,_=>by simp at h
 |_::_,[],h,_=>by simp at h
 |y::ys,u::us,h,r=>.cons (r 0 y u rfl rfl) (IK (by simpa using h) λj y' u' e1 e2=>r (j+1) y' u' (by simpa using e1) (by simpa using e2))
def Qz(K:fU):List V->Hp->VK->Prop:=λxs H Q=>∃a ys,xs=[.ref a]/\(dr K H a ys\/∃es ep,H a=some (.dG es ep)/\fV es/\ys=es.map (·.2.1))/\ys.length<2/\∀l,H l=none->Q (.ref l) (upd H l (.lst ys))
def S8(hc:X.calm=true):bW X (.builtin "sorted") (Qz X.K):=by
 intro aa s Z H xs us Q I r h;obtain⟨a,ys,rfl,hq,hl,q⟩:=h;obtain⟨u,rfl,ru⟩:=Vals.one r;cases ru;refine UM (P:=Vals ys) (λvs rv=>by have:=rv.length;lia) ?_ λvs h0 tk rv kp h' c Dr hg=>?_
 .intro R hR;rcases hq with hq|⟨es,ep,hd,ht,rfl⟩
  .obtain⟨aH,rv,pl,hz⟩:=I.list hq;refine collect_list pl.isList (hR aH _ s.toks rv λb o e=>?_) (by have:=rv.length;rw[sizeLine_eq];lia)
   have nb:b≠s.heap.objs.size:=ie (cX e);rw[Hr _ _ _ _ nb];exact dy _ e
  .obtain⟨kvs,D1,D2,D3,D4,lo⟩:=tM I hd ht;have l1:kvs.length=es.length:=by have:=congrArg List.length D3;simpa using this
   refine kdu_collect (kdl_dict (knd:=strKind X.prog X.w) (kvs:=kvs) (ep:=ep) lo) (I.ok.hd hc) D1 D4 λh' tk aU kp hi=>hR _ h' tk ?_ kp
   refine IK (by have:=hi.1;rw[bq,<-l1,<-this];simp) λj y u e1 e2=>?_
   rw[fL] at e1;obtain⟨e,e3,rfl⟩:=dH.mp e1;obtain⟨z,z1,z2⟩:=ht e (tf e3);obtain⟨k,v,k1,k2⟩:=hi.2 j u (by rw[<-w9];exact e2)
   have k3:(kvs.map (λp=>TK.inr p.1))[j]?=(es.map (·.1))[j]?:=by rw[D3]
   rw[fL,fL,k1,e3] at k3;have k4:TK.inr k=e.1:=Option.some.inj k3;rw[z1] at k4;cases k4;rw[z2];exact Value.isStrOf_shape k2
 .have e:=rv.length;have I0:Inv X aa Z H { s with heap:=h0,toks:=tk}:=I.kept kp;have I1:=I0.laid (h':=h') (t':=tk) (o:=.lst ys) Dr (cv _) (show bH X.prog X.w _ h' _ (.lst ys) from⟨by rw[sizeLine_eq];lia,vs,c,rv,hg⟩)
  exact⟨.ref h0.objs.size,_,I1,rfl,q _ (I0.bD.fresh (cv _))⟩
end
end L2
namespace L2
open PySem PySem.Spec PySem.W PyProof.Rows
variable{p:Array Nat}{i m k l:Nat}
def pw(lt:Nat->Nat->Bool)(n:Nat){α:Type}:KasT α->(α->Prop)->Prop
 |.ret a,P=>P a
 |.ask i j k,P=>i<n/\j<n/\i≠j/\pw lt n (k (lt i j)) P
section
variable{lt:Nat->Nat->Bool}{n:Nat}
theorem FV{α:Type}{P Q:α->Prop}(h:∀a,P a->Q a):∀{t:KasT α},pw lt n t P->pw lt n t Q
 |.ret a,p=>h a p
 |.ask i j k,p=>⟨p.1,p.2.1,p.2.2.1,FV h p.2.2.2⟩
theorem Am{α β:Type}{P:α->Prop}{Q:β->Prop}{f:α->KasT β}(h:∀a,P a->pw lt n (f a) Q):∀{t:KasT α},pw lt n t P->pw lt n (t.bind f) Q
 |.ret a,p=>h a p
 |.ask i j k,p=>⟨p.1,p.2.1,p.2.2.1,Am h p.2.2.2⟩
structure Ord (lt:Nat->Nat->Bool) (n:Nat):Prop where
 zM:∀i j,i<n->j<n->i≠j->lt i j=false->lt j i=true
 asy:∀i j,i<n->j<n->lt i j=true->lt j i=false
 tr:∀i j k,i<n->j<n->k<n->lt i j=true->lt j k=true->lt i k=true
structure qu (n:Nat) (p:Array Nat):Prop where
 pm:p.Perm (List.toArray (List.range n))
def qu.size(h:qu n p):p.size=n:=by have:=h.pm.size_eq;simpa using this
def qu.below(h:qu n p)(hi:i<n):p.getD i 0<n:=by
 have hs:=h.size;have e:p.getD i 0=p[i]'(by lia):=by simp[Array.getD,hs,hi]
 rw[e];have:p[i]'(by lia)∈p:=Array.getElem_mem _
 have:=h.pm.mem_iff.mp this
 simp_all
theorem qu.inj(h:qu n p){j:Nat}(hi:i<n)(hj:j<n)(e:p.getD i 0=p.getD j 0):i=j:=by
 have hs:=h.size;have nd:p.toList.Nodup:=(Array.perm_iff_toList_perm.mp h.pm).nodup_iff.mpr (by simpa using Mr)
 have ei:p.getD i 0=p.toList[i]'(by simp;lia):=by simp[Array.getD,hs,hi]
 have ej:p.getD j 0=p.toList[j]'(by simp;lia):=by simp[Array.getD,hs,hj]
 rw[ei,ej] at e;exact(Eu nd).mp e
def qw(lt:Nat->Nat->Bool)(p:Array Nat)(k:Nat):Prop:=∀i j,i<j->j<k->lt (p.getD i 0) (p.getD j 0)=true
def zY(lt:Nat->Nat->Bool)(p:Array Nat)(k:Nat):Prop:=∀i j,i<j->j<k->lt (p.getD j 0) (p.getD i 0)=true
variable(O:Ord lt n){p:Array Nat}(hp:qu n p)
include O hp
theorem V3(h1:1<=m)(hm:m<n)(h:qw lt p m)(e:lt (p.getD (m - 1) 0) (p.getD m 0)=true):qw lt p (m+1):=by
 intro i j o9 hj;by_cases z:j=m
 .subst z;by_cases z2:i=j - 1
  .rw[z2];exact e
  .exact O.tr _ _ _ (hp.below (by lia)) (hp.below (by lia)) (hp.below hm) (h i (j - 1) (by lia) (by lia)) e
 .exact h i j o9 (by lia)
theorem V4(h1:1<=m)(hm:m<n)(h:zY lt p m)(e:lt (p.getD m 0) (p.getD (m - 1) 0)=true):zY lt p (m+1):=by
 intro i j o9 hj;by_cases z:j=m
 .subst z;by_cases z2:i=j - 1
  .rw[z2];exact e
  .exact O.tr _ _ _ (hp.below hm) (hp.below (by lia)) (hp.below (by lia)) e (h i (j - 1) (by lia) (by lia))
 .exact h i j o9 (by lia)
theorem Jw:∀f m,1<=m->m+f<=n->qw lt p m->pw lt n (kas_asc p f m) λr=>m<=r/\r<=m+f/\qw lt p r/\(r<m+f->lt (p.getD r 0) (p.getD (r - 1) 0)=true)
 |0,m,_,_,h=>⟨cv _,cv _,h,λz=>cR z (jV _)⟩
 |f+1,m,h1,hm,h=>by
  refine⟨hp.below (by lia),hp.below (by lia),λz=>by have:=hp.inj (by lia) (by lia) z;lia,?_⟩
  cases e:lt (p.getD m 0) (p.getD (m - 1) 0) with
  |true=>exact⟨cv _,by lia,h,λ_=>e⟩
  |false=>
   have:=O.zM _ _ (hp.below (by lia)) (hp.below (by lia)) (λz=>by have:=hp.inj (by lia) (by lia) z;lia) e
   exact FV (λr hr=>⟨by lia,by lia,hr.2.2.1,λz=>hr.2.2.2 (by lia)⟩) (Jw f (m+1) (by lia) (by lia) (V3 O hp h1 (by lia) h this))
theorem PF:∀f m,1<=m->m+f<=n->zY lt p m->pw lt n (kas_desc f p m 0) λr=>r.1=p/\r.2.2=0/\m<=r.2.1/\r.2.1<=m+f/\zY lt p r.2.1
 |0,m,_,_,h=>⟨rfl,rfl,cv _,cv _,h⟩
 |f+1,m,h1,hm,h=>by
  refine⟨hp.below (by lia),hp.below (by lia),λz=>by have:=hp.inj (by lia) (by lia) z;lia,?_⟩
  cases e:lt (p.getD m 0) (p.getD (m - 1) 0) with
  |true=>exact FV (λr hr=>⟨hr.1,hr.2.1,by lia,by lia,hr.2.2.2.2⟩) (PF f (m+1) (by lia) (by lia) (V4 O hp h1 (by lia) h e))
  |false=>
   have:=O.zM _ _ (hp.below (by lia)) (hp.below (by lia)) (λz=>by have:=hp.inj (by lia) (by lia) z;lia) e
   refine⟨hp.below (by lia),hp.below (by lia),λz=>by have:=hp.inj (by lia) (by lia) z;lia,?_⟩
   rw[this];exact⟨rfl,rfl,cv _,Ho _ _,h⟩
omit O in
theorem QA(hm:m<=n)(i:Nat):(kas_rev p 0 m).getD i 0=if i<m then p.getD (m - 1 - i) 0 else p.getD i 0:=by
 have hs:=hp.size;have:=getElem?_mirror_all (xs:=p) (i:=0) (j:=m) (by lia) i
 have g:∀(q:Array Nat) (j:Nat),q.getD j 0=(q[j]?).getD 0:=λq j=>by
  simp_all
 unfold kas_rev;rw[g,this];simp only[k_,true_and,Nat.zero_add];split
 .rw[g]
 .rw[g]
omit O in
theorem PH(m:Nat):qu n (kas_rev p 0 m):=⟨(mirror_perm _ _ _ _).trans hp.pm⟩
theorem Yf(hm:m<=n)(h:zY lt p m):qw lt (kas_rev p 0 m) m:=by
 intro i j o9 hj;rw[QA hp hm,QA hp hm,bJ (by lia),bJ hj]
 exact h _ _ (by lia) (by lia)
theorem IL(hk:k<n)(hs:qw lt p k):∀f l r,l<=r->r<=k->r - l<=f->(∀i,i<l->lt (p.getD i 0) (p.getD k 0)=true)->(∀i,r<=i->i<k->lt (p.getD k 0) (p.getD i 0)=true)->
  pw lt n (kas_place p k f l r) λx=>x<=k/\(∀i,i<x->lt (p.getD i 0) (p.getD k 0)=true)/\∀i,x<=i->i<k->lt (p.getD k 0) (p.getD i 0)=true
 |0,l,r,h1,h2,h3,a,b=>⟨by lia,a,λi hi hk=>b i (by lia) hk⟩
 |f+1,l,r,h1,h2,h3,a,b=>by
  unfold kas_place;split
  .exact⟨by lia,a,λi hi hk=>b i (by lia) hk⟩
  .refine⟨hp.below hk,hp.below (by lia),λz=>by have:=hp.inj hk (by lia) z;lia,?_⟩
   have hm:(l+r) / 2<k:=by lia
   cases e:lt (p.getD k 0) (p.getD ((l+r) / 2) 0) with
   |true=>
    refine IL hk hs f l _ (by lia) (by lia) (by lia) a λi hi hik=>?_
    by_cases z:i=(l+r) / 2
    .rw[z];exact e
    .exact O.tr _ _ _ (hp.below hk) (hp.below (by lia)) (hp.below (by lia)) e (hs _ _ (by lia) hik)
   |false=>
    have e2:=O.zM _ _ (hp.below hk) (hp.below (by lia)) (λz=>by have:=hp.inj hk (by lia) z;lia) e
    refine IL hk hs f _ r (by lia) (by lia) (by lia) (λi hi=>?_) b
    by_cases z:i=(l+r) / 2
    .rw[z];exact e2
    .exact O.tr _ _ _ (hp.below (by lia)) (hp.below (by lia)) (hp.below hk) (hs _ _ (by lia) (by lia)) e2
omit O in
theorem QB(hk:k<n)(hl:l<=k)(i:Nat):(bubble p k (k - l)).getD i 0=if i=l then p.getD k 0 else if l<i/\i<=k then p.getD (i - 1) 0 else p.getD i 0:=by
 have hs:=hp.size;have:=getElem?_bubble (xs:=p) (src:=k) (by lia) (k - l) (by lia) i
 have g:∀(q:Array Nat) (j:Nat),q.getD j 0=(q[j]?).getD 0:=λq j=>by
  simp_all
 rw[g,this,show k - (k - l)=l by lia]
 split
 .rw[g]
 .split
  .rw[g]
  .rw[g]
theorem Yg(hk:k<n)(hl:l<=k)(hs:qw lt p k)(a:∀i,i<l->lt (p.getD i 0) (p.getD k 0)=true)(b:∀i,l<=i->i<k->lt (p.getD k 0) (p.getD i 0)=true):qw lt (bubble p k (k - l)) (k+1):=by
 intro i j o9 hj;rw[QB hp hk hl,QB hp hk hl];by_cases j1:j=l
 .rw[bJ j1,br (show ¬i=l by lia),br (show ¬(l<i/\i<=k) by lia)]
  exact a i (by lia)
 .rw[br j1];by_cases i1:i=l
  .grind
  .rw[br i1];by_cases j2:l<j
   .rw[bJ (show l<j/\j<=k by lia)]
    by_cases i2:l<i
    .rw[bJ (show l<i/\i<=k by lia)];exact hs _ _ (by lia) (by lia)
    .rw[br (show ¬(l<i/\i<=k) by lia)]
     by_cases z:i=j - 1
     .lia
     .exact hs _ _ (by lia) (by lia)
   .rw[br (show ¬(l<j/\j<=k) by lia),br (show ¬(l<i/\i<=k) by lia)]
    exact hs _ _ o9 (by lia)
omit hp in
theorem QC:∀f p k,qu n p->k+f=n->qw lt p k->pw lt n (kas_bin f p k) λq=>qu n q/\qw lt q n
 |0,p,k,hp,e,h=>by subst e;exact⟨hp,h⟩
 |f+1,p,k,hp,e,h=>by
  refine Am (λl hl=>?_) (IL O hp (by lia) h k 0 k (k_ _) (cv _) (by lia) (λi hi=>by lia) λi hi hk=>by lia)
  exact QC f _ (k+1) ⟨(bubble_perm _ _ _).trans hp.pm⟩ (by lia) (Yg O hp (by lia) hl.1 h hl.2.1 hl.2.2)
theorem V5(h1:1<=n):pw lt n (kas_count n p) λr=>1<=r.1/\r.1<=n/\qu n r.2/\qw lt r.2 r.1:=by
 refine Am (λm hm=>?_) (Jw O hp (n - 1) 1 (cv _) (by lia) λi j o9 hj=>by lia)
 obtain⟨m1,m2,m3,m4⟩:=hm;by_cases e:m=n
 .rw[bJ (by simpa using e)]
  exact⟨m1,by show m<=n;lia,hp,m3⟩
 .rw[br (by simpa using e)]
  by_cases g:m > 1
  .rw[bJ g];refine⟨hp.below (by lia),hp.below (by lia),λz=>by have:=hp.inj (by lia) (by lia) z;lia,?_⟩
   rw[m3 0 (m - 1) (by lia) (by lia)]
   exact⟨m1,by show m<=n;lia,hp,m3⟩
  .rw[br g];have em:m=1:=by lia
   subst em;have d2:zY lt p 2:=λi j o9 hj=>by
    have:i=0/\j=1:=by lia
    rw[this.1,this.2];exact m4 (by lia)
   refine Am (λr hr=>?_) (PF O hp (n - (1+1)) (1+1) (by lia) (by lia) d2)
   obtain⟨r1,r2,r3,r4,r5⟩:=hr;rw[br (by rw[r2];exact jV 0),r1]
   refine Am (λx hx=>?_) (Jw O (PH hp r.2.1) (n - r.2.1) r.2.1 (by lia) (by lia) (Yf O hp (by lia) r5))
   exact⟨by show 1<=x;lia,by show x<=n;lia,PH hp _,hx.2.2.1⟩
omit hp in
theorem PK(h1:1<=n):pw lt n (kas_sort n) λq=>qu n q/\qw lt q n:=by
 refine Am (λr hr=>?_) (V5 O ⟨Array.Perm.refl _⟩ h1)
 obtain⟨r1,r2,r3,r4⟩:=hr;have e:max r.1 1=r.1:=by lia
 rw[e];split
 .exact QC O (n - r.1) r.2 r.1 r3 (by lia) r4
 .have:r.1=n:=by lia
  rw[this] at r4;exact⟨r3,r4⟩
end
variable{ks:List (Int×Int)}
def A4(lt:Nat->Nat->Bool){α:Type}:KasT α->α
 |.ret a=>a
 |.ask i j k=>A4 lt (k (lt i j))
theorem Gb{lt:Nat->Nat->Bool}{n:Nat}{α:Type}{P:α->Prop}:∀{t:KasT α},pw lt n t P->P (A4 lt t)/\pw lt n t λa=>a=A4 lt t
 |.ret _,p=>⟨p,rfl⟩
 |.ask _ _ _,p=>⟨(Gb p.2.2.2).1,p.1,p.2.1,p.2.2.1,(Gb p.2.2.2).2⟩
theorem QD{lt:Nat->Nat->Bool}{n:Nat}{α:Type}{cmp:Nat->Nat->(Bool->ay->Prop)->ay->Prop}{Q:α->ay->Prop}{s:ay}(hc:∀i j C,i<n->j<n->i≠j->C (lt i j) s->cmp i j C s):∀{t:KasT α},pw lt n t (λa=>Q a s)->t.kasWp cmp Q s
 |.ret _,p=>p
 |.ask i j k,p=>hc i j _ p.1 p.2.1 p.2.2.1 (QD hc p.2.2.2)
def G7(x y:Int×Int):Bool:=decide (x.1<y.1\/(x.1=y.1/\x.2<y.2))
def ltAt(ks:List (Int×Int))(i j:Nat):Bool:=G7 (ks.getD i (0,0)) (ks.getD j (0,0))
def QE(nd:ks.Nodup):Ord (ltAt ks) ks.length:=by
 refine⟨λi j hi hj hn h=>?_,λi j _ _ h=>?_,λi j k _ _ _ h1 h2=>?_⟩
 all_goals grind [List.getElem_inj,ltAt,G7]
def dP(ks:List (Int×Int)):List Nat:=(A4 (ltAt ks) (kas_sort ks.length)).toList
def fD(h:b_)(vs:List aj)(ks:List (Int×Int)):Prop:=vs.length=ks.length/\∀i,i<ks.length->∃x o a b t t' z m,vs.getD i Value.none=.ref x/\h.get? x=some o/\o.cls=.type "tuple"/\o.data=.seq #[.int a t,.int b t',z] m/\ks.getD i (0,0)=(a,b)
def fD.keep{h h':b_}{vs:List aj}(T:fD h vs ks)(k:∀b o,h.get? b=some o->h'.get? b=some o):fD h' vs ks:=⟨T.1,λi hi=>by
 obtain⟨x,o,a,b,t,t',z,m,h1,h2,r⟩:=T.2 i hi;exact⟨x,o,a,b,t,t',z,m,h1,k _ _ h2,r⟩⟩
section
variable{prog:dB}{w:cI}{A:c8}{E:aj->ay->Prop}{s:ay}{vs:List aj}{ks:List (Int×Int)}
def Yh(T:fD s.heap vs ks)(nd:ks.Nodup)(i j:Nat)(C:Bool->ay->Prop)(hi:i<ks.length)(hj:j<ks.length)(ij:i≠j)(h:C (ltAt ks i j) s):kas_ask prog w A (tuples' true) vs i j C s:=by
 obtain⟨x,o,a,b,t,t',z,m,x1,x2,x3,x4,x5⟩:=T.2 i hi;obtain⟨y,p,c,d,u,u',z',m',y1,y2,y3,y4,y5⟩:=T.2 j hj;have hl:ltAt ks i j=decide (a<c\/(a=c/\b<d)):=by unfold ltAt G7;rw[x5,y5]
 rw[hl] at h;unfold kas_ask;rw[x1,y1];refine kat_lt x2 x4 y2 y4 ?_;show KatLex prog w A true _ C [(.int a t,.int c u),(.int b t',.int d u'),(z,z')] 0 s;refine kat_cons (wpAny_eqBool_int (kat_go (λe=>?_) λe=>?_))
 .have e:a=c:=by simpa using e
  refine kat_yes (kat_cons (wpAny_eqBool_int (kat_go (λe2=>?_) λe2=>?_)))
  .grind [List.getElem_inj]
  .have e2:b≠d:=by simpa using e2
   refine kat_no (kat_one _ _ (wpAny_lt_int ?_));rw[show decide (a<c\/(a=c/\b<d))=decide (b<d) by simp[e]] at h
   exact h
 .have e:a≠c:=by simpa using e
  refine kat_no (oneLt_int ?_);rw[show decide (a<c\/(a=c/\b<d))=decide (a<c) by simp[e]] at h
  exact h
theorem Ol{h:b_}:∀{vs:List aj} {ks:List (Int×Int)},fD h vs ks->∃fs,KatTups h vs fs/\fs.length=vs.length/\∀v∈fs,∃a t,v=Value.int a t
 |[],_,_=>⟨[],.nil,rfl,λv m=>by cases m⟩
 |v::vs,[],T=>by have:=T.1;simp at this
 |v::vs,k::ks,T=>by
  obtain⟨fs,f1,f2,f3⟩:=Ol (h:=h) (vs:=vs) (ks:=ks) ⟨by have:=T.1;simpa using this,λi hi=>by
   obtain⟨x,o,a,b,t,t',z,m,r⟩:=T.2 (i+1) (by simpa using hi)
   exact⟨x,o,a,b,t,t',z,m,by simpa using r⟩⟩
  obtain⟨x,o,a,b,t,t',z,m,h1,h2,h3,h4,_⟩:=T.2 0 (by simp)
  have h1:v=.ref x:=by simpa using h1
  subst h1;refine⟨.int a t::fs,.cons h2 h3 h4 (by simp) f1,by simp[f2],λv m=>?_⟩
  rcases y09.mp m with rfl|m
  .exact⟨a,t,rfl⟩
  .exact f3 v m
def SU{a:ah}{n:Nat}{P:PySem.Fin->ay->Prop}(ho:s.heap.get? a=some (seqObj "list" vs.toArray n))(T:fD s.heap vs ks)(nd:ks.Nodup)(na:∀i x,i<ks.length->vs.getD i Value.none=.ref x->x≠a)(h2:2<=vs.length)(CS:vs.length<64)
  (h:P (.done (.ret .none)) { s with heap:=sortedHeap s.heap a vs (List.toArray ((dP ks).map λi=>vs.getD i Value.none))}):wpAny (model prog w) A (Builtin.«list.sort» ⟨[.ref a],[]⟩) P E s:=by
 rw[list_sort_plain];have ha:a<s.heap.objs.size:=cX ho;refine aE (listItems_at ho rfl ?_);refine aE (listUpdate_at ho rfl ?_ (by rw[fK,sizeLine_eq];lia) (k_ _))
 obtain⟨e1,yQ⟩:∃e1,(s.heap.update a (Obj.mapSeq λ_=>#[])).get? a=some (seqObj "list" #[] e1):=⟨_,get?_update_seq ho (λ_=>#[])⟩
 refine aE (seqEpoch_at yQ rfl ?_);refine aE (wpAny_newTuple ?_ (by show vs.length<=_;rw[sizeLine_eq];lia))
 refine aE (wpAny_newList ?_ (k_ _));refine kK ?_;have yR:(((s.heap.update a (Obj.mapSeq λ_=>#[])).push (seqObj "tuple" vs.toArray 0)).push (seqObj "list" #[] 0)).get? a=some (seqObj "list" #[] e1):=by
  rw[EB _ _ _ (by rw[size_push',Mu];exact ie (zQ ha)),EB _ _ _ (by rw[Mu];exact ie ha)]
  exact yQ
 have T6:fD (((s.heap.update a (Obj.mapSeq λ_=>#[])).push (seqObj "tuple" vs.toArray 0)).push (seqObj "list" #[] 0)) vs ks:=⟨T.1,λi hi=>by
  obtain⟨x,o,b,c,t,t',z,m,y1,y2,r⟩:=T.2 i hi;refine⟨x,o,b,c,t,t',z,m,y1,dy _ (dy _ ?_),r⟩;rw[Hr _ _ _ _ (na i x hi y1)];exact y2⟩
 show wpAny (model prog w) A _ P E { s with heap:=((s.heap.update a (Obj.mapSeq λ_=>#[])).push (seqObj "tuple" vs.toArray 0)).push (seqObj "list" #[] 0)}
 dsimp only;have yP:¬vs.toArray.size<2:=by rw[fK];lia
 rw[br yP,br yP];obtain⟨fs,f1,f2,f3⟩:=Ol T6;refine aE (kat_kind (T:=.type "int") f1 (by lia) (λv hv=>?_) (by decide) ?_)
 .obtain⟨b,t,rfl⟩:=f3 v hv;exact λA Q E s' _ q=>wpAny_typeOf (typeIs_int s' b t) q
 .have O:=QE nd;have pq:=PK O (show 1<=ks.length by have:=T.1;lia)
  obtain⟨⟨q1,q2⟩,q3⟩:=Gb pq;have hlen:=T.1;refine aE (wpAny_mono (kat_run (Q:=λiM s'=>s'={ s with heap:=((s.heap.update a (Obj.mapSeq λ_=>#[])).push (seqObj "tuple" vs.toArray 0)).push (seqObj "list" #[] 0)}/\arrOf iM=(A4 (ltAt ks) (kas_sort ks.length)).map (kas_item (vs.toArray.zip vs.toArray))/\failedOf iM=none) rfl h2 CS (λp' iM s' a1 a2 a3 a4=>⟨a4.2,by rw[<-a4.1];exact a2,a3⟩) (G:=λp s'=>p=A4 (ltAt ks) (kas_sort ks.length)/\s'=_) ?_) ?_ λ_ _ e=>e)
  .rw[hlen];exact QD (λi j C hi hj ij hC=>Yh T6 nd i j C hi hj ij hC) (FV (λp hp=>⟨hp,rfl⟩) q3)
  .rintro⟨⟨⟩,iM⟩ s' ⟨rfl,Kr,hf⟩;dsimp only;have KN:=kat_snds rfl Kr;rw[KN];refine aE (seqEpoch_at yR rfl ?_);refine aE (listUpdate_at yR rfl ?_ (k_ _) (by rw[fK,bq,Hk,q1.size,sizeLine_eq];lia))
   rw[hf];simp only[bne_self_eq_false,ud,lr];exact aY h
def TC{Q:aj->ay->Prop}(hl:s.heap.IsList l vs.toArray)(T:fD s.heap vs ks)(nd:ks.Nodup)(h2:2<=vs.length)(CS:vs.length<64)
  (h:Q (.ref (s.heap.objs.size+1)) { s with heap:=sortedAll s.heap vs (List.toArray ((dP ks).map λi=>vs.getD i Value.none))}):wpAny (model prog w) A (call (.builtin "sorted") [.ref l]) Q E s:=by
 refine Calls.call_function_entry kind_sorted plain_sorted entry_sorted (args_sorted1 _) ?_;unfold Builtin.«sorted»;refine aE (m:=checkCount "sorted" 1 1 _) (aY ?_);refine aE (collect_list hl ?_ (by rw[sizeLine_eq];lia))
 refine aE (wpAny_newList ?_ (by rw[sizeLine_eq];lia))
 have hsz:((s.heap.push (seqObj "list" #[] 0)).update s.heap.objs.size (Obj.mapSeq (·++vs.toArray))).objs.size=s.heap.objs.size+1:=by
  simp_all
 have iK:(((s.heap.push (seqObj "list" #[] 0)).update s.heap.objs.size (Obj.mapSeq (·++vs.toArray))).push (seqObj "list" vs.toArray 0)).get? (s.heap.objs.size+1)=some (seqObj "list" vs.toArray 0):=by
  rw[<-hsz];exact i_ _ rfl
 have keep:∀b o,s.heap.get? b=some o->(((s.heap.push (seqObj "list" #[] 0)).update s.heap.objs.size (Obj.mapSeq (·++vs.toArray))).push (seqObj "list" vs.toArray 0)).get? b=some o:=λb o q=>by
  have mh:b<s.heap.objs.size:=cX q;rw[EB _ _ _ (by rw[hsz];exact ie (zQ mh)),Hr _ _ _ _ (ie mh),EB _ _ _ (ie mh)]
  exact q
 show wpAny _ _ _ _ _ { s with heap:=((s.heap.push (seqObj "list" #[] 0)).update s.heap.objs.size (Obj.mapSeq (·++vs.toArray))).push (seqObj "list" vs.toArray 0)}
 rw[hsz];refine aE (kK (wpAny_call_entry slot_list_sort ⟨_,iK,rfl⟩ entry_list_sort (SU iK (T.keep keep) nd (λi x hi e=>?_) h2 CS ⟨_,rfl,?_⟩) (args_list_sort _)))
 .obtain⟨y,o,_,_,_,_,_,_,y1,y2,_⟩:=T.2 i hi;rw[y1] at e;cases e;exact ie (zQ (cX y2))
 .exact aY ⟨_,rfl,h⟩
end
section
variable{X:Cx}{K:aL}{H:Hp}
def vB(K:aL)(H:Hp)(ys:List V)(ks:List (Int×Int)):Prop:=ys.length=ks.length/\∀i,i<ks.length->∃p z,ys[i]?=some (.ref p)/\iI K H p [.int (ks.getD i (0,0)).1,.int (ks.getD i (0,0)).2,z]
def QF(K:aL):List V->Hp->VK->Prop:=λvs H Q=>∃a ys ks,vs=[.ref a]/\dr K H a ys/\vB K H ys ks/\ks.Nodup/\2<=ks.length/\ks.length<64/\∀l,H l=none->Q (.ref l) (upd H l (.lst ((dP ks).map λi=>ys.getD i .aI)))
theorem NY{ys:List V}{us:List aj}(r:Vals ys us):∀{is:List Nat},(∀i∈is,i<ys.length)->Vals (is.map λi=>ys.getD i .aI) (is.map λi=>us.getD i Value.none)
 |[],_=>.nil
 |i::is,h=>by
  have hi:=h i (.head _);obtain⟨u,e,ru⟩:=r.get (g7 hi);have e1:ys.getD i .aI=ys[i]:=by simp[hi]
  have e2:us.getD i Value.none=u:=by rw[zW,e];rfl
  refine .cons ?_ (NY r λj m=>h j (.tail _ m))
  lia
theorem BU(nd:ks.Nodup)(h:1<=ks.length):(dP ks).Perm (List.range ks.length)/\(dP ks).Pairwise λi j=>ltAt ks i j=true:=by
 obtain⟨⟨q1,q2⟩,_⟩:=Gb (PK (QE nd) h);refine⟨by unfold dP;have:=Array.perm_iff_toList_perm.mp q1.pm;simpa using this,?_⟩
 rw[List.pairwise_iff_getElem];intro i j hi hj o9;have hs:=q1.size;have:=q2 i j o9 (by unfold dP at hj;simp at hj;lia)
 unfold dP at hi hj ⊢;simp only[Hk] at hi hj;simpa[Array.getD,hi,hj] using this
def TF(K:aL)(hK:X.K=K:=by rfl):bW X (.builtin "sorted") (QF K):=by
 subst hK;intro aa s Z H xs us Q I r h;obtain⟨a,ys,ks,rfl,hl,T,nd,h2,CS,q⟩:=h;obtain⟨u,rfl,ru⟩:=vals1 r;cases ru;obtain⟨aH,rv,pl,hz⟩:=I.list hl;have hlen:=rv.length;have C5:=T.1;have T':fD s.heap aH ks:=⟨by lia,λi hi=>by
  obtain⟨p,z,y1,y2⟩:=T.2 i hi;obtain⟨u,e,ru⟩:=rv.get y1;obtain rfl:u=Value.ref p:=ru;obtain⟨it2,Hc,⟨o,g1,g2,n,g3⟩,_⟩:=I.tuple y2;cases Hc with
  |cons r1 t=>
   cases t with
   |cons r2 t=>
    cases t with
    |cons r3 t=>
     cases t;obtain⟨t1,rfl⟩:=r1;obtain⟨t2,rfl⟩:=r2;exact⟨p,o,_,_,t1,t2,_,n,by rw[zW,e];rfl,g1,g2,g3,rfl⟩⟩
 refine TC pl.isList T' nd (by lia) (by lia) ?_
 obtain⟨c,hc⟩:=sortedAll_at s.heap aH (List.toArray ((dP ks).map λi=>aH.getD i Value.none))
 obtain⟨s1,_⟩:=BU nd (by lia)
 have hm:∀i∈dP ks,i<ys.length:=λi m=>by have:=s1.mem_iff.mp m;rw[qp] at this;lia
 have I3:=I.laid (h':=sortedAll s.heap aH (List.toArray ((dP ks).map λi=>aH.getD i Value.none))) (t':=s.toks) (o:=.lst ((dP ks).map λi=>ys.getD i .aI)) (λb o g=>sortedAll_old g) (qG _) (show bH X.prog X.w _ _ _ (.lst _) from⟨by rw[bq,s1.length_eq,w_,sizeLine_eq];lia,_,c,NY rv hm,hc⟩)
 exact⟨.ref (s.heap.objs.size+1),_,I3,rfl,q _ (I.bD.fresh (qG _))⟩
end
end L2
set_option autoImplicit false
namespace L2
open PySem PySem.Spec PySem.W PySem.Calls PyProof.Rows
variable{tg:Expr}
def MG(a:ah)(es:List (TK×V×V))(ep:Nat):It:=
 ⟨λi H=>H a=some (.dG es ep)/\fV es/\i<es.length,λi H x H'=>H'=H/\∃e,es[i]?=some e/\e.2.2=x,λi H=>H a=some (.dG es ep)/\fV es/\es.length<=i⟩
def UN{P:dB}{w:cI}{K:fU}(a it:ah)(es:List (TK×V×V))(ep:Nat):Turn P w K tg (MG a es ep) [it] it (λi h=>h.IsValIter it a i es.length ep) where
 mem:=by simp
 obj:=λi h st b hb=>by
  have e:b=it:=by simpa using hb
  subst e;obtain⟨o,e,c,d⟩:=st
  simp_all
 keep:=λi h h' st k=>st.at λo e=>k it (by simp) o e
 item:=by
  intro X hP hw hK hc i aa s Z H E I hf st hg;subst hP hw hK;obtain⟨hd,ht,hi⟩:=hg;obtain⟨f0,f1,f2,f3,f4,f5⟩:=hf it (by simp)
  obtain⟨kvs,D1,D2,D3,D4,lo⟩:=tM I hd ht;have l1:kvs.length=es.length:=by have:=congrArg List.length D3;simpa using this
  obtain⟨p,hp⟩:∃p,kvs[i]?=some p:=⟨kvs[i]'(by lia),g7 _⟩
  obtain⟨u,u1,u2⟩:=D2.get (i:=i) (x:=es[i].2.2) (by rw[fL,g7 hi];rfl)
  rw[fL,hp] at u1;cases u1;have iM:s.heap.IsValIter it a i kvs.length ep:=by rw[l1];exact st
  refine wpAny_pyNext_values_item iM D1 (k:=p.1) (v:=p.2) hp λh' nY sb=>?_
  rw[l1] at nY;have I1:Inv X aa Z H { s with heap:=h'}:=I.turned (t':=s.toks) (λb o hb e=>(sb.2 b hb).trans e) f0 f1 f3 f4 f5
  obtain⟨o,e,c,d⟩:=id nY;exact⟨p.2,rfl,vP (s:={ s with heap:=h'}) e c d (by decide) ⟨es[i].2.2,H,I1,u2,⟨rfl,_,g7 hi,rfl⟩,nY,λb hb=>(hf b hb).1⟩⟩
 done:=by
  intro X hP hw hK hc i aa s Z H E I hf st hg;subst hP hw hK;obtain⟨hd,ht,hi⟩:=hg;obtain⟨f0,f1,f2,f3,f4,f5⟩:=hf it (by simp)
  obtain⟨kvs,D1,D2,D3,D4,lo⟩:=tM I hd ht;have l1:kvs.length=es.length:=by have:=congrArg List.length D3;simpa using this
  have iM:s.heap.IsValIter it a i kvs.length ep:=by rw[l1];exact st
  exact wpAny_pyNext_values_end (I.ok.hd hc) iM D1 (xg (by lia)) λh' eb=>⟨rfl,I.turned (t':=s.toks) (λb o hb e=>eb b o hb e) f0 f1 f3 f4 f5⟩
 self:=λ_ _ _ _ _ st h=>wpAny_pyIter_valiter st h
def v9(to:TE):TI:=λZ H R=>to Z H λx H1=>∃d es ep,x=.ref d/\H1 d=some (.dG es ep)/\fV es/\R (MG d es ep) H1
def Yi{X:Cx}{o:Expr}{apos bV:Pos}{to:TE}(ho:PE X o to)(cK:attributeBase o "values" X.env (eval o X.env)=eval o X.env)(cL:(apos.endLine == bV.line)=true):
  PI X tg (.Call (.Attribute o "values" apos) [] [] bV) (v9 to):=by
 intro aa s Z H R I h;refine wpAny_Call_method0_late cK cL (bP (ho aa s Z H _ I h) λv s1 hh=>?_)
 obtain⟨x,H1,I1,r1,d,es,ep,rfl,hd,ht,q⟩:=hh;cases r1;obtain⟨t1,t2⟩:=B8 I1 hd;obtain⟨kvs,D1,D2,D3,D4,lo⟩:=tM I1 hd ht;have l1:kvs.length=es.length:=by have:=congrArg List.length D3;simpa using this
 refine⟨"dict","dict.values",PySem.F.plainAttrs_dict,PySem.F.slot_dict_values,PySem.F.type_dict_values,t1,t2,Calls.callWith_builtin rfl (PySem.evalArgs_none ?_)⟩;refine call_meetsIn PySem.F.slot_dict_values t1 PySem.F.entry_dict_values (PySem.F.args_dict_values_1 _) (meets_dict_values (PySem.strKind X.prog X.w) d lo) ⟨⟨kvs,D1.dictOf⟩,?_⟩;refine wpAny_pyIter_values (knd:=PySem.strKind X.prog X.w) (v:=s1.heap.objs.size) (d:=d) (kvs:=kvs) (ep:=ep) ⟨_,i_ _ rfl,rfl,rfl⟩ (D1.push _) ?_;have sz:(s1.heap.push { cls:=.type "dict_values",data:=.fields #[.ref d]}).objs.size=s1.heap.objs.size+1:=by simp[Heap.push]
 have hg:=i_ (s1.heap.push { cls:=.type "dict_values",data:=.fields #[.ref d]}) (o:={ cls:=.type "dict_valueiterator",data:=.fields #[.ref d,.int 0 0,.int kvs.length 0,.int ep 0]}) rfl;rw[l1] at hg ⊢;refine⟨(s1.heap.push { cls:=.type "dict_values",data:=.fields #[.ref d]}).objs.size,[(s1.heap.push { cls:=.type "dict_values",data:=.fields #[.ref d]}).objs.size],_,_,H1,rfl,I1.kept (t':=s1.toks) λb o e=>dy _ (dy _ e),UN d _ es ep,⟨_,hg,rfl,rfl⟩,λb hb=>?_,q⟩
 cases lL.mp hb;have l_:s1.heap.objs.size<=(s1.heap.push { cls:=.type "dict_values",data:=.fields #[.ref d]}).objs.size:=by rw[sz];exact qG _
 exact I1.kl l_ (I1.bD.fresh l_)
def dX(kvs:List (TK×D)):Bool:=kvs.all λp=>wc p.1
def Ei:D->ai (List D)
 |.aA kvs=>if dX kvs=true then some (kvs.map (·.2)) else none
 |_=>none
def uR:D->ai (List D)
 |.aA kvs=>if dX kvs=true then some ((List.range kvs.length).map λi=>.tup (((kvs[i]?).map λp=>[p.1.d,p.2]).getD [])) else none
 |_=>none
section
variable{K:fU}{W:XW}{q:Nat}{g:GE}{fz:Bool}{Z:St}{H:Hp}{R:It->Hp->Prop}{k:Kn}{es:List (TK×V×V)}{kvs:List (TK×D)}
def Gq(h1:es.map (·.1)=kvs.map (·.1))(h2:ag K k (es.map (·.2.1)) (kvs.map (·.1.d)))(h:dX kvs=true):fV es:=Qs h1 (by rw[dh];exact h2) (by rw[xa];exact h)
def Yj(t:tX (RI K q) K W q (ba fz Ei g) Z H R):v9 (tE K W q g) Z H R:=by
 rcases BN t with h|⟨d,ds,n,e,h⟩
 .exact h _
 .cases d with
  |aA kvs=>
   unfold Ei at e;dsimp only at e;split at e
   .rename_i ht
    cases e;refine h _ λk1 H1 x le hd j=>?_
    obtain⟨a,es,ep,rfl,q2,q3,q4,q1⟩:=hd;have tx:=Gq q2 q3 ht;refine⟨a,es,ep,rfl,jk.now (x:=.aI) q1 le,tx,j _ (.old (by rw[<-q4.length,bq]) (λi H s c hi=>⟨q1 H s c,tx,hi⟩) (λi H s c hi=>⟨q1 H s c,tx,hi⟩) λi H x H' d s c y hd=>?_)⟩
    obtain⟨rfl,e,h1,rfl⟩:=y;obtain⟨v,h3,h4⟩:=q4.get hd
    simp_all
   .cases e
  |_=>cases e
def Yk(t:tX (RI K q) K W q (ba fz uR g) Z H R):Qt (tE K W q g) Z H R:=by
 rcases BN t with h|⟨d,ds,n,e,h⟩
 .exact h _
 .cases d with
  |aA kvs=>
   unfold uR at e;dsimp only at e;split at e
   .rename_i ht
    cases e;refine h _ λk1 H1 x le hd j=>?_
    obtain⟨a,es,ep,rfl,q2,q3,q4,q1⟩:=hd;have tx:=Gq q2 q3 ht;refine⟨a,es,ep,rfl,jk.now (x:=.aI) q1 le,tx,j _ ?_⟩;have hl:kvs.length=es.length:=by have:=q4.length;rw[bq,bq] at this;exact this.symm
    rw[hl];refine .DB (λH s c=>⟨q1 H s c,tx⟩) λi us hi hv=>?_
    obtain⟨e,h1,rfl⟩:=hv;have C2:i<kvs.length:=by lia
    obtain⟨v,h3,h4⟩:=q4.get (i:=i) (d:=kvs[i].2) (by rw[fL,g7 C2];rfl)
    obtain⟨v',h5,h6⟩:=q3.get (i:=i) (d:=kvs[i].1.d) (by rw[fL,g7 C2];rfl)
    rw[fL,h1] at h3 h5;cases h3;cases h5;rw[g7 C2];exact .cons h6 h4
   .cases e
  |_=>cases e
end
end L2
namespace L2
open PySem PySem.Spec PyProof.Rows
section
variable{X:Cx}{K:aL}{k:Kn}{H:Hp}{x:V}{d:D}
def Top.txt{kvs:List (TK×D)}(t:Top K k H x (.aA kvs))(le:aB k.F H)(h:dX kvs=true):∃p es ep,x=.ref p/\H p=some (.dG es ep)/\fV es/\es.map (·.1)=kvs.map (·.1)/\ag K k (es.map (·.2.1)) (kvs.map (·.1.d))/\ag K k (es.map (·.2.2)) (kvs.map (·.2)):=by
 obtain⟨p,es,ep,rfl,h1,h2,h3,h4⟩:=t.aA le;exact⟨p,es,ep,rfl,h1,Gq h2 h3 h,h2,h3,h4⟩
def DM(K:aL):List V->Hp->VK->Prop:=λxs H Q=>(∃p ys,xs=[.ref p]/\(dr K H p ys\/iI K H p ys)/\Q (.int ys.length) H)\/(∃z,xs=[.str z]/\z.length<=sizeLine/\Q (.int z.length) H)\/∃p es ep,xs=[.ref p]/\H p=some (.dG es ep)/\fV es/\Q (.int es.length) H
def UO(hK:X.K=K):bW X (.builtin "len") (DM K):=(SR K hK).or (l5.or (by
 intro aa s Z H xs us Q I r h;obtain⟨p,es,ep,rfl,hp,ht,q⟩:=h;obtain⟨u,rfl,ru⟩:=vals1 r;cases ru;obtain⟨kvs,D1,D2,D3,D4,lo⟩:=tM I hp ht;have l1:kvs.length=es.length:=by have:=congrArg List.length D3;simpa using this
 refine call_len_dict lo D1.dictOf (by rw[sizeLine_eq] at D4;lia) ?_
 rw[l1];exact⟨.int es.length,H,I.tok _,⟨_,rfl⟩,q⟩))
def fJ:D->ai Rv
 |.lst ds=>some (rd (.int ds.length))
 |.tup ds=>some (rd (.int ds.length))
 |.str z=>if z.length<=1000000 then some (rd (.int z.length)) else none
 |.aA kvs=>if dX kvs=true then some (rd (.int kvs.length)) else none
 |_=>none
def e4a:cg K (DM K) (o1 fJ):=sM λk H x a y Q le t e res=>by
 unfold fJ at e;split at e
 .cases e;obtain⟨p,ws,rfl,q,r⟩:=t.lst le;exact .inl ⟨p,ws,rfl,.inl q,by rw[r.length];exact res.flat le rfl⟩
 .cases e;obtain⟨p,ws,rfl,q,r⟩:=t.tup le;exact .inl ⟨p,ws,rfl,.inr q,by rw[r.length];exact res.flat le rfl⟩
 .split at e
  .cases e;cases t.flat rfl;exact .inr (.inl ⟨_,rfl,ml (by assumption),res.flat le rfl⟩)
  .cases e
 .split at e
  .cases e;obtain⟨p,es,ep,rfl,h1,h2,h3,h4,h5⟩:=t.txt le (by assumption)
   refine .inr (.inr ⟨p,es,ep,rfl,h1,h2,?_⟩);have:=h5.length;rw[bq,bq] at this;rw[this];exact res.flat le rfl
  .cases e
 .cases e
def sF:D->ai String
 |.aI=>some "NoneType"
 |.bl _=>some "bool"
 |.int _=>some "int"
 |.str _=>some "str"
 |.lst _=>some "list"
 |.tup _=>some "tuple"
 |_=>none
def Om{n:String}(le:aB k.F H)(t:Top K k H x d)(e:sF d=some n):Cj K H x n:=by
 cases d with
 |lst _=>cases e;obtain⟨p,ws,rfl,q,r⟩:=t.lst le;exact .inl ⟨rfl,_,q⟩
 |tup _=>cases e;obtain⟨p,ws,rfl,q,r⟩:=t.tup le;exact .inr ⟨rfl,_,q⟩
 |_=>cases e <;> cases t.flat rfl <;> rfl
def DJ(K:aL):List V->Hp->VK->Prop:=λxs H Q=>(∃x k T,xs=[x,.ty T]/\Cj K H x k/\(T="int"\/T="str"\/T="bool"\/T="list"\/T="tuple")/\Q (.bl (qk k T)) H)\/wD K xs H Q
def UP(hK:X.K=K):bW X (.builtin "isinstance") (DJ K):=(Um K hK).or (UH K hK)
def yX:List D->Bool
 |[.ty a,.ty b]=>decide (a="tuple"/\b="list")
 |_=>false
def Yl{ds:List D}(h:yX ds=true):ds=[.ty "tuple",.ty "list"]:=by
 unfold yX at h;split at h
 .obtain⟨rfl,rfl⟩:=tD h;rfl
 .cases h
def cM(a t:D):ai Rv:=match t with
 |.ty T=>if T="int"\/T="str"\/T="bool"\/T="list"\/T="tuple" then(sF a).map λk=>rd (.bl (qk k T)) else none
 |.tup ds=>if yX ds=true then(sF a).map λk=>rd (.bl (L4 k)) else none
 |_=>none
def e4b:cg K (DJ K) (o2 cM):=u0 λk H x z a b y Q le t1 t2 e res=>by
 unfold cM at e;split at e
 .split at e
  .obtain⟨n,h,rfl⟩:=dH.mp e;cases t2.flat rfl;exact .inl ⟨x,n,_,rfl,Om le t1 h,by assumption,res.flat le rfl⟩
  .cases e
 .split at e
  .rename_i ht
   cases Yl ht;obtain⟨n,h,rfl⟩:=dH.mp e;obtain⟨p,ws,rfl,q,r⟩:=t2.tup le;obtain⟨w1,us,rfl,r1,r2⟩:=r.cB;obtain⟨w2,us,rfl,r3,r4⟩:=r2.cB;cases r4.fT;cases r1.aP rfl;cases r3.aP rfl;exact .inr ⟨x,n,p,rfl,Om le t1 h,q,res.flat le rfl⟩
  .cases e
 .cases e
noncomputable def pb:D->ai Rv
 |.int i=>some (rd (.int i))
 |.bl b=>some (rd (.int (if b then 1 else 0)))
 |_=>none
def Ym:cg K (λxs H Q=>(∃i,xs=[.int i]/\Q (.int i) H)\/∃k,xs=[.bl k]/\Q (.int (if k then 1 else 0)) H) (o1 pb):=sM λk H x a y Q le t e res=>by
 unfold pb at e;split at e
 .cases e;cases t.flat rfl;exact .inl ⟨_,rfl,res.flat le rfl⟩
 .cases e;cases t.flat rfl;exact .inr ⟨_,rfl,res.flat le rfl⟩
 .cases e
def wG(K:aL):List V->Hp->VK->Prop:=λxs H Q=>(∃p ys,xs=[.ref p]/\(dr K H p ys\/iI K H p ys)/\∀l,H l=none->Q (.ref l) (upd H l (.lst ys)))\/Sn K xs H Q
def TH(hc:X.calm=true)(hK:X.K=K):bW X (.type "list") (wG K):=(SS K hK).or (hK ▸ Tu hc)
noncomputable def kz:D->ai Rv
 |.lst ds=>some (.o (.lst ds))
 |.tup ds=>some (.o (.lst ds))
 |.aA kvs=>some (.o (.lst (kvs.map (·.1.d))))
 |_=>none
def Yn:cg K (wG K) (o1 kz):=sM λk H x a y Q le t e res=>by
 unfold kz at e;split at e
 .cases e;obtain⟨p,ws,rfl,q,r⟩:=t.lst le;exact .inl ⟨p,ws,rfl,.inl q,λl hl=>res.lst le r hl⟩
 .cases e;obtain⟨p,ws,rfl,q,r⟩:=t.tup le;exact .inl ⟨p,ws,rfl,.inr q,λl hl=>res.lst le r hl⟩
 .cases e;obtain⟨p,es,ep,rfl,h1,h2,h3,h4⟩:=t.aA le;exact .inr ⟨p,es,ep,rfl,h1,λl hl=>res.lst le h3 hl⟩
 .cases e
def pG:D->ai Rv
 |.aA kvs=>if dX kvs=true then some (.o (.lst (kvs.map (·.2)))) else none
 |_=>none
def Yo:cg K (λxs H Q=>∃d es ep,xs=[.ref d]/\H d=some (.dG es ep)/\fV es/\∀q,H q=none->Q (.ref q) (upd H q (.lst (es.map (·.2.2))))) (o1 pG):=sM λk H x a y Q le t e res=>by
 unfold pG at e;split at e
 .split at e
  .cases e;obtain⟨p,es,ep,rfl,h1,h2,h3,h4,h5⟩:=t.txt le (by assumption)
   exact⟨p,es,ep,rfl,h1,h2,λl hl=>res.lst le h5 hl⟩
  .cases e
 .cases e
noncomputable def Av(q:List Bool->Bool):D->ai Rv
 |.lst ds=>(iB ds).map λbs=>rd (.bl (q bs))
 |_=>none
def V6(q:List Bool->Bool):cg K (λxs H Q=>∃a bs,xs=[.ref a]/\dr K H a (bs.map V.bl)/\Q (.bl (q bs)) H) (o1 (Av q)):=sM λk H x a y Q le t e res=>by
 unfold Av at e;split at e
 .obtain⟨bs,h,rfl⟩:=dH.mp e;obtain⟨p,ws,rfl,s,r⟩:=t.lst le;rw[Nq h] at r;cases b2i r;exact⟨p,bs,rfl,s,res.flat le rfl⟩
 .cases e
noncomputable def oY(f:List Int->Int):D->ai Rv
 |.lst ds=>(kx ds).bind λis=>if is=[] then none else some (rd (.int (f is)))
 |_=>none
def Yp(f:List Int->Int):cg K (λxs H Q=>∃a is,xs=[.ref a]/\dr K H a (is.map V.int)/\is≠[]/\Q (.int (f is)) H) (o1 (oY f)):=sM λk H x a y Q le t e res=>by
 unfold oY at e;split at e
 .obtain⟨is,h,e⟩:=cG.mp e;split at e
  .cases e
  .cases e;obtain⟨p,ws,rfl,s,r⟩:=t.lst le;rw[NW h] at r;cases Na r;exact⟨p,is,rfl,s,by assumption,res.flat le rfl⟩
 .cases e
def iD:D->ai Int
 |.int i=>some i
 |_=>none
def JX{v:D}{i:Int}(h:iD v=some i):v=.int i:=by cases v <;> cases h;rfl
def ql:List D->ai (Int×Int)
 |[a,b,_]=>(iD a).bind λi=>(iD b).map λj=>(i,j)
 |_=>none
def Dq:D->ai (Int×Int)
 |.tup l=>ql l
 |_=>none
def ky:List D->ai (List (Int×Int))
 |[]=>some []
 |d::ds=>(Dq d).bind λk=>(ky ds).map λks=>k::ks
theorem Oo:∀{ds:List D} {ks:List (Int×Int)} {ws:List V},ky ds=some ks->ag K k ws ds->aB k.F H->vB K H ws ks
 |[],ks,ws,e,r,le=>by cases e;exact⟨by rw[r.length];rfl,λi hi=>nomatch hi⟩
 |d::ds,ks,ws,e,r,le=>by
  obtain⟨w,us,rfl,r1,r2⟩:=r.cB;obtain⟨k0,e0,e⟩:=cG.mp (show(Dq d).bind _=_ from e);obtain⟨wg,e1,rfl⟩:=dH.mp e;cases d with
  |tup l=>
   have e0:ql l=some k0:=e0;unfold ql at e0;split at e0
   case h_2=>cases e0
   obtain⟨a,z1,e0⟩:=cG.mp e0;obtain⟨b,z2,rfl⟩:=dH.mp e0;cases JX z1;cases JX z2;obtain⟨l1,l2⟩:=Oo e1 r2 le;obtain⟨p,ws,rfl,q,r3⟩:=r1.isTup;obtain⟨w1,us1,rfl,t1,r3⟩:=r3.cB;obtain⟨w2,us2,rfl,t2,r3⟩:=r3.cB;obtain⟨w3,us3,rfl,t3,r3⟩:=r3.cB;cases r3.fT;cases t1.aP rfl;cases t2.aP rfl;refine⟨congrArg (·+1) l1,λi hi=>?_⟩
   cases i with
   |zero=>exact⟨p,w3,rfl,le.zI q⟩
   |succ i=>exact l2 i (Nat.lt_of_succ_lt_succ hi)
  |_=>cases e0
def wK(K:aL):List V->Hp->VK->Prop:=λvs H Q=>Qz K vs H Q\/QF K vs H Q
def TL(hc:X.calm=true)(hK:X.K=K):bW X (.builtin "sorted") (wK K):=(hK ▸ S8 hc).or (TF K hK)
def lG(ds:List D)(is:List Nat):List D:=is.map λi=>ds.getD i .aI
def pD:D->ai Rv
 |.lst ds=>if ds.length<2 then some (.o (.lst ds)) else(ky ds).bind λks=>if ks.Nodup/\ks.length<64 then some (.o (.lst (lG ds (dP ks)))) else none
 |.aA kvs=>if(dX kvs&&Nat.blt kvs.length 2)=true then some (.o (.lst (kvs.map (·.1.d)))) else none
 |_=>none
theorem Oq{ws:List V}{ds:List D}(r:ag K k ws ds):∀{is:List Nat},(∀i∈is,i<ds.length)->ag K k (is.map λi=>ws.getD i .aI) (lG ds is)
 |[],_=>.nil
 |i::is,h=>by
  have hi:=h i (.head _);obtain⟨v,h1,h2⟩:=r.get (i:=i) (d:=ds[i]) (g7 hi);unfold lG;rw[cZ,cZ,show ws.getD i .aI=v by rw[zW,h1];rfl,show ds.getD i .aI=ds[i] by rw[zW,g7 hi];rfl]
  exact .cons h2 (Oq r λj m=>h j (.tail _ m))
def Yq:cg K (wK K) (o1 pD):=sM λk H x a y Q le t e res=>by
 unfold pD at e;split at e
 .obtain⟨p,ws,rfl,s,r⟩:=t.lst le;split at e
  .cases e;exact .inl ⟨p,ws,rfl,.inl s,by rw[r.length];assumption,λl hl=>res.lst le r hl⟩
  .rename_i h2
   obtain⟨ks,h,e⟩:=cG.mp e;split at e
   .rename_i hk
    cases e;have T:=Oo h r le;have l1:ks.length=ws.length:=T.1.symm;have l2:=r.length;refine .inr ⟨p,ws,ks,rfl,s,T,hk.1,by lia,hk.2,λl hl=>res.lst le (Oq r λi m=>?_) hl⟩
    grind [BU]
   .cases e
 .split at e
  .rename_i hh
   obtain⟨h1,h2⟩:=Bc.mp hh;cases e;obtain⟨p,es,ep,rfl,h3,h4,h5,h6,h7⟩:=t.txt le h1;have:=h6.length;have l2:_<2:=gK (zU h2) (cv _);exact .inl ⟨p,_,rfl,.inr ⟨es,ep,h3,h4,rfl⟩,by rw[this,bq];exact l2,λl hl=>res.lst le h6 hl⟩
  .cases e
 .cases e
def bS{α:Type}:List (TK×α)->TK->α->List (TK×α)
 |[],k,v=>[(k,v)]
 |(j,w)::r,k,v=>if j=k then(j,v)::r else(j,w)::bS r k v
def iF:List D->ai (List (TK×D))
 |[]=>some []
 |.tup [a,b]::ds=>(jL a).bind λj=>(iF ds).map λps=>(j,b)::ps
 |_=>none
noncomputable def o4:D->ai Rv
 |.lst ds=>(iF ds).bind λps=>if ps.length<1000 then some (.o (.aA (ps.foldl (λkvs p=>bS kvs p.1 p.2) []))) else none
 |_=>none
theorem Jm{j:TK}{y v:V}{e:D}(ry:ag K k [y] [j.d])(rv:ag K k [v] [e]):∀{ws:List (TK×V×V)} {kvs:List (TK×D)},ws.map (·.1)=kvs.map (·.1)->ag K k (ws.map (·.2.1)) (kvs.map (·.1.d))->ag K k (ws.map (·.2.2)) (kvs.map (·.2))->
  (dW ws j y v).map (·.1)=(bS kvs j e).map (·.1)/\ag K k ((dW ws j y v).map (·.2.1)) ((bS kvs j e).map (·.1.d))/\ag K k ((dW ws j y v).map (·.2.2)) ((bS kvs j e).map (·.2))
 |[],[],_,_,_=>⟨rfl,ry,rv⟩
 |w::ws,p::kvs,h,r1,r2=>by
  obtain⟨h1,h2⟩:=List.cons.inj (show w.1::ws.map (·.1)=p.1::kvs.map (·.1) from h)
  obtain⟨a1,a2⟩:=ag.inv r1;obtain⟨b1,b2⟩:=ag.inv r2;unfold dW bS;by_cases q:p.1=j
  .rw[bJ (h1.trans q),bJ q];exact⟨congr (congrArg List.cons h1) h2,.cons a1 a2,.cons rv b2⟩
  .rw[br (λz=>q (h1.symm.trans z)),br q]
   obtain⟨c1,c2,c3⟩:=Jm ry rv h2 a2 b2;exact⟨congr (congrArg List.cons h1) c1,.cons a1 c2,.cons b1 c3⟩
 |[],_::_,h,_,_=>nomatch h
 |_::_,[],h,_,_=>nomatch h
def rm(K:aL)(k:Kn)(q:TK×V×V)(p:TK×D):Prop:=q.1=p.1/\ag K k [q.2.1] [q.1.d]/\ag K k [q.2.2] [p.2]
theorem Ot:∀{ds:List D} {ps:List (TK×D)} {ws:List V},iF ds=some ps->ag K k ws ds->aB k.F H->∃qs:List (TK×V×V),jP K H ws qs/\Paired (rm K k) qs ps
 |[],ps,ws,e,r,le=>by cases e;cases r.fT;exact⟨[],⟨rfl,λi p h=>nomatch h⟩,.nil⟩
 |d::ds,ps,ws,e,r,le=>by
  obtain⟨a,b,rfl,e⟩:∃a b,d=.tup [a,b]/\((jL a).bind λj=>(iF ds).map ((j,b)::·))=some ps:=by
   cases d with
   |tup l=>
    rcases l with _|⟨a,_|⟨b,_|_⟩⟩
    case cons.cons.nil=>exact⟨a,b,rfl,e⟩
    all_goals cases e
   |_=>cases e
  .obtain⟨j,q1,e⟩:=cG.mp e;obtain⟨ps',q2,rfl⟩:=dH.mp e;obtain⟨w,us,rfl,r1,r2⟩:=r.cB;obtain⟨p,ws,rfl,sq,ri⟩:=r1.isTup;obtain⟨y,us1,rfl,t1,ri⟩:=ri.cB;obtain⟨v,us2,rfl,t2,ri⟩:=ri.cB;cases ri.fT;obtain⟨qs,h1,h3⟩:=Ot q2 r2 le;have rk:ag K k [y] [j.d]:=by rw[(Al q1).1];exact t1
   refine⟨(j,y,v)::qs,⟨congrArg (·+1) h1.len,λi p h=>?_⟩,.cons ⟨rfl,rk,t2⟩ h3⟩
   cases i with
   |zero=>cases h;exact⟨_,rfl,le.zI sq,sC (k:=k.all H) j (rk.all le),(Al q1).2⟩
   |succ i=>exact h1.item i p h
def PL{qs:List (TK×V×V)}{ps:List (TK×D)}(p:Paired (rm K k) qs ps):∀{ws:List (TK×V×V)} {kvs:List (TK×D)},ws.map (·.1)=kvs.map (·.1)->ag K k (ws.map (·.2.1)) (kvs.map (·.1.d))->ag K k (ws.map (·.2.2)) (kvs.map (·.2))->
  (fE ws qs).map (·.1)=(ps.foldl (λkvs p=>bS kvs p.1 p.2) kvs).map (·.1)/\ag K k ((fE ws qs).map (·.2.1)) ((ps.foldl (λkvs p=>bS kvs p.1 p.2) kvs).map (·.1.d))/\ag K k ((fE ws qs).map (·.2.2)) ((ps.foldl (λkvs p=>bS kvs p.1 p.2) kvs).map (·.2)):=by
 induction p with
 |nil=>exact λa b c=>⟨a,b,c⟩
 |@cons q p qs ps h _ ih=>
  intro ws kvs a b c;obtain⟨h1,h2,h3⟩:=h;obtain⟨j1,j2,j3⟩:=Jm h2 h3 a b c;rw[h1] at j1 j2 j3;have:=ih (ws:=dW ws p.1 q.2.1 q.2.2) (kvs:=bS kvs p.1 p.2) j1 j2 j3;rw[show fE ws (q::qs)=fE (dW ws p.1 q.2.1 q.2.2) qs by unfold fE;rw[Mv,h1],Mv]
  exact this
def V7:cg K (Qx K) (o1 o4):=sM λk H x a y Q le t e res=>by
 unfold o4 at e;split at e
 .obtain⟨ps,q1,e⟩:=cG.mp e;split at e
  .rename_i hn
   cases e;obtain⟨p,ws,rfl,s,r⟩:=t.lst le;obtain⟨qs,g1,g3⟩:=Ot q1 r le;obtain⟨o1,o2,o3⟩:=PL g3 (ws:=[]) (kvs:=[]) rfl .nil .nil;exact⟨p,ws,qs,rfl,s,g1,by rw[Paired.length g3];exact hn,λl ep hl=>res.aA le o1 o2 o3 hl⟩
  .cases e
 .cases e
noncomputable def R9:D->ai String
 |.str _=>some "str"
 |.lst _=>some "list"
 |.aA _=>some "dict"
 |_=>none
def e4c{T:String}(le:aB k.F H)(t:Top K k H x d)(e:R9 d=some T):Ed K T x H:=by
 cases d with
 |str _=>cases e;cases t.flat rfl;rfl
 |lst _=>cases e;obtain⟨p,ws,rfl,q,r⟩:=t.lst le;exact .inl ⟨rfl,_,q⟩
 |aA _=>cases e;obtain⟨p,es,ep,rfl,h1,h2⟩:=t.aA le;exact .inr (.inr (.inl ⟨rfl,.inr (.inr ⟨es,ep,h1⟩)⟩))
 |_=>cases e
def Gd(T:String)(o:List D->ai Rv)(f:GE)(g:GA):GE:=λU S=>bd (f U S) λr S1=>if(jC S1 (mI r)).bind R9=some T then bd (g U S1) λvs S2=>(ve S2 (mI r::vs)).bind λds=>(o ds).map λy=>.ok y S2 else none
def V8{W:XW}{q:Nat}{T:String}{o:List D->ai Rv}{r:V->List V->Hp->VK->Prop}{f:GE}{g:GA}{Z:St}{Q:VK}(bD:cg K (pB r) o)(t:tE K W q (Gd T o f g) Z H Q):LQ K T r (tE K W q f) (ic K W q g) Z H Q:=by
 obtain⟨k,U,S,res,ok,gk,e,w⟩:=t;refine tX.bd ok gk e w λr S1 x k1 H1 bM g1 r1 e1 w1 _=>?_
 obtain⟨k2,u2,cV,r2⟩:=qB bM r1;split at e1
 .rename_i hT
  obtain⟨d,h1,h2⟩:=cG.mp hT;refine⟨e4c cV.le (F7 cV r2 h1) h2,tX.bd cV (g1.up (u2 q)) e1 (w1.up (u2 q)) λvs S3 xs k3 H3 jM g3 r3 e3 w3 u3=>?_⟩
  obtain⟨ds,e4,e5⟩:=cG.mp e3;obtain⟨y,e6,rfl⟩:=dH.mp e5;obtain⟨x',xs',z,rr⟩:=bD k3 H3 (x::xs) ds y Q jM.le (Pe jM (.cons (r2.up u3) r3) e4) e6 (.fin jM w3)
  lia
 .cases e1
def jq:D->D->ai Rv
 |.lst ds,.str z=>(dY ds).bind λys=>(findS ys z).map λj=>rd (.int (j:Nat))
 |_,_=>none
def V9:cg K (pB (Qv K)) (o2 jq):=u0 λk H x z a b y Q le t1 t2 e res=>by
 unfold jq at e;split at e
 .obtain⟨ys,e1,e2⟩:=cG.mp e;obtain⟨j,e3,rfl⟩:=dH.mp e2;obtain⟨p,ws,rfl,s,r⟩:=t1.lst le;rw[Fj e1] at r;cases HW r;cases t2.flat rfl;obtain⟨s1,s2⟩:=Ac e3;exact⟨_,_,rfl,p,ys,_,j,rfl,rfl,s,s1,s2,res.flat le rfl⟩
 .cases e
noncomputable def o6:D->D->ai Rv
 |.aA kvs,i=>(jL i).map λj=>rd ((aO kvs j).getD .aI)
 |_,_=>none
def Yr:cg K (pB (wC K)) (o2 o6):=u0 λk H x z a b y Q le t1 t2 e res=>by
 unfold o6 at e;split at e
 .obtain⟨j,hj,rfl⟩:=dH.mp e;obtain⟨p,o,rfl,g,h⟩:=vv le t1 t2 hj;refine⟨_,_,rfl,p,_,o,rfl,rfl,g,?_⟩;rcases h with⟨rfl,h⟩|⟨v,e,rfl,h,r⟩
  .rw[h] at res;exact res.flat le rfl
  .rw[h] at res;exact res.rep le r
 .cases e
end
variable{k:Kn}{ws:List V}{ds:List D}{v:V}
noncomputable def Cell.box:Cell->ai Bx
 |.o b=>some b
 |_=>none
noncomputable def gq(S:aT):Val->ai Bx
 |.c n=>(S.s[n]?).bind Cell.box
 |.d (.ref n)=>(S.r[n]?).bind Cell.box
 |_=>none
noncomputable def setB(S:aT)(b:Bx):Val->aT
 |.c n=>⟨S.s.set n (.o b),S.r⟩
 |.d (.ref n)=>⟨S.s,S.r.set n (.o b)⟩
 |_=>S
noncomputable def Bx.mb(q:Nat):Bx->Bool
 |.lst _=>Nat.ble q 1
 |.aA _=>q == 0
noncomputable def Bx.ty:Bx->String
 |.lst _=>"list"
 |.aA _=>"dict"
section
variable{K:aL}{k:Kn}{H:Hp}{S:aT}{x:V}{v:Val}{b:Bx}{a:ah}
def QG{c:Cell}(h:c.box=some b):c=.o b:=by
 cases c <;> cases h;rfl
def QH{q:Nat}(h:eA K k H a b)(m:b.mb q=true):∀o,H a=some o->uU q o=false:=by
 intro o e;cases b with
 |lst xs=>
  obtain⟨ws,e1,_⟩:=h;rw[e] at e1;cases e1;have:=zU m
  match q,this with
  |0,_=>rfl
  |1,_=>rfl
 |aA kvs=>cases(beq_iff_eq.mp m);rfl
def B9(ok:cx K k H S)(r:dz K k x v)(e:gq S v=some b):∃a,x=.ref a/\eA K k H a b/\∀q b' H',lA H H' a->b.mb q=true->eA K k H' a b'->cx K k H' (setB S b' v)/\Up q k H k H':=by
 cases v with
 |c n=>
  obtain⟨a,rfl,h1⟩:=r;obtain⟨c,h2,h3⟩:=cG.mp e;cases QG h3;obtain⟨h4,h5⟩:=ok.s.at' n a _ h1 h2;exact⟨a,rfl,h5,λq b' H' o m h=>ok.LL h1 o h4 (QH h5 m) (c:=.o b') ⟨h4,h⟩⟩
 |d y=>
  cases y with
  |ref n=>
   obtain⟨a,rfl,h1⟩:=ag.isRef r;obtain⟨c,h2,h3⟩:=cG.mp e;cases QG h3;obtain⟨h4,h5⟩:=ok.r.at' n a _ h1 h2;exact⟨a,rfl,h5,λq b' H' o m h=>ok.DT h1 o h4 (QH h5 m) (c:=.o b') ⟨h4,h⟩⟩
  |_=>cases e
def e9c{T:String}(h:eA K k H a b)(e:b.ty=T):Ed K T (.ref a) H:=by
 cases b with
 |lst xs=>obtain⟨ws,h1,_⟩:=h;exact .inl ⟨e.symm,ws,.inl (.inl h1)⟩
 |aA kvs=>obtain⟨es,ep,h1,_⟩:=h;exact .inr (.inr (.inl ⟨e.symm,.inr (.inr ⟨es,ep,h1⟩)⟩))
end
def jv(K:aL)(r:V->List V->Hp->VK->Prop)(m:Bx->List D->ai (Bx×D)):Prop:=∀k H a b ds b' d xs Q,aB k.F H->eA K k H a b->ag K k xs ds->m b ds=some (b',d)->(∀x o',eA K k (upd H a o') a b'->ag K k [x] [d]->Q x (upd H a o'))->r (.ref a) xs H Q
def dR(q:Nat)(T:String)(m:Bx->List D->ai (Bx×D))(f:GE)(g:GA):GE:=λU S=>bd (f U S) λr S1=>if(gq S1 (mI r)).map Bx.ty=some T then bd (g U S1) λvs S2=>(qe vs S2).bind λp=>(gq p.2 (mI r)).bind λb=>if b.mb q=true then(m b p.1).map λz=>.ok (rd z.2) (setB p.2 z.1 (mI r)) else none else none
section
variable{X:Cx}{K:aL}{W:XW}{q:Nat}{T:String}{m:Bx->List D->ai (Bx×D)}{r:V->List V->Hp->VK->Prop}{f:GE}{g:GA}{Z:St}{H:Hp}{Q:VK}
def QI(hm:jv K r m)(t:tE K W q (dR q T m f g) Z H Q):LQ K T r (tE K W q f) (ic K W q g) Z H Q:=by
 obtain⟨k,U,S,res,ok,gk,e,w⟩:=t;refine tX.bd ok gk e w λr S1 x k1 H1 bM g1 r1 e1 w1 _=>?_
 obtain⟨k2,u2,cV,r2⟩:=qB bM r1;split at e1
 .rename_i hT
  obtain⟨b0,h1,h2⟩:=dH.mp hT;obtain⟨a0,ea,h3,_⟩:=B9 cV r2 h1;refine⟨ea ▸ e9c h3 h2,tX.bd cV (g1.up (u2 q)) e1 (w1.up (u2 q)) λvs S3 xs k3 H3 jM g3 r3 e3 w3 u3=>?_⟩
  obtain⟨⟨ds,S4⟩,e4,e5⟩:=cG.mp e3;obtain⟨k4,u4,qm,r4⟩:=FQ jM r3 e4;obtain⟨b,e6,e7⟩:=cG.mp e5;obtain⟨a,rfl,h4,h5⟩:=B9 qm ((r2.up u3).up (u4 q)) e6;split at e7
  .rename_i hb
   obtain⟨⟨b',d⟩,e8,rfl⟩:=dH.mp e7;refine hm k4 H3 a b ds b' d xs Q qm.le h4 r4 e8 λy o' h6 h7=>?_
   obtain⟨mq,u5⟩:=h5 q b' _ BS hb h6;exact(w3.up (u4 q)) y k4 _ u5 mq h7
  .cases e7
 .cases e1
def Ys(hm:jv K r m)(t:tE K W q (dR q T m f gN) Z H Q):D0 K T r (tE K W q f) Z H Q:=nO (QI hm t) λx H1 h=>⟨h.1,vK h.2⟩
noncomputable def qA:Bx->List D->ai (Bx×D)
 |.lst xs,[d]=>if xs.length<1000000 then some (.lst (xs++[d]),.aI) else none
 |_,_=>none
def vd:ag K k [.aI] [.aI]:=.flat rfl .nil
def FW{xs:List V}{d:D}(h:ag K k xs [d]):∃x,xs=[x]/\ag K k [x] [d]:=by
 obtain⟨x,us,rfl,h1,h2⟩:=h.cB;cases h2.fT;exact⟨x,rfl,h1⟩
def UQ:jv K Pb qA:=by
 intro k H a b ds b' d xs Q le hb r e h;unfold qA at e;split at e
 .split at e
  .rename_i hl
   cases e;obtain⟨ws,h1,h2⟩:=hb;obtain⟨y,rfl,r1⟩:=FW r;exact⟨a,ws,y,rfl,rfl,h1,gK (by rw[h2.length];exact hl) (by decide),h .aI _ ⟨_,aK,h2.append r1⟩ vd⟩
  .cases e
 .cases e
noncomputable def B_:Bx->List D->ai (Bx×D)
 |.lst xs,[.int i,d]=>if 0<=i/\i<2^62/\xs.length<1000000 then some (.lst (xs.take i.toNat++d::xs.drop i.toNat),.aI) else none
 |_,_=>none
def UR:jv K Pc B_:=by
 intro k H a b ds b' d xs Q le hb r e h;unfold B_ at e;split at e
 .split at e
  .rename_i hl
   cases e;obtain⟨ws,h1,h2⟩:=hb;obtain⟨y,us,rfl,r1,r2⟩:=r.cB;obtain⟨z,rfl,r3⟩:=FW r2;cases r1.aP rfl;refine⟨a,ws,_,z,rfl,rfl,h1,hl.1,hl.2.1,gK (by rw[h2.length];exact hl.2.2) (by decide),h .aI _ ⟨_,aK,?_⟩ vd⟩
   have:∀(n:Nat) (l:List V),qh l n z=l.take n++z::l.drop n:=λn l=>by unfold qh;rfl
   rw[this];exact(h2.take _).append (.cons r3 (h2.drop _))
  .cases e
 .cases e
noncomputable def Ge:Bx->List D->ai (Bx×D)
 |.lst _,[]=>some (.lst [],.aI)
 |_,_=>none
def V_:jv K Ql Ge:=by
 intro k H a b ds b' d xs Q le hb r e h;unfold Ge at e;split at e
 .cases e;obtain⟨ws,h1,h2⟩:=hb;cases r.fT;exact⟨a,ws,rfl,rfl,h1,h .aI _ ⟨[],aK,.nil⟩ vd⟩
 .cases e
noncomputable def FX:Bx->List D->ai (Bx×D)
 |.lst xs,[.str z]=>(dY xs).bind λys=>(findS ys z).map λj=>(.lst (xs.eraseIdx j),.aI)
 |_,_=>none
def US(h:ag K k ws ds)(j:Nat):ag K k (ws.eraseIdx j) (ds.eraseIdx j):=by
 rw[List.eraseIdx_eq_take_drop_succ,List.eraseIdx_eq_take_drop_succ];exact(h.take _).append (h.drop _)
def UT:jv K PC FX:=by
 intro k H a b ds b' d xs Q le hb r e h;unfold FX at e;split at e
 .obtain⟨ys,e1,e2⟩:=cG.mp e;obtain⟨j,e3,e4⟩:=dH.mp e2;cases e4;obtain⟨ws,h1,h2⟩:=hb;obtain⟨y,rfl,r1⟩:=FW r;cases r1.aP rfl;obtain⟨s1,s2⟩:=Ac e3;have h3:=US h2 j;rw[Fj e1] at h2;cases HW h2;exact⟨a,ys,_,j,rfl,rfl,h1,s1,s2,h .aI _ ⟨_,aK,by rw[<-Fl];exact h3⟩ vd⟩
 .cases e
def dc{α:Type}(kvs:List (TK×α))(z:Str):List (TK×α):=kvs.filter λe=>i7 z e.1
def iu:Bx->List D->ai (Bx×D)
 |.aA kvs,[.str z]=>if dX kvs=true then(aO kvs (.inr z)).map λd=>(.aA (dc kvs z),d) else none
 |_,_=>none
theorem Ou(z:Str):∀{ws:List (TK×V×V)} {kvs:List (TK×D)},ws.map (·.1)=kvs.map (·.1)->ag K k (ws.map (·.2.1)) (kvs.map (·.1.d))->ag K k (ws.map (·.2.2)) (kvs.map (·.2))->
  (dc ws z).map (·.1)=(dc kvs z).map (·.1)/\ag K k ((dc ws z).map (·.2.1)) ((dc kvs z).map (·.1.d))/\ag K k ((dc ws z).map (·.2.2)) ((dc kvs z).map (·.2))
 |[],[],_,_,_=>⟨rfl,.nil,.nil⟩
 |w::ws,p::kvs,h,r1,r2=>by
  obtain⟨h1,h2⟩:=List.cons.inj (show w.1::ws.map (·.1)=p.1::kvs.map (·.1) from h)
  obtain⟨a1,a2⟩:=ag.inv r1;obtain⟨b1,b2⟩:=ag.inv r2;obtain⟨c1,c2,c3⟩:=Ou z h2 a2 b2;unfold dc at *;rw[A9,A9,h1];split
  .exact⟨congr (congrArg List.cons h1) c1,.cons a1 c2,.cons b1 c3⟩
  .exact⟨c1,c2,c3⟩
 |[],_::_,h,_,_=>nomatch h
 |_::_,[],h,_,_=>nomatch h
def Yt:jv K (wI K) iu:=by
 intro k H a b ds b' d xs Q le hb r e h;unfold iu at e;split at e
 .split at e
  .rename_i ht
   obtain⟨v0,e1,e2⟩:=dH.mp e;cases e2;obtain⟨es,ep,h1,h2,h3,h4⟩:=hb;obtain⟨y,rfl,r1⟩:=FW r;cases r1.aP rfl;obtain⟨f1,f2,f3⟩:=Ou (K:=K) _ h2 h3 h4;rcases Jl (k:=.inr _) h2 h4 with⟨_,z⟩|⟨v,e,z1,z2,z3⟩
   .rw[z] at e1;cases e1
   .rw[z2] at e1;cases e1;exact⟨a,es,ep,_,v,rfl,rfl,h1,Gq h2 h3 ht,z1,λnR=>h v _ ⟨_,nR,aK,f1,f2,f3⟩ z3⟩
  .cases e
 .cases e
end
def pC(K:aL):p5:=λo i v H Q=>wJ o i v H Q\/∃a H4,o=.ref a/\xD K H a i v H4/\Q H4
def Rj{X:Cx}(hu:X.A.units+41<cLine):um X (pC X.K):=by
 intro aa s Z H o i v ov iv u Q I ro ri rv h;rcases h with h|⟨a,H4,rfl,g,q⟩
 .exact VA aa s Z H o i v ov iv u Q I ro ri rv h
 .cases ro;exact UD (by lia) I g ri rv λs4 I4=>⟨H4,I4,q⟩
def vf(b:Bx)(i v:D):ai Bx:=match b with
 |.lst xs=>(intD i).bind λk=>(uT xs.length k).map λj=>.lst (xs.set j v)
 |.aA kvs=>(jL i).bind λj=>if kvs.length<1000000 then some (.aA (bS kvs j v)) else none
section
variable{X:Cx}{K:aL}{W:XW}{q:Nat}{fv fo fi:GE}{o e i:Expr}{pos pos':Pos}{Z:St}{H:Hp}
def Yu{d:D}(h:ag K k ws ds)(r:ag K k [v] [d])(j:Nat):ag K k (ws.set j v) (ds.set j d):=by
 induction ds generalizing ws j with
 |nil=>rw[h.fT];exact .nil
 |cons x ds ih=>
  obtain⟨w,us,rfl,h1,h2⟩:=h.cB;cases j with
  |zero=>exact .cons r h2
  |succ j=>exact .cons h1 (ih h2 j)
def QJ{a:ah}{b b':Bx}{di dv:D}{y:V}{Q:Hp->Prop}(le:aB k.F H)(hb:eA K k H a b)(ri:ag K k [y] [di])(rv:ag K k [v] [dv])(e:vf b di dv=some b')(h:∀o',eA K k (upd H a o') a b'->Q (upd H a o')):pC K (.ref a) y v H Q:=by
 unfold vf at e;split at e
 .obtain⟨j,h1,e⟩:=cG.mp e;obtain⟨n,h2,rfl⟩:=dH.mp e;cases FU h1;cases ri.aP rfl;obtain⟨ws,h3,h4⟩:=hb;exact .inl ⟨a,ws,j,n,rfl,rfl,h3,by rw[h4.length];exact h2,h _ ⟨_,aK,Yu h4 rv n⟩⟩
 .obtain⟨j,h1,e⟩:=cG.mp e;split at e
  .rename_i hl
   cases e;obtain⟨es,ep,h2,h3,h4,h5⟩:=hb;obtain⟨k1,k2⟩:=Al h1;have ry:ag K k [y] [j.d]:=by rw[k1];exact ri
   obtain⟨p1,p2,p3⟩:=Jm ry rv h3 h4 h5;have mf:es.length<sizeLine:=by
    have:=h5.length;rw[bq,bq] at this;rw[this];exact gK hl (by decide)
   exact .inr ⟨a,_,rfl,⟨es,ep,j,h2,Pw h3 h4 le,sC (k:=k.all H) j (ry.all le),k2,mf,rfl⟩,h _ ⟨_,_,aK,p1,p2,p3⟩⟩
  .cases e
def bO(q:Nat)(fv fo fi:GE):GS:=λU S=>kY U (m_ fv (m_ fo (m_ fi gN)) U S) λvs S1=>match vs with
 |[v,o,i]=>(qe [v,i] S1).bind λp=>(gq p.2 o).bind λb=>if b.mb q=true then(match p.1 with
  |[dv,di]=>(vf b di dv).map λb'=>.nx U (setB p.2 b' o)
  |_=>none) else none
 |_=>none
def e4e{D:Ends}(t:tS K W q (bO q fv fo fi) D Z H):tE K W q fv Z H λv H1=>tE K W q fo Z H1 λo H2=>tE K W q fi Z H2 λi H3=>pC K o i v H3 λH4=>D.nx Z H4:=by
 have t1:ic K W q (m_ fv (m_ fo (m_ fi gN))) Z H λxs H3=>∃v o i,xs=[v,o,i]/\pC K o i v H3 λH4=>D.nx Z H4:=by
  obtain⟨k,U,S,fr,ok,gk,e,w⟩:=t;refine tS.bd ok gk e w λvs S1 xs k1 H1 bM g1 r1 e1 w1=>?_
  split at e1
  .obtain⟨xv,_,rfl,rv,t⟩:=Paired.Ef r1;obtain⟨xo,_,rfl,ro,t⟩:=Paired.Ef t;obtain⟨xi,_,rfl,ri,t⟩:=Paired.Ef t;cases t;refine⟨xv,xo,xi,rfl,?_⟩;obtain⟨⟨ds,S2⟩,e2,e3⟩:=cG.mp e1;obtain⟨k2,u2,cV,r2⟩:=FQ bM (.cons rv (.cons ri .nil)) e2;obtain⟨b,e4,e5⟩:=cG.mp e3;obtain⟨a,rfl,h4,h5⟩:=B9 cV (ro.up (u2 q)) e4;split at e5
   .rename_i hb
    obtain _|⟨dv,_|⟨di,_|⟨_,_⟩⟩⟩:=ds
    .cases e5
    .cases e5
    .obtain⟨b',e6,rfl⟩:=dH.mp e5;obtain⟨s1,s2⟩:=r2.inv;refine QJ cV.le h4 s2 s1 e6 λo' h6=>?_
     obtain⟨mq,u5⟩:=h5 q b' _ BS hb h6;exact cw.now (cw.up (cw.up w1 (u2 q)) u5) mq ((g1.up (u2 q)).up u5)
    .cases e5
   .cases e5
  .cases e1
 refine nO (uv t1) λv H1 h=>nO (uv h) λo H2 h=>nO (uv h) λi H3 h=>?_
 obtain⟨v',o',i',e,h⟩:=vK h;cases e;exact h
def e4f(he:PE X e (tE K W q fv))(ho:PE X o (tE K W q fo))(hi:PE X i (tE K W q fi))(hu:X.A.units+41<cLine)(hK:X.K=K)
  (ha:∀v,assign (.Subscript o i pos') X.env v=(do
   let ov <-holding [v] (eval o X.env)
   let iv <-holding [v,ov] (eval i X.env)
   standAt pos'
   holding [v,ov,iv] (setItem ov iv v)
   release [v,ov,iv] []))
  (hs:swapsWithSole [.Subscript o i pos'] e pos.line X.env=pure false) (hw:swappedStores [.Subscript o i pos'] e X.env=pure none)
  (h1:(assignEach [.Subscript o i pos'] X.env).map (·.2)=[assign (.Subscript o i pos') X.env]):PS X (.Assign [.Subscript o i pos'] e pos) (tS K W q (bO q fv fo fi)):=by
 subst hK;exact(Z_ he (Z9 ho hi (Rj hu) ha) hs hw h1).mono λD Z H t=>e4e t
end
end L2
namespace L2
open PySem PySem.Spec PySem.W PyProof.Rows
section
variable{X:Cx}{K:fU}{W:XW}{q:Nat}{pos:Pos}{aa:List (ah×Obj)}{Z:St}
def sN:PE X (.Dict [] [] pos) e3z:=λaa s Z H Q I h=>
 wpAny_Dict_empty ⟨.ref s.heap.objs.size,_,I.laid (a:=s.heap.objs.size) (o:=.dG [] 0) (t':=s.toks) (λ_ _ q=>dy _ q) (cv _) (IJ s.heap I.big),rfl,h _ (I.bD.fresh (cv _))⟩
noncomputable def oV:GE:=λ_ S=>some (.ok (.o (.aA [])) S)
def rO:PE X (.Dict [] [] pos) (tE K W q oV):=sN.mono λZ H Q t p hp=>by
 obtain⟨k,U,S,res,ok,gk,e,w⟩:=t;cases e;exact kU.aA (.fin ok w) ok.le rfl .nil .nil hp
def oP(K:fU)(F:Hp)(e:TK×V×V):Prop:=bK K F [e.2.1] [e.1.d]/\e.1.ok 8=true
def QK(K:fU)(vj:List (TE×TE)):TE:=λZ H Q=>∀p,H p=none->F5 vj Z (upd H p (.dG [] 0)) λps H2=>(∃e0,H2 p=some (.dG [] e0))/\∃(F:Hp) (qs:List (TK×V×V)),F p=none/\aB F H2/\ps=qs.map (·.2)/\(∀e∈qs,oP K F e)/\qs.length<=15/\∀ep,Q (.ref p) (upd H2 p (.dG (fE [] qs) ep))
def V'{F:Hp}{qs:List (TK×V×V)}(h:∀e∈qs,oP K F e):∀{es:List (TK×V×V)},bK K F (es.map (·.2.1)) (es.map (·.1.d))->bK K F ((fE es qs).map (·.2.1)) ((fE es qs).map (·.1.d)):=λ{es} r=>Nr K (λp m=>(h p m).1) r
theorem NZ{A:c8}{E:aj->ay->Prop}{F H2:Hp}{p:ah}(hF:F p=none)(le:aB F H2)(hu:A.units+8<cLine){Q:Unit->ay->Prop}:∀{qs:List (TK×V×V)} {ws:List (aj×aj)} {es:List (TK×V×V)} {ep:Nat} {s:ay},VV (qs.map (·.2)) ws->(∀e∈qs,oP X.K F e)->bK X.K F (es.map (·.2.1)) (es.map (·.1.d))->es.length+qs.length<=1000->Inv X aa Z (upd H2 p (.dG es ep)) s->(∀ep s,Inv X aa Z (upd H2 p (.dG (fE es qs) ep)) s->Q () s)->
  wpAny (model X.prog X.w) A (forIn ws () λ(x:aj×aj) _=>do dictSet p x.1 x.2;pure (ForInStep.yield ())) Q E s
 |[],_,es,ep,s,v,_,_,_,I,h=>by
  rw[Ey] at v;cases v;rw[List.forIn_nil];exact aY (h ep s I)
 |e::qs,_,es,ep,s,v,hk,r,hl,I,h=>by
  rw[cZ] at v;cases v with
  |cons rv v=>
   rw[List.forIn_cons];have sm:aB F (upd H2 p (.dG es ep)):=λb o z=>by rw[dI (λy=>by rw[y,hF] at z;cases z)];exact le b o z
   have Kz:=hk e (.head _);rw[kO] at hl;refine aE (aE (Ip (by lia) I ⟨es,ep,e.1,aK,r.Hj sm,Kz.1.Hj sm,Kz.2,by rw[sizeLine_eq];lia,rfl⟩ rv.1 rv.2 λs' I'=>aY ?_))
   rw[Xa] at I';have GV:=E5 e.1 e.2.1 e.2.2 es;have e3:(fE es [e]).length=(dW es e.1 e.2.1 e.2.2).length:=rfl;exact NZ (es:=fE es [e]) hF le hu v (λe m=>hk e (.tail _ m)) (V' (qs:=[e]) (λx m=>by cases lL.mp m;exact Kz) r) (by lia) I' h
def Wa{keys:List (ai Expr)}{values:List Expr}{vj:List (TE×TE)}(h:vz X pos keys values vj)(hu:X.A.units+41<cLine)(jI:keys.all (·.isSome)=true)(hl:keys.length=values.length)(h0:keys≠[])(yI:keys.length<=15):PE X (.Dict keys values pos) (QK X.K vj):=by
 intro aa s Z H Q I q;have hn:=I.bD.fresh (cv s.heap.objs.size);have I1:=I.laid (a:=s.heap.objs.size) (o:=.dG [] 0) (h':=s.heap.push { cls:=.type "dict",data:=.dict #[]}) (t':=s.toks) (λ_ _ q=>dy _ q) (cv _) (IJ s.heap I.big)
 have lp:∀(ks:List (ai Expr)) (vs:List Expr),ks.all (·.isSome)=true->ks.length=vs.length->(pairTrees ks vs X.env pos).length=ks.length:=by
  intro ks
  induction ks with
  |nil=>intro vs _ e;cases vs with
   |nil=>rfl
   |cons _ _=>cases e
  |cons k ks ih=>
   intro vs a e;rw[tq,jU] at a;cases k with
   |none=>cases a.1
   |some k=>cases vs with
    |nil=>cases e
    |cons v vs=>exact congrArg (·+1) (ih vs a.2 (Nat.succ.inj e))
 have Lc:=lp keys values jI hl;rw[arm_eval_Dict,zip_pairTrees keys values X.env pos jI hl,dictDisplay_pairs _ (λz=>h0 (List.eq_nil_of_length_eq_zero (by rw[<-Lc,z];rfl))) (by rw[Lc];lia)]
 refine aE (wpAny_standAt (aE ?_));unfold subDict;refine aE (wpAny_alloc (aE (kK ?_)));rw[bJ (by rw[Lc];exact yI)]
 refine aE (bP (h aa _ Z _ _ I1 (q _ hn)) λws s2 hh=>?_)
 obtain⟨ps,H2,I2,rel,⟨e0,e⟩,F,qs,hF,le,ep,hk,hq,q2⟩:=hh;subst ep;refine kK (aE ?_);have eu:upd H2 s.heap.objs.size (.dG [] e0)=H2:=by
  grind [aK,dI]
 refine NZ hF le (by show X.A.units+8<cLine;lia) rel hk .nil (by rw[Ba];lia) (eu ▸ I2) λep s' I'=>?_
 exact aY (aY (aY ⟨.ref _,_,I',rfl,q2 ep⟩))
noncomputable def Jx:List D->ai (List (TK×D))
 |[]=>some []
 |a::b::ds=>(jL a).bind λj=>(Jx ds).map λps=>(j,b)::ps
 |_=>none
def nt(g:GA):GE:=λU S=>bd (g U ⟨S.s++[.o (.aA [])],S.r⟩) λvs S1=>(qe vs S1).bind λz=>if z.2.s.length=S.s.length+1 then(match z.2.s[S.s.length]? with
 |some (.o (.aA []))=>(Jx z.1).bind λps=>if ps.length<=15 then some (.ok (.o (.aA (ps.foldl (λkvs p=>bS kvs p.1 p.2) []))) ⟨z.2.s.take S.s.length,z.2.r⟩) else none
 |_=>none) else none
def xX:List (GE×GE)->GA
 |[]=>gN
 |p::r=>m_ p.1 (m_ p.2 (xX r))
noncomputable def rT:List (V×V)->List V
 |[]=>[]
 |p::r=>p.1::p.2::rT r
noncomputable abbrev A5(K:fU)(W:XW)(q:Nat)(gs:List (GE×GE)):List (TE×TE):=gs.map λp=>(tE K W q p.1,tE K W q p.2)
def Wb{gs:List (GE×GE)}:∀{H:Hp} {Q:List (V×V)->Hp->Prop},ic K W q (xX gs) Z H (λxs H2=>∀ps,rT ps=xs->Q ps H2)->F5 (A5 K W q gs) Z H Q:=by
 induction gs with
 |nil=>intro H Q t;exact vK t [] rfl
 |cons p gs ih=>intro H Q t;exact nO (uv t) λx H1 t=>nO (uv t) λy H2 t=>ih (nO t λxs H3 h ps e=>h _ (by rw[<-e];rfl))
theorem PM{k:Kn}:∀{ps:List (V×V)} {ds:List D} {es:List (TK×D)},Jx ds=some es->ag K k (rT ps) ds->∃qs:List (TK×V×V),ps=qs.map (·.2)/\(∀e∈qs,oP K k.F e)/\Paired (rm K k) qs es
 |[],ds,es,e,r=>by
  cases ds with
  |nil=>cases e;exact⟨[],rfl,(λ_ m=>nomatch m),.nil⟩
  |cons _ _=>have:=r.length;cases this
 |p::ps,ds,es,e,r=>by
  cases ds with
  |nil=>have:=r.length;cases this
  |cons a ds=>cases ds with
   |nil=>have:=r.length;cases this
   |cons b ds=>
    obtain⟨j,q1,e⟩:=cG.mp e;obtain⟨ps',q2,rfl⟩:=dH.mp e;obtain⟨r1,r⟩:=ag.inv r;obtain⟨r2,r⟩:=ag.inv r;obtain⟨qs,h1,h2,h3⟩:=PM q2 r;have rk:ag K k [p.1] [j.d]:=by rw[(Al q1).1];exact r1
    refine⟨(j,p.1,p.2)::qs,by rw[h1];rfl,λe m=>?_,.cons ⟨rfl,rk,r2⟩ h3⟩
    rcases y09.mp m with rfl|m
    .exact⟨sC (k:=k) j rk,(Al q1).2⟩
    .exact h2 e m
def UU{α:Type}{l:List α}{n:Nat}{p:α}(h:l.length=n+1)(e:l[n]?=some p):l=l.take n++[p]:=by
 conv=>lhs;rw[<-List.take_append_drop n l]
 congr 1
 obtain⟨hn,e⟩:=eQ.mp e;rw[Mp hn,e,Hm (by lia)]
def Yv{gs:List (GE×GE)}{H:Hp}{Q:VK}(t:tE K W q (nt (xX gs)) Z H Q):QK K (A5 K W q gs) Z H Q:=by
 intro p hp;obtain⟨k,U,S,res,ok,gk,e,w⟩:=t;have sm:aB H (upd H p (.dG [] 0)):=rE hp;obtain⟨fx,nx⟩:=ok.fresh hp;have cV:cx K k _ S:=ok.new (aB.refl _) (λa _ o z=>sm a o z) (ok.le.trans sm) λ_ _ z=>z
 obtain⟨jM,u3⟩:=cV.pushS (b:=.aA []) fx nx ⟨[],0,aK,rfl,.nil,.nil⟩;have u4:Up q k H ⟨k.F,k.A,k.T++[p]⟩ (upd H p (.dG [] 0)):=(Up.of (aB.refl _) sm).trans (u3 q);refine Wb ?_;refine tX.bd (R':=RE K) (Q':=Q) jM (gk.up u4) e (w.up u4) λvs S1 xs k1 H1 bM g1 r1 e1 w1 u1 ps0 e0=>?_
 subst e0;obtain⟨z,e2,e1⟩:=cG.mp e1;obtain⟨k2,u2,mq,r5⟩:=FQ bM r1 e2;split at e1
 .rename_i hl
  split at e1
  .rename_i hc
   obtain⟨ps,e3,e1⟩:=cG.mp e1;split at e1
   .rename_i yI
    cases e1;have ep:k2.T[S.s.length]?=some p:=F6 (u2 q).t (F6 u1.t (by rw[<-ok.s.ln];exact FN))
    obtain⟨hF,es,e0,hH,hk,_,_⟩:=mq.s.at' _ _ _ ep hc;cases es with
    |cons _ _=>cases hk
    |nil=>
     obtain⟨qs,h1,h2,h3⟩:=PM e3 r5;have hlT:k2.T.length=S.s.length+1:=mq.s.ln.trans hl;have eT:=UU hlT ep;have np:p∉k2.A++k2.T.take S.s.length:=by
      have nd:=mq.nd;rw[eT,<-kP] at nd;exact λm=>(kQ.mp nd).2.2 p m p (List.mem_singleton_self _) rfl
     refine⟨⟨e0,hH⟩,k2.F,qs,hF,mq.le,h1,h2,by rw[Paired.length h3];exact yI,λnR=>?_⟩
     obtain⟨o1,o2,o3⟩:=PL h3 (ws:=[]) (kvs:=[]) rfl .nil .nil;have ho:lA H1 (upd H1 p (.dG (fE [] qs) nR)) p:=BS;have Lj:=mq.take S.s.length;have ok7:cx K ⟨k2.F,k2.A,k2.T.take S.s.length⟩ (upd H1 p (.dG (fE [] qs) nR)) ⟨z.2.s.take S.s.length,z.2.r⟩:=Lj.new (aB.refl _) (λa m o y=>by rw[ho a λy=>np (y ▸ m)];exact y) (λb o y=>by rw[ho b λy'=>by rw[y',hF] at y;cases y];exact mq.le b o y) λ_ _ y=>y
     have uu:=u4.trans (u1.trans (u2 q));refine w (.ref p) ⟨k2.F,k2.A,k2.T.take S.s.length⟩ _ ⟨uu.f,uu.a,Of uu.t (Ew ok.s.ln),λa o y1 y2=>?_⟩ ok7 ⟨p,rfl,hF,np,_,nR,aK,o1,ag.mono (k:=k2) ⟨aB.refl k2.F,lh k2.A⟩ o2,ag.mono (k:=k2) ⟨aB.refl k2.F,lh k2.A⟩ o3⟩
     rw[ho a λy=>by rw[y,hp] at y2;cases y2]
     exact uu.h a o y1 y2
   .cases e1
  .cases e1
 .cases e1
def Yw{keys:List (ai Expr)}{values:List Expr}{gs:List (GE×GE)}(hK:X.K=K)(h:vz X pos keys values (A5 K W q gs))(hu:X.A.units+41<cLine)(jI:keys.all (·.isSome)=true)(hl:keys.length=values.length)(h0:keys≠[])(yI:keys.length<=15):PE X (.Dict keys values pos) (tE K W q (nt (xX gs))):=(Wa h hu jI hl h0 yI).mono λZ H Q t=>by
 rw[hK];exact Yv t
end
end L2
namespace L2
open PySem PySem.Spec PyProof.Rows
variable{aU:Str}{Z:St}{H:Hp}{Q:Str->Hp->Prop}
noncomputable def l7:D->ai Rv
 |.str x=>if x.length<=1000000 then some (rd (.str x)) else none
 |.int i=>if i.natAbs.log2<1920 then some (rd (.str (Str.ofString (toString i)))) else none
 |_=>none
def LB:V->Hp->VK->Prop:=λx H Q=>(∃z:Str,x=.str z/\z.length<=sizeLine/\Q (.str z) H)\/∃i:Int,x=.int i/\i.natAbs.log2<1920/\Q (.str (Str.ofString (toString i))) H
abbrev TJ:=Str->St->Hp->(Str->Hp->Prop)->Prop
def wV:TJ:=λaU _ H Q=>Q aU H
def QL(te:TE)(tj:TJ):TJ:=λaU Z H Q=>te Z H λx H1=>∃y,x=.str y/\(aU++y).length<=sizeLine/\tj (aU++y) Z H1 Q
def PJ(X:Cx)(es:List Expr)(tj:TJ):Prop:=∀(aU:Str) (aa:List (ah×Obj)) (s:ay) (Z:St) (H:Hp) (Q:Str->Hp->Prop) (R:Str->ay->Prop),Inv X aa Z H s->tj aU Z H Q->aU.length<=sizeLine->
 (∀out s' H',out.length<=sizeLine->Inv X aa Z H' s'->Q out H'->R out s')->Joins (model X.prog X.w) X.A X.xe (evalEach es X.env) aU R s
abbrev GJ:=Str->Gx Str
noncomputable def kq:GJ:=λaU _ S=>some (.ok aU S)
noncomputable def Rv.str:Rv->ai Str
 |.v (.d (.str i))=>some i
 |_=>none
noncomputable def mL(f:GE)(j:GJ):GJ:=λaU U S=>bd (f U S) λr S1=>r.str.bind λy=>if(aU++y).length<=1000000 then j (aU++y) U S1 else none
noncomputable def xY(j:GJ):GE:=λU S=>bd (j Str.empty U S) λz S1=>some (.ok (rd (.str z)) S1)
abbrev RS:Rp Str Str:=λ_ _ b a=>b=a
section
variable{X:Cx}{K:aL}{W:XW}{q:Nat}{f:GE}{e v:Expr}{es:List Expr}{j:GJ}{pos:Pos}{te:TE}{tj:TJ}
def Rv.zJ{r:Rv}{i:Str}(h:r.str=some i):r=rd (.str i):=by
 obtain(d|_)|_:=r
 .cases d <;> cases h;rfl
 all_goals cases h
def e4g:cg K (Lz LB) (o1 l7):=sM λk H x a y Q le t e res=>by
 unfold l7 at e;split at e
 .split at e
  .cases e;cases t.flat rfl;exact⟨_,rfl,.inl ⟨_,rfl,ml (by assumption),res.flat le rfl⟩⟩
  .cases e
 .split at e
  .cases e;cases t.flat rfl;exact⟨_,rfl,.inr ⟨_,rfl,by assumption,res.flat le rfl⟩⟩
  lia
 lia
def CA(h:PE X v (tE K W q f)):PE X (.FormattedValue v (-1) none pos) (tE K W q (gO (o1 l7) (bc f))):=by
 intro aa s Z H Q I t;refine wpAny_FormattedValue_plain (bP (h aa s Z H _ I (J7 (uA e4g t))) λu s1 ⟨x,H1,I1,r1,q1⟩=>?_)
 rcases q1 with⟨z,rfl,hz,q⟩|⟨i,rfl,hi,q⟩
 .obtain⟨t',rfl⟩:=r1;exact PyProof.Rows.formatField_str (λt2 tk=>⟨.str z,H1,I1.tok _,⟨_,rfl⟩,q⟩) hz
 .obtain⟨t',rfl⟩:=r1;exact wpAny_formatField_int hi ⟨.str _,H1,I1.tok _,⟨_,rfl⟩,q⟩
def e4h:PJ X [] wV:=λaU aa s Z H Q R I t hl hR=>Joins_nil (hR _ _ _ hl I t)
def Yx(he:PE X e te)(hj:PJ X es tj):PJ X (e::es) (QL te tj):=λaU aa s Z H Q R I t hl hR=>
 Joins_cons (bP (he aa s Z H _ I t) λu s1 h1=>by
  obtain⟨x,H1,I1,r1,y,rfl,RT,q1⟩:=h1;obtain⟨t,rfl⟩:=r1;exact⟨y,t,rfl,RT,hj (aU++y) aa s1 Z H1 Q R I1 q1 RT hR⟩)
def Yy(t:tX RS K W q (kq aU) Z H Q):wV aU Z H Q:=Cw t λ_ _=>rfl
def Wc(hj:∀aU Z H Q,tX RS K W q (j aU) Z H Q->tj aU Z H Q)(t:tX RS K W q (mL f j aU) Z H Q):QL (tE K W q f) tj aU Z H Q:=by
 obtain⟨k,U,S,res,ok,gk,e,w⟩:=t;refine tX.bd ok gk e w λr S1 x k1 H1 bM g1 r1 e1 w1 _=>?_
 obtain⟨y,e2,e3⟩:=cG.mp e1;cases Rv.zJ e2;split at e3
 .exact⟨y,(show ag K k1 [x] [.str y] from r1).aP rfl,ml (by assumption),hj _ _ _ _ ⟨k1,U,S1,res,bM,g1,e3,w1⟩⟩
 .cases e3
def UW{v1 v2:Expr}{rest:List Expr}(h:PJ X (v1::v2::rest) tj)(hj:∀aU Z H Q,tX RS K W q (j aU) Z H Q->tj aU Z H Q):PE X (.JoinedStr (v1::v2::rest) pos) (tE K W q (xY j)):=by
 intro aa s Z H Q I t;refine wpAny_JoinedStr (h Str.empty aa s Z H (λout H'=>Q (.str out) H') _ I (hj _ _ _ _ ?_) (k_ _) λout s' H' h1 I' hQ=>⟨h1,.str out,H',I'.tok _,⟨_,rfl⟩,hQ⟩)
 obtain⟨k,U,S,res,ok,gk,e,w⟩:=t;refine tX.bd ok gk e w λz S1 z' k1 H1 bM g1 r1 e1 w1 _=>?_
 cases e1;cases r1;exact w1.now bM (show ag K k1 [_] [_] from .flat rfl .nil)
end
variable{S:aT}{n:Nat}{op:Operator}{h:Int->Int->Int}
def jY(K:aL)(atr:List (ah×Str)):Prop:=∀p∈atr,Cls K p.1/\gf K p.1 p.2
noncomputable def sr(S:aT)(n:Nat):ai (ah×List (Str×D)):=(S.r[n]?).bind λc=>match c with
 |.ins C fs=>some (C,fs)
 |_=>none
def FY{p:ah×List (Str×D)}(h:sr S n=some p):S.r[n]?=some (.ins p.1 p.2):=by
 obtain⟨c,h1,h2⟩:=cG.mp h;cases c <;> cases h2;exact h1
def bf(atr:List (ah×Str))(g:Str)(f:GE):GE:=λU S=>bd (f U S) λr S1=>r.ref.bind λn=>(sr S1 n).bind λp=>if atr.contains (p.1,g)=true then(p.2.lookup g).map λd=>.ok (rd d) S1 else none
noncomputable def gE(f:Str)(v:D):List (Str×D)->List (Str×D)
 |[]=>[(f,v)]
 |(g,x)::r=>if g=f then(g,v)::r else(g,x)::gE f v r
section
variable{X:Cx}{K:aL}{W:XW}{q:Nat}{atr:List (ah×Str)}{g:Str}{f fv fo fe fi:GE}{e o value i:Expr}{pos pos' fY:Pos}{Z:St}{H:Hp}
theorem IM{k:Kn}{d:D}:∀{gs:List (Str×V)} {fs:List (Str×D)},gs.map (·.1)=fs.map (·.1)->ag K k (gs.map (·.2)) (fs.map (·.2))->fs.lookup g=some d->∃v,gs.lookup g=some v/\ag K k [v] [d]
 |[],[],_,_,e=>nomatch e
 |(x,v)::gs,(y,c)::fs,h,r,e=>by
  obtain⟨h1,h2⟩:=List.cons.inj (show x::gs.map (·.1)=y::fs.map (·.1) from h)
  obtain⟨a1,a2⟩:=ag.inv r;subst h1;rw[List.lookup_cons] at e ⊢;split at e
  .cases e;exact⟨v,rfl,a1⟩
  .exact IM h2 a2 e
 |[],_::_,h,_,_=>nomatch h
 |_::_,[],h,_,_=>nomatch h
theorem Ov{k:Kn}{v:V}{d:D}(rv:ag K k [v] [d]):∀{gs:List (Str×V)} {fs:List (Str×D)},gs.map (·.1)=fs.map (·.1)->ag K k (gs.map (·.2)) (fs.map (·.2))->(eD g v gs).map (·.1)=(gE g d fs).map (·.1)/\ag K k ((eD g v gs).map (·.2)) ((gE g d fs).map (·.2))
 |[],[],_,_=>⟨rfl,rv⟩
 |(x,w)::gs,(y,c)::fs,h,r=>by
  obtain⟨h1,h2⟩:=List.cons.inj (show x::gs.map (·.1)=y::fs.map (·.1) from h)
  obtain⟨a1,a2⟩:=ag.inv r;subst h1;unfold eD gE;split
  .exact⟨congrArg (List.cons x) h2,.cons rv a2⟩
  .obtain⟨c1,c2⟩:=Ov rv h2 a2;exact⟨congrArg (List.cons x) c1,.cons a1 c2⟩
 |[],_::_,h,_=>nomatch h
 |_::_,[],h,_=>nomatch h
def e4i(ha:jY K atr)(he:PE X e (tE K W q f))(hb:attributeBase e g X.env (eval e X.env)=eval e X.env)(hK:X.K=K):PE X (.Attribute e g pos) (tE K W q (bf atr g f)):=by
 subst hK;refine(δ he hb).mono λZ H Q t=>?_
 obtain⟨k,U,S,res,ok,gk,e,w⟩:=t;refine tX.bd ok gk e w λr S1 x k1 H1 bM g1 r1 e1 w1 _=>?_
 obtain⟨n,e2,e3⟩:=cG.mp e1;cases Rv.mD e2;obtain⟨p,e4,e5⟩:=cG.mp e3;split at e5
 .rename_i hc
  obtain⟨h1,h2⟩:=ha _ (lj.mp hc);obtain⟨d,e6,rfl⟩:=dH.mp e5;obtain⟨a,dx,gs,rfl,h3,h4,h5,h6,h7⟩:=Ck bM r1 (FY e4);obtain⟨v,h8,h9⟩:=IM h6 h7 e6;exact⟨a,_,dx,gs,v,rfl,h5,h1,h2,h8,w1.now bM h9⟩
 .cases e5
def cx.DS{k:Kn}{a C dx:ah}{gs:List (Str×V)}{fs:List (Str×D)}{v:V}{d:D}(ok:cx K k H S)(hA:k.A[n]?=some a)(hF:k.F a=none)(h5:H a=some (.ins C dx gs))(h6:gs.map (·.1)=fs.map (·.1))(h7:ag K k (gs.map (·.2)) (fs.map (·.2)))(rv:ag K k [v] [d])(hq:Nat.ble q 1=true):
  cx K k (upd H a (.ins C dx (eD g v gs))) ⟨S.s,S.r.set n (.ins C (gE g d fs))⟩/\Up q k H k (upd H a (.ins C dx (eD g v gs))):=by
 obtain⟨c1,c2⟩:=Ov (g:=g) rv h6 h7;refine ok.DT hA BS hF (λo z=>?_) ⟨hF,dx,_,aK,c1,c2⟩
 rw[h5] at z;cases z;have:=zU hq
 match q,this with
 |0,_=>rfl
 |1,_=>rfl
def fQ(q:Nat)(atr:List (ah×Str))(g:Str)(fv fo:GE):GS:=λU S=>kY U (fv U S) λr1 S1=>kY U (fo U S1) λr2 S2=>(oB S2 (mI r1)).bind λz=>r2.ref.bind λn=>(sr z.2 n).bind λp=>if(atr.contains (p.1,g)&&Nat.ble q 1&&Nat.blt p.2.length 1000)=true then some (.nx U ⟨z.2.s,z.2.r.set n (.ins p.1 (gE g z.1 p.2))⟩) else none
def e4j(ha:jY K atr)(ho:PE X o (tE K W q fo))(hv:PE X value (tE K W q fv))(hs:swapsWith value (some (.Attribute o g pos')) pos.line X.env=pure false)(hK:X.K=K):PS X (.Assign [.Attribute o g pos'] value pos) (tS K W q (fQ q atr g fv fo)):=by
 subst hK;refine(ε ho hv hs).mono λD Z H t=>?_
 obtain⟨k,U,S,fr,ok,gk,e,w⟩:=t;refine tS.bd ok gk e w λr1 S1 y k1 H1 bM g1 q1 e1 w1=>?_
 obtain⟨k2,u2,cV,q2⟩:=qB bM q1;refine tS.Ct cV (g1.up (u2 q)) e1 (w1.up (u2 q)) λr2 S2 x k3 H3 jM g3 r3 e2 w3 u3=>?_
 obtain⟨⟨d,S3⟩,e3,e4⟩:=cG.mp e2;obtain⟨k4,u4,qm,r4⟩:=FO jM (q2.up u3) e3;obtain⟨n,e5,e6⟩:=cG.mp e4;cases Rv.mD e5;obtain⟨p,e7,e8⟩:=cG.mp e6;split at e8
 .rename_i hc
  cases e8;simp only[jU] at hc;obtain⟨⟨GP,r9⟩,Ks⟩:=hc;obtain⟨h1,h2⟩:=ha _ (lj.mp GP);obtain⟨a,dx,gs,rfl,h3,h4,h5,h6,h7⟩:=Ck qm (ag.mono (u4 q).le r3) (FY e7);have hl:gs.length<1000:=by
   have:=h7.length;rw[bq,bq] at this;rw[this];exact zU Ks
  obtain⟨mq,u5⟩:=qm.DS (g:=g) h3 h4 h5 h6 h7 r4 r9;exact⟨a,_,dx,gs,rfl,h5,h1,h2,hl,cw.now (cw.up w3 ((u4 q).trans u5)) mq (g3.up ((u4 q).trans u5))⟩
 .cases e8
def Jy(q:Nat)(h:Int->Int->Int)(atr:List (ah×Str))(g:Str)(fo fe:GE):GS:=λU S=>kY U (fo U S) λr S1=>r.ref.bind λn=>(sr S1 n).bind λp=>if atr.contains (p.1,g)=true then(match p.2.lookup g with
 |some (.int a)=>kY U (fe U S1) λr2 S2=>r2.int.bind λb=>(sr S2 n).bind λp2=>if(p2.1 == p.1&&Nat.ble q 1&&Nat.blt p2.2.length 1000)=true then some (.nx U ⟨S2.s,S2.r.set n (.ins p2.1 (gE g (.int (h a b)) p2.2))⟩) else none
 |_=>none) else none
def Yz(yT:xt X op λx y H Q=>∃i j,x=.int i/\y=.int j/\Q (.int (h i j)) H)(ha:jY K atr)(ho:PE X o (tE K W q fo))(hv:PE X value (tE K W q fe))(hK:X.K=K):PS X (.AugAssign (.Attribute o g fY) op value pos) (tS K W q (Jy q h atr g fo fe)):=by
 subst hK;refine(Uc ho hv yT).mono λD Z H t=>?_
 obtain⟨k,U,S,fr,ok,gk,e,w⟩:=t;refine tS.bd ok gk e w λr S1 x k1 H1 bM g1 r1 e1 w1=>?_
 obtain⟨n,e2,e3⟩:=cG.mp e1;cases Rv.mD e2;obtain⟨p,e4,e5⟩:=cG.mp e3;split at e5
 case isFalse=>cases e5
 rename_i hc
 obtain⟨h1,h2⟩:=ha _ (lj.mp hc);obtain⟨a,dx,gs,rfl,h3,h4,h5,h6,h7⟩:=Ck bM r1 (FY e4);split at e5
 case h_2=>cases e5
 rename_i hl
 obtain⟨v,h8,h9⟩:=IM h6 h7 hl;cases h9.aP rfl;refine⟨a,_,dx,gs,_,rfl,h5,h1,h2,h8,tS.Ct bM g1 e5 w1 λr2 S2 y k2 H2 cV g2 q2 e6 w2 u2=>?_⟩
 obtain⟨b,e7,e8⟩:=cG.mp e6;cases Rv.jr e7;cases(show ag X.K k2 [y] [.int b] from q2).aP rfl;obtain⟨p2,e9,J6⟩:=cG.mp e8;split at J6
 case isFalse=>cases J6
 rename_i hc
 cases J6;simp only[jU,beq_iff_eq] at hc;obtain⟨⟨GP,r9⟩,Ks⟩:=hc;obtain⟨a',Zr,f7,z,h3',h4',Ry,h6',Rz⟩:=Ck cV (ag.mono u2.le r1) (FY e9);cases z;have hl:f7.length<1000:=by
  have:=Rz.length;rw[bq,bq] at this;rw[this];exact zU Ks
 obtain⟨mq,u5⟩:=cV.DS (g:=g) (v:=.int (h _ b)) (d:=.int (h _ b)) h3' h4' Ry h6' Rz (.flat rfl .nil) r9;exact⟨_,_,rfl,rfl,Zr,f7,GP ▸ Ry,hl,GP ▸ cw.now (cw.up w2 u5) mq (g2.up u5)⟩
def Jz(q:Nat)(h:Int->Int->Int)(fo fi fe:GE):GS:=λU S=>kY U (fo U S) λr1 S1=>kY U (fi U S1) λr2 S2=>(match mI r2,gq S2 (mI r1) with
 |.d di,some (.aA kvs)=>(jL di).bind λj=>(match aO kvs j with
  |some (.int a)=>kY U (fe U S2) λr3 S3=>r3.int.bind λb=>(gq S3 (mI r1)).bind λc=>if c.mb q=true then(match c with
   |.aA sG=>if sG.length<1000000 then some (.nx U (setB S3 (.aA (bS sG j (.int (h a b)))) (mI r1))) else none
   |_=>none) else none
  |_=>none)
 |_,_=>none)
def Wd(hu:X.A.units+41<cLine):Bo X (λo i H Q=>∃a v,o=.ref a/\iA X.K H a i (some v)/\Q v H):=by
 intro aa s Z H o i ov iv Q I ro ri h;obtain⟨p,v,rfl,g,q⟩:=h;cases ro;exact NT (by lia) I g ri λw' s3 I3 mF=>⟨v,H,I3,mF,q⟩
def YA(yT:EH X op (K0 h))(ho:PE X o (tE K W q fo))(hi:PE X i (tE K W q fi))(hv:PE X value (tE K W q fe))(hu:X.A.units+41<cLine)(hK:X.K=K)
  (ha:∀ov iv new,augStore i ov iv new=(do holding [new,ov,iv] (setItem ov iv new);release [new,ov,iv] [];pure .next)):PS X (.AugAssign (.Subscript o i fY) op value pos) (tS K W q (Jz q h fo fi fe)):=by
 subst hK;refine(Xg ho hi (Wd hu) hv yT (Rj hu) ha).mono λD Z H t=>?_
 obtain⟨k,U,S,fr,ok,gk,e,w⟩:=t;refine tS.bd ok gk e w λr1 S1 x k1 H1 bM g1 q1 e1 w1=>?_
 obtain⟨k2,u2,cV,q2⟩:=qB bM q1;refine tS.Ct cV (g1.up (u2 q)) e1 (w1.up (u2 q)) λr2 S2 y k3 H3 jM g3 r3 e2 w3 u3=>?_
 obtain⟨k4,u4,qm,q4⟩:=qB jM r3;have q5:=(q2.up u3).up (u4 q);split at e2
 case h_2=>cases e2
 rename_i hd hg
 rw[hd] at q4;obtain⟨j,e3,e4⟩:=cG.mp e2;obtain⟨a,rfl,hb,_⟩:=B9 qm q5 hg;split at e4
 case h_2=>cases e4
 rename_i Dc
 rename Int=>iv
 have tp:Top X.K k4 H3 (.ref a) _:=.inr ⟨a,.aA _,rfl,rfl,hb⟩;obtain⟨p,o,z,g,hh⟩:=vv qm.le tp (.inl q4) e3;cases z;rcases hh with⟨_,z⟩|⟨v,d,rfl,z,rv⟩
 .rw[Dc] at z;cases z
 rw[Dc] at z;cases z;cases rv.aP rfl;refine⟨a,_,rfl,g,tS.Ct qm (g3.up (u4 q)) e4 (w3.up (u4 q)) λr5 S5 y5 k5 H5 mq g5 q6 e5 w5 u5=>?_⟩
 obtain⟨b,e6,e7⟩:=cG.mp e5;cases Rv.jr e6;cases(show ag X.K k5 [y5] [.int b] from q6).aP rfl;obtain⟨c,e8,e9⟩:=cG.mp e7;obtain⟨a',z,l_,L6⟩:=B9 mq (q5.up u5) e8;cases z;split at e9
 case isFalse=>cases e9
 rename_i hm
 cases c with
 |lst _=>cases e9
 |aA sG=>
  dsimp only at e9;split at e9
  case isFalse=>cases e9
  rename_i hl
  cases e9;refine⟨_,_,rfl,rfl,QJ (b:=.aA sG) (dv:=.int (h iv b)) (b':=.aA (bS sG j (.int (h iv b)))) mq.le l_ ((show dz X.K k4 y (.d di) from q4).up u5) (.flat rfl .nil) ?_ λo' h6=>?_⟩
  .unfold vf;dsimp only;rw[e3,zS,bJ hl]
  .obtain⟨Lj,u6⟩:=L6 q _ _ BS hm h6;exact cw.now (cw.up w5 u6) Lj (g5.up u6)
end
end L2
namespace L2
open PySem PySem.Spec PySem.W PyProof.Rows
variable{k k':Int->Int->Bool}{op:CmpOp}{j:GJ}{T:String}{m:Str}{o':Bx->List D->ai (Bx×D)}
def cA.le{k k':Nat}{A:PySem.Around}(h:cA k A)(e:k'<=k:=by decide):cA k' A:=h.mono e
def u_{X:Cx}:fO X W0:=λ_ _ _ _ _ _ _ _ _ _ _ z=>z.elim
def AW:List Str->Bool
 |[]=>true
 |x::l => !l.contains x&&AW l
theorem Gf:∀{l:List Str},AW l=true->l.Nodup
 |[],_=>.nil
 |x::l,h=>by
  obtain⟨h1,h2⟩:=Bc.mp h;rw[Mw,<-Bool.not_eq_true,lj] at h1;exact qH.mpr ⟨h1,Gf h2⟩
section
variable{X:Cx}{K:fU}{W:XW}{q:Nat}{a b c e o:Expr}{es rest:List Expr}{f g h:GE}{fs:GA}{ft fu:GT}{pos p apos bV:Pos}{x:Str}
def xv(i:Nat)(hN:X.N[i]?=some x)(hv:HE X.env.scope x)(hd:(x == ("__debug__":Str))=false)(r_:(x == ("__classdict__":Str))=false):PE X (.Name x pos) (tE K W q (rX i)):=σ (ZT hN hv hd r_)
def xi{i:Int}{j}:PE X (.Constant (.int i) j pos) (tE K W q (gC (.int i))):=yu ZU
def xs{i:Str}{j}:PE X (.Constant (.str i) j pos) (tE K W q (gC (.str i))):=yu ZW
def xb{i:Bool}{j}:PE X (.Constant (.bool i) j pos) (tE K W q (gC (.bl i))):=yu e8k
def xn{j}:PE X (.Constant .none j pos) (tE K W q (gC .aI)):=yu ZV
def xty{n:String}(hm:X.mg x=none)(hv:bootBuiltins x=some (.type n))(hg:Gl X x)(hn:x≠"__name__")(hd:(x == ("__debug__":Str))=false):PE X (.Name x pos) (tE K W q (gC (.ty n))):=yu (e8s hg hm hv hn hd)
def n5(K:fU)(op:Operator)(o:List D->ai Rv):Prop:=∀X:Cx,X.K=K->∃r,eB X (binaryOp op) r/\cg K (mC r) o
def Ma:n5 K .Add (o2 x_):=λX h=>⟨_,X7 K h,e3n⟩
def Me:n5 K .Sub (o2 (eL ua λi j=>.int (i - j))):=λX h=>⟨_,Ξ,e3o⟩
def Mc:n5 K .Mult (o2 uX):=λX h=>⟨_,X9,e3r⟩
def Ej:n5 K .FloorDiv (o2 (eL (λ_ j=>decide (0<j/\j<1073741824)) λi j=>.int (i / j))):=λX h=>⟨_,Xi,X8⟩
def Mb:n5 K .Mod (o2 (eL (λ_ j=>decide (0<j)) λi j=>.int (i%j))):=λX h=>⟨_,Φ,e3p⟩
def Md:n5 K .Pow (o2 (eL (λi j=>decide (0<=j/\j<=1000000/\i.natAbs<2^64)) λi j=>.int (i^j.toNat))):=λX h=>⟨_,Ψ,e3q⟩
def xo{op:Operator}{o:List D->ai Rv}(c:n5 K op o)(ha:PE X a (tE K W q f))(hb:PE X b (tE K W q g))(hK:X.K=K):PE X (.BinOp a op b pos) (tE K W q (gO o (bR f g))):=by
 obtain⟨r,h1,h2⟩:=c X hK;exact e8u h1 h2 ha hb
def Mh(ha:PE X a (tE K W q f)):PE X (.UnaryOp .USub a pos) (tE K W q (gO (o1 uZ) (bc f))):=e8v Ω e3s ha
def jZ(K:fU)(op:CmpOp)(o:List D->ai Rv):Prop:=∀X:Cx,X.K=K->X.A.units+41<cLine->∃r,eB X (compareOp op) r/\cg K (mC r) o
def Wj:jZ K .Eq (o2 (Gy false)):=λX h u=>⟨_,e3u K (by lia) h,e8y⟩
def Wo:jZ K .Lt (o2 (eL ua λi j=>.bl (decide (i<j)))):=λX h u=>⟨_,wx,Jv⟩
def Wn:jZ K .LtE (o2 (eL ua λi j=>.bl (decide (i<=j)))):=λX h u=>⟨_,wu,Jv⟩
def Wk:jZ K .Gt (o2 (eL ua λi j=>.bl (decide (j<i)))):=λX h u=>⟨_,e8p,Jv⟩
def Wl:jZ K .In (o2 (AN false)):=λX h u=>⟨_,e3v K u h,Rh false⟩
def JR:jZ K .NotIn (o2 (AN true)):=λX h u=>⟨_,UE K u h,Rh true⟩
def Wm:jZ K .Is (o2 (AQ false)):=λX h u=>⟨_,e3x,Ri false⟩
def JP:jZ K .IsNot (o2 (AQ true)):=λX h u=>⟨_,Yb,Ri true⟩
def xc{o:List D->ai Rv}(c:jZ K op o)(ha:PE X a (tE K W q f))(hb:PE X b (tE K W q g))(hu:X.A.units+41<cLine)(hK:X.K=K)(hm:behindInMarks op b=false):PE X (.Compare a [op] [b] pos) (tE K W q (gO o (bR f g))):=by
 obtain⟨r,h1,h2⟩:=c X hK hu;exact υ h1 h2 ha hb hm
def yc{o:List D->ai Rv}(c:jZ K op o)(ha:PE X a (tE K W q f))(hb:PE X b (tE K W q g))(hu:X.A.units+41<cLine)(hK:X.K=K)(hm:behindInMarks op b=false):PT X (.Compare a [op] [b] pos) (tT K W q (gB (gO o (bR f g)))):=by
 obtain⟨r,h1,h2⟩:=c X hK hu;exact Rw (Xk h1 ha hb hm) λ_ _ _ t=>Gw (uA h2 t)
noncomputable def JA(c c':Int->Int->Bool)(f g h:GE):GE:=λU S=>bd (f U S) λr1 S1=>bd (g U S1) λr2 S2=>r1.int.bind λi=>r2.int.bind λj=>if c i j=true then bd (h U S2) λr3 S3=>r3.int.map λl=>.ok (rd (.bl (c' j l))) S3 else some (.ok (rd (.bl false)) S2)
def We{Z:St}{H:Hp}{Q:VK}(t:tE K W q (JA k k' f g h) Z H Q):Qk (pA λi j=>.bl (k i j)) (pA λi j=>.bl (k' i j)) (tE K W q f) (tE K W q g) (tE K W q h) Z H Q:=by
 obtain⟨n,U,S,res,ok,gk,e,w⟩:=t;refine tX.bd ok gk e w λr1 S1 x k1 H1 bM g1 q1 e1 w1 _=>tX.bd bM g1 e1 w1 λr2 S2 y k2 H2 cV g2 q2 e2 w2 _=>?_
 obtain⟨i,h1,e3⟩:=cG.mp e2;obtain⟨j,h2,e4⟩:=cG.mp e3;cases Rv.jr h1;cases Rv.jr h2;cases(show ag K k1 [x] [.int i] from q1).aP rfl;cases(show ag K k2 [y] [.int j] from q2).aP rfl;refine⟨i,j,rfl,rfl,k i j,rfl,?_⟩;split at e4
 .rename_i hk
  rw[hk];refine sx (tX.bd cV g2 e4 w2 λr3 S3 z k3 H3 jM g3 q3 e5 w3 _=>?_)
  obtain⟨l,h3,rfl⟩:=dH.mp e5;cases Rv.jr h3;cases(show ag K k3 [z] [.int l] from q3).aP rfl;exact⟨_,_,rfl,rfl,w3.now jM (show ag K k3 [_] [_] from .flat rfl .nil)⟩
 .rename_i hk
  cases e4;rw[Bool.not_eq_true] at hk;rw[hk];exact sv (w2.now cV (show ag K k2 [_] [_] from .flat rfl .nil))
def ych{zo:CmpOp}(h1:∀X:Cx,eB X (compareOp op) (pA λi j=>.bl (k i j)))(h2:∀X:Cx,eB X (compareOp zo) (pA λi j=>.bl (k' i j)))(ha:PE X a (tE K W q f))(hb:PE X b (tE K W q g))(hc:PE X c (tE K W q h))(hm:lastMarks [op,zo] [b,c]=false):PT X (.Compare a [op,zo] [b,c] pos) (tT K W q (gB (JA k k' f g h))):=Rw (Vq (h1 X) (h2 X) ha hb hc hm) λ_ _ _ t=>We t
def yt(ha:PE X a (tE K W q f))(hK:X.K=K)(ht:∀whole,isTrue a X.env whole=(do let v <-whole;standAt a.pos;holding [v] (truthy v))):PT X a (tT K W q (cD f)):=χ hK ha ht
def ya1(h:PT X a (tT K W q ft)):PW X (.BoolOp .And [a] pos) (tT K W q ft):=Xd h
def yo1(h:PT X a (tT K W q ft)):PW X (.BoolOp .Or [a] pos) (tT K W q ft):=ZX h
def xix(ha:PE X a (tE K W q f))(hb:PE X b (tE K W q g))(hu:X.A.units+41<cLine)(hK:X.K=K)(hs:Jg b):PE X (.Subscript a b pos) (tE K W q (gO (o2 G6) (bR f g))):=e8w (K3 K hu hK) e9a ha hb hs
def xsl{lo hi:ai Expr}{p2:Pos}{fl fh}(he:PE X e (tE K W q f))(hl:PO X lo (tX z0 K W q fl))(hu:PO X hi (tX z0 K W q fh))(hK:X.K=K):PE X (.Subscript e (.Slice lo hi none p2) pos) (tE K W q (vL f fl fh)):=VY he hl hu hK
def zc{h:GA}(ha:PE X e (tE K W q g))(hr:PA X es (ic K W q h))(hs:starEach (e::es) X.env=(false,eval e X.env)::starEach es X.env):PA X (e::es) (ic K W q (m_ g h)):=XE ha hr hs
def xd{keys:List (ai Expr)}{values:List Expr}{gs:List (GE×GE)}(h:vz X pos keys values (A5 K W q gs))(hu:X.A.units+41<cLine)(hK:X.K=K)(jI:keys.all (·.isSome)=true)(hl:keys.length=values.length)(h0:keys≠[])(yI:keys.length<=15):PE X (.Dict keys values pos) (tE K W q (nt (xX gs))):=Yw hK h hu jI hl h0 yI
def EI(X:Cx)(K:fU)(W:XW)(q:Nat)(es:List Expr)(j:GJ):Prop:=∃tj,PJ X es tj/\∀aU Z H Q,tX RS K W q (j aU) Z H Q->tj aU Z H Q
def jn:EI X K W q [] kq:=⟨_,e4h,λ_ _ _ _ t=>Yy t⟩
def jc(he:PE X e (tE K W q f))(hr:EI X K W q es j):EI X K W q (e::es) (mL f j):=by
 obtain⟨tj,h1,h2⟩:=hr;exact⟨_,Yx he h1,λ_ _ _ _ t=>Wc h2 t⟩
def xj{v1 v2:Expr}(h:EI X K W q (v1::v2::rest) j):PE X (.JoinedStr (v1::v2::rest) pos) (tE K W q (xY j)):=by
 obtain⟨tj,h1,h2⟩:=h;exact UW h1 h2
def qK(K:fU)(v:aj)(o:List D->ai Rv):Prop:=∀X:Cx,X.K=K->X.calm=true->X.A.units+41<cLine->∃r,bW X v r/\cg K r o
def K7:qK K (.builtin "len") (o1 fJ):=λX h c u=>⟨_,UO h,e4a⟩
def K6:qK K (.builtin "isinstance") (o2 cM):=λX h c u=>⟨_,UP h,e4b⟩
def K4:qK K (.builtin "all") (o1 (Av λbs=>bs.all id)):=λX h c u=>⟨_,UJ K c h,V6 _⟩
def K8:qK K (.builtin "min") (o1 (oY i6)):=λX h c u=>⟨_,VZ K c h,Yp _⟩
def Dp:qK K (.builtin "sorted") (o1 pD):=λX h c u=>⟨_,TL c h,Yq⟩
def K5:qK K (.type "int") (o1 pb):=λX h c u=>⟨_,T_,Ym⟩
def Dm:qK K (.type "list") (o1 kz):=λX h c u=>⟨_,TH c h,Yn⟩
def Dl:qK K (.type "dict") (o1 o4):=λX h c u=>⟨_,Tz K u c h,V7⟩
def xB{id:String}{o:List D->ai Rv}(k:qK K (.builtin id) o)(hm:X.mg x=none)(hv:bootBuiltins x=some (.builtin id))(ha:PA X (e::es) (ic K W q fs))(hu:X.A.units+41<cLine)(hc:X.calm=true)(hK:X.K=K)(hg:Gl X x)(hn:x≠"__name__")(jm:(x == ("__debug__":Str))=false)
  (he:starEach (e::es) X.env=(false,eval e X.env)::starEach es X.env) (jR:(backTo pos (starEach es X.env)).any (·.1)=false):PE X (.Call (.Name x p) (e::es) [] pos) (tE K W q (gO o fs)):=by
 obtain⟨r,h1,h2⟩:=k X hK hc hu;exact(Vx h1 hg hm hv ha hn jm he jR).mono λ_ _ _ t=>uA h2 t
def xT{o:List D->ai Rv}(k:qK K (.type T) o)(hm:X.mg x=none)(hv:bootBuiltins x=some (.type T))(ha:PA X (e::es) (ic K W q fs))(hu:X.A.units+41<cLine)(hc:X.calm=true)(hK:X.K=K)(hg:Gl X x)(hn:x≠"__name__")(jm:(x == ("__debug__":Str))=false)
  (he:starEach (e::es) X.env=(false,eval e X.env)::starEach es X.env) (jR:(backTo pos (starEach es X.env)).any (·.1)=false):PE X (.Call (.Name x p) (e::es) [] pos) (tE K W q (gO o fs)):=by
 obtain⟨r,h1,h2⟩:=k X hK hc hu;exact(Ue h1 hg hm hv ha hn jm he jR).mono λ_ _ _ t=>uA h2 t
def HA(K:fU)(T:String)(m:Str)(o:List D->ai Rv):Prop:=∀X:Cx,X.K=K->X.A.units+41<cLine->∃id r,PlainAttrs T/\Slot T m id/\typeOf (.builtin id)=pure (.type "method_descriptor")/\EF X id r/\cg K (pB r) o
def y9:HA K "list" "index" (o2 jq):=λX h u=>⟨_,_,PySem.F.plainAttrs_list,PySem.F.slot_list_index,PySem.F.type_list_index,V0 K h,V9⟩
def Dt:HA K "dict" "get" (o2 o6):=λX h u=>⟨_,_,PySem.F.plainAttrs_dict,PySem.F.slot_dict_get,PySem.F.type_dict_get,Ye K u h,Yr⟩
def xM{o':List D->ai Rv}(k:HA K T m o')(ho:PE X o (tE K W q f))(ha:PA X (e::es) (ic K W q fs))(hu:X.A.units+41<cLine)(hK:X.K=K)
  (cK:attributeBase o m X.env (eval o X.env)=eval o X.env)
  (sd:((backTo bV (starEach (e::es) X.env)).all (λx => !x.1)&&(backToKw bV (keywordEach [] X.env)).all (λx=>x.1.isSome) && decide ((e::es).length+([]:List Keyword).length+(if([]:List Keyword).isEmpty then 0 else 1)<30))=true)
  (cL:(apos.endLine == bV.line)=true) (hs:starEach (e::es) X.env=(false,eval e X.env)::starEach es X.env) (ku:(backTo bV (starEach es X.env)).any (·.1)=false):PE X (.Call (.Attribute o m apos) (e::es) [] bV) (tE K W q (Gd T o' f fs)):=by
 subst hK;obtain⟨id,r,h1,h2,h3,h4,h5⟩:=k X rfl hu;exact(Rg h1 h2 h3 h4 ho ha cK sd cL hs ku).mono λ_ _ _ t=>V8 h5 t
def xw(K:fU)(T:String)(m:Str)(o:Bx->List D->ai (Bx×D)):Prop:=∀X:Cx,X.K=K->∃id r,PlainAttrs T/\Slot T m id/\typeOf (.builtin id)=pure (.type "method_descriptor")/\EF X id r/\jv K r o
def vn:xw K "list" "append" qA:=λX h=>⟨_,_,PySem.F.plainAttrs_list,PySem.F.slot_list_append,PySem.F.type_list_append,Ug,UQ⟩
def vp:xw K "list" "insert" B_:=λX h=>⟨_,_,PySem.F.plainAttrs_list,PySem.F.slot_list_insert,PySem.F.type_list_insert,Ul,UR⟩
def zO:xw K "list" "clear" Ge:=λX h=>⟨_,_,PySem.F.plainAttrs_list,PySem.F.slot_list_clear,PySem.F.type_list_clear,VB,V_⟩
def vq:xw K "list" "remove" FX:=λX h=>⟨_,_,PySem.F.plainAttrs_list,PySem.F.slot_list_remove,PySem.F.type_list_remove,UK,UT⟩
def Ee:xw K "dict" "pop" iu:=λX h=>⟨_,_,PySem.F.plainAttrs_dict,PySem.F.slot_dict_pop,PySem.F.type_dict_pop,Yd K,Yt⟩
def xU(k:xw K T m o')(ho:PE X o (tE K W q f))(ha:PA X (e::es) (ic K W q fs))(hK:X.K=K)
  (cK:attributeBase o m X.env (eval o X.env)=eval o X.env)
  (sd:((backTo bV (starEach (e::es) X.env)).all (λx => !x.1)&&(backToKw bV (keywordEach [] X.env)).all (λx=>x.1.isSome) && decide ((e::es).length+([]:List Keyword).length+(if([]:List Keyword).isEmpty then 0 else 1)<30))=true)
  (cL:(apos.endLine == bV.line)=true) (hs:starEach (e::es) X.env=(false,eval e X.env)::starEach es X.env) (ku:(backTo bV (starEach es X.env)).any (·.1)=false):PE X (.Call (.Attribute o m apos) (e::es) [] bV) (tE K W q (dR q T o' f fs)):=by
 subst hK;obtain⟨id,r,h1,h2,h3,h4,h5⟩:=k X rfl;exact(Rg h1 h2 h3 h4 ho ha cK sd cL hs ku).mono λ_ _ _ t=>QI h5 t
def xU0(k:xw K T m o')(ho:PE X o (tE K W q f))(hK:X.K=K)(cK:attributeBase o m X.env (eval o X.env)=eval o X.env)(cL:(apos.endLine == bV.line)=true):PE X (.Call (.Attribute o m apos) [] [] bV) (tE K W q (dR q T o' f gN)):=by
 subst hK;obtain⟨id,r,h1,h2,h3,h4,h5⟩:=k X rfl;exact(ξ h1 h2 h3 h4 ho cK cL).mono λ_ _ _ t=>Ys h5 t
def xf{atr:List (ah×Str)}(ha:jY K atr)(he:PE X e (tE K W q f))(hb:attributeBase e m X.env (eval e X.env)=eval e X.env)(hK:X.K=K):PE X (.Attribute e m pos) (tE K W q (bf atr m f)):=e4i ha he hb hK
end
structure MethAt (K:fU) (C:ah) (m qual:Str) (st:Stmt) (f:ah) (fd:lq) (ps:List Str):Prop where
 fn:rb K m qual st f fd
 mt:Meth K C m f
 bd:Binds K fd ps []
section
variable{X:Cx}{K:fU}{W:XW}{q k n:Nat}{e o:Expr}{es:List Expr}{f:GE}{fs:GA}{m:GM}{pos p apos:Pos}{x y z:Str}{st:Stmt}{fa C:ah}{fd:lq}{ps:List Str}
def xC(D:qL K X.mg x st fa fd ps)(F:dC X.prog X.w X.K X.mg X.base (lu X.prog X.w) k fa fd ps (qv K q n m))(ha:PA X (e::es) (ic K W q fs))(hr:cA k X.A)(hm:gh m n)(hp:fO X W)(hK:X.K=K)(hg:Gl X x)(jm:(x == ("__debug__":Str))=false)
  (he:starEach (e::es) X.env=(false,eval e X.env)::starEach es X.env) (jR:(backTo pos (starEach es X.env)).any (·.1)=false):PE X (.Call (.Name x p) (e::es) [] pos) (tE K W q (ao m fs)):=by
 subst hK;exact(Xp F hr hg D.mg D.fn.kp D.bd .nil (nB hp) ha jm he jR).mono λ_ _ _ t=>Pg hm t
def xC0(D:qL K X.mg x st fa fd ps)(F:dC X.prog X.w X.K X.mg X.base (lu X.prog X.w) k fa fd ps (qv K q n m))(hr:cA k X.A)(hm:gh m n)(hp:fO X W)(hK:X.K=K)(hg:Gl X x)(jm:(x == ("__debug__":Str))=false):PE X (.Call (.Name x p) [] [] pos) (tE K W q (ao m gN)):=by
 subst hK;exact(Vu F hr hg D.mg D.fn.kp D.bd .nil (nB hp) jm).mono λ_ _ _ t=>vK (Pg hm t)
def xN(M:Mk K C fa)(hx:X.mg x=some (.ref C))(D:MethAt K C y z st fa fd ps)(F:dC X.prog X.w X.K X.mg X.base (lu X.prog X.w) k fa fd ps (qv K q n m))(ha:PA X (e::es) (ic K W q fs))(hr:cA (k+1) X.A)(hm:gh m n)(hp:fO X W)(hK:X.K=K)(hg:Gl X x)(jm:(x == ("__debug__":Str))=false)
  (he:starEach (e::es) X.env=(false,eval e X.env)::starEach es X.env) (jR:(backTo pos (starEach es X.env)).any (·.1)=false):PE X (.Call (.Name x p) (e::es) [] pos) (tE K W q (rW C m fs)):=by
 subst hK;exact(Xr M F hr hg hx D.bd .nil (nB hp) ha jm he jR).mono λ_ _ _ t=>XH hm t
end
section
variable{X:Cx}{K:fU}{W:XW}{q k n:Nat}{e o:Expr}{es:List Expr}{f:GE}{fs:GA}{m:GM}{pos p apos:Pos}{x y:Str}{st:Stmt}{fa C:ah}{fd:lq}{ps:List Str}{pl:Sem Bool}
def xH(c:Cls K C)(D:MethAt K C x y st fa fd ps)(F:dC X.prog X.w X.K X.mg X.base (lu X.prog X.w) k fa fd ps (qv K q n m))(ho:PE X o (tE K W q f))(ha:PA X (e::es) (ic K W q fs))(hr:cA k X.A)(hm:gh m n)(hp:fO X W)(hK:X.K=K)
  (mi:starEach (e::es) X.env=(false,eval e X.env)::starEach es X.env) (jR:(backTo pos (starEach es X.env)).any (·.1)=false)
  (ht:eval (.Call (.Attribute o x apos) (e::es) [] pos) X.env=(do
   let ov <-eval o X.env
   standAt apos.atName
   let (f,first) <-holding [ov] (getMethod ov x pl)
   callWith pos f first (backTo pos (starEach (e::es) X.env)) (backToKw pos (keywordEach [] X.env)))):PE X (.Call (.Attribute o x apos) (e::es) [] pos) (tE K W q (a_ C x m f fs)):=by
 subst hK;exact(Xq ho c D.mt F hr D.bd .nil (nB hp) ha mi jR ht).mono λ_ _ _ t=>Ph hm t
def xH0(c:Cls K C)(D:MethAt K C x y st fa fd ps)(F:dC X.prog X.w X.K X.mg X.base (lu X.prog X.w) k fa fd ps (qv K q n m))(ho:PE X o (tE K W q f))(hr:cA k X.A)(hm:gh m n)(hp:fO X W)(hK:X.K=K)
  (ht:eval (.Call (.Attribute o x apos) [] [] pos) X.env=(do
   let ov <-eval o X.env
   standAt apos.atName
   let (f,first) <-holding [ov] (getMethod ov x pl)
   callWith pos f first (backTo pos (starEach [] X.env)) (backToKw pos (keywordEach [] X.env)))):PE X (.Call (.Attribute o x apos) [] [] pos) (tE K W q (a_ C x m f gN)):=by
 subst hK;refine(Vv ho c D.mt F hr D.bd .nil (nB hp) ht).mono λZ H Q t=>?_
 refine nO (Ph hm t) λz H1 h=>?_
 obtain⟨a,dx,fs,h1,h2,h3,h4⟩:=h;exact⟨a,dx,fs,h1,h2,h3,vK h4⟩
end
section
variable{X:Cx}{K:fU}{W:XW}{q:Nat}{a b c e o l tg:Expr}{es:List Expr}{f g:GE}{fz:Bool}{pos p apos bV:Pos}
def xLV(KG:X.mg "list"=none)(ho:PE X o (tE K W q f))(hc:X.calm=true)(C1:Gl X "list")(hs:starEach [.Call (.Attribute o "values" apos) [] [] bV] X.env=[(false,eval (.Call (.Attribute o "values" apos) [] [] bV) X.env)])
  (cK:attributeBase o "values" X.env (eval o X.env)=eval o X.env) (cL:(apos.endLine == bV.line)=true):PE X (.Call (.Name "list" p) [.Call (.Attribute o "values" apos) [] [] bV] [] pos) (tE K W q (gO (o1 pG) (bc f))):=(VU C1 KG ho hc hs cK cL).mono λZ H Q t=>J7 (nO (uA Yo t) λxs H1 h=>by
 obtain⟨d,es,ep,rfl,h⟩:=h;exact⟨_,rfl,d,es,ep,rfl,h⟩)
def pgn(i:Nat){x:Str}(hN:AW X.N=true)(hi:X.N[i]?=some x)(hx:Loc X.env.scope x)(hf:X.fn x=true\/X.env.scope.names.lookup x=some .local):PG X (.Name x pos) (o5 i):=Xf (Gf hN) hi hx hf
def pgt{k:Nat}{t:tJ}{n:Nat}(h:Bp X es t)(hn:(assignEach es X.env).length=n)(mi:(assignEach es X.env).findIdx? (·.1)=none)(hc:X.calm=true)(hK:X.K=K):PG X (.Tuple es k pos) (yH K n t):=hK ▸ Z8 hc h hn mi
def tI(X:Cx)(K:fU)(W:XW)(q:Nat)(tg iter:Expr)(src:lX):Prop:=∃wi,PI X tg iter wi/\∀Z H R,tX (RI K q) K W q src Z H R->wi Z H R
def sA(he:PE X l (tE K W q g))(hK:X.K=K):tI X K W q tg l (ba fz et g):=⟨_,e3g he,λ_ _ _ t=>by rw[hK];exact e3h t⟩
def LI(hm:X.mg "reversed"=none)(he:PE X l (tE K W q g))(hK:X.K=K)(hg:Gl X "reversed")(hs:starEach [l] X.env=[(false,eval l X.env)]):tI X K W q tg (.Call (.Name "reversed" p) [l] [] pos) (ba fz zE g):=⟨_,e3b hg hm (FL he my (by rw[hs,starEach])) hs,λ_ _ _ t=>by rw[hK];exact XT t⟩
def sEn{elts:List Expr}{x1:Nat}{fY:Pos}(hm:X.mg "enumerate"=none)(he:PE X l (tE K W q g))(hK:X.K=K)(hg:Gl X "enumerate")(hs:starEach [l] X.env=[(false,eval l X.env)]):tI X K W q (.Tuple elts x1 fY) (.Call (.Name "enumerate" p) [l] [] pos) (ba fz J9 g):=⟨_,XN hg hm (FL he my (by rw[hs,starEach])) hs,λ_ _ _ t=>by rw[hK];exact e3i t⟩
def sV(ho:PE X o (tE K W q g))(cK:attributeBase o "values" X.env (eval o X.env)=eval o X.env)(cL:(apos.endLine == bV.line)=true):tI X K W q tg (.Call (.Attribute o "values" apos) [] [] bV) (ba fz Ei g):=⟨_,Yi ho cK cL,λ_ _ _ t=>Yj t⟩
def sI{elts:List Expr}{x1:Nat}{fY:Pos}(ho:PE X o (tE K W q g))(cK:attributeBase o "items" X.env (eval o X.env)=eval o X.env)(cL:(apos.endLine == bV.line)=true):tI X K W q (.Tuple elts x1 fY) (.Call (.Attribute o "items" apos) [] [] bV) (ba fz uR g):=⟨_,VW ho cK cL,λ_ _ _ t=>Yk t⟩
def sR1{fs:GA}(hm:X.mg "range"=none)(ha:PA X [a] (ic K W q fs))(hg:Gl X "range")(hs:starEach [a] X.env=[(false,eval a X.env)]):tI X K W q tg (.Call (.Name "range" p) [a] [] pos) (iX k7 fs):=⟨_,T7 hg hm ha hs,λ_ _ _ t=>XU t⟩
def sRT{fs:GA}(hm:X.mg "range"=none)(ha:PA X [a,b,c] (ic K W q fs))(hg:Gl X "range")(hs:starEach [a,b,c] X.env=[(false,eval a X.env),(false,eval b X.env),(false,eval c X.env)])(yU:starEach [b,c] X.env=[(false,eval b X.env),(false,eval c X.env)]):tI X K W q tg (.Call (.Name "range" p) [a,b,c] [] pos) (iX zF fs):=⟨_,Ux hg hm ha hs yU,λ_ _ _ t=>XX t⟩
def yn:rj X [] (tT K W0 q (fq true)):=λaa s Z H Q I t=>Xx aa s Z H Q I (by
 obtain⟨k,U,S,res,ok,gk,e,w⟩:=t;cases e;exact w.now ok rfl)
def y1{ft:GT}(h:PT X c (tT K W0 q ft)):rj X [c] (tT K W0 q ft):=Xy h
end
variable{x g:Str}{atr:List (ah×Str)}{mg:Str->ai aj}{tab:List (Str×ah)}{B0 C:ah}
section
variable{X:Cx}{K:fU}{W:XW}{q:Nat}{tg iter elt:Expr}{ifs:List Expr}{scope:Scope}{t:TG}{gg:GG}{tt:Nat->GT}{te:Nat->GE}{src:lX}{pos:Pos}{M:List Str}{n:Nat}{dD:List Nat}
def Az(h:gM scope.names X.env.scope.names X.N M n dD=true)(hk:scope.kind=.function):eJ X scope M n dD:=.of _ _ h rfl rfl hk
def xL(M:List Str)(s:tI X K W q tg iter src)(ht:ka K t gg)(hg:∀C s H fp,PG (fW X scope M C s H fp) tg t)(hT:∀m C s H fp,rj (fW X scope M C s H fp) ifs (tT K W0 m (tt m)))(hE:∀m C s H fp,PE (fW X scope M C s H fp) elt (tE K W0 m (te m)))
  (ok:gM scope.names X.env.scope.names X.N M n dD=true) (hk:scope.kind=.function) (hc:X.calm=true) (hs:∀x,foldedSetIterable iter X.env x=pure x):PE X (.ListComp elt [⟨tg,iter,ifs,0⟩] scope pos) (tE K W q (bQ q src gg tt te n dD)):=by
 obtain⟨wi,h1,h2⟩:=s;exact XZ hc (Az ok hk) h1 h2 ht hg hT hE hs
def wL{mu:Bool}{i:Nat}{px nH:Pos}(M:List Str)(s:tI X K W q tg iter src)(ht:ka K t gg)(hg:∀C s H fp,PG (fW X scope M C s H fp) tg t)(hT:∀m C s H fp,rj (fW X scope M C s H fp) ifs (tT K W0 m (tt m)))(hE:∀m C s H fp,PE (fW X scope M C s H fp) elt (tE K W0 m (te m)))
  (ok:gM scope.names X.env.scope.names X.N M n dD=true) (hN:AW X.N=true) (hk:scope.kind=.function) (yO:X.N[i]?=some x) (hx:Loc X.env.scope x) (hc:X.calm=true) (C_:swapsWith (.ListComp elt [⟨tg,iter,ifs,0⟩] scope pos) (some (.Name x px)) nH.line X.env=pure true) (hs:∀x,foldedSetIterable iter X.env x=pure x) (hf:X.fn x=true\/X.env.scope.names.lookup x=some .local) :
  PS X (.Assign [.Name x px] (.ListComp elt [⟨tg,iter,ifs,0⟩] scope pos) nH) (tS K W q (ar i mu (bQ q src gg tt te n dD))):=by
 obtain⟨wi,h1,h2⟩:=s;exact X0 hc (Az ok hk) (Gf hN) yO hx h1 h2 ht hg hT hE C_ hs hf
end
section
variable{X:Cx}{K:fU}{W:XW}{q:Nat}{tg iter e o i value:Expr}{body:List Stmt}{t:TG}{gg:GG}{src:lX}{pos pos' fY:Pos}{f fv fo fi fe:GE}{x:Str}
def wF{fb:Nat->GS}(s:tI X K W q tg iter src)(ht:ka K t gg)(hg:PG X tg t)(hb:∀n,jl X body (tS K W n (fb n)))(hp:PassesOwn (model X.prog X.w) X.A X.env X.xe)(hc:X.calm=true)(hs:∀x,foldedSetIterable iter X.env x=pure x):PS X (.For tg iter body [] pos) (tS K W q (bG q src gg fb)):=by
 obtain⟨wi,h1,h2⟩:=s;exact e3j hp hc h1 h2 hg ht hb hs
def wS{mu:Bool}{i:Nat}(he:PE X e (tE K W q f))(hN:AW X.N=true)(hi:X.N[i]?=some x)(hx:Loc X.env.scope x)(hs:swapsWith e (some (.Name x pos')) pos.line X.env=pure false)(hf:X.fn x=true\/X.env.scope.names.lookup x=some .local):PS X (.Assign [.Name x pos'] e pos) (tS K W q (ar i mu f)):=ω (Gf hN) hi hx he hs hf
def wE(he:PE X e (tE K W q f))(hs:swapsWith e none pos.line X.env=pure false):PS X (.Expr e pos) (tS K W q (cY f)):=XI he hs
def wP(he:PE X e (tE K W q fv))(ho:PE X o (tE K W q fo))(hi:PE X i (tE K W q fi))(hu:X.A.units+41<cLine)(hK:X.K=K)
  (ha:∀v,assign (.Subscript o i pos') X.env v=(do
   let ov <-holding [v] (eval o X.env)
   let iv <-holding [v,ov] (eval i X.env)
   standAt pos'
   holding [v,ov,iv] (setItem ov iv v)
   release [v,ov,iv] []))
  (hs:swapsWithSole [.Subscript o i pos'] e pos.line X.env=pure false) (hw:swappedStores [.Subscript o i pos'] e X.env=pure none)
  (h1:(assignEach [.Subscript o i pos'] X.env).map (·.2)=[assign (.Subscript o i pos') X.env]):PS X (.Assign [.Subscript o i pos'] e pos) (tS K W q (bO q fv fo fi)):=e4f he ho hi hu hK ha hs hw h1
def wA(ha:jY K atr)(ho:PE X o (tE K W q fo))(hv:PE X value (tE K W q fv))(hs:swapsWith value (some (.Attribute o g pos')) pos.line X.env=pure false)(hK:X.K=K):PS X (.Assign [.Attribute o g pos'] value pos) (tS K W q (fQ q atr g fv fo)):=e4j ha ho hv hs hK
def wAI(ha:jY K atr)(ho:PE X o (tE K W q fo))(hv:PE X value (tE K W q fe))(hK:X.K=K):PS X (.AugAssign (.Attribute o g fY) .Add value pos) (tS K W q (Jy q (λi j=>i+j) atr g fo fe)):=Yz (λaa s Z H x y v u Q I r1 r2 h=>ζ aa s Z H x y v u Q I r1 r2 (by
 obtain⟨i,j,rfl,rfl,h⟩:=h;exact⟨i,j,rfl,rfl,h⟩)) ha ho hv hK
def wAD{op:Operator}{h:Int->Int->Int}(yT:∀X:Cx,EH X op (K0 h))(ho:PE X o (tE K W q fo))(hi:PE X i (tE K W q fi))(hv:PE X value (tE K W q fe))(hu:X.A.units+41<cLine)(hK:X.K=K)
  (ha:∀ov iv new,augStore i ov iv new=(do holding [new,ov,iv] (setItem ov iv new);release [new,ov,iv] [];pure .next)):PS X (.AugAssign (.Subscript o i fY) op value pos) (tS K W q (Jz q h fo fi fe)):=YA (yT X) ho hi hv hu hK ha
structure pK (K:fU) (mg:Str->ai aj) (tab:List (Str×ah)) (B0:ah):Prop where
 all:∀p∈tab,mg p.1=some (.ref p.2)/\f_ K p.2 (.ref B0::qc) none/\keepIn K (.ref p.2)=true
 G0:f_ K B0 qc none
 mg0:mg "CarryError"=some (.ref B0)
def pK.ix(E:pK K mg tab B0){i:Nat}{n:Str}(h:tab[i]?=some (n,C)):mg n=some (.ref C)/\f_ K C (.ref B0::qc) none/\keepIn K (.ref C)=true:=E.all (n,C) (tf h)
def wX{p cp:Pos}(j:Nat)(E:pK K X.mg tab B0)(he:PE X e (tE K W q fe))(hp:fO X W)(hj:tab[j]?=some (x,C))(hc:X.calm=true)(hg:Gl X x)(jm:(x == ("__debug__":Str))=false)
  (mi:starEach [e] X.env=(false,eval e X.env)::starEach [] X.env) (hK:X.K=K):PS X (.Raise (some (.Call (.Name x p) [e] [] cp)) none pos) (tS K W q (nP C fe)):=by
 obtain⟨h1,h2,h4⟩:=E.ix hj;exact VR h2 E.G0 h4 h1 hp he hc hg jm mi hK
end
def YB{P:dB}{w:cI}{K:fU}{base:b_}{k:Nat}{f:ah}{fd:lq}{m:GM}(F:dC P w K mg base (lu P w) k f fd [x] (qv K 0 1 m)){n:Nat}(h:∀ns:List Int,ns.length<=n->∃S,m [.d (.lst (ns.map D.int))] ⟨[],[]⟩=some (.ok (.v (.d (.bl true))) S)):
  dC P w K mg base (lu P w) k f fd [x] (λvs H Q _=>∃(a:ah) (ns:List Int),vs=[.ref a]/\dr K H a (ns.map V.int)/\ns.length<=n/\∀H',Q (.bl true) H'):=⟨λvs H Q E h=>by obtain⟨a,ns,rfl,_⟩:=h;rfl,λA outer s H args us vs Q E hr e0 hb r hq=>by
 obtain⟨a,ns,rfl,hs,hl,q⟩:=hq;obtain⟨S,e⟩:=h ns hl;refine F.run A outer s H args us [.ref a] Q E hr e0 hb r ⟨rfl,⟨H,[],[]⟩,[.d (.lst (ns.map D.int))],⟨[],[]⟩,_,⟨aB.refl _,.nil,⟨rfl,λ_ _ _ z=>nomatch z⟩,⟨rfl,λ_ _ _ z=>nomatch z⟩⟩,.cons (show ag K ⟨H,[],[]⟩ [.ref a] [.lst (ns.map D.int)] from .lst hs ?_ .nil) .nil,e,λv k' H' u ok r'=>?_⟩
 .exact VJ ns
 .cases(show ag K k' [v] [.bl true] from r').aP rfl;exact q H'⟩
def CL{N P:List Str}{sc:Scope}(h1:sc.kind=.function:=by rfl)(h2:sc.isCoroutine=false:=by rfl)(h3:sc.isGenerator=false:=by rfl)(h4:N.Nodup:=by decide +kernel)(h5:N.take P.length=P:=by rfl)(h6:∀x∈P,sc.names.lookup x=some .local \/ sc.names.lookup x=some .cell:=by decide +kernel)(h7:∀y∈sc.names,y.2≠.free:=by decide +kernel):gL N P sc:=⟨h1,h2,h3,h4,h5,h6,h7⟩
def PN{A:PySem.Around}{k:Nat}(hr:cA k A):A.units+41<PySem.cLine:=Mn (Nat.add_le_add_left (by decide:41<=64) _) hr.units
section
variable{X:Cx}{K:fU}{W:XW}{q:Nat}{pos:Pos}{x:Str}
def xk{z:Str}(hm:∃t,X.mg x=some (.str z t))(hg:Gl X x)(hd:(x == ("__debug__":Str))=false):PE X (.Name x pos) (tE K W q (gC (.str z))):=yu (v:=.str z) (by
 intro aa s Z H Q I h;obtain⟨t,hm⟩:=hm;exact xW I hg hm ⟨.str z,H,I,⟨t,rfl⟩,h⟩ hd)
def xki{n:Int}(hm:∃t,X.mg x=some (.int n t))(hg:Gl X x)(hd:(x == ("__debug__":Str))=false):PE X (.Name x pos) (tE K W q (gC (.int n))):=yu (v:=.int n) (by
 intro aa s Z H Q I h;obtain⟨t,hm⟩:=hm;exact xW I hg hm ⟨.int n,H,I,⟨t,rfl⟩,h⟩ hd)
end
abbrev bB:=o2 x_
abbrev qb:=o2 (eL ua λi j=>.int (i - j))
abbrev jH:=o2 uX
abbrev rL:=o2 (eL (λ_ j=>decide (0<j/\j<1073741824)) λi j=>.int (i / j))
abbrev ia:=o2 (eL (λ_ j=>decide (0<j)) λi j=>.int (i%j))
abbrev Cr:=o2 (eL (λi j=>decide (0<=j/\j<=1000000/\i.natAbs<2^64)) λi j=>.int (i^j.toNat))
abbrev dF:=o2 (Gy false)
abbrev iLt:Int->Int->Bool:=λi j=>decide (i<j)
abbrev KW:Int->Int->Bool:=λi j=>decide (i<=j)
abbrev iGt:Int->Int->Bool:=λi j=>decide (j<i)
abbrev Dd:Int->Int->Int:=λi j=>i+j
abbrev pz:=o2 (eL ua λi j=>.bl (iLt i j))
abbrev qLe:=o2 (eL ua λi j=>.bl (KW i j))
abbrev Sm:=o2 (eL ua λi j=>.bl (iGt i j))
abbrev iL:=o2 (AN false)
abbrev gF:=o2 (AN true)
abbrev A0:=o2 (AQ false)
abbrev zx:=o2 (AQ true)
noncomputable abbrev zw:List Bool->Bool:=λbs=>bs.all id
noncomputable def QM(e:DictEntry):Bool:=match e.key with|.str _ _=>true|_=>false
def errC_mk{K:fU}{bm:List aj}{G3:ai aj}{nm q:Str}{N:ah}{bs:List aj}{sn:List Str}{sub:List aj}{ab:Bool}{col:ai Bool}{dd:ai ah}{k0 k1 k2 k3 k5:ai aj}{on:aj}{AY:ai ah}{es:Array DictEntry}{ep:Nat}{A1:Array (ai aj)}
  (l:K.lookup C=some (excClassObj nm q C N bs bm true sn sub ab col dd k0 k1 k2 k3 k5 "ValueError.__new__")) (d:K.lookup N=some ⟨on,AY,.dict es ep,A1⟩) (s:es.toList.all QM=true) (i:nsFind es "__init__"=G3):f_ K C bm G3:=by
 refine⟨_,_,_,_,_,_,_,_,_,_,_,_,_,_,_,_,_,_,_,l,d,λe he=>?_,i⟩
 have:=jX.1 s e (Mj.2 he);unfold QM at this;split at this
 .exact⟨_,_,by assumption⟩
 .cases this
instance instGE (n:Nat):OfNat GE n:=⟨rX n⟩
abbrev gI(n:Int):GE:=gC (.int n)
abbrev gX(a b:GE):GE:=gO (o2 G6) (bR a b)
abbrev bI(o:List D->ai Rv)(a b:GE):GE:=gO o (bR a b)
abbrev dU(a b c:GE):GA:=m_ a (bR b c)
abbrev jy(a b c d:GE):GA:=m_ a (dU b c d)
abbrev bU(a:GS):GS:=fm a gu
abbrev f7(a b:GS):GS:=fm a (bU b)
abbrev l9(a b c:GS):GS:=fm a (f7 b c)
abbrev oE(a b c d:GS):GS:=fm a (l9 b c d)
abbrev nU(a b c d e:GS):GS:=fm a (oE b c d e)
instance instGG (n:Nat):OfNat GG n:=⟨ae n⟩
abbrev cy(f:GT)(g:GS):GS:=cU f (bU g) gu
abbrev gQ(o:List D->ai Rv)(a b:GE):GT:=gB (bI o a b)
noncomputable def aR(p n:Nat)(m:Nat->GS)(q:Nat):GM:=runM p n (m q)
end L2
namespace L2
open PySem Lean Meta
variable{s:List Cell}{z:List D}
def rQ(e:Lean.Expr)(i:Nat)(k:Lean.Expr->ai (Lean.Expr×Bool)):SimpM Simp.Step:=do
 let a:=e.getAppArgs
 let r0 <-Simp.simp a[i]!
 let x:=(<-instantiateMVars r0.expr).cleanupAnnotations.headBeta
 let pr <-match r0.proof? with
  |none=>pure none
  |some p=>pure (some (<-mkCongrArg (.lam `z (<-inferType a[i]!) (mkAppN e.getAppFn (a.set! i (.bvar 0))) .default) p))
 match k x with
 |some (y,true)=>return .visit { expr:=y.headBeta,proof?:=pr}
 |some (y,false)=>return .done { expr:=y.headBeta,proof?:=pr}
 |none=>return .done { expr:=mkAppN e.getAppFn (a.set! i x),proof?:=pr}
def isOk(x:Lean.Expr):ai (Lean.Expr×Lean.Expr):=if x.isAppOfArity ``Option.some 2&&x.appArg!.isAppOfArity ``Rs.ok 3 then some (x.appArg!.appFn!.appArg!,x.appArg!.appArg!) else none
def CK(n:Name):Bool:=(n.getRoot == `L2 && !(#[``d_,``findS,``dY,``iB,``kx,``iU,``cM,``aT.cut,``aO,``ec,``bS,``iF,``ky,``dP,``lG,``gG,``mE,``eU,``i6,``aN,``aZ,``dw,``bd,``kY,``tP,``jq,``Cell.K2,``runM].contains n)) || (n.getRoot == `List&&n != ``List.toArray) || n.getRoot == `Option || n.getRoot == `Prod || n.getRoot == `GetElem? || n.getRoot == `OfNat || n.getRoot == `Nat || n.getRoot == `BEq || n == ``ite || n == ``dite || n.getRoot == `Bool || n.getRoot == `Decidable || n == ``and || n == ``or || n == ``not || n.getRoot == `id || n.getRoot == `HAppend || n.getRoot == `Append || n.getRoot == `instHAppendOfAppend
def e4k(e:Lean.Expr):MetaM Lean.Expr:=withCanUnfoldPred (λ_ c=>return CK c.name || c.name.isInternal || (<-isInstance c.name) || (<-isMatcher c.name)) (withDefault (whnf e))
def QN(e:Lean.Expr):MetaM Bool:=do
 if e.isFVar || e.isLit then return true
 let .const n _:=e.getAppFn|return false
 if n == ``OfNat.ofNat then return true
 if n == ``Nat.succ then return false
 return (<-getEnv).isConstructor n
simproc_decl ev (_):=λe=>do
 let .const n ls:=e.getAppFn|return .continue
 let a:=e.getAppArgs
 if n == ``OfNat.ofNat&&a.size>=3&&(a[2]!.isAppOf ``instGG || a[2]!.isAppOf ``instGE) then return .visit { expr:=mkAppN (mkApp (mkConst (if a[2]!.isAppOf ``instGG then ``ae else ``rX)) a[1]!) (a.extract 3 a.size)}
 if n == ``Option.bind&&a.size == 4 then
  return <-rQ e 2 λx=>if x.isAppOfArity ``Option.some 2 then some (mkApp a[3]! x.appArg!,true) else if x.isAppOfArity ``Option.none 1 then some (mkApp (.const ``Option.none (ls.drop 1)) a[1]!,false) else none
 if n == ``Option.map&&a.size == 4 then
  return <-rQ e 3 λx=>if x.isAppOfArity ``Option.some 2 then some (mkApp2 (.const ``Option.some (ls.drop 1)) a[1]! (mkApp a[2]! x.appArg!).headBeta,true) else if x.isAppOfArity ``Option.none 1 then some (mkApp (.const ``Option.none (ls.drop 1)) a[1]!,false) else none
 if(n == ``bd || n == ``tP || n == ``kY)&&a.size == 4 then
  return <-rQ e 2 λx=>match isOk x with
   |some (v,S)=>some (mkApp2 a[3]! v S,true)
   |none=>if n != ``tP&&x.isAppOfArity ``Option.some 2&&x.appArg!.isAppOfArity ``Rs.ex 4 then
     let b:=x.appArg!.getAppArgs
     if n == ``kY then some (mkApp2 (.const ``Option.some [0]) (.const ``Fr []) (mkApp4 (.const ``Fr.ex []) b[1]! b[2]! a[1]! b[3]!),true) else some (mkApp2 (.const ``Option.some [0]) (mkApp (.const ``Rs []) a[1]!) (mkApp4 (.const ``Rs.ex []) a[1]! b[1]! b[2]! b[3]!),true)
    else none
 if n == ``ite then return <-reduceIte e
 if n == ``List.length&&a.size == 2 then
  let some (_,vs):=a[1]!.listLit?|return .continue
  return .done { expr:=mkNatLit vs.length}
 if n == ``runM&&a.size == 5 then
  let some (_,vs):=a[3]!.listLit?|return .continue
  let (some p,some k):=(a[0]!.nat?,a[1]!.nat?)|return .continue
  unless vs.length == p do return .continue
  let V:=mkConst ``Val
  let G <-mkListLit (mkApp (.const ``Option [0]) V) (vs.map (λv=>mkApp2 (.const ``Option.some [0]) V v)++List.replicate (k - p) (mkApp (.const ``Option.none [0]) V))
  let f <-mkAppM ``leave #[<-mkAppM ``List.length #[<-mkAppM ``aT.s #[a[4]!]]]
  return .visit { expr:=<-mkAppM ``Option.bind #[(mkApp2 a[2]! G a[4]!).headBeta,f]}
 if n.getRoot == `Nat || n.getRoot == `OfNat || n.getRoot == `BEq || n.getRoot == `Decidable || n == ``dite then return .continue
 unless CK n || n == ``getElem? || n == ``HAppend.hAppend do return .continue
 if <-isMatcher n then return .continue
 if(<-getEnv).isConstructor n then return .continue
 if n.getRoot == `L2&&(<-isReducible n) then
  let some e' <-withDefault (unfoldDefinition? e)|return .continue
  return .visit { expr:=e'.headBeta}
 let t <-whnfR (<-inferType e)
 if t.isAppOfArity ``Option 1&&n.getRoot == `L2 then
  let some e' <-withDefault (unfoldDefinition? e)|return .continue
  let e' <-whnfCore e'
  if(<-isMatcherApp e') then return .continue
  return .visit { expr:=e'}
 if t.isForall then return .continue
 let e' <-e4k e
 if e' != e&&(<-QN e') then return .visit { expr:=e'}
 return .continue
def J':List Simp.DSimproc:=[Nat.reduceAdd,Nat.reduceSub,Nat.reduceMul,Nat.reduceDiv,Nat.reduceMod,Int.reduceAdd,Int.reduceSub,Int.reduceMul,Int.reduceDiv,Int.reduceMod,Int.reduceNeg,Int.reduceToNat,Int.reduceBEq,Nat.reduceBEq]
def Ka:List Simp.Simproc:=[reduceCtorEq,Nat.reduceLT,Nat.reduceLeDiff,Nat.reduceEqDiff,Int.reduceLT,Int.reduceLE,Int.reduceEq]
def evK(e:Lean.Expr):MetaM (ai Lean.Expr):=do
 let .const n _:=e.getAppFn|return none
 let a:=e.getAppArgs
 unless (n == ``BEq.beq&&a.size == 4&&a[2]!.isAppOf ``Str.ofString&&a[3]!.isAppOf ``Str.ofString) || (n == ``Cell.K2&&a.size == 3) || (n == ``List.contains&&a.size == 4 && !a[3]!.hasFVar) || (n == ``List.lookup&&a.size == 5&&a[3]!.isAppOf ``Str.ofString) do return none
 match Kernel.whnf (<-getEnv) (<-getLCtx) e with
 |.ok r=>if(<-QN r)&&r != e then return some r else return none
 |_=>return none
simproc_decl aF (_):=λe=>do
 if let some r <-evK e then return .done { expr:=r,proof?:=some (<-mkExpectedTypeHint (<-mkEqRefl r) (<-mkEq e r))}
 for p in J' do
  match <-p e with
  |.done x=>return .done { expr:=x}
  |.visit x=>return .visit { expr:=x}
  |.continue (some x)=>return .continue (some { expr:=x})
  |_=>pure ()
 for p in Ka do
  match <-p e with
  |.continue none=>pure ()
  |r=>return r
 return .continue
section
variable{α:Type}{l L M:List α}{c:α}{j:Nat}{S:aT}{r L':List Cell}
def f6:S.cut S.s.length=S:=by unfold aT.cut;rw[List.take_length]
def tQ:aT.cut ⟨s++L',r⟩ s.length=⟨s,r⟩:=by unfold aT.cut;rw[List.take_left]
def bL:aT.cut ⟨s,r⟩ s.length=⟨s,r⟩:=by unfold aT.cut;rw[List.take_length]
def fG:(l++L)[l.length]?=L[0]?:=by rw[ub (cv _),Mm]
def FF:(l++L)[l.length+j]?=L[j]?:=by rw[ub (Ho _ _),Nat.add_sub_cancel_left]
def kF:(l++L).set l.length c=l++L.set 0 c:=by rw[List.set_append_right _ _ (cv _),Mm]
def LJ:(l++L).set (l.length+j) c=l++L.set j c:=by rw[List.set_append_right _ _ (Ho _ _),Nat.add_sub_cancel_left]
def Ds:(l++L).length=l.length+L.length:=dZ
def yb:(l++L)++M=l++(L++M):=kP _ _ _
def y8:(l.length<l.length)=False:=eq_false (jV _)
def lt2:(l.length+j<l.length)=False:=eq_false (by lia)
def eV{a b:Int}:ec (.int a) (.int b)=(a == b):=rfl
def dm{a b:Str}:ec (.str a) (.str b)=(a == b):=rfl
def AO{z:Str}:cM (.str z) (.ty "str")=some (rd (.bl true)):=rfl
def Dk:cM (.tup z) (.ty "tuple")=some (rd (.bl true)):=rfl
def K1{z:Str}:cM (.str z) (.ty "tuple")=some (rd (.bl false)):=rfl
def R7:cM (.lst z) (.ty "list")=some (rd (.bl true)):=rfl
def G4:cM (.tup z) (.ty "str")=some (rd (.bl false)):=rfl
def Qi{n:Nat}{x:Cell}:aT.cut ⟨s.set n x,r⟩ s.length=⟨s.set n x,r⟩:=by
 unfold aT.cut;dsimp only;rw[Ez (by rw[w6];exact cv _)]
def bA{a:α}:d_ (a::l) 0=some a:=tL (j:=0) rfl
def bX{a b:α}:d_ (a::b::l) 1=some b:=tL (j:=1) rfl
def eP{a b c:α}:d_ (a::b::c::l) 2=some c:=tL (j:=2) rfl
def ow{a b c d:α}:d_ (a::b::c::d::l) 3=some d:=tL (j:=3) rfl
end
end L2
namespace L2
open PySem
section
variable{α:Type}{gg:GG}{tt:GT}{te:GE}{S:aT}{f:α->D}{U cs:Gm}{a:ai Val}
theorem Gg(h:α->ai D)(G:Gm->Prop):∀(xs:List α) (U:Gm) (aU:List D),G U->aU.length+xs.length<=1000000->(∀x∈xs,∀U,G U->∃U',gg (f x) U=some U'/\G U'/\((h x=none/\tt U' S=some (.ok false S))\/∃r d,h x=some d/\tt U' S=some (.ok true S)/\te U' S=some (.ok r S)/\mI r=.d d))->
  aZ gg tt te (xs.map f) U S aU=some (.ok (aU++xs.filterMap h) S)
 |[],U,aU,_,_,_=>by rw[xh,jW];rfl
 |x::xs,U,aU,g,hl,hx=>by
  obtain⟨U',e1,g',e2⟩:=hx x (.head _) U g;rw[kO] at hl;rw[cZ];unfold aZ;rw[e1,zS];rcases e2 with⟨e2,e3⟩|⟨r,d,e2,e3,e4,e5⟩
  .rw[e3,List.filterMap_cons_none e2];exact Gg h G xs U' aU g' (by lia) λy m=>hx y (.tail _ m)
  .have e6:gD te U' S=some (.ok d S):=by unfold gD bd;rw[e4];show(oB S (mI r)).map _=_;rw[e5];rfl
   rw[e3,List.filterMap_cons_some e2];show tP (gD te U' S) _=_;rw[e6];show(if aU.length<1000000 then _ else _)=_
   rw[bJ (by lia),Gg h G xs U' (aU++[d]) g' (by rw[dZ,zP];lia) λy m=>hx y (.tail _ m),kP]
   rfl
def Kh{d:D}:ae 0 d (a::cs)=some (some (.d d)::cs):=by
 rfl
def uD(h:α->ai D)(xs:List α)(hl:xs.length<=1000000)(hx:∀x∈xs,(h x=none/\tt (some (.d (f x))::cs) S=some (.ok false S))\/∃r d,h x=some d/\tt (some (.d (f x))::cs) S=some (.ok true S)/\te (some (.d (f x))::cs) S=some (.ok r S)/\mI r=.d d):aZ (ae 0) tt te (xs.map f) (a::cs) S []=some (.ok (xs.filterMap h) S):=by
 rw[Gg h (λU=>∃a,U=a::cs) xs _ [] ⟨a,rfl⟩ (by rw[Ba];lia) λx m U ⟨a,hU⟩=>⟨_,by rw[hU];exact Kh,⟨_,rfl⟩,hx x m⟩,El]
def ox(h:α->D)(xs:List α)(hl:xs.length<=1000000)(hx:∀x∈xs,∃r,te (some (.d (f x))::cs) S=some (.ok r S)/\mI r=.d (h x)):aZ (ae 0) (fq true) te (xs.map f) (a::cs) S []=some (.ok (xs.map h) S):=by
 rw[uD (λx=>some (h x)) xs hl λx m=>.inr (let ⟨r,h1,h2⟩:=hx x m;⟨r,_,rfl,rfl,h1,h2⟩),List.filterMap_eq_map']
theorem QO{body:GS}(I:List α->Gm->aT->Prop):∀xs dn U S,I dn U S->(∀d x r,dn++xs=d++x::r->∀U S,I d U S->∃U1 U' S',gg (f x) U=some U1/\(body U1 S=some (.nx U' S')\/body U1 S=some (.ct U' S'))/\I (d++[x]) U' S')->∃U' S',aN gg body (xs.map f) U S=some (.nx U' S')/\I (dn++xs) U' S'
 |[],dn,U,S,i,_=>⟨U,S,rfl,by rw[jW];exact i⟩
 |x::xs,dn,U,S,i,hx=>by
  obtain⟨U1,U',S',e1,e2,i'⟩:=hx dn x xs rfl U S i;obtain⟨U2,S2,e3,i2⟩:=QO I xs (dn++[x]) U' S' i' λd y r e=>hx d y r (by rw[<-e,kP];rfl)
  refine⟨U2,S2,?_,by rw[kP] at i2;exact i2⟩
  rw[cZ];unfold aN;rw[e1,zS];rcases e2 with e2|e2
  .rw[e2];exact e3
  .rw[e2];exact e3
def iJ{body:GS}(I:List α->Gm->aT->Prop)(xs:List α)(i:I [] U S)(hx:∀d x r,xs=d++x::r->∀U S,I d U S->∃U1 U' S',gg (f x) U=some U1/\(body U1 S=some (.nx U' S')\/body U1 S=some (.ct U' S'))/\I (d++[x]) U' S'):∃U' S',aN gg body (xs.map f) U S=some (.nx U' S')/\I xs U' S':=QO I xs [] U S i λd x r e=>hx d x r e
theorem PQ{β:Type}{body:GS}(st:β->aT->Gm×aT)(I:List α->β->Prop):∀xs dn b,I dn b->(∀d x r,dn++xs=d++x::r->∀b,I d b->∃b',I (d++[x]) b'/\∀S,∃U1,gg (f x) (st b S).1=some U1/\(body U1 (st b S).2=some (.nx (st b' S).1 (st b' S).2)\/body U1 (st b S).2=some (.ct (st b' S).1 (st b' S).2)))->
  ∃b',I (dn++xs) b'/\∀S,aN gg body (xs.map f) (st b S).1 (st b S).2=some (.nx (st b' S).1 (st b' S).2)
 |[],dn,b,i,_=>⟨b,by rw[jW];exact i,λS=>rfl⟩
 |x::xs,dn,b,i,hx=>by
  obtain⟨b1,i1,h1⟩:=hx dn x xs rfl b i;obtain⟨b2,i2,h2⟩:=PQ st I xs (dn++[x]) b1 i1 λd y r e=>hx d y r (by rw[<-e,kP];rfl)
  refine⟨b2,by rw[kP] at i2;exact i2,λS=>?_⟩
  obtain⟨U1,e1,e2⟩:=h1 S;rw[cZ];unfold aN;rw[e1,zS];rcases e2 with e2|e2
  .rw[e2];exact h2 S
  .rw[e2];exact h2 S
def QP{β:Type}{body:GS}(st:β->aT->Gm×aT)(I:List α->β->Prop)(xs:List α)(b:β)(i:I [] b)(hx:∀d x r,xs=d++x::r->∀b,I d b->∃b',I (d++[x]) b'/\∀S,∃U1,gg (f x) (st b S).1=some U1/\(body U1 (st b S).2=some (.nx (st b' S).1 (st b' S).2)\/body U1 (st b S).2=some (.ct (st b' S).1 (st b' S).2))):
  ∃b',I xs b'/\∀S,aN gg body (xs.map f) (st b S).1 (st b S).2=some (.nx (st b' S).1 (st b' S).2):=PQ st I xs [] b i λd x r e=>hx d x r e
def e4l(enc:α->D)(xs:List α):eU (xs.map enc)=((List.range xs.length).zip xs).map λ(p:Nat×α)=>D.tup [.int (p.1:Nat),enc p.2]:=by
 unfold eU;rw[bq];refine Hq λi=>?_
 rw[fL,fL];by_cases h:i<xs.length
 .have z:((List.range xs.length).zip xs)[i]?=some (i,xs[i]):=List.getElem?_zip_eq_some.mpr ⟨zT h,g7 h⟩;rw[zT h,z];simp[h]
 .rw[xg (by simp;lia),xg (by simp;lia)]
  rfl
def e9d{body:GS}(enc:α->D)(I:List α->Gm->aT->Prop)(xs:List α)(i:I [] U S)(hx:∀d x r,xs=d++x::r->∀U S,I d U S->∃U1 U' S',gg (.tup [.int (d.length:Nat),enc x]) U=some U1/\body U1 S=some (.nx U' S')/\I (d++[x]) U' S'):∃U' S',aN gg body (eU (xs.map enc)) U S=some (.nx U' S')/\I xs U' S':=by
 have hs:((List.range xs.length).zip xs).map Prod.snd=xs:=by rw[List.map_snd_zip];simp
 rw[e4l];obtain⟨U',S',e,p⟩:=iJ (gg:=gg) (body:=body) (f:=λ(p:Nat×α)=>D.tup [.int (p.1:Nat),enc p.2]) (U:=U) (S:=S) (λpre U S=>I (pre.map Prod.snd) U S) ((List.range xs.length).zip xs) i (by
  intro q x post e U S p;have t5:xs=q.map Prod.snd++x.2::post.map Prod.snd:=by
   simp_all
  have hi:x.1=(q.map Prod.snd).length:=by
   have:((List.range xs.length).zip xs)[q.length]?=some x:=by rw[e,ub (cv _)];simp
   rw[List.getElem?_zip_eq_some] at this;have h1:=this.1;rw[eQ] at h1;obtain⟨hl,h1⟩:=h1;rw[List.getElem_range] at h1;rw[bq];exact h1.symm
  obtain⟨U1,U2,S2,a,b,c⟩:=hx _ _ _ t5 U S p;exact⟨U1,U2,S2,by rw[hi];exact a,.inl b,by rw[fZ];exact c⟩)
 exact⟨U',S',e,by rw[hs] at p;exact p⟩
theorem PR{body:GS}{rv:Rv}{S':aT}(I:List α->Gm->aT->Prop){x:α}{r:List α}:∀d dn U S,I dn U S->(∀d' y r',dn++d=d'++y::r'->∀U S,I d' U S->∃U1 U' S',gg (f y) U=some U1/\(body U1 S=some (.nx U' S')\/body U1 S=some (.ct U' S'))/\I (d'++[y]) U' S')->(∀U S,I (dn++d) U S->∃U1,gg (f x) U=some U1/\body U1 S=some (.rt rv S'))->aN gg body ((d++x::r).map f) U S=some (.rt rv S')
 |[],dn,U,S,i,_,hs=>by
  obtain⟨U1,e1,e2⟩:=hs U S (by rw[jW];exact i)
  rw[El,cZ];unfold aN;rw[e1,zS,e2];rfl
 |y::d,dn,U,S,i,hp,hs=>by
  obtain⟨U1,U',S',e1,e2,i'⟩:=hp dn y d rfl U S i;have e3:=PR I (x:=x) (r:=r) d (dn++[y]) U' S' i' (λd' z r' e=>hp d' z r' (by rw[<-e,kP];rfl)) (λU S h=>hs U S (by rw[kP] at h;exact h))
  grind [aN]
end
end L2
namespace L2
open PySem PySem.Spec PySem.W PyProof.Rows
variable{a:List Str}
noncomputable def iw (l:List Str):List Str:=Classical.epsilon λs=>s.Perm l/\sortedS s=true
theorem DQ:∀{p:Str} {l:List Str},risingS p l=true->(p::l).Pairwise λa b=>a.cps.toList<=b.cps.toList
 |p,[],_=>by simp
 |p,x::l,h=>by
  have h:(!ltCps x.cps.toList p.cps.toList&&risingS x l)=true:=h;rw[jU,ltCps_eq,Mw,decide_eq_false_iff_not,List.not_lt] at h;have ih:=DQ h.2;refine List.pairwise_cons.mpr ⟨λb m=>?_,ih⟩
  rcases y09.mp m with rfl|m
  .exact h.1
  .exact List.le_trans h.1 ((List.pairwise_cons.mp ih).1 b m)
def QQ(h:sortedS a=true):a.Pairwise λa b=>a.cps.toList<=b.cps.toList:=by
 cases a with
 |nil=>exact .nil
 |cons p l=>exact DQ h
def Wf{b:List Str}(p:a.Perm b)(ha:sortedS a=true):iw b=a:=by
 have h:=Classical.epsilon_spec (p:=λs:List Str=>s.Perm b/\sortedS s=true) ⟨a,p,ha⟩
 exact(h.1.trans p.symm).eq_of_pairwise (λx y _ _ h1 h2=>Str.ext' (Array.toList_inj.mp (List.le_antisymm h1 h2))) (QQ h.2) (QQ ha)
section
variable{X:Cx}{K:aL}{H:Hp}{k:Kn}
theorem i9:∀{ss:List Str} {vs:List aj},Vals (ss.map V.str) vs↔StrsAre vs ss
 |[],vs=>⟨λh=>by cases h;exact .nil,λh=>by cases h;exact .nil⟩
 |s::ss,vs=>⟨λh=>by
   cases h with
   |cons r t=>obtain⟨t',rfl⟩:=r;exact .cons _ _ (i9.mp t),λh=>by
   cases h with
   |cons _ t h=>exact .cons ⟨t,rfl⟩ (i9.mpr h)⟩
def Wg(ns:List Str):ag K k (ns.map V.str) (ns.map D.str):=by
 induction ns with
 |nil=>exact .nil
 |cons a l ih=>exact .flat rfl ih
end
section
variable{prog:dB}{w:cI}{A:c8}{E:aj->ay->Prop}{s:ay}
def UX{vs:List aj}{ss:List Str}{h0:b_}{Q:aj->ay->Prop}(hS:StrsAre vs ss)(h1:vs.length<64)(h:∀h' c out,StrsAre out.toList (iw ss)->(iw ss).length=ss.length->(∀b o,h0.get? b=some o->h'.get? b=some o)->h'.get? h0.objs.size=some (seqObj "list" out c)->Q (.ref h0.objs.size) { s with heap:=h'}):
  wpAny (model prog w) A (call (.builtin "list.sort") [.ref h0.objs.size]) (λ_ s'=>Q (.ref h0.objs.size) s') E { s with heap:=h0.push (seqObj "list" vs.toArray 0)}:=by
 have ho:(h0.push (seqObj "list" vs.toArray 0)).get? h0.objs.size=some (seqObj "list" vs.toArray 0):=i_ _ rfl;refine wpAny_call_entry slot_list_sort ⟨_,ho,rfl⟩ entry_list_sort (list_sort_treeK (s:={ s with heap:=h0.push (seqObj "list" vs.toArray 0)}) PyProof.Rows.strKind_oneLt ho hS.keysOf (λv1 v2 r e=>by subst e;exact keyKind_strs hS) h1 λiM p1 p2=>⟨_,rfl,?_⟩) (args_list_sort _)
 obtain⟨ss',a1,a2,a3⟩:=sorted_out_str hS p1 p2;obtain⟨e,he⟩:=sortedHeap_at (out:=Array.map (λx=>x.snd) (arrOf iM)) ho
 rw[<-Wf a2 a3] at a1 a2;refine h _ _ _ a1 a2.length_eq (λb o g=>?_) he
 have lt:b<h0.objs.size:=cX g;rw[sortedHeap_old (ie lt) (Nat.lt_trans lt (cX ho))];exact dy _ g
end
variable{X:Cx}{W:XW}{q:Nat}
section
variable{X:Cx}{K:aL}{H:Hp}{k:Kn}
def QR(K:aL):List V->Hp->VK->Prop:=λvs H Q=>∃(a:ah) (ss:List Str) (es:List (TK×V×V)) (ep:Nat),vs=[.ref a]/\H a=some (.dG es ep)/\fV es/\es.map (·.1)=ss.map TK.inr/\ss.length<64/\∀l,H l=none->Q (.ref l) (upd H l (.lst ((iw ss).map V.str)))
def TM(hc:X.calm=true):bW X (.builtin "sorted") (QR K):=by
 intro aa s Z H xs us Q I r h;obtain⟨a,ss,es,ep,rfl,hd,ht,he,CS,q⟩:=h;obtain⟨u,rfl,ru⟩:=Vals.one r;cases ru;refine Calls.call_function_entry kind_sorted plain_sorted entry_sorted (args_sorted1 _) ?_;unfold Builtin.«sorted»;refine aE (m:=checkCount "sorted" 1 1 _) (aY ?_);obtain⟨kvs,D1,D2,D3,D4,lo⟩:=tM I hd ht;have l1:kvs.length=ss.length:=by have:=congrArg List.length (D3.trans he);simpa using this
 refine aE (kdu_collect (kdl_dict (knd:=PySem.strKind X.prog X.w) (kvs:=kvs) (ep:=ep) lo) (I.ok.hd hc) D1 D4 λh' tk aU kp hi=>?_)
 have rv:Vals (ss.map V.str) aU.toList:=by
  refine IK (by have:=hi.1;rw[bq,<-l1,<-this];simp) λj y u e1 e2=>?_
  rw[fL] at e1;obtain⟨z,e3,rfl⟩:=dH.mp e1;obtain⟨k,v,k1,k2⟩:=hi.2 j u (by rw[<-w9];exact e2)
  have k3:(kvs.map (λp=>TK.inr p.1))[j]?=(ss.map TK.inr)[j]?:=by rw[D3,he]
  rw[fL,fL,k1,e3] at k3;cases(TK.inr.inj (Option.some.inj k3):k=z);exact Value.isStrOf_shape k2
 have hS:=i9.mp rv;have hlen:=rv.length;rw[bq] at hlen;have hz:aU.toList.length<=sizeLine:=by rw[sizeLine_eq];lia
 refine aE (wpAny_newList ?_ (by simpa using hz))
 have I0:Inv X aa Z H { s with heap:=h',toks:=tk}:=I.kept kp;refine aE (kK (wpAny_mono (UX (s:={ s with heap:=h',toks:=tk}) (h0:=h') (vs:=aU.toList) (Q:=λv s'=>EP X aa Z Q v s') hS (by lia) λh2 c out a1 a3 Dr hg=>?_) (λ_ s' x=>?_) λ_ _ e=>e))
 .have a2:=i9.mpr a1;have I1:=I0.laid (h':=h2) (t':=tk) (o:=.lst ((iw ss).map V.str)) Dr (cv _) (show bH X.prog X.w _ h2 _ (.lst _) from⟨by rw[bq,a3,sizeLine_eq];lia,out.toList,c,a2,hg⟩)
  exact⟨.ref h'.objs.size,_,I1,rfl,q _ (I0.bD.fresh (cv _))⟩
 .exact aY ⟨_,rfl,x⟩
theorem Ow:∀{kvs:List (TK×D)} {ss:List Str},kvs.map (·.1.d)=ss.map D.str->kvs.map (·.1)=ss.map TK.inr
 |[],[],_=>rfl
 |[],_::_,h=>nomatch h
 |_::_,[],h=>nomatch h
 |(k,d)::l,z::ss,h=>by
  simp only[cZ,List.cons.injEq] at h ⊢;exact⟨by cases k <;> simp only[TK.d] at h <;> grind,Ow h.2⟩
def Wh{kvs:List (TK×D)}{ss:List Str}(h:kvs.map (·.1)=ss.map TK.inr):dX kvs=true:=by
 unfold dX;refine jX.mpr λp m=>?_
 have h1:p.1∈kvs.map (·.1):=mP m
 rw[h] at h1;obtain⟨z,_,e⟩:=fy.mp h1;rw[<-e];rfl
noncomputable def nF:D->ai Rv
 |.aA kvs=>(dY (kvs.map (·.1.d))).bind λss=>if ss.length<64 then some (.o (.lst ((iw ss).map D.str))) else none
 |_=>none
def Wi:cg K (QR K) (o1 nF):=sM λk H x a y Q le t e res=>by
 unfold nF at e;split at e
 .obtain⟨ss,h,e⟩:=cG.mp e;split at e
  .cases e;have hk:=Ow (Fj h);have ht:=Wh hk;obtain⟨p,es,ep,rfl,h3,h4,h5,h6,h7⟩:=t.txt le ht;exact⟨p,ss,es,ep,rfl,h3,h4,h5.trans hk,by assumption,λl hl=>res.lst le (Wg _) hl⟩
  .cases e
 .cases e
def yZ:qK K (.builtin "sorted") (o1 nF):=λX h c u=>⟨_,TM c,Wi⟩
end
noncomputable def wN(tab:List (Str×ah))(c C:ah):ai Bool:=if tab.any (λp=>p.2 == C)=true then some (C == c) else none
def hN{K:aL}{B0 c:ah}{tab:List (Str×ah)}{x:Str}{np hp:Pos}{b0:Stmt}{nI:List Stmt}{hs:List ExceptHandler}{g:GS}{gs:List GH}(j:Nat)(hj:tab[j]?=some (x,c))(E:pK K X.mg tab B0)(hS:∀e,jl (X.eI e) (b0::nI) (tS K W0 q g))(rest:HB X K W q hs gs)
  (h0:(c == B0)=false) (hg:Gl X x) (jm:(x == ("__debug__":Str))=false) (hK:X.K=K) :
  HB X K W q (.ExceptHandler (some (.Name x np)) none (b0::nI) hp::hs) ((wN tab c,g)::gs):=by
 obtain⟨e1,e2,_⟩:=E.ix hj;refine X1 e1 (λC b h=>?_) hS rest hg jm hK
 unfold wN at h;split at h
 .rename_i hC
  cases h;obtain⟨p,m,e⟩:=List.any_eq_true.mp hC;cases(beq_iff_eq.mp e);refine((E.all p m).2.1.exm e2 rfl).trans (congrArg some ?_);have n0:c≠B0:=λz=>by rw[z] at h0;simp at h0
  by_cases z:p.2=c
  .subst z;simp
  .rw[show(p.2 == c)=false from beq_false_of_ne z];simp[qc,Ne.symm z,n0]
 .cases h
def ppc{K:aL}{pos:Pos}{k v:Expr}{ks:List (ai Expr)}{vs:List Expr}{a b:GE}{gs:List (GE×GE)}(hk:PE X k (tE K W q a))(hv:PE X v (tE K W q b))(hr:vz X pos ks vs (A5 K W q gs)):vz X pos (some k::ks) (v::vs) (A5 K W q ((a,b)::gs)):=VC hk hv hr
def y6(p n:Nat)(m:(Nat->GM)->Nat->GS):Nat->Nat->GM
 |0=>λ_ _ _=>none
 |j+1=>aR p n (m (y6 p n m j))
def lH{p n j:Nat}{m:(Nat->GM)->Nat->GS}:gh (y6 p n m j q) p:=by
 cases j with
 |zero=>exact λ_ _ _ e=>nomatch e
 |succ j=>exact lI
variable{K:aL}
noncomputable def wk:D->D->ai Rv
 |.int i,b=>(iD b).map λj=>rd (.bl (!(i == j)))
 |.str i,.str j=>some (rd (.bl (!(i == j))))
 |_,_=>none
def DN:R2:=λx y H Q=>(∃i j,x=.int i/\y=.int j/\Q (.bl (!(i == j))) H)\/∃i j,x=.str i/\y=.str j/\Q (.bl (!(i == j))) H
def e4m:eB X (compareOp .NotEq) DN:=by
 intro aa s Z H x y u v Q I rx ry h;rcases h with⟨i,j,rfl,rfl,q⟩|⟨i,j,rfl,rfl,q⟩ <;> obtain⟨t,rfl⟩:=rx <;> obtain⟨t',rfl⟩:=ry
 .exact SeqAt.RcNeAt.int_int i t j t' X.prog X.w _ _ ⟨.bl _,H,I,rfl,q⟩
 .exact SeqAt.RcNeAt.str_str i t j t' X.prog X.w _ _ ⟨.bl _,H,I,rfl,q⟩
def e4n:cg K (mC DN) (o2 wk):=wq λk H x z a b y Q le t1 t2 e res=>by
 cases a with
 |int i=>
  obtain⟨j,h,rfl⟩:=dH.mp (show(iD b).map _=_ from e);cases JX h;cases t1.flat rfl;cases t2.flat rfl;exact .inl ⟨_,_,rfl,rfl,res.flat le rfl⟩
 |str i=>cases b with
  |str j=>
   cases e;cases t1.flat rfl;cases t2.flat rfl;exact .inr ⟨_,_,rfl,rfl,res.flat le rfl⟩
  |_=>cases e
 |_=>cases e
def JQ:jZ K .NotEq (o2 wk):=λX h u=>⟨_,e4m,e4n⟩
end L2
namespace L2
open PySem Lean Meta
def Zq:List Name:=[``yA,``uJ,``CC,``yB,``wL,``wS,``wE,``wP,``wA,``wAI,``wAD,``wX,``yC,``hN,``yJ,``wF,``rP,``xv,``xi,``xs,``xb,``xn,``xty,``xk,``xki,``xo,``Mh,``xc,``xix,``xsl,``xd,``xj,``jn,``jc,``xB,``xT,``xM,``xU,``xU0,``xf,``xC,``xC0,``xN,``xH,``xH0,``xLV,``xL,``yz,``yx,``rO,``uG,``CA,``CB,``yy,``yw,``zv,``zc,``yv,``PW.pt,``CF,``yE,``yD,``yc,``ych,``yt,``ya1,``yo1,``yn,``y1,``uI,``uH,``ppc,``vc,``pgn,``pgt,``sO,``vb,``vg,``zL,``sY,``vi,``sA,``LI,``sEn,``sV,``sI,``sR1,``sRT,``Ma,``Me,``Mc,``Ej,``Mb,``Md,``Wj,``JQ,``Wo,``Wn,``Wk,``Wl,``JR,``Wm,``JP,``K7,``K6,``K4,``K8,``Dp,``K5,``Dm,``Dl,``y9,``Dt,``vn,``vp,``zO,``vq,``Ee,``oZ,``PyProof.Rows.Boot.min,``PyProof.Rows.Boot.sum,``wu,``wx,``yW,``DH,``cA.le,``lI,``lH,``u9,``u_,``yZ]
def Zp(tg N dD:Lean.Expr):MetaM Lean.Expr:=do
 let nm (e:Lean.Expr):=e.getArg! 0
 let ts:=if tg.isAppOf ``Expr.Name then[nm tg] else((tg.getArg! 0).listLit?.map (·.2.map nm)).getD []
 let ns:=(((<-whnf N).listLit?).map (·.2)).getD []
 let cs:=((dD.listLit?.map (·.2)).getD []).map λi=>ns.getD ((i.nat?).getD 0) (mkNatLit 0)
 mkListLit (mkConst ``Str) (ts++cs)
def l8{α:Type}(f:α->MetaM Bool):List α->MetaM Bool
 |[]=>return false
 |x::l=>do if <-f x then return true else l8 f l
def CD:Nat->MVarId->MetaM Unit
 |0,_=>failure
 |n+1,g0=>do
  let (_,g) <-g0.intros
  g.withContext do
  let t:=(<-instantiateMVars (<-g.getType)).cleanupAnnotations.headBeta
  let run (s:MetaM Syntax):MetaM Bool:=do
   let st <-saveState
   try
    let (gs,_) <-Lean.Elab.runTactic g (<-s)
    unless gs.isEmpty do failure
    return true
   catch _=>st.restore;return false
  let use (fix:Lean.Expr->MetaM Unit) (f:Lean.Expr):MetaM Bool:=do
   let s <-saveState
   try
    let y <-whnfR (<-inferType f)
    unless y.getForallBody.getAppFn.constName? == t.getAppFn.constName? do failure
    let (ms,_,ty) <-forallMetaTelescope y
    unless <-isDefEq ty t do failure
    let each (h:Lean.Expr->MetaM Unit):=l8 (λm=>do
     unless <-m.mvarId!.isAssigned do h m
     return false) ms.toList
    discard <| each fix
    discard <| each λm=>do if <-isProp (<-inferType m) then CD n m.mvarId!
    g.assign (mkAppN f ms)
    return true
   catch _=>s.restore;return false
  let s_:=use λ_=>pure ()
  let c:=t.getAppFn.constName?.getD .anonymous
  if c == ``Eq then
   let l:=t.appFn!.appArg!
   if l.isAppOf ``AW || l.isAppOf ``gM then
    if <-run `(tactic| kernel_rfl) then return
   if <-(try g.refl;pure true catch _=>pure false) then return
  let env <-getEnv
  if c == ``dC then
   if <-l8 (λd=>if d.isImplementationDetail then return false else s_ d.toExpr) ((<-getLCtx).decls.toList.filterMap id) then return
   if <-l8 (l8 λ(k,i)=>do
    if k.getPrefix == `Carry&&(<-whnfR i.type).getForallBody.isAppOf ``dC then s_ (<-mkConstWithFreshMVarLevels k) else return false) [env.constants.map₂.toList,env.constants.map₁.toList] then return
   failure
  if <-l8 (λd=>do
   if d.isImplementationDetail then return false
   if <-s_ d.toExpr then return true
   let some s:=d.type.getAppFn.constName?|return false
   unless isStructure env s&&s.getPrefix == `Carry do return false
   l8 (λf=>do s_ (<-mkProjection d.toExpr f)) (getStructureFields env s).toList) ((<-getLCtx).decls.toList.filterMap id) then return
  if <-l8 (λr=>do
   let f <-mkConstWithFreshMVarLevels r
   if r == ``wX || r == ``hN then
    l8 (λj=>use (λm=>do if(<-inferType m).isConstOf ``Nat then m.mvarId!.assign (mkNatLit j)) f) (List.range 12)
   else if r == ``xL || r == ``wL then
    use (λm=>do
     if(<-instantiateMVars (<-inferType m)).isAppOf ``List then
      let some lc:=t.find? (·.isAppOf ``Expr.ListComp)|failure
      let some gc:=t.find? (·.isAppOf ``bQ)|failure
      let some co:=((lc.getArg! 1).listLit?.bind (·.2.head?))|failure
      m.mvarId!.assign (<-Zp (co.getArg! 0) (<-mkAppM ``Cx.N #[t.getArg! 0]) gc.appArg!)) f
   else s_ f) Zq then return
  unless <-run `(tactic| first|rfl|exact Or.inl rfl|exact Or.inr rfl|exact Or.inr (Or.inl rfl)|exact Or.inr (Or.inr rfl)|decide|(intro _ _;rfl)|with_unfolding_all rfl) do failure
def Rf:Nat->Lean.Expr->MetaM (List Lean.Expr)
 |0,_=>failure
 |n+1,e=>do
  let a:=(<-whnf e).getAppArgs
  if a.size<3 then return []
  return (<-whnfCore a[1]!)::(<-Rf n a[2]!)
simproc_decl dv (jl _ _ _):=λe=>do
 let a:=e.getAppArgs
 let b <-withDefault (whnf a[1]!)
 let N <-mkListLit (mkConst ``Str) (<-withDefault (Rf 99 (a[0]!.getArg! 6)))
 let m <-mkFreshExprMVar (mkApp3 e.getAppFn (mkAppN a[0]!.getAppFn (a[0]!.getAppArgs.set! 6 N)) b a[2]!)
 withDefault (CD 200 m.mvarId!)
 return .done { expr:=mkConst ``True,proof?:=<-mkEqTrue (<-mkExpectedTypeHint (<-instantiateMVars m) e)}
end L2
namespace L2
open PySem PySem.Spec PyProof.Rows
variable{K:aL}{C:ai ah}{x qual:Str}{f:ah}{st:Stmt}{Tx:aL->(Str->ai aj)->Prop}{p n:Nat}
noncomputable def fA (K:aL) (C:ai ah) (x:Str):ah:=Classical.epsilon λf=>C.elim (PySem.W.nsIn K mainGlobals x) (λC=>PySem.W.findIn K (.ref C) x)=some (some (.ref f))
noncomputable def fF (K:aL) (f:ah):lq:=Classical.epsilon λd=>∃oc od ph,K.lookup f=some ⟨oc,od,.func d,ph⟩
abbrev t_(st:Stmt):List Str:=(Aj st).args.map (·.arg)
abbrev G9(st:Stmt):List Str:=((m8 st).names.filter λp=>p.2.casesOn true true false false false).map (·.1)
abbrev Df(K:aL)(mg:Str->ai aj)(x:Str)(st:Stmt):Prop:=qL K mg x st (fA K none x) (fF K (fA K none x)) (t_ st)
abbrev Mf(K:aL)(C:ah)(x y:Str)(st:Stmt):Prop:=MethAt K C x y st (fA K (some C) x) (fF K (fA K (some C) x)) (t_ st)
def CJ{A:Type}{p:A->Prop}(a:A)(h:p a)(u:∀b,p b->a=b):@Classical.epsilon A ⟨a⟩ p=a:=(u _ (@Classical.epsilon_spec_aux A ⟨a⟩ p ⟨a,h⟩)).symm
def JY(a:C.elim (PySem.W.nsIn K mainGlobals x) (λC=>PySem.W.findIn K (.ref C) x)=some (some (.ref f))):fA K C x=f:=CJ f a λb e=>by cases a.symm.trans e;rfl
def Rk{y:Str}{fd:lq}(F:rb K x y st f fd):fF K f=fd:=by
 obtain⟨oc,od,_,_,_,_,_,_,ph,_,l,_⟩:=F.ex;exact CJ fd ⟨oc,od,ph,l⟩ λb ⟨_,_,_,e⟩=>by cases l.symm.trans e;rfl
seal fA fF
abbrev EG(Tx:aL->(Str->ai aj)->Prop)(C:ai ah)(x:Str)(st:Stmt)(k p:Nat)(M:Nat->GM):Prop:=∀{P:dB} {w:cI} {K:aL} {mg:Str->ai aj} {base:b_} (T:Tx K mg) (q:Nat),dC P w K mg base (lu P w) k (fA K C x) (fF K (fA K C x)) (t_ st) (qv K q p (M q))
def cF{k:Nat}{m:Nat->GS}(F:∀{K:aL} {mg:Str->ai aj},Tx K mg->rb K x qual st (fA K C x) (fF K (fA K C x)))(N:List Str:=G9 st)
  (hb:∀{P:dB} {w:cI} {K:aL} {mg:Str->ai aj} {base:b_} (T:Tx K mg) (q:Nat) (fI:aj) (A:c8) (outer:List Env) (s:ay) (H:Hp) (E:XK),cA k (A.deeper (envOfC qual (m8 st) s.heap.objs.size (fA K C x) fI))->(A.deeper (envOfC qual (m8 st) s.heap.objs.size (fA K C x) fI)).units+41<cLine->jl (kZ (lu P w) P w K mg base N qual (m8 st) (fA K C x) fI A outer s H E) (vG st) (tS K (WF E) q (m q)):=by intros;simp only[dv])
  (S:gL N (t_ st) (m8 st):=by exact CL) (hp:(t_ st).length=p:=by rfl) (hn:N.length=n:=by rfl):EG Tx C x st (k+1) p (aR p n m):=λT q=>Qp (F T) S hp hn λfI A outer s H E hr=>hb T q fI A outer s H E hr (PN hr)
def okR{c:Nat}{m:(Nat->GM)->Nat->GS}(F:∀{K:aL} {mg:Str->ai aj},Tx K mg->rb K x qual st (fA K C x) (fF K (fA K C x)))(j:Nat)(N:List Str:=G9 st)
  (hb:∀{P:dB} {w:cI} {K:aL} {mg:Str->ai aj} {base:b_} (T:Tx K mg) (j:Nat) (r:Nat->GM) (G:∀q,dC P w K mg base (lu P w) (c+j) (fA K C x) (fF K (fA K C x)) (t_ st) (qv K q p (r q))) (tk:∀q,gh (r q) p) (q:Nat) (fI:aj) (A:c8) (outer:List Env) (s:ay) (H:Hp) (E:XK),cA (c+j) (A.deeper (envOfC qual (m8 st) s.heap.objs.size (fA K C x) fI))->(A.deeper (envOfC qual (m8 st) s.heap.objs.size (fA K C x) fI)).units+41<cLine->jl (kZ (lu P w) P w K mg base N qual (m8 st) (fA K C x) fI A outer s H E) (vG st) (tS K (WF E) q (m r q)):=by intros;simp only[dv])
  (S:gL N (t_ st) (m8 st):=by exact CL) (hp:(t_ st).length=p:=by rfl) (hn:N.length=n:=by rfl):EG Tx C x st (c+j) p (y6 p n m j):=by
 intro P w K mg base T
 induction j with
 |zero=>exact λq=>⟨λ_ _ _ _ h=>(by obtain⟨_,_,_,_,_,_,_,e,_⟩:=h;cases e),λ_ _ _ _ _ _ _ _ _ _ _ _ _ h=>(by obtain⟨_,_,_,_,_,_,_,e,_⟩:=h;cases e)⟩
 |succ j ih=>exact λq=>Qp (F T) S hp hn λfI A outer s H E hr=>hb T j _ ih (λq=>lH) q fI A outer s H E hr (PN hr)
end L2
namespace L2
open PySem PySem.Spec PySem.W PyProof.Rows
section
variable{K:fU}{mg:Str->ai aj}{h:b_}{x y:Str}{st:Stmt}{f C:ah}{fd:lq}{ps:List Str}
abbrev QS(x y:Str)(st:Stmt)(ps:List Str):Prop:=∀(kV doc pm:aj) (an:ai ah) (fI ct:aj) (us:List aj),us.length=ps.length->bindArgs (PySem.W.fnOf x y (Aj st) (vG st) (m8 st) .none kV doc pm an fI ct) ⟨us,[]⟩=pure (ps.zip us)
def dM(X:K.In h)(G:h.Ns mainGlobals mg)(a:nsIn K mainGlobals x=some (some (.ref f)))(F:rb K x x st f fd)(b:QS x x st (t_ st)):Df K mg x st:=by
 unfold Df;rw[JY (C:=none) a,Rk F];exact⟨F,mg_of X G a,F.binds b⟩
def mM(a:findIn K (.ref C) x=some (some (.ref f)))(n:isFn K (.ref f)=true)(F:rb K x y st f fd)(b:QS x y st (t_ st)):Mf K C x y st:=by
 unfold Mf;rw[JY (C:=some C) a,Rk F];exact⟨F,⟨a,n,F.kp⟩,F.binds b⟩
def mK(m:makesIn K C=true)(a:findIn K (.ref C) "__init__"=some (some (.ref f)))(n:isFn K (.ref f)=true)(k:keepIn K (.ref C)=true):Mk K C (fA K (some C) "__init__"):=by
 rw[JY (C:=some C) a];exact⟨m,a,n,k⟩
def kM{v:Tok->aj}{t:Tok}(X:K.In h)(G:h.Ns mainGlobals mg)(a:nsIn K mainGlobals x=some (some (v t))):∃t,mg x=some (v t):=⟨t,mg_of X G a⟩
end
end L2
namespace L2
abbrev ak(x:D):ai Val:=some (.d x)
abbrev bh(x:PySem.Str):ai Val:=some (.d (.str x))
abbrev bY(x:Int):ai Val:=some (.d (.int x))
abbrev aW(n:Nat):ai Val:=some (.c n)
abbrev c_(x:PySem.Str):Val:=.d (.str x)
abbrev aQ(x:Int):Val:=.d (.int x)
abbrev cq:ai Val:=some (.d (.ref 0))
abbrev cQ:Val:=.d (.ref 0)
end L2
namespace Carry
open PySem L2
structure ax where
 name:Str
 long:Int
 ring:Bool
 outs:List Str
structure az where
 af:List ax
 carts:List Str
noncomputable def mm(xs:List Str)(k:Nat)(y:Str):List Str:=xs.take k++y::xs.drop k
theorem Fw(xs:List Str)(k:Nat)(y:Str):(mm xs k y).length=xs.length+1:=by
 unfold mm;rw[dZ,kO,wZ,A8];lia
def kD{xs:List Str}{k:Nat}{y z:Str}:z∈mm xs k y↔z=y\/z∈xs:=by
 unfold mm;rw[gZ,y09];constructor
 .rintro(h|h|h)
  .exact .inr (List.mem_of_mem_take h)
  .exact .inl h
  .exact .inr (List.mem_of_mem_drop h)
 .rintro(h|h)
  .exact .inr (.inl h)
  .rw[<-List.take_append_drop k xs,gZ] at h;rcases h with h|h
   .exact .inl h
   .exact .inr (.inr h)
seal PE PA PT PS jl
noncomputable def top(i:Nat):Stmt:=PySem.Challenge.pw_carry_k61_deeds_of_a_hall.main.body.getD i (.Pass ⟨0,0,0,0⟩)
noncomputable abbrev rJ:List (Str×ah):=[("NoName",44),("NoSize",56),("NoOut",68),("NoHand",80),("NoMoment",92),("NoFlight",104),("NoBelt",116),("NoRoom",128),("NoBag",140)]
abbrev cHall:ah:=409
noncomputable abbrev atrs:List (ah×Str):=[(cHall,"built"),(cHall,"told_rounds"),(cHall,"now"),(cHall,"book"),(cHall,"halts"),(cHall,"places"),(cHall,"readings"),(cHall,"rounded"),(cHall,"gone"),(cHall,"carted")]
structure Txt (K:aL) (mg:Str->ai aj):Prop where
 pQ:Df K mg "is_name" (top 15)
 kT:Df K mg "right_house" (top 17)
 kS:Df K mg "check_carts" (top 18)
 kR:Df K mg "check_belts" (top 19)
 mZ:Df K mg "take_name" (top 20)
 lR:Df K mg "check_outs" (top 21)
 lQ:Df K mg "check_hand" (top 22)
 lO:Df K mg "belt_names" (top 23)
 pZ:Df K mg "reached" (top 24)
 pL:Df K mg "belt_of" (top 25)
 Bk:Df K mg "far" (top 27)
 qM:Df K mg "begins" (top 28)
 Bj:Df K mg "arm" (top 29)
 qN:Df K mg "copied" (top 32)
 jD:Df K mg "check_closing" (top 33)
 ra:Df K mg "wanted" (top 35)
 lP:Df K mg "busy_belts" (top 36)
 oh:Df K mg "off_belt" (top 37)
 xr:Df K mg "turn" (top 38)
 jF:Df K mg "stand_stopped" (top 39)
 jh:Df K mg "stand_yielding" (top 40)
 j':Df K mg "stand_behind" (top 41)
 qV:Df K mg "_law_cell" (top 43)
 pS:Df K mg "_law_digit" (top 44)
 qY:Df K mg "_law_pick" (top 45)
 pV:Df K mg "_law_other" (top 46)
 pX:Df K mg "_law_third" (top 47)
 qW:Df K mg "_law_name" (top 48)
 qX:Df K mg "_law_outs" (top 49)
 pT:Df K mg "_law_house" (top 50)
 jE:Df K mg "_law_flight_name" (top 51)
 lW:Df K mg "_law_bag_name" (top 52)
 mW:Df K mg "_law_closing" (top 53)
 pR:Df K mg "_law_deeds" (top 54)
 pW:Df K mg "_law_state" (top 55)
 mY:Df K mg "_law_is_name" (top 56)
 j_:Df K mg "_law_due_flight" (top 57)
 ui:Df K mg "_law_due" (top 58)
 xq:Df K mg "_law_do" (top 59)
 qZ:Df K mg "_law_rows" (top 60)
 qT:Df K mg "_law_bags" (top 61)
 q8:Df K mg "_law_same" (top 62)
 qU:Df K mg "_law_call" (top 63)
 pY:Df K mg "_law_tried" (top 64)
 uj:Df K mg "_law_run" (top 65)
 q9:Df K mg "_law_told" (top 66)
 pU:Df K mg "_law_lists" (top 67)
 og:Df K mg "_law_places" (top 68)
 q_:Df K mg "law" (top 69)
 qP:Mf K cHall "__init__" "Hall.__init__" (jw (top 31) 0)
 n9:Mf K cHall "flight" "Hall.flight" (jw (top 31) 1)
 n8:Mf K cHall "change" "Hall.change" (jw (top 31) 2)
 lT:Mf K cHall "call_off" "Hall.call_off" (jw (top 31) 3)
 uh:Mf K cHall "put" "Hall.put" (jw (top 31) 4)
 qR:Mf K cHall "read" "Hall.read" (jw (top 31) 5)
 qS:Mf K cHall "stop" "Hall.stop" (jw (top 31) 6)
 pO:Mf K cHall "start" "Hall.start" (jw (top 31) 7)
 je:Mf K cHall "check_flight" "Hall.check_flight" (jw (top 31) 8)
 j0:Mf K cHall "check_belt" "Hall.check_belt" (jw (top 31) 9)
 jg:Mf K cHall "check_inside" "Hall.check_inside" (jw (top 31) 10)
 pM:Mf K cHall "house" "Hall.house" (jw (top 31) 11)
 oa:Mf K cHall "rounds" "Hall.rounds" (jw (top 31) 12)
 n_:Mf K cHall "moment" "Hall.moment" (jw (top 31) 13)
 mT:Mf K cHall "flights" "Hall.flights" (jw (top 31) 14)
 mV:Mf K cHall "stopped" "Hall.stopped" (jw (top 31) 15)
 qO:Mf K cHall "bags" "Hall.bags" (jw (top 31) 16)
 ug:Mf K cHall "out" "Hall.out" (jw (top 31) 17)
 pP:Mf K cHall "where" "Hall.where" (jw (top 31) 19)
 mR:Mf K cHall "cart_of" "Hall.cart_of" (jw (top 31) 20)
 mS:Mf K cHall "catches" "Hall.catches" (jw (top 31) 21)
 lU:Mf K cHall "in_order" "Hall.in_order" (jw (top 31) 22)
 qQ:Mf K cHall "move" "Hall.move" (jw (top 31) 23)
 mU:Mf K cHall "move_on" "Hall.move_on" (jw (top 31) 24)
 lV:Mf K cHall "move_out" "Hall.move_out" (jw (top 31) 25)
 C_Hall:Cls K cHall
 Mk_Hall:Mk K cHall (fA K (some cHall) "__init__")
 mg_Hall:mg "Hall"=some (.ref cHall)
 atr:jY K atrs
 er:pK K mg rJ 31
 b_len:mg "len"=none
 b_isinstance:mg "isinstance"=none
 b_int:mg "int"=none
 b_bool:mg "bool"=none
 b_str:mg "str"=none
 b_list:mg "list"=none
 b_tuple:mg "tuple"=none
 b_range:mg "range"=none
 b_enumerate:mg "enumerate"=none
 b_reversed:mg "reversed"=none
 b_all:mg "all"=none
 b_sorted:mg "sorted"=none
 b_dict:mg "dict"=none
 b_min:mg "min"=none
 c_LETTERS:∃t,mg "LETTERS"=some (.str "abcdefghijklmnopqrstuvwxyz" t)
 c_MOST_LETTERS:∃t,mg "MOST_LETTERS"=some (.int 8 t)
abbrev OD(x:Str)(i:Nat):=EG Txt none x (top i)
abbrev OM(x:Str)(i:Nat):=EG Txt (some cHall) x (jw (top 31) i)
def E6(n1:Nat):GE:=(bI iL 0 (gC (.str "abcdefghijklmnopqrstuvwxyz")))
def BO(q:Nat):GS:=(l9 (cy (de (cD (gO (o2 cM) (bR 0 (gC (.ty "str")))))) (au (gC (.bl false)))) (cy (de (gB (JA KW KW (gI 1) (gO (o1 fJ) (bc 0)) (gC (.int 8))))) (au (gC (.bl false)))) (au (gO (o1 (Av zw)) (bc (bQ q (ba false et 0) 0 (λ_=>fq true) E6 1 [])))))
def nN:=aR 1 1 BO
def e0w:OD "is_name" 15 1 1 nN:=cF (λT=>T.pQ.fn)
def MO(n1:Nat):GE:=(gX 0 (gI 0))
def M0(q:Nat):GS:=(bU (au (bQ q (ba false et 0) 0 (λ_=>fq true) MO 1 [])))
def tK:=aR 1 1 M0
def d0a:OD "belt_names" 23 1 1 tK:=cF (λT=>T.lO.fn)
def z9(n1:Nat):GS:=(bU (cy (gQ dF (gX 2 (gI 0)) 1) (au (aV true (jy (gX 2 (gI 0)) (gX 2 (gI 1)) (gX 2 (gI 2)) (gO (o1 kz) (bc (gX 2 (gI 3)))))))))
def N0(q:Nat):GS:=(f7 (bG q (ba true et (gX 0 (gI 0))) 2 z9) (au (gC .aI)))
def xJ:=aR 2 3 N0
def e0x:OD "belt_of" 25 1 2 xJ:=cF (λT=>T.pL.fn)
def Ia(n2:Nat):GT:=(gQ iL 0 1)
def Ib(n2:Nat):GE:=(gX 1 0)
def Ad(n1:Nat):GS:=(f7 (ar 7 false (bQ n1 (ba false et 6) 0 Ia Ib 1 [2])) (cy (cD 7) (bO n1 (bI bB 4 (gO (o1 (oY i6)) (bc 7))) 2 3)))
def Ox(q:Nat):GS:=(l9 (ar 2 true (nt (xX [(1,(gI 0))]))) (bG q (ba true zE (gX 0 (gI 0))) (bo [3,4,5,6]) Ad) (au 2))
def BV:=aR 2 8 Ox
def e4p:OD "begins" 28 1 2 BV:=cF (λT=>T.qM.fn)
def ML(q:Nat):GS:=(bU (cy (gQ pz 0 (gI 0)) (nP 92 (gC (.str "a flight closes at a moment from 0 on")))))
def Bu:=aR 1 1 ML
def c1m:OD "check_closing" 33 1 1 Bu:=cF (λT=>T.jD.fn)
def z5(n1:Nat):GS:=(f7 (ar 8 false (gX 1 4)) (cU (gQ iL (gX 6 (gI 0)) 2) (bU (bO n1 (aV true (bR (gC (.str "stopped")) (gX 6 (gI 0)))) 3 4)) (bU (cy (dO (cD (gO (o2 cM) (bR 8 (gC (.ty "tuple"))))) (gQ iL (gX 8 (gI 0)) 2)) (bO n1 (aV true (bR (gC (.str "stopped")) (gX 8 (gI 0)))) 3 4)))))
def MM(q:Nat):GS:=(bU (bG q (ba true et 0) (bo [4,5,6,7]) z5))
def ER:=aR 4 9 MM
def c1n:OD "stand_stopped" 39 1 4 ER:=cF (λT=>T.jF.fn)
def HF(n1:Nat):GT:=(dO (gQ gF (gX 0 (gI 0)) 1) (cD (gO (o2 cM) (bR (gX 2 (gX 0 (gI 0))) (gC (.ty "tuple"))))))
noncomputable def HG(n1:Nat):GE:=0
def Br(n1:Nat):GS:=(f7 (ar 9 false (gX 1 5)) (cy (gw (gQ gF 9 4) (gQ dF (gX 7 (gI 0)) (gX 9 (gI 0)))) (bO n1 5 4 9)))
def Bs(n1:Nat):GS:=(f7 (ar 10 false (gX 4 (gX 1 5))) (cy (gQ (o2 wk) 10 5) (bO n1 (aV true (bR (gC (.str "yields")) 10)) 2 5)))
def MH(q:Nat):GS:=(oE (ar 3 false (bQ q (ba false et 0) 0 HF HG 1 [2,1])) (ar 4 true oV) (bG q (ba true et 3) (bo [5,6,7,8]) Br) (bG q (ba true et 3) (bo [5,6,7,8]) Bs))
def EM:=aR 3 11 MH
def c0z:OD "stand_yielding" 40 1 3 EM:=cF (λT=>T.jh.fn)
def Bt(n1:Nat):GS:=(bU (bO n1 4 3 6))
def xE(n1:Nat):GS:=(f7 (ar 9 false (Gd "dict" (o2 o6) 3 (bc (gX 1 4)))) (cU (dO (gQ gF 4 2) (gQ iL 9 2)) (f7 (bO n1 (aV true (bR (gC (.str "behind")) 9)) 2 4) (ar 8 false (gC (.bl true)))) gu))
def EN(q:Nat):GS:=(f7 (ar 8 false (gC (.bl false))) (bG q (ba true et 1) 4 xE))
def MP(q:Nat):GS:=(oE (ar 3 true oV) (bG q (ba true et 0) (bo [4,5,6,7]) Bt) (ar 8 false (gC (.bl true))) (dw (cD 8) (EN q) 1000))
def EU:=aR 3 10 MP
def c5e:OD "stand_behind" 41 1 3 EU:=cF (λT=>T.j'.fn)
def IP(q:Nat):GS:=(f7 (cy (gQ pz 1 (gO (o1 fJ) (bc 0))) (au (gX 0 1))) (au (gI 0)))
def oU:=aR 2 2 IP
def e4q:OD "_law_cell" 43 1 2 oU:=cF (λT=>T.qV.fn)
def UY(q:Nat):GS:=(bU (au (nt (xX [((gC (.str "now")),(gI 0)),((gC (.str "flights")),(fP oV)),((gC (.str "still")),(aV false gN)),((gC (.str "inside")),(fP oV)),((gC (.str "gone")),(fP (aV false gN)))]))))
def Fm:=aR 0 0 UY
def e0y:OD "_law_state" 55 1 0 Fm:=cF (λT=>T.pW.fn)
def MT(n1:Nat):GE:=(bI iL 0 (gC (.str "abcdefghijklmnopqrstuvwxyz")))
def Nb(q:Nat):GS:=(f7 (cy (gw (gQ pz (gO (o1 fJ) (bc 0)) (gI 1)) (gQ Sm (gO (o1 fJ) (bc 0)) (gI 8))) (au (gC (.bl false)))) (au (gO (o1 (Av zw)) (bc (bQ q (ba false et 0) 0 (λ_=>fq true) MT 1 [])))))
def BB:=aR 1 1 Nb
def d3k:OD "_law_is_name" 56 1 1 BB:=cF (λT=>T.mY.fn)
def BW(n1:Nat):GS:=(bU (cy (gQ dF (gX 2 (gI 0)) (gX 1 (gI 1))) (bO n1 (gC .aI) 2 (gI 0))))
def IQ(n1:Nat):GT:=(gQ (o2 wk) 0 (gX 1 (gI 1)))
def IS(n1:Nat):GE:=0
def Oy(n1:Nat):GT:=(gQ (o2 wk) 0 (gX 1 (gI 1)))
def Oz(n1:Nat):GE:=0
def vM(q:Nat):GS:=(bU (cU (gQ dF (gX 1 (gI 0)) (gC (.str "flight"))) (bU (bO q (aV true (bR (gX 1 (gI 2)) (gX 1 (gI 3)))) (gX 0 (gC (.str "flights"))) (gX 1 (gI 1)))) (bU (cU (gQ dF (gX 1 (gI 0)) (gC (.str "change"))) (bU (bO q (aV true (bR (gX (gX (gX 0 (gC (.str "flights"))) (gX 1 (gI 1))) (gI 0)) (gX 1 (gI 2)))) (gX 0 (gC (.str "flights"))) (gX 1 (gI 1)))) (bU (cU (gQ dF (gX 1 (gI 0)) (gC (.str "off"))) (f7 (cY (dR q "dict" iu (gX 0 (gC (.str "flights"))) (bc (gX 1 (gI 1))))) (bG q (ba true Ei (gX 0 (gC (.str "inside")))) 2 BW)) (bU (cU (gQ dF (gX 1 (gI 0)) (gC (.str "put"))) (bU (bO q (fP (aV false (dU (gX 1 (gI 2)) (aV true (bR (gX 1 (gI 3)) (gI 0))) (gI 0)))) (gX 0 (gC (.str "inside"))) (gX 1 (gI 1)))) (bU (cU (gQ dF (gX 1 (gI 0)) (gC (.str "read"))) (bU (bO q (gX 1 (gI 2)) (gX (gX 0 (gC (.str "inside"))) (gX 1 (gI 1))) (gI 0))) (bU (cU (gQ dF (gX 1 (gI 0)) (gC (.str "stop"))) (bU (bO q (bI bB (bQ q (ba false et (gX 0 (gC (.str "still")))) 0 IQ IS 1 [1]) (aV false (bc (gX 1 (gI 1))))) 0 (gC (.str "still")))) (bU (cy (gQ dF (gX 1 (gI 0)) (gC (.str "start"))) (bO q (bQ q (ba false et (gX 0 (gC (.str "still")))) 0 Oy Oz 1 [1]) 0 (gC (.str "still")))))))))))))))))
def rK:=aR 2 3 vM
def e9e:OD "_law_do" 59 1 2 rK:=cF (λT=>T.xq.fn)
def BE(n3:Nat):GS:=(bU (cy (gQ dF (gX (gX (gX 1 (gC (.str "inside"))) 5) (gI 1)) (aV true (bR (gX 3 (gI 0)) 4))) (cY (dR n3 "list" qA 2 (bc 5)))))
def BF(n2:Nat):GS:=(bU (bG n2 (ba true et (gX 1 (gC (.str "inside")))) 5 BE))
def Fd(n1:Nat):GS:=(bU (bG n1 (iX k7 (bc (gX 3 (gI 1)))) 4 BF))
def OA(q:Nat):GS:=(l9 (ar 2 true (aV false gN)) (bG q (ba true et (gX 0 (gI 0))) 3 Fd) (au 2))
def Fx:=aR 2 6 OA
def e4r:OD "_law_rows" 60 1 2 Fx:=cF (λT=>T.qZ.fn)
def rC(n1:Nat):GS:=(f7 (ar 6 true (gX (gX 0 (gC (.str "inside"))) 2)) (cU (cD (gO (o2 cM) (bR 4 (gC (.ty "str"))))) (f7 (cY (dR n1 "dict" iu (gX 0 (gC (.str "inside"))) (bc 2))) (cY (dR n1 "list" qA (gX 0 (gC (.str "gone"))) (bc (aV true (dU 2 4 (gX 0 (gC (.str "now"))))))))) (bU (cU (gQ A0 5 (gC .aI)) (f7 (bO n1 (bI bB (gX 6 (gI 2)) (gO (o1 pb) (bc (qf (bI dF (gX 3 (gI 0)) (gX 4 (gI 0))) (bI dF (gX 4 (gI 1)) (gI 0)))))) 6 (gI 2)) (bO n1 4 6 (gI 1))) gu))))
def PU(q:Nat):GS:=(f7 (bO q (bI bB (gX 0 (gC (.str "now"))) (gI 1)) 0 (gC (.str "now"))) (bG q (ba true et 1) (bo [2,3,4,5]) rC))
def FZ:=aR 2 7 PU
def e8g:OD "_law_run" 65 1 2 FZ:=cF (λT=>T.uj.fn)
def Nt(q:Nat):GS:=(bU (au (bf atrs "told_rounds" 0)))
def Fe:=aR 1 1 Nt
def d7y:OM "rounds" 12 1 1 Fe:=cF (λT=>T.oa.fn)
def Nu(q:Nat):GS:=(bU (au (bf atrs "now" 0)))
def Ff:=aR 1 1 Nu
def d7z:OM "moment" 13 1 1 Ff:=cF (λT=>T.n_.fn)
noncomputable def eK (n1:Nat):GE:=(gX (bf atrs "book" 1) 0)
noncomputable def jA (q:Nat):GS:=(bU (au (bQ q (ba false et (gO (o1 nF) (bc (bf atrs "book" 0)))) 0 (λ_=>fq true) eK 1 [0])))
noncomputable def eF:=aR 1 1 jA
def d3l:OM "flights" 14 1 1 eF:=cF (λT=>T.mT.fn)
def PV(q:Nat):GS:=(bU (au (gO (o1 kz) (bc (bf atrs "gone" 0)))))
def F0:=aR 1 1 PV
def e8h:OM "out" 17 1 1 F0:=cF (λT=>T.ug.fn)
def M1(q:Nat):GS:=(nU (cY (dR q "dict" iu (bf atrs "places" 0) (bc 1))) (cY (dR q "dict" iu (bf atrs "readings" 0) (bc 1))) (cY (dR q "dict" iu (bf atrs "rounded" 0) (bc 1))) (bO q 2 (bf atrs "carted" 0) 1) (cY (dR q "list" qA (bf atrs "gone" 0) (bc (aV true (dU 1 2 (bf atrs "now" 0)))))))
def By:=aR 3 3 M1
def d0b:OM "move_out" 25 1 3 By:=cF (λT=>T.lV.fn)
def Nc(q:Nat):GS:=(f7 (cy (gw (de (cD (ao (nN q) (bc 0)))) (gQ iL 0 1)) (nP 44 (gC (.str "a belt or a cart has no name, or one that is taken")))) (bO q (gC (.bl true)) 1 0))
def z_:=aR 2 2 Nc
def d3m:OD "take_name" 20 2 2 z_:=cF (λT=>T.mZ.fn)
def Bv(n2:Nat):GS:=(f7 (cy (gQ gF 7 6) (nP 68 (xY (mL (gC (.str "belt ")) (mL (gO (o1 l7) (bc 4)) (mL (gC (.str " has an out that is no cart, no belt behind it, or there twice")) kq)))))) (cY (dR n2 "list" FX 6 (bc 7))))
def EV(n1:Nat):GS:=(nU (ar 4 false (gX 3 (gI 0))) (ar 5 false (tV (cD (gO (o2 cM) (bR (gX 3 (gI 3)) (gC (.ty "list"))))) (gX 3 (gI 3)) (aV false gN))) (ar 6 true (bI bB (ao (tK n1) (bc (vL 0 (yg (bI bB 2 (gI 1))) yf))) 1)) (bG n1 (ba true et 5) 7 Bv) (cy (de (cD 5)) (nP 68 (xY (mL (gC (.str "belt ")) (mL (gO (o1 l7) (bc 4)) (mL (gC (.str " has no outs")) kq)))))))
def M3(q:Nat):GS:=(bU (bG q (ba true J9 0) (bo [2,3]) EV))
def E1:=aR 2 8 M3
def d0c:OD "check_outs" 21 2 2 E1:=cF (λT=>T.lR.fn)
def BC(n2:Nat):GS:=(bU (bO n2 (gC (.bl true)) 2 7))
def Aa(n1:Nat):GS:=(bU (cy (gw (gQ dF 3 1) (gQ iL 3 2)) (bG n1 (ba true et 6) 7 BC)))
def HX(n1:Nat):GT:=(gQ iL 0 1)
noncomputable def HY(n1:Nat):GE:=0
def N1(q:Nat):GS:=(l9 (ar 2 true oV) (bG q (ba true et (gX 0 (gI 0))) (bo [3,4,5,6]) Aa) (au (bQ q (ba false et (bI bB (ao (tK q) (bc (gX 0 (gI 0)))) (gX 0 (gI 1)))) 0 HX HY 1 [2])))
def Fo:=aR 2 8 N1
def e0z:OD "reached" 24 2 2 Fo:=cF (λT=>T.pZ.fn) (N:=["house","belt","found","name","long","ring","outs","out"])
def Rl(q:Nat):GS:=(l9 (ar 3 false (ao (BV q) (bR 0 2))) (cy (gQ gF (gX 1 (gI 0)) 3) (au (gC .aI))) (au (bI qb (gX 3 (gX 1 (gI 0))) (gX 1 (gI 1)))))
def Gr:=aR 3 4 Rl
def f0g:OD "far" 27 2 3 Gr:=cF (λT=>T.Bk.fn)
def B'(n1:Nat):GS:=(bU (cy (dO (gQ iL 5 3) (gw (gQ A0 4 (gC .aI)) (gQ pz (gX 3 5) (gX 3 4)))) (ar 4 false 5)))
def Rm(q:Nat):GS:=(oE (ar 3 false (ao (BV q) (bR 0 2))) (ar 4 false (gC .aI)) (bG q (ba true et (gX (ao (xJ q) (bR 0 1)) (gI 3))) 5 B') (au 4))
def Gs:=aR 3 6 Rm
def f0h:OD "arm" 29 2 3 Gs:=cF (λT=>T.Bj.fn)
def Ic(n1:Nat):GE:=(ao (xJ n1) (bR 1 0))
def OB(q:Nat):GS:=(f7 (ar 1 false (bQ q (ba false et (ao (tK q) (bc (gX 0 (gI 0))))) 0 (λ_=>fq true) Ic 1 [0])) (au (aV true (bR 1 (gO (o1 kz) (bc (gX 0 (gI 1))))))))
def BX:=aR 1 2 OB
def e4u:OD "copied" 32 2 1 BX:=cF (λT=>T.qN.fn)
def Iq(q:Nat):GS:=(oE (ar 4 false (ao (oU q) (bR 0 1))) (cy (gQ dF (bI ia (ao (oU q) (bR 0 (gI 0))) (gI 2)) (gI 1)) (au (bI ia (bI ia (bI rL 4 (gX (aV false (m_ (gI 2) (jy (gI 128) (gI 8192) (gI 524288) (gI 33554432)))) 2)) (gI 64)) 3))) (ar 5 false (bI ia (bI jH (bI bB (bI bB (bI bB (bI ia 4 (gI 1000003)) (bI jH 1 1)) (bI jH (gI 1009) 2)) (gI 7)) (gI 48271)) (gI 999983))) (au (bI ia (bI ia (bI jH (bI bB (bI bB 5 (bI jH (gI 5) 1)) 2) (bI bB (gI 69621) (bI jH (gI 2) 2))) (gI 1000033)) 3)))
def ik:=aR 4 6 Iq
def e1a:OD "_law_digit" 44 2 4 ik:=cF (λT=>T.pS.fn)
def EX(q:Nat):GS:=(nU (ar 3 false (gX 2 (gI 1))) (cU (gQ dF (gX 2 (gI 0)) (gC (.str "flight"))) (l9 (cy (gw (de (cD (ao (BB q) (bc 3)))) (gQ iL 3 (gX 1 (gC (.str "flights"))))) (au (gC (.str "name")))) (cy (gQ gF (gX 2 (gI 2)) (vL (gX 0 (gI 1)) (yg (gI 1)) yf)) (au (gC (.str "out")))) (au (tV (gQ pz (gX 2 (gI 3)) (gI 0)) (gC (.str "moment")) (gC (.str ""))))) gu) (cy (gQ gF 3 (gX 1 (gC (.str "flights")))) (au (gC (.str "flight")))) (cy (dO (gQ dF (gX 2 (gI 0)) (gC (.str "change"))) (gQ pz (gX 2 (gI 2)) (gI 0))) (au (gC (.str "moment")))) (au (gC (.str ""))))
def uo:=aR 3 4 EX
def c5i:OD "_law_due_flight" 57 2 3 uo:=cF (λT=>T.j_.fn)
def Fg(n1:Nat):GS:=(f7 (ar 4 false (gX (gX 1 (gC (.str "inside"))) 3)) (cY (dR n1 "list" qA 2 (bc (aV true (jy 3 (gX 4 (gI 0)) (gX 4 (gI 1)) (gX 4 (gI 2))))))))
def OC(q:Nat):GS:=(l9 (ar 2 true (aV false gN)) (bG q (ba true et (ao (Fx q) (bR 0 1))) 3 Fg) (au 2))
def Fy:=aR 2 5 OC
def e4v:OD "_law_bags" 61 2 2 Fy:=cF (λT=>T.qT.fn)
def Nv(q:Nat):GS:=(oE (cy (gw (de (cD (ao (nN q) (bc 1)))) (gQ iL 1 (bf atrs "book" 0))) (nP 44 (gC (.str "a flight has no name, or one that another flight has")))) (cy (gQ gF 2 (vL (gX (bf atrs "built" 0) (gI 1)) (yg (gI 1)) yf)) (nP 68 (gC (.str "a flight's cart is none of the house, or the hand")))) (cY (ao (Bu q) (bc 3))) (bO q (aV true (dU 1 2 3)) (bf atrs "book" 0) 1))
def BG:=aR 4 4 Nv
def d8a:OM "flight" 1 2 4 BG:=cF (λT=>T.n9.fn)
def MI(q:Nat):GS:=(bU (cy (gw (de (cD (ao (nN q) (bc 1)))) (gQ gF 1 (bf atrs "book" 0))) (nP 104 (gC (.str "no flight is called so")))))
def xF:=aR 2 2 MI
def c1a:OM "check_flight" 8 2 2 xF:=cF (λT=>T.je.fn)
def MQ(q:Nat):GS:=(bU (cy (gQ gF 1 (ao (tK q) (bc (gX (bf atrs "built" 0) (gI 0))))) (nP 116 (gC (.str "no belt is called so")))))
def z7:=aR 2 2 MQ
def c5j:OM "check_belt" 9 2 2 z7:=cF (λT=>T.j0.fn)
def HH(q:Nat):GS:=(bU (cy (gw (de (cD (ao (nN q) (bc 1)))) (gQ gF 1 (bf atrs "places" 0))) (nP 140 (gC (.str "no bag in the house is called so")))))
def vC:=aR 2 2 HH
def c1b:OM "check_inside" 10 2 2 vC:=cF (λT=>T.jg.fn)
def HP(n1:Nat):GT:=(gQ iL 0 (bf atrs "halts" 1))
noncomputable def HQ(n1:Nat):GE:=0
def Nd(q:Nat):GS:=(bU (au (bQ q (ba false et (ao (tK q) (bc (gX (bf atrs "built" 0) (gI 0))))) 0 HP HQ 1 [0])))
def Ab:=aR 1 1 Nd
def d3n:OM "stopped" 15 2 1 Ab:=cF (λT=>T.mV.fn)
def HJ(n1:Nat):GE:=(aV true (dU (Gd "list" (o2 jq) 2 (bc (gX 1 (gI 0)))) (gX 1 (gI 1)) 0))
def HK(n1:Nat):GE:=(gX 0 (gI 2))
def HR(q:Nat):GS:=(l9 (ar 1 false (ao (tK q) (bc (gX (bf atrs "built" 0) (gI 0))))) (ar 2 false (bQ q (ba false uR (bf atrs "places" 0)) (bo [0,1]) (λ_=>fq true) HJ 2 [1])) (au (bQ q (ba false et (gO (o1 pD) (bc 2))) 0 (λ_=>fq true) HK 1 [])))
def Bz:=aR 1 3 HR
def d0f:OM "in_order" 22 2 1 Bz:=cF (λT=>T.lU.fn)
def HZ(q:Nat):GS:=(oE (ar 3 false (gX (bf atrs "places" 0) 1)) (ar 4 false (ao (xJ q) (bR (bf atrs "built" 0) (gX 3 (gI 0))))) (cy (dO (cD (gX 4 (gI 2))) (dO (gQ dF 3 (aV true (bR (gX 4 (gI 0)) (bI qb (gX 4 (gI 1)) (gI 1))))) (gQ dF 2 (aV true (bR (gX 4 (gI 0)) (gI 0)))))) (Jz q Dd (bf atrs "rounded" 0) 1 (gI 1))) (bO q 2 (bf atrs "places" 0) 1))
def vD:=aR 3 5 HZ
def d3o:OM "move_on" 24 2 3 vD:=cF (λT=>T.mU.fn)
def ES(n1:Nat):GS:=(bU (cY (ao (z_ n1) (bR 2 1))))
def MU(q:Nat):GS:=(f7 (bG q (ba true et 0) 2 ES) (cy (de (cD 0)) (nP 80 (gC (.str "a house has a cart at least, the hand")))))
def EY:=aR 2 3 MU
def c7l:OD "check_carts" 18 3 2 EY:=cF (λT=>T.kS.fn)
def ET(n1:Nat):GS:=(l9 (cY (ao (z_ n1) (bR 2 1))) (ar 6 false (tV (cD 4) (gI 2) (gI 1))) (cy (gQ pz 3 6) (nP 56 (xY (mL (gC (.str "belt ")) (mL (gO (o1 l7) (bc 2)) (mL (gC (.str " has fewer than ")) (mL (gO (o1 l7) (bc 6)) (mL (gC (.str " cells")) kq)))))))))
def MV(q:Nat):GS:=(bU (bG q (ba true et 0) (bo [2,3,4,5]) ET))
def EZ:=aR 2 7 MV
def c7m:OD "check_belts" 19 3 2 EZ:=cF (λT=>T.kR.fn)
def HL(n1:Nat):GS:=(bU (cy (gQ gF 1 (ao (Fo n1) (bR 0 2))) (nP 80 (xY (mL (gC (.str "the hand can not be come to from belt ")) (mL (gO (o1 l7) (bc 2)) kq))))))
def M4(q:Nat):GS:=(f7 (ar 1 false (gX (gX 0 (gI 1)) (gI 0))) (bG q (ba true et (ao (tK q) (bc (gX 0 (gI 0))))) 2 HL))
def E2:=aR 1 3 M4
def d0g:OD "check_hand" 22 3 1 E2:=cF (λT=>T.lQ.fn)
def BH(q:Nat):GS:=(oE (ar 4 false (ao (Gs q) (dU 0 (gX 1 (gI 0)) 2))) (cy (gQ iL 4 (gX 0 (gI 1))) (au 4)) (cy (dO (cD (gX 1 (gI 2))) (gQ iL 4 3)) (au (aV true (bR (gX 1 (gI 0)) (gI 0))))) (au (aV true (bR 4 (gI 0)))))
def qy:=aR 4 5 BH
def d8b:OD "off_belt" 37 3 4 qy:=cF (λT=>T.oh.fn)
def OE(q:Nat):GS:=(bU (au (ao (ik q) (jy 0 1 (gI 0) 2))))
def kW:=aR 3 3 OE
def e4w:OD "_law_pick" 45 3 3 kW:=cF (λT=>T.qY.fn)
def N2(q:Nat):GS:=(bU (au (ao (ik q) (jy 0 1 (gI 1) 2))))
def jQ:=aR 3 3 N2
def e1b:OD "_law_other" 46 3 3 jQ:=cF (λT=>T.pV.fn)
def N3(q:Nat):GS:=(bU (au (ao (ik q) (jy 0 1 (gI 2) 2))))
def m7:=aR 3 3 N3
def e1c:OD "_law_third" 47 3 3 m7:=cF (λT=>T.pX.fn)
def Ir(n1:Nat):GE:=(gX 0 (gI 0))
def Iu(n1:Nat):GE:=(gX 0 (gI 0))
def Iv(n1:Nat):GE:=(gX 0 (gI 1))
def An(q:Nat):GS:=(fm (ar 3 false (bQ q (ba false et (gX 0 (gI 0))) 0 (λ_=>fq true) Ir 1 [])) (nU (cy (gQ iL (gX 2 (gI 0)) (aV true (dU (gC (.str "flight")) (gC (.str "change")) (gC (.str "off"))))) (au (ao (uo q) (dU 0 1 2)))) (cy (gQ iL (gX 2 (gI 0)) (aV true (bR (gC (.str "stop")) (gC (.str "start"))))) (au (tV (gQ iL (gX 2 (gI 1)) 3) (gC (.str "")) (gC (.str "belt"))))) (cU (gQ dF (gX 2 (gI 0)) (gC (.str "read"))) (f7 (cy (gQ gF (gX 2 (gI 1)) (gX 1 (gC (.str "inside")))) (au (gC (.str "bag")))) (au (tV (gQ iL (gX 2 (gI 2)) (gX 1 (gC (.str "flights")))) (gC (.str "")) (gC (.str "flight"))))) gu) (cU (gQ dF (gX 2 (gI 0)) (gC (.str "put"))) (oE (cy (gw (de (cD (ao (BB q) (bc (gX 2 (gI 1)))))) (gw (gQ iL (gX 2 (gI 1)) (gX 1 (gC (.str "inside")))) (gQ iL (gX 2 (gI 1)) (bQ q (ba false et (gX 1 (gC (.str "gone")))) 0 (λ_=>fq true) Iu 1 [])))) (au (gC (.str "name")))) (cy (dO (gQ zx (gX 2 (gI 2)) (gC .aI)) (gQ gF (gX 2 (gI 2)) (gX 1 (gC (.str "flights"))))) (au (gC (.str "flight")))) (cy (gQ gF (gX 2 (gI 3)) 3) (au (gC (.str "belt")))) (cy (gQ iL (aV true (bR (gX 2 (gI 3)) (gI 0))) (bQ q (ba false Ei (gX 1 (gC (.str "inside")))) 0 (λ_=>fq true) Iv 1 [])) (au (gC (.str "room"))))) gu) (au (gC (.str "")))))
def nQ:=aR 3 4 An
def e8i:OD "_law_due" 58 3 3 nQ:=cF (λT=>T.ui.fn)
def Nw(q:Nat):GS:=(l9 (cY (a_ cHall "check_flight" (xF q) 0 (bc 1))) (cY (ao (Bu q) (bc 2))) (bO q (aV true (dU 1 (gX (gX (bf atrs "book" 0) 1) (gI 1)) 2)) (bf atrs "book" 0) 1))
def BI:=aR 3 3 Nw
def d8c:OM "change" 2 3 3 BI:=cF (λT=>T.n8.fn)
def Bw(n1:Nat):GS:=(bU (cy (gQ dF (gX (bf atrs "readings" 0) 2) 1) (bO n1 (gC .aI) (bf atrs "readings" 0) 2)))
def M5(q:Nat):GS:=(l9 (cY (a_ cHall "check_flight" (xF q) 0 (bc 1))) (cY (dR q "dict" iu (bf atrs "book" 0) (bc 1))) (bG q (ba true et (gO (o1 kz) (bc (bf atrs "readings" 0)))) 2 Bw))
def BA:=aR 2 3 M5
def d0h:OM "call_off" 3 3 2 BA:=cF (λT=>T.lT.fn)
def Ao(q:Nat):GS:=(fm (cY (a_ cHall "check_belt" (z7 q) 0 (bc 3))) (nU (ar 4 false (aV true (bR 3 (gI 0)))) (cy (gQ iL 4 (gO (o1 pG) (bc (bf atrs "places" 0)))) (nP 128 (xY (mL (gC (.str "cell 0 of belt ")) (mL (gO (o1 l7) (bc 3)) (mL (gC (.str " has a bag")) kq)))))) (bO q 4 (bf atrs "places" 0) 1) (bO q 2 (bf atrs "readings" 0) 1) (bO q (gI 0) (bf atrs "rounded" 0) 1)))
def uw(rest:GS)(q:Nat):GS:=(fm (cy (gw (de (cD (ao (nN q) (bc 1)))) (gw (gQ iL 1 (bf atrs "places" 0)) (gQ iL 1 (bf atrs "carted" 0)))) (nP 44 (gC (.str "a bag has no name, or one that a bag of this hall has or had")))) (fm (cy (gQ zx 2 (gC .aI)) (cY (a_ cHall "check_flight" (xF q) 0 (bc 2)))) rest))
def Ca(q:Nat):GS:=(uw (Ao q) q)
def ux:=aR 4 5 Ca
def e8j:OM "put" 4 3 4 ux:=cF (λT=>T.uh.fn)
def OF(q:Nat):GS:=(l9 (cY (a_ cHall "check_inside" (vC q) 0 (bc 1))) (cY (a_ cHall "check_flight" (xF q) 0 (bc 2))) (bO q 2 (bf atrs "readings" 0) 1))
def BY:=aR 3 3 OF
def e4x:OM "read" 5 3 3 BY:=cF (λT=>T.qR.fn)
def IT(q:Nat):GS:=(f7 (cY (a_ cHall "check_belt" (z7 q) 0 (bc 1))) (bO q (gC (.bl true)) (bf atrs "halts" 0) 1))
def Ah:=aR 2 2 IT
def e4y:OM "stop" 6 3 2 Ah:=cF (λT=>T.qS.fn)
def Iw(q:Nat):GS:=(f7 (cY (a_ cHall "check_belt" (z7 q) 0 (bc 1))) (cy (gQ iL 1 (bf atrs "halts" 0)) (cY (dR q "dict" iu (bf atrs "halts" 0) (bc 1)))))
def xK:=aR 2 2 Iw
def e1d:OM "start" 7 3 2 xK:=cF (λT=>T.pO.fn)
def N4(q:Nat):GS:=(bU (au (ao (BX q) (bc (bf atrs "built" 0)))))
def Fp:=aR 1 1 N4
def e1e:OM "house" 11 3 1 Fp:=cF (λT=>T.pM.fn)
def Ie(n1:Nat):GE:=(aV true (jy 0 (gX (bf atrs "readings" 1) 0) (gX (bf atrs "places" 1) 0) (gX (bf atrs "rounded" 1) 0)))
def OG(q:Nat):GS:=(bU (au (bQ q (ba false et (a_ cHall "in_order" (Bz q) 0 gN)) 0 (λ_=>fq true) Ie 1 [0])))
def xS:=aR 1 1 OG
def e4z:OM "bags" 16 3 1 xS:=cF (λT=>T.qO.fn)
def Iy(q:Nat):GS:=(l9 (cy (dO (cD (ao (nN q) (bc 1))) (gQ iL 1 (bf atrs "carted" 0))) (au (gX (bf atrs "carted" 0) 1))) (cY (a_ cHall "check_inside" (vC q) 0 (bc 1))) (au (gX (bf atrs "places" 0) 1)))
def xO:=aR 2 2 Iy
def e1f:OM "where" 19 3 2 xO:=cF (λT=>T.pP.fn)
def Nf(q:Nat):GS:=(oE (cy (gQ A0 (gX (bf atrs "readings" 0) 1) (gC .aI)) (au (gC (.bl false)))) (ar 2 false (gX (bf atrs "book" 0) (gX (bf atrs "readings" 0) 1))) (ar 3 false (ao (Gr q) (dU (bf atrs "built" 0) (gX (bf atrs "places" 0) 1) (gX 2 (gI 1))))) (au (qf (bI zx 3 (gC .aI)) (bI qLe (bI bB (bf atrs "now" 0) 3) (gX 2 (gI 2))))))
def E7:=aR 2 4 Nf
def d3p:OM "catches" 21 3 2 E7:=cF (λT=>T.mS.fn)
def xI(n1:Nat):GS:=(bU (cU (cD (gO (o2 cM) (bR 3 (gC (.ty "tuple"))))) (bU (cY (a_ cHall "move_on" (vD n1) 0 (bR 2 3)))) (bU (cY (a_ cHall "move_out" (By n1) 0 (bR 2 3))))))
def OH(q:Nat):GS:=(f7 (Jy q Dd atrs "now" 0 (gI 1)) (bG q (ba true et 1) (bo [2,3]) xI))
def Fz:=aR 2 4 OH
def e5a:OM "move" 23 3 2 Fz:=cF (λT=>T.qQ.fn)
def MW(q:Nat):GS:=(fm (ar 1 false (gX 0 (gI 0))) (fm (ar 2 false (gX 0 (gI 1))) (fm (ar 3 true oV) (nU (cY (ao (EY q) (bR 2 3))) (cY (ao (EZ q) (bR 1 3))) (cY (ao (E1 q) (bR 1 2))) (cY (ao (E2 q) (bc 0))) (au (gC (.bl true)))))))
def E0:=aR 1 4 MW
def c7n:OD "right_house" 17 4 1 E0:=cF (λT=>T.kT.fn)
def HM(n1:Nat):GT:=(gQ dF (gX (gX 0 (gI 2)) (gI 1)) (gI 0))
def HN(n1:Nat):GE:=(gX (gX 0 (gI 2)) (gI 0))
def M6(q:Nat):GS:=(bU (au (bI bB (a_ cHall "stopped" (Ab q) 0 gN) (bQ q (ba false et (a_ cHall "bags" (xS q) 0 gN)) 0 HM HN 1 []))))
def E3:=aR 1 1 M6
def d0i:OD "busy_belts" 36 4 1 E3:=cF (λT=>T.lP.fn)
def IU(q:Nat):GS:=(fm (ar 3 false (gC (.str "abcdefghijklmnopqrstuvwxyz"))) (fm (ar 4 false (ao (kW q) (dU 0 1 (gI 26)))) (nU (cy (gQ dF (ao (jQ q) (dU 0 1 (gI 3))) (gI 0)) (au (bI jH (gX 3 (bI ia (bI bB 4 (bI rL 2 (gI 8))) (gI 26))) (bI bB (gI 1) (bI ia 2 (gI 8)))))) (ar 5 false (bI bB (gI 1) (ao (m7 q) (dU 0 1 (gI 8))))) (ar 6 false (ao (jQ q) (dU 0 1 5))) (ar 7 false (gX 3 (ao (ik q) (jy 0 1 (gI 3) (gI 26))))) (au (bI bB (bI bB (bI jH 7 6) (gX 3 (bI ia (bI bB (bI jH (gI 7) 2) 4) (gI 26)))) (bI jH 7 (bI qb (bI qb 5 (gI 1)) 6)))))))
def qz:=aR 3 8 IU
def e5b:OD "_law_name" 48 4 3 qz:=cF (λT=>T.qW.fn)
def uq(n1:Nat):GS:=(f7 (ar 9 false (gX 5 (ao (ik n1) (jy 0 (bI bB (gI 6) 1) (bI bB (gI 1) 8) (gO (o1 fJ) (bc 5)))))) (cy (gQ gF 9 6) (cY (dR n1 "list" B_ 6 (bR (bI ia (bI ia (bI rL 7 (gX (aV false (dU (gI 1) (gI 4) (gI 16))) 8)) (gI 4)) (bI bB (gO (o1 fJ) (bc 6)) (gI 1))) 9)))))
def Ig(n1:Nat):GT:=(gQ iL 0 1)
noncomputable def Ih(n1:Nat):GE:=0
def FA(q:Nat):GS:=(fm (ar 4 false (vL 2 (yg (bI bB 1 (gI 1))) yf)) (fm (ar 5 false (bI bB 4 3)) (nU (ar 6 true (aV false gN)) (ar 7 false (ao (m7 q) (dU 0 (bI bB (gI 1) 1) (gI 64)))) (bG q (iX k7 (bc (bI bB (gI 1) (ao (kW q) (dU 0 (bI bB (gI 6) 1) (gI 3)))))) 8 uq) (cy (dO (gQ gF (gX 3 (gI 0)) 6) (gQ dF (gO (o1 fJ) (bc (bQ q (ba false et 6) 0 Ig Ih 1 [4]))) (gI 0))) (cY (dR q "list" B_ 6 (bR (ao (ik q) (jy 0 (bI bB (gI 1) 1) (gI 3) (bI bB (gO (o1 fJ) (bc 6)) (gI 1)))) (gX 3 (gI 0)))))) (au 6))))
def p7:=aR 4 10 FA
def e5c:OD "_law_outs" 49 4 4 p7:=cF (λT=>T.qX.fn) (N:=["_law_script","_law_k","_law_names","_law_carts","_law_later","_law_some","_law_outs_here","_law_spots","_law_j","_law_out"])
def E8(q:Nat):GS:=(oE (ar 2 false (ao (kW q) (dU 0 (bI bB 1 (gI 1)) (gI 10)))) (cy (gQ dF 2 (gI 0)) (au (bI qb (gO (o1 uZ) (bc (gI 1))) (bI ia (ao (oU q) (bR 0 1)) (bI Cr (gI 10) (gI 8)))))) (cy (gQ dF 2 (gI 1)) (au (bI ia (ao (oU q) (bR 0 1)) (bI Cr (gI 10) (gI 9))))) (au (ao (ik q) (jy 0 (bI bB 1 (gI 1)) (gI 3) (gI 30)))))
def vE:=aR 2 3 E8
def d3q:OD "_law_closing" 53 4 2 vE:=cF (λT=>T.mW.fn)
def OI(q:Nat):GS:=(bU (cU (gQ dF (gX 1 (gI 0)) (gC (.str "flight"))) (bU (cY (a_ cHall "flight" (BG q) 0 (dU (gX 1 (gI 1)) (gX 1 (gI 2)) (gX 1 (gI 3)))))) (bU (cU (gQ dF (gX 1 (gI 0)) (gC (.str "change"))) (bU (cY (a_ cHall "change" (BI q) 0 (bR (gX 1 (gI 1)) (gX 1 (gI 2)))))) (bU (cU (gQ dF (gX 1 (gI 0)) (gC (.str "off"))) (bU (cY (a_ cHall "call_off" (BA q) 0 (bc (gX 1 (gI 1)))))) (bU (cU (gQ dF (gX 1 (gI 0)) (gC (.str "put"))) (bU (cY (a_ cHall "put" (ux q) 0 (dU (gX 1 (gI 1)) (gX 1 (gI 2)) (gX 1 (gI 3)))))) (bU (cU (gQ dF (gX 1 (gI 0)) (gC (.str "read"))) (bU (cY (a_ cHall "read" (BY q) 0 (bR (gX 1 (gI 1)) (gX 1 (gI 2)))))) (bU (cU (gQ dF (gX 1 (gI 0)) (gC (.str "stop"))) (bU (cY (a_ cHall "stop" (Ah q) 0 (bc (gX 1 (gI 1)))))) (bU (cY (a_ cHall "start" (xK q) 0 (bc (gX 1 (gI 1))))))))))))))))))
def p_:=aR 2 2 OI
def e5d:OD "_law_call" 63 4 2 p_:=cF (λT=>T.qU.fn)
noncomputable def ny (q:Nat):GS:=(oE (cy (gQ dF 1 (gI 0)) (au (a_ cHall "flights" (eF q) 0 gN))) (cy (gQ dF 1 (gI 1)) (au (a_ cHall "stopped" (Ab q) 0 gN))) (cy (gQ dF 1 (gI 2)) (au (a_ cHall "bags" (xS q) 0 gN))) (au (a_ cHall "out" (F0 q) 0 gN)))
noncomputable def gd:=aR 2 2 ny
def e5e:OD "_law_told" 66 4 2 gd:=cF (λT=>T.q9.fn)
def Ng(q:Nat):GS:=(l9 (cY (a_ cHall "check_inside" (vC q) 0 (bc 1))) (cy (cD (a_ cHall "catches" (E7 q) 0 (bc 1))) (au (gX (gX (bf atrs "book" 0) (gX (bf atrs "readings" 0) 1)) (gI 1)))) (au (gX (gX (bf atrs "built" 0) (gI 1)) (gI 0))))
def E9:=aR 2 2 Ng
def d3r:OM "cart_of" 20 4 2 E9:=cF (λT=>T.mR.fn)
def ur(n1:Nat):GS:=(l9 (ar 8 false (ao (xJ n1) (bR 1 (gX 6 (gI 0))))) (cU (gQ pz (bI bB (gX 6 (gI 1)) (gI 1)) (gX 8 (gI 1))) (bU (ar 9 false (aV true (bR (gX 6 (gI 0)) (bI bB (gX 6 (gI 1)) (gI 1)))))) (bU (cU (dO (cD (gX 8 (gI 2))) (dO (gQ A0 5 (gC .aI)) (gQ pz 7 (a_ cHall "rounds" (Fe n1) 0 gN)))) (bU (ar 9 false (aV true (bR (gX 6 (gI 0)) (gI 0))))) (bU (ar 9 false (ao (qy n1) (jy 1 8 (a_ cHall "cart_of" (E9 n1) 0 (bc 4)) 2))))))) (cY (dR n1 "list" qA 3 (bc (aV true (bR 4 9))))))
def OJ(q:Nat):GS:=(nU (ar 1 false (a_ cHall "house" (Fp q) 0 gN)) (ar 2 false (ao (E3 q) (bc 0))) (ar 3 true (aV false gN)) (bG q (ba true et (a_ cHall "bags" (xS q) 0 gN)) (bo [4,5,6,7]) ur) (au 3))
def FC:=aR 1 10 OJ
def e5f:OD "wanted" 35 5 1 FC:=cF (λT=>T.ra.fn)
def E_(n1:Nat):GE:=(ao (qz n1) (dU 1 (gI 11) 0))
def E'(n1:Nat):GE:=(ao (qz n1) (dU 1 (gI 11) (bI bB (gI 10) 0)))
def oS(n1:Nat):GS:=(nU (ar 5 false (bI dF (ao (kW n1) (dU 0 (bI bB (gI 1) 4) (gI 3))) (gI 0))) (ar 6 false (bI bB (gI 1) (ao (jQ n1) (dU 0 (bI bB (gI 1) 4) (gI 5))))) (cy (dO (gQ dF 4 (gI 0)) (dO (gQ pz (gO (o1 fJ) (bc 1)) (gI 3)) (gQ dF (ao (m7 n1) (dU 0 (gI 0) (gI 3))) (gI 1)))) (ar 6 false (bI bB (gI 10) (ao (ik n1) (jy 0 (gI 0) (gI 3) (gI 14)))))) (cy (cD 5) (ar 6 false (bI bB 6 (gI 1)))) (cY (dR n1 "list" qA 3 (bc (aV true (jy (gX 1 4) 6 5 (ao (p7 n1) (jy 0 4 1 2))))))))
def N5(q:Nat):GS:=(nU (ar 1 false (bQ q (iX k7 (bc (bI bB (gI 1) (ao (kW q) (dU 0 (gI 0) (gI 5)))))) 0 (λ_=>fq true) E_ 1 [0])) (ar 2 false (bQ q (iX k7 (bc (bI bB (gI 1) (ao (jQ q) (dU 0 (gI 0) (gI 4)))))) 0 (λ_=>fq true) E' 1 [0])) (ar 3 true (aV false gN)) (bG q (iX k7 (bc (gO (o1 fJ) (bc 1)))) 4 oS) (au (aV true (bR 3 2))))
def Ae:=aR 1 7 N5
def e1g:OD "_law_house" 50 5 1 Ae:=cF (λT=>T.pT.fn) (N:=["_law_script","_law_names","_law_carts","_law_belts","_law_k","_law_ring","_law_long"])
def HI(q:Nat):GS:=(f7 (cy (gQ dF 1 (gI 6)) (au (gC (.str "A")))) (au (ao (qz q) (dU 0 (gX (aV false (dU (gI 11) (gI 12) (gI 13))) (ao (ik q) (jy 0 (gI 12) (gI 4) (gI 3)))) 1))))
def z6:=aR 2 2 HI
def c1o:OD "_law_flight_name" 51 5 2 z6:=cF (λT=>T.jE.fn)
def HS(q:Nat):GS:=(f7 (cy (gQ dF 1 (gI 12)) (au (gC (.str "b1")))) (au (ao (qz q) (dU 0 (gX (aV false (dU (gI 11) (gI 12) (gI 13))) (ao (ik q) (jy 0 (gI 13) (gI 4) (gI 3)))) 1))))
def z8:=aR 2 2 HS
def d0j:OD "_law_bag_name" 52 5 2 z8:=cF (λT=>T.lW.fn)
def Iz(q:Nat):GS:=(l9 (ar 2 false (gC (.str ""))) (rY (bU (cY (ao (p_ q) (bR 0 1)))) [((wN rJ 44),(bU (ar 2 false (gC (.str "name"))))),((wN rJ 68),(bU (ar 2 false (gC (.str "out"))))),((wN rJ 92),(bU (ar 2 false (gC (.str "moment"))))),((wN rJ 104),(bU (ar 2 false (gC (.str "flight"))))),((wN rJ 116),(bU (ar 2 false (gC (.str "belt"))))),((wN rJ 128),(bU (ar 2 false (gC (.str "room"))))),((wN rJ 140),(bU (ar 2 false (gC (.str "bag")))))]) (au 2))
def xP:=aR 2 3 Iz
def e1h:OD "_law_tried" 64 5 2 xP:=cF (λT=>T.pY.fn)
def OK(q:Nat):GS:=(fm (cY (ao (E0 q) (bc 1))) (fm (fQ q atrs "built" (ao (BX q) (bc 1)) 0) (fm (fQ q atrs "told_rounds" 2 0) (fm (fQ q atrs "now" (gI 0) 0) (fm (fQ q atrs "book" (fP oV) 0) (fm (fQ q atrs "halts" (fP oV) 0) (nU (fQ q atrs "places" (fP oV) 0) (fQ q atrs "readings" (fP oV) 0) (fQ q atrs "rounded" (fP oV) 0) (fQ q atrs "gone" (fP (aV false gN)) 0) (fQ q atrs "carted" (fP oV) 0))))))))
def BZ:=aR 3 3 OK
def e5g:OM "__init__" 0 5 3 BZ:=cF (λT=>T.qP.fn)
def B1(n1:Nat):GS:=(bU (cU (gQ iL 6 3) (bU (cY (dR n1 "list" qA 4 (bc (aV true (jy 6 8 8 (gX 3 6))))))) (f7 (cY (dR n1 "list" qA 4 (bc (aV true (jy 6 8 (gX 2 6) (gC .aI)))))) (cY (dR n1 "list" qA 5 (bc (aV true (bR 6 (gX 2 6)))))))))
def QT(q:Nat):GS:=(fm (ar 1 false (a_ cHall "bags" (xS q) 0 gN)) (fm (ar 2 false (gO (o1 o4) (bc (ao (FC q) (bc 0))))) (fm (ar 3 true oV) (fm (cY (ao (ER q) (jy 1 2 (a_ cHall "stopped" (Ab q) 0 gN) 3))) (fm (cY (ao (EM q) (dU 1 2 3))) (fm (cY (ao (EU q) (dU 1 2 3))) (nU (ar 4 true (aV false gN)) (ar 5 true (aV false gN)) (bG q (ba true et 1) (bo [6,7,8,9]) B1) (cY (a_ cHall "move" (Fz q) 0 (bc 5))) (au 4))))))))
def Gh:=aR 1 10 QT
def e9f:OD "turn" 38 6 1 Gh:=cF (λT=>T.xr.fn)
def Fb(n1:Nat):GE:=(gX 0 (gI 0))
def rD(q:Nat):GS:=(fm (cy (gQ pz 3 (gI 3)) (au (aV false (bc 10)))) (fm (cy (gQ dF 3 (gI 3)) (au (aV false (bc (aV true (dU (gC (.str "change")) 5 (ao (vE q) (bR 0 1)))))))) (fm (cy (gQ dF 3 (gI 4)) (au (aV false (bc (aV true (bR (gC (.str "off")) 5)))))) (nU (cy (gQ dF 3 (gI 5)) (au (aV false (bR (aV true (bR (gC (.str "off")) 5)) 10)))) (cU (gQ pz 3 (gI 11)) (f7 (cy (gQ dF (ao (jQ q) (dU 0 (bI bB 1 (gI 1)) (gI 3))) (gI 0)) (au (aV false (bc (aV true (jy (gC (.str "put")) 6 (gC .aI) 8)))))) (au (aV false (bc (aV true (jy (gC (.str "put")) 6 5 8)))))) gu) (cy (gQ dF 3 (gI 11)) (au (aV false (bc (aV true (dU (gC (.str "read")) 6 5)))))) (cy (gQ pz 3 (gI 14)) (au (aV false (bc (aV true (bR (gX (aV false (bR (gC (.str "stop")) (gC (.str "start")))) (bI qb 3 (gI 12))) 8)))))) (au (aV false (bc (aV true (bR (gC (.str "turn")) (bI bB (gI 1) (ao (m7 q) (dU 0 (bI bB 1 (gI 1)) (tV (gQ Sm (gX (gX (gX 2 (gI 0)) (gI 0)) (gI 1)) (gI 9)) (gI 12) (gI 4))))))))))))))
def IA(rest:GS)(q:Nat):GS:=(fm (ar 3 false (ao (kW q) (dU 0 1 (gI 20)))) (fm (ar 4 false (ao (m7 q) (dU 0 1 (gI 10)))) (fm (ar 5 false (ao (z6 q) (bR 0 (tV (gQ dF 4 (gI 9)) (gI 6) (bI ia 4 (gI 3)))))) (fm (ar 6 false (ao (z8 q) (bR 0 (ao (jQ q) (dU 0 1 (gI 13)))))) (fm (ar 7 false (bQ q (ba false et (gX 2 (gI 0))) 0 (λ_=>fq true) Fb 1 [])) (fm (ar 8 false (gX (bI bB (bI bB 7 7) (vL (gX 2 (gI 1)) yf (yg (gI 1)))) (ao (m7 q) (dU 0 (bI bB 1 (gI 1)) (bI bB (bI jH (gI 2) (gO (o1 fJ) (bc 7))) (gI 1)))))) (fm (ar 9 false (bI bB (gX 2 (gI 1)) (vL 7 yf (yg (gI 1))))) (fm (ar 10 false (aV true (jy (gC (.str "flight")) 5 (gX 9 (ao (jQ q) (dU 0 (bI bB 1 (gI 1)) (gO (o1 fJ) (bc 9))))) (ao (vE q) (bR 0 1))))) rest))))))))
def p6(q:Nat):GS:=(IA (rD q) q)
def xQ:=aR 3 11 p6
def e1i:OD "_law_deeds" 54 6 3 xQ:=cF (λT=>T.pR.fn) (N:=["_law_script","_law_k","_law_house_here","_law_kind","_law_mark","_law_flight","_law_bag","_law_belts","_law_belt","_law_carts","_law_told_here"])
def BJ(r:Nat->GM)(n1:Nat):GS:=(bU (cy (de (cD (ao (r n1) (bR (gX 0 3) (gX 1 3))))) (au (gC (.bl false)))))
def oq(r:Nat->GM)(q:Nat):GS:=(oE (cU (cD (gO (o2 cM) (bR 1 (aV true (bR (gC (.ty "tuple")) (gC (.ty "list"))))))) (oE (ar 2 false (tV (cD (gO (o2 cM) (bR 1 (gC (.ty "tuple"))))) (gO (o2 cM) (bR 0 (gC (.ty "tuple")))) (gO (o2 cM) (bR 0 (gC (.ty "list")))))) (cy (gw (de (cD 2)) (gQ (o2 wk) (gO (o1 fJ) (bc 0)) (gO (o1 fJ) (bc 1)))) (au (gC (.bl false)))) (bG q (iX k7 (bc (gO (o1 fJ) (bc 1)))) 3 (BJ r)) (au (gC (.bl true)))) gu) (cy (gQ A0 1 (gC .aI)) (au (bI A0 0 (gC .aI)))) (cy (cD (gO (o2 cM) (bR 1 (gC (.ty "str"))))) (au (qf (gO (o2 cM) (bR 0 (gC (.ty "str")))) (bI dF 0 1)))) (au (qf (gO (o2 cM) (bR 0 (gC (.ty "int")))) (qf (CN (gO (o2 cM) (bR 0 (gC (.ty "bool"))))) (bI dF 0 1)))))
def vF:=y6 2 4 oq 5
def e5h:OD "_law_same" 62 6 2 vF:=okR (c:=1) (λT=>T.q8.fn) 5
noncomputable def gm (n1:Nat):GE:=(aV true (dU 0 (gX (gX (gX 1 (gC (.str "flights"))) 0) (gI 0)) (gX (gX (gX 1 (gC (.str "flights"))) 0) (gI 1))))
noncomputable def gH (n1:Nat):GT:=(gQ iL (gX 0 (gI 0)) (gX 1 (gC (.str "still"))))
noncomputable def gp (n1:Nat):GE:=(gX 0 (gI 0))
noncomputable def dA (n1:Nat):GS:=(oE (ar 8 false (bI ia (bI bB 7 3) (gI 4))) (ar 9 true (ao (gd n1) (bR 0 8))) (cy (de (cD (ao (vF n1) (bR 9 (gX 6 8))))) (au (gC (.bl false)))) (cY (dR n1 "list" Ge 9 gN)))
noncomputable def lF (q:Nat):GS:=(nU (ar 4 false (bQ q (ba false et (gO (o1 nF) (bc (gX 2 (gC (.str "flights")))))) 0 (λ_=>fq true) gm 1 [2])) (ar 5 false (bQ q (ba false et (gX 1 (gI 0))) 0 gH gp 1 [2])) (ar 6 false (aV false (jy 4 5 (ao (Fy q) (bR 1 2)) (gX 2 (gC (.str "gone")))))) (bG q (iX k7 (bc (gI 4))) 7 dA) (au (ao (vF q) (bR (a_ cHall "moment" (Ff q) 0 gN) (gX 2 (gC (.str "now")))))))
noncomputable def eR:=aR 4 10 lF
def e1j:OD "_law_lists" 67 7 4 eR:=cF (λT=>T.pU.fn)
def E4(n1:Nat):GS:=(bU (cy (de (cD (ao (vF n1) (bR (a_ cHall "where" (xO n1) 0 (bc 2)) (gX (gX (gX 1 (gC (.str "inside"))) 2) (gI 1)))))) (au (gC (.bl false)))))
def HU(n1:Nat):GE:=(ao (vF n1) (bR (a_ cHall "where" (xO n1) 1 (bc (gX 0 (gI 0)))) (gX 0 (gI 1))))
def Nx(q:Nat):GS:=(f7 (bG q (ba true et (gX 1 (gC (.str "inside")))) 2 E4) (au (gO (o1 (Av zw)) (bc (bQ q (ba false et (gX 1 (gC (.str "gone")))) 0 (λ_=>fq true) HU 1 [0])))))
def BK:=aR 2 3 Nx
def d8d:OD "_law_places" 68 7 2 BK:=cF (λT=>T.og.fn)
noncomputable def iT (n3:Nat):GS:=(bU (cY (ao (FZ n3) (bR 3 (ao (Gh n3) (bc 2))))))
noncomputable def cC (n2:Nat):GS:=(bU (cU (gQ dF (gX 5 (gI 0)) (gC (.str "turn"))) (bU (bG n2 (iX k7 (bc (gX 5 (gI 1)))) 6 iT)) (bU (cU (gw (gQ (o2 wk) (gX 5 (gI 0)) (gC (.str "put"))) (gQ pz (gO (o1 fJ) (bc (gX 3 (gC (.str "inside"))))) (gI 8))) (l9 (ar 7 false (ao (nQ n2) (dU 1 3 5))) (cy (gQ (o2 wk) (ao (xP n2) (bR 2 5)) 7) (au (gC (.bl false)))) (cy (gQ dF 7 (gC (.str ""))) (cY (ao (rK n2) (bR 3 5))))) gu))))
noncomputable def fH (n1:Nat):GS:=(f7 (bG n1 (ba true et (ao (xQ n1) (dU 0 4 1))) 5 cC) (cy (gw (de (cD (ao (eR n1) (jy 2 1 3 (ao (ik n1) (jy 0 4 (gI 3) (gI 4))))))) (de (cD (ao (BK n1) (bR 2 3))))) (au (gC (.bl false)))))
noncomputable def nz (q:Nat):GS:=(nU (ar 1 false (ao (Ae q) (bc 0))) (ar 2 false (rW cHall (BZ q) (bR 1 (ao (kW q) (dU 0 (gI 14) (gI 3)))))) (ar 3 true (ao (Fm q) gN)) (bG q (iX zF (dU (gI 15) (bI bB (gI 23) (bI jH (gI 2) (ao (jQ q) (dU 0 (gI 14) (gI 20))))) (gI 2))) 4 fH) (au (gC (.bl true))))
noncomputable def oQ:=aR 1 8 nz
def e5i:OD "law" 69 8 1 oQ:=cF (λT=>T.q_.fn)
variable{i n:Nat}
abbrev Pr(M:Nat->GM)(vs:List Val)(r:Rv):Prop:=∀q S,M q vs S=some (.ok r S)
noncomputable abbrev bj(ns:List Int):D:=.lst (ns.map D.int)
def qq0{α:Type _}{a:α}{l:List α}:(a::l)[0]?=some a:=rfl
def qq1{α:Type _}{a:α}{l:List α}:(a::l)[i+1]?=l[i]?:=rfl
def Hb{α:Type _}{a:α}{l:List α}:(a::l).length=l.length+1:=rfl
def qq3{α:Type _}:([]:List α).length=0:=rfl
def qq4{α:Type _}{x a:α}{l:List α}:(x::l).set 0 a=a::l:=rfl
def qq5{α:Type _}{x a:α}{l:List α}:(x::l).set (n+1) a=x::l.set n a:=rfl
def qq6{α β:Type _}{f:α->β}{a:α}{l:List α}:(a::l).map f=f a::l.map f:=rfl
def qq7{α β:Type _}{f:α->β}:([]:List α).map f=[]:=rfl
def qq8{α:Type _}{a:α}:List.replicate 0 a=[]:=rfl
def qq9{α:Type _}{a:α}:List.replicate (n+1) a=a::List.replicate n a:=rfl
def qqa{α:Type _}{a:α}{l:List α}:(a::l).take (i+1)=a::l.take i:=rfl
def Ly{α:Type _}{a:α}{l r:List α}:(a::l)++r=a::(l++r):=rfl
def qqc{α:Type _}(l:List α):[]++l=l:=rfl
def qqd{α:Type _}{l:List α}:l.take 0=[]:=rfl
def aG:(false=true)=False:=ud
def qqf(n:Nat):0+n=n:=Nat.zero_add n
def UZ(ns:List Int)(k v:Int)(h1:(k<(ns.length:Int))=True)(h2:d_ (ns.map D.int) k=some (.int v)):Pr oU [.d (bj ns),aQ k] (rd (.int v)):=by
 intro q S;unfold oU IP;simp only[↓ev,bq,h1,decide_true,h2,f6]
def U0(ns:List Int)(k:Int)(h1:(k<(ns.length:Int))=False):Pr oU [.d (bj ns),aQ k] (rd (.int 0)):=by
 intro q S;unfold oU IP;simp only[↓ev,bq,h1,decide_false,aG,f6]
def JB(ns:List Int)(k:Nat):∃v,Pr oU [.d (bj ns),aQ k] (rd (.int v)):=by
 by_cases h:k<ns.length
 .exact⟨_,UZ ns k _ (bu (by lia)) (tL (by rw[fL,g7 h];rfl))⟩
 .exact⟨_,U0 ns k (eq_false (by lia))⟩
noncomputable abbrev Sl:List D:=[.int 2,.int 128,.int 8192,.int 524288,.int 33554432]
def J0(ns:List Int)(k a ck c0 c d:Int)(h0:Pr oU [.d (bj ns),aQ 0] (rd (.int c0)))(hk:Pr oU [.d (bj ns),aQ k] (rd (.int c)))(e:(c0%2 == 1)=true)
  (ha:d_ Sl a=some (.int d)) (d0:(0<d)=True) (d1:(d<1073741824)=True) (m0:(0<ck)=True):Pr ik [.d (bj ns),aQ k,aQ a,aQ ck] (rd (.int (c / d%64%ck))):=by
 intro q S;unfold ik Iq;simp only[↓ev,hk,aF,h0,decide_true,aG,eV,e,ha,d0,d1,and_self,m0,f6]
def J3(ns:List Int)(k a ck c0 c:Int)(h0:Pr oU [.d (bj ns),aQ 0] (rd (.int c0)))(hk:Pr oU [.d (bj ns),aQ k] (rd (.int c)))(e:(c0%2 == 1)=false)
  (k0:0<=k) (k1:k<1000) (a0:0<=a) (a1:a<1000) (m0:(0<ck)=True):∃v,Pr ik [.d (bj ns),aQ k,aQ a,aQ ck] (rd (.int (v%ck))):=by
 have mk:((-(2^64)<k/\k<2^64 \/ -(2^64)<k/\k<2^64)=True):=bu (.inl ⟨by lia,by lia⟩)
 have m1:∀x:Int,(((-(2^64):Int)<1009/\(1009:Int)<2^64 \/ -(2^64)<x/\x<2^64)=True):=λx=>bu (.inl ⟨by decide,by decide⟩)
 have m2:∀x:Int,((-(2^64)<x/\x<2^64\/(-(2^64):Int)<48271/\(48271:Int)<2^64)=True):=λx=>bu (.inr ⟨by decide,by decide⟩)
 have m3:∀x:Int,(((-(2^64):Int)<5/\(5:Int)<2^64 \/ -(2^64)<x/\x<2^64)=True):=λx=>bu (.inl ⟨by decide,by decide⟩)
 have m4:∀x:Int,(((-(2^64):Int)<2/\(2:Int)<2^64 \/ -(2^64)<x/\x<2^64)=True):=λx=>bu (.inl ⟨by decide,by decide⟩)
 have m5:∀x:Int,((-(2^64)<x/\x<2^64\/(-(2^64):Int)<69621+2*a/\69621+2*a<2^64)=True):=λx=>bu (.inr ⟨by lia,by lia⟩)
 refine⟨((c%1000003+k*k+1009*a+7)*48271%999983+5*k+a)*(69621+2*a)%1000033,?_⟩;intro q S;unfold ik Iq;simp only[↓ev,hk,aF,h0,decide_true,aG,eV,e,mk,m1,m2,m3,m4,m5,m0,f6]
def bC(ns:List Int)(k a:Nat)(ck:Int):Int:=match ik 0 [.d (bj ns),aQ k,aQ a,aQ ck] ⟨[],[]⟩ with
 |some (.ok (.v (.d (.int v))) _)=>v
 |_=>0
theorem e9g:∀a:Nat,a<5->∃d:Int,d_ Sl (a:Int)=some (.int d)/\0<d/\d<1073741824
 |0,_=>⟨2,rfl,by decide,by decide⟩
 |1,_=>⟨128,rfl,by decide,by decide⟩
 |2,_=>⟨8192,rfl,by decide,by decide⟩
 |3,_=>⟨524288,rfl,by decide,by decide⟩
 |4,_=>⟨33554432,rfl,by decide,by decide⟩
 |n+5,h=>cR h (by lia)
def il(ns:List Int)(k a:Nat)(ck:Int)(hk:k<1000)(ha:a<5)(m0:0<ck):Pr ik [.d (bj ns),aQ k,aQ a,aQ ck] (rd (.int (bC ns k a ck)))/\0<=bC ns k a ck/\bC ns k a ck<ck:=by
 obtain⟨c0,h0⟩:=JB ns 0;obtain⟨c,h1⟩:=JB ns k;obtain⟨v,e⟩:∃v,Pr ik [.d (bj ns),aQ k,aQ a,aQ ck] (rd (.int (v%ck))):=by
  cases e:(c0%2 == 1) with
  |true=>
   obtain⟨d,d1,d2,d3⟩:=e9g a ha;exact⟨_,J0 ns k a ck c0 c d h0 h1 e d1 (bu d2) (bu d3) (bu m0)⟩
  |false=>exact J3 ns k a ck c0 c h0 h1 e (by lia) (by lia) (by lia) (by lia) (bu m0)
 have z:bC ns k a ck=v%ck:=by unfold bC;rw[e]
 rw[z];exact⟨e,Int.emod_nonneg _ (by lia),Int.emod_lt_of_pos _ m0⟩
def yi(ns:List Int)(k:Nat)(ck:Int)(hk:k<1000)(m0:0<ck):Pr kW [.d (bj ns),aQ k,aQ ck] (rd (.int (bC ns k 0 ck))):=by
 have h:=(il ns k 0 ck hk (by decide) m0).1
 have h:Pr ik [.d (bj ns),aQ k,aQ 0,aQ ck] _:=h;intro q S;unfold kW OE;simp only[↓ev,h,f6]
def vH(ns:List Int)(k:Nat)(ck:Int)(hk:k<1000)(m0:0<ck):Pr jQ [.d (bj ns),aQ k,aQ ck] (rd (.int (bC ns k 1 ck))):=by
 have h:=(il ns k 1 ck hk (by decide) m0).1
 have h:Pr ik [.d (bj ns),aQ k,aQ 1,aQ ck] _:=h;intro q S;unfold jQ N2;simp only[↓ev,h,f6]
def xZ(ns:List Int)(k:Nat)(ck:Int)(hk:k<1000)(m0:0<ck):Pr m7 [.d (bj ns),aQ k,aQ ck] (rd (.int (bC ns k 2 ck))):=by
 have h:=(il ns k 2 ck hk (by decide) m0).1
 have h:Pr ik [.d (bj ns),aQ k,aQ 2,aQ ck] _:=h;intro q S;unfold m7 N3;simp only[↓ev,h,f6]
variable{i:Nat}
noncomputable abbrev FE:Str:="abcdefghijklmnopqrstuvwxyz"
abbrev iN:List Nat:=FE.cps.toList
def y0:iN.length=26:=by decide +kernel
def PX:(FE.length<=1000000)=True:=bu (by decide +kernel)
def e5j:iN.Nodup:=by decide +kernel
def yd(k:Int)(h0:0<=k)(h1:k<26):d_ iN k=some (iN.getD k.toNat 0):=VG 0 h0 (by rw[y0];exact h1)
def Dw:∀i:Nat,i<26->∀n:Nat,n<9->MulOk ⟨#[iN.getD i 0]⟩ (n:Int):=by decide +kernel
def Dx:∀i:Nat,i<26->∀n:Nat,n<9->Txt.mul ⟨#[iN.getD i 0]⟩ (n:Int)=⟨(List.replicate n (iN.getD i 0)).toArray⟩:=by decide +kernel
def y_(i:Nat)(hi:i<26)(n:Nat)(hn:n<9):MulOk ⟨#[iN.getD i 0]⟩ (n:Int)/\Txt.mul ⟨#[iN.getD i 0]⟩ (n:Int)=⟨(List.replicate n (iN.getD i 0)).toArray⟩:=⟨Dw i hi n hn,Dx i hi n hn⟩
def PY(a b:List Nat):(⟨a.toArray⟩:Str)++(⟨b.toArray⟩:Str)=⟨(a++b).toArray⟩:=by
 show(⟨a.toArray++b.toArray⟩:Str)=_
 simp_all
def Dy(ns:List Int)(q n b m:Int)(c:Nat)(z:Str)(hp:Pr kW [.d (bj ns),aQ q,aQ 26] (rd (.int b)))(ho:Pr jQ [.d (bj ns),aQ q,aQ 3] (rd (.int 0)))
  (tY:d_ iN ((b+n / 8)%26)=some c) (em:1+n%8=m) (hm:MulOk ⟨#[c]⟩ m=True) (hz:Txt.mul ⟨#[c]⟩ m=z):Pr qz [.d (bj ns),aQ q,aQ n] (rd (.str z)):=by
 intro q' S;unfold qz IU;simp only[↓ev,aF,hp,ho,aG,eV,cT,and_self,decide_true,PX,tY,em,hm,hz,f6]
def Dz(ns:List Int)(q n b v t sp r:Int)(cr cc:Nat)(z1 z2 z3 z4:Str)(hp:Pr kW [.d (bj ns),aQ q,aQ 26] (rd (.int b)))(ho:Pr jQ [.d (bj ns),aQ q,aQ 3] (rd (.int v)))(hv:(v == 0)=false)
  (ht:Pr m7 [.d (bj ns),aQ q,aQ 8] (rd (.int t))) (hs:Pr jQ [.d (bj ns),aQ q,aQ (1+t)] (rd (.int sp))) (hr:Pr ik [.d (bj ns),aQ q,aQ 3,aQ 26] (rd (.int r)))
  (Kr:d_ iN r=some cr) (hac:d_ iN ((7*n+b)%26)=some cc) (h7:((-(2^64):Int)<7/\(7:Int)<2^64 \/ -(2^64)<n/\n<2^64)=True) (m1:MulOk ⟨#[cr]⟩ sp=True) (e1:Txt.mul ⟨#[cr]⟩ sp=z1) (m2:MulOk ⟨#[cr]⟩ (1+t - 1 - sp)=True) (e2:Txt.mul ⟨#[cr]⟩ (1+t - 1 - sp)=z2)
  (l1:(z1.length+(⟨#[cc]⟩:Str).length<=1000000)=True) (e3:z1++(⟨#[cc]⟩:Str)=z3) (l2:(z3.length+z2.length<=1000000)=True) (e4:z3++z2=z4):Pr qz [.d (bj ns),aQ q,aQ n] (rd (.str z4)):=by
 intro q' S;unfold qz IU;simp only[↓ev,aF,hp,ho,aG,eV,hv,ht,hs,hr,PX,Kr,m1,e1,h7,decide_true,hac,l1,e3,m2,e2,l2,e4,f6]
def t9(ns:List Int)(q n:Nat):List Nat:=if bC ns q 1 3=0 then List.replicate (1+n%8) (iN.getD (((bC ns q 0 26).toNat+n / 8)%26) 0)
 else List.replicate (bC ns q 1 (1+bC ns q 2 8)).toNat (iN.getD (bC ns q 3 26).toNat 0)++iN.getD ((7*n+(bC ns q 0 26).toNat)%26) 0::List.replicate ((bC ns q 2 8).toNat - (bC ns q 1 (1+bC ns q 2 8)).toNat) (iN.getD (bC ns q 3 26).toNat 0)
def jB(ns:List Int)(q n:Nat):Str:=⟨(t9 ns q n).toArray⟩
def rF(l:List Nat):(⟨l.toArray⟩:Str).length=l.length:=by show l.toArray.size=_;simp
def Gi(ns:List Int)(q:Nat)(hq:q<1000)(n:Nat)(hn:n<20):Pr qz [.d (bj ns),aQ q,aQ n] (rd (.str (jB ns q n))):=by
 obtain⟨p1,p2,p3⟩:=il ns q 0 26 hq (by decide) (by decide)
 obtain⟨o1,o2,o3⟩:=il ns q 1 3 hq (by decide) (by decide)
 obtain⟨t1,t2,t3⟩:=il ns q 2 8 hq (by decide) (by decide)
 obtain⟨r1,r2,r3⟩:=il ns q 3 26 hq (by decide) (by decide)
 obtain⟨s1,s2,s3⟩:=il ns q 1 (1+bC ns q 2 8) hq (by decide) (by lia)
 have hp:=yi ns q 26 hq (by decide)
 have ho:=vH ns q 3 hq (by decide)
 have ht:=xZ ns q 8 hq (by decide)
 have hs:=vH ns q (1+bC ns q 2 8) hq (by lia)
 unfold jB t9;split
 .rename_i h
  rw[h] at ho;have ei:(((bC ns q 0 26).toNat+n / 8)%26:Nat)=((bC ns q 0 26+(n:Int) / 8)%26).toNat:=by lia
  rw[ei];obtain⟨q1,q2⟩:=y_ ((bC ns q 0 26+(n:Int) / 8)%26).toNat (by lia) (1+n%8) (by lia)
  exact Dy ns q n _ ((1+n%8:Nat):Int) _ _ hp ho (yd _ (by lia) (by lia)) (by lia) (bu q1) q2
 .rename_i h
  have ei:((7*n+(bC ns q 0 26).toNat)%26:Nat)=((7*(n:Int)+bC ns q 0 26)%26).toNat:=by lia
  rw[ei];obtain⟨q1,q2⟩:=y_ (bC ns q 3 26).toNat (by lia) (bC ns q 1 (1+bC ns q 2 8)).toNat (by lia)
  obtain⟨q3,q4⟩:=y_ (bC ns q 3 26).toNat (by lia) ((bC ns q 2 8).toNat - (bC ns q 1 (1+bC ns q 2 8)).toNat) (by lia)
  rw[show(((bC ns q 1 (1+bC ns q 2 8)).toNat:Nat):Int)=bC ns q 1 (1+bC ns q 2 8) by lia] at q1 q2
  rw[show(((bC ns q 2 8).toNat - (bC ns q 1 (1+bC ns q 2 8)).toNat:Nat):Int)=1+bC ns q 2 8 - 1 - bC ns q 1 (1+bC ns q 2 8) by lia] at q3 q4
  refine Dz ns q n _ _ _ _ _ _ _ _ _ (⟨(List.replicate (bC ns q 1 (1+bC ns q 2 8)).toNat (iN.getD (bC ns q 3 26).toNat 0)++[iN.getD ((7*(n:Int)+bC ns q 0 26)%26).toNat 0]).toArray⟩:Str) _ hp ho (by simpa using h) ht hs r1 (yd _ r2 r3) (yd _ (by lia) (by lia)) (bu (.inl ⟨by decide,by decide⟩)) (bu q1) q2 (bu q3) q4 (bu ?_) ?_ (bu ?_) ?_
  .rw[rF,pI];show _+1<=_;lia
  .exact PY _ [_]
  .rw[rF,rF,dZ,pI,pI];simp only[Hb,qq3];lia
  .rw[PY,kP];rfl
def FD{l:List Nat}(h:i<l.length):l.getD i 0∈l:=by
 simp_all
def OL(ns:List Int)(q:Nat)(hq:q<1000)(n:Nat):∀c∈t9 ns q n,c∈iN:=by
 obtain⟨r1,r2,r3⟩:=il ns q 3 26 hq (by decide) (by decide)
 intro c hc;unfold t9 at hc;split at hc
 .rw[List.eq_of_mem_replicate hc];exact FD (by rw[y0];lia)
 .rw[gZ,y09] at hc;rcases hc with hc|hc|hc
  .rw[List.eq_of_mem_replicate hc];exact FD (by rw[y0];lia)
  .rw[hc];exact FD (by rw[y0];lia)
  .rw[List.eq_of_mem_replicate hc];exact FD (by rw[y0];lia)
def Aw(ns:List Int)(q:Nat)(hq:q<1000)(n:Nat):1<=(t9 ns q n).length/\(t9 ns q n).length<=8:=by
 obtain⟨t1,t2,t3⟩:=il ns q 2 8 hq (by decide) (by decide)
 obtain⟨s1,s2,s3⟩:=il ns q 1 (1+bC ns q 2 8) hq (by decide) (by lia)
 unfold t9;split
 .rw[pI];lia
 .rw[dZ,kO,pI,pI];lia
def ON{j:Nat}(hi:i<26)(hj:j<26)(e:iN.getD i 0=iN.getD j 0):i=j:=by
 have h1:i<iN.length:=by rw[y0];exact hi
 have h2:j<iN.length:=by rw[y0];exact hj
 rw[zW,g7 h1,zW,g7 h2] at e;exact(Eu e5j).mp e
def QU(ns:List Int)(q:Nat)(hq:q<1000)(n m:Nat)(hn:n<20)(hm:m<20)(e:jB ns q n=jB ns q m):n=m:=by
 obtain⟨p1,p2,p3⟩:=il ns q 0 26 hq (by decide) (by decide)
 have e:t9 ns q n=t9 ns q m:=by
  have:=congrArg Str.cps e;simpa[jB] using this
 unfold t9 at e;split at e
 .have l:=congrArg List.length e;rw[pI,pI] at l;have z:iN.getD (((bC ns q 0 26).toNat+n / 8)%26) 0=iN.getD (((bC ns q 0 26).toNat+m / 8)%26) 0:=by
   simp_all
  have:=ON (by lia) (by lia) z
  lia
 .have e:=List.append_cancel_left e;rw[List.cons.injEq] at e;have:=ON (by lia) (by lia) e.1
  lia
def YC:∀c∈iN,(Builtin.Str.occurrences FE ⟨#[c]⟩ 0 FE.length 1).isEmpty=false:=by decide +kernel
def e5k(c:Nat)(h:c∈iN):(Builtin.Str.occurrences (Str.ofString "abcdefghijklmnopqrstuvwxyz") (iU c) 0 (Str.ofString "abcdefghijklmnopqrstuvwxyz").length 1).isEmpty=false:=YC c h
theorem OO:∀n:Nat,(List.replicate n true).all id=true
 |0=>rfl
 |n+1=>by rw[List.replicate_succ,tq,OO n];rfl
theorem BP:∀bs:List Bool,iB (bs.map D.bl)=some bs
 |[]=>rfl
 |b::bs=>by rw[cZ];unfold iB;rw[BP bs];rfl
def N6(l:List Nat)(h1:1<=l.length)(h2:l.length<=8)(hc:∀c∈l,c∈iN):Pr nN [.d (.str ⟨l.toArray⟩)] (rd (.bl true)):=by
 have e:∀q S,aZ (ae 0) (fq true) (E6 q) (l.map λc=>.str (iU c)) [none] S []=some (.ok ((List.replicate l.length true).map D.bl) S):=λq S=>by
  rw[ox (λ_=>D.bl true) l (by lia) λc m=>⟨rd (.bl true),by
   have h:=e5k c (hc c m);unfold E6;simp only[↓ev,aG,h,ja],rfl⟩,List.map_replicate,List.map_const']
 have c1:(1<=((⟨l.toArray⟩:Str).length:Int))=True:=bu (by rw[rF];lia)
 have c2:(((⟨l.toArray⟩:Str).length:Int)<=8)=True:=bu (by rw[rF];lia)
 have c3:((⟨l.toArray⟩:Str).length<=1000000)=True:=bu (by rw[rF];lia)
 intro q S;unfold nN BO;simp only[↓ev,AO,aG,c3,c1,decide_true,c2,e,BP,OO,f6]
abbrev P0(M:Nat->GM)(vs:List Val)(r:Rv):Prop:=∀S,M 0 vs S=some (.ok r S)
noncomputable abbrev dS(xs:List Str):List D:=xs.map D.str
theorem eS(x:Str):∀xs:List Str,((dS xs).any λz=>ec z (.str x))=xs.contains x
 |[]=>rfl
 |y::r=>by
  rw[dS,cZ,List.any_cons,<-dS,eS x r,List.contains_cons,dm]
  congr 1
  exact BEq.comm
def fj(n:Nat)(xs:List Str):(dS xs).all (fX n)=true:=by
 rw[jX];intro d hd;obtain⟨y,_,rfl⟩:=fy.mp hd;cases n <;> rfl
def PZ(xs:List Str)(i:Nat)(y:Str):(dS xs).take i++.str y::(dS xs).drop i=dS (mm xs i y):=by
 grind [mm,List.map_take,List.map_drop]
noncomputable abbrev bZ(S:aT)(xs:List D):aT:=⟨S.s++[.o (.lst xs)],S.r⟩
section
variable{S:aT}{ns:List Int}{k j sp d ll:Int}{s2 s3 s4:ai Val}{wM:List D}{outs:List Str}{y:Str}{a9:ai Val}
def e9h(hl:(wM.length:Int)=ll)(hd:Pr ik [.d (bj ns),aQ (6+k),aQ (1+j),aQ ll] (rd (.int d)))(ha:d_ wM d=some (.str y))(hc:outs.contains y=true):
  uq 0 [ak (bj ns),bY k,s2,s3,s4,ak (.lst wM),aW S.s.length,bY sp,bY j,a9] (bZ S (dS outs))=some (.nx [ak (bj ns),bY k,s2,s3,s4,ak (.lst wM),aW S.s.length,bY sp,bY j,bh y] (bZ S (dS outs))):=by
 unfold uq;simp only[↓ev,hl,hd,ha,aF,fG,fj,eS,hc,e_,aG]
abbrev W3:List D:=[.int 1,.int 4,.int 16]
def e5l{w ol p:Int}{o2:List Str}(hl:(wM.length:Int)=ll)(hd:Pr ik [.d (bj ns),aQ (6+k),aQ (1+j),aQ ll] (rd (.int d)))(ha:d_ wM d=some (.str y))(hc:outs.contains y=false)
  (hw:d_ W3 j=some (.int w)) (w0:(0<w)=True) (w1:(w<1073741824)=True) (el:((dS outs).length:Int)=ol) (o0:(0<ol+1)=True) (hp:sp / w%4%(ol+1)=p) (p0:(0<=p)=True) (p1:(p<2^62)=True) (p2:((dS outs).length<1000000)=True) (h2:(dS outs).take p.toNat++.str y::(dS outs).drop p.toNat=dS o2) :
  uq 0 [ak (bj ns),bY k,s2,s3,s4,ak (.lst wM),aW S.s.length,bY sp,bY j,a9] (bZ S (dS outs))=some (.nx [ak (bj ns),bY k,s2,s3,s4,ak (.lst wM),aW S.s.length,bY sp,bY j,bh y] (bZ S (dS o2))):=by
 unfold uq;simp only[↓ev,hl,hd,ha,aF,fG,fj,eS,hc,ja,aG,hw,w0,w1,and_self,decide_true,el,o0,hp,p0,p1,p2,h2,kF]
end
def IV(ds:List D)(n:Nat):cutD ds (some (n:Int)) none=ds.drop n:=by
 unfold cutD;have e:HT.cS ds.length 0 (some (n:Int))=min n ds.length:=by
  unfold HT.cS;simp;lia
 have e2:HT.cS ds.length ds.length none=ds.length:=rfl;rw[e,e2];by_cases h:n<=ds.length
 .rw[Nat.min_eq_left h];exact Ez (by rw[A8];exact cv _)
 .rw[Nat.min_eq_right (by lia),List.drop_eq_nil_of_le (cv _),List.drop_eq_nil_of_le (by lia),List.take_nil]
def U3(xs:List Str)(k:Nat)(y:Str):(mm xs k y).Perm (y::xs):=by
 unfold mm;refine(List.perm_middle (l₁:=xs.take k) (l₂:=xs.drop k)).trans ?_;rw[List.take_append_drop]
def P1{xs:List Str}{k:Nat}{y:Str}(h:xs.Nodup)(hy:y∉xs):(mm xs k y).Nodup:=(U3 xs k y).nodup_iff.mpr (qH.mpr ⟨hy,h⟩)
structure om (later carts:List Str) (hd:Str) (outs:List Str):Prop where
 nd:outs.Nodup
 sub:∀o∈outs,o∈later++carts
 ne:outs≠[]
 hand:hd∈outs\/∃o∈outs,o∈later
 len:outs.length<=4
def F1{xs:List Str}{k:Int}(h0:0<=k)(h1:k<xs.length):d_ (dS xs) k=some (.str (xs.getD k.toNat "")):=by
 have Ky:k.toNat<xs.length:=by lia
 have e:(dS xs)[k.toNat]?=some (.str (xs.getD k.toNat "")):=by simp[Ky]
 have z:=tL e
 rwa[show((k.toNat:Nat):Int)=k by lia] at z
def U4{xs:List Str}(h:i<xs.length):xs.getD i ""∈xs:=by
 simp_all
theorem e9i:∀j:Nat,j<3->∃d:Int,d_ W3 (j:Int)=some (.int d)/\0<d/\d<1073741824
 |0,_=>⟨1,rfl,by decide,by decide⟩
 |1,_=>⟨4,rfl,by decide,by decide⟩
 |2,_=>⟨16,rfl,by decide,by decide⟩
 |n+3,h=>cR h (by lia)
abbrev nA(S:aT)(ns:List Int)(k sp:Int)(s2:ai Val)(carts later:List Str)(a8 a9:ai Val):Gm:=[ak (bj ns),bY k,s2,ak (.lst (dS carts)),ak (.lst (dS later)),ak (.lst (dS (later++carts))),aW S.s.length,bY sp,a8,a9]
def YD(ns:List Int)(k j:Nat)(sp:Int)(s2:ai Val)(carts later outs:List Str)(a9:ai Val)(hk:k<5)(hj:j<3)(sl:0<(later++carts).length)(He:(later++carts).length<=100)(nd:outs.Nodup)(sb:∀o∈outs,o∈later++carts)(ol:outs.length<=j):
  ∃o2 y,o2.Nodup/\(∀o∈o2,o∈later++carts)/\o2.length<=j+1/\o2≠[]/\∀S,uq 0 (nA S ns k sp s2 carts later ((bY j)) a9) (bZ S (dS outs))=some (.nx (nA S ns k sp s2 carts later ((bY j)) ((bh y))) (bZ S (dS o2))):=by
 obtain⟨d1,d2,d3⟩:=il ns (6+k) (1+j) ((later++carts).length:Int) (by lia) (by lia) (by lia)
 rw[show((6+k:Nat):Int)=6+(k:Int) by lia,show((1+j:Nat):Int)=1+(j:Int) by lia] at d1
 have ha:=F1 (xs:=later++carts) d2 d3;have hm:(later++carts).getD (bC ns (6+k) (1+j) ((later++carts).length:Int)).toNat ""∈later++carts:=U4 (by lia)
 generalize(later++carts).getD (bC ns (6+k) (1+j) ((later++carts).length:Int)).toNat ""=y at ha hm;have hl:((dS (later++carts)).length:Int)=((later++carts).length:Int):=by rw[bq]
 cases hc:outs.contains y with
 |true=>
  refine⟨outs,y,nd,sb,by lia,λz=>?_,λS=>e9h hl d1 ha hc⟩
  simp_all
 |false=>
  obtain⟨w,w1,w2,w3⟩:=e9i j hj;have o0:(0:Int)<(outs.length:Int)+1:=by lia
  have el:((dS outs).length:Int)=(outs.length:Int):=by rw[bq]
  have p0:0<=sp / w%4%((outs.length:Int)+1):=Int.emod_nonneg _ (by lia)
  have p1:sp / w%4%((outs.length:Int)+1)<(outs.length:Int)+1:=Int.emod_lt_of_pos _ o0;have hy:y∉outs:=by simpa using hc
  refine⟨_,y,P1 (k:=(sp / w%4%((outs.length:Int)+1)).toNat) nd hy,λo ho=>?_,by rw[Fw];lia,λz=>?_,λS=>e5l hl d1 ha hc w1 (bu w2) (bu w3) el (bu o0) rfl (bu p0) (bu (by lia)) (bu (by rw[bq];lia)) (PZ _ _ _)⟩
  .rcases kD.mp ho with z|z
   .rw[z];exact hm
   .exact sb o z
  grind [Fw]
def Ny(q:Nat)(S:aT)(outs later:List Str)(h:outs.length<=1000):aZ (ae 0) (Ig q) (Ih q) (dS outs) [none,ak (.lst (dS later))] S []=some (.ok (dS (outs.filter λo=>later.contains o)) S):=by
 rw[dS,uD (λo=>if later.contains o=true then some (.str o) else none) outs (by lia) λo m=>by
  unfold Ig Ih;cases hc:later.contains o with
  |true=>exact .inr ⟨rd (.str o),.str o,rfl,by simp only[↓ev,fj,aG,eS,hc],by simp only[↓ev],rfl⟩
  |false=>exact .inl ⟨rfl,by simp only[↓ev,fj,aG,eS,hc]⟩]
 congr 2
 induction outs with
 |nil=>rfl
 |cons o r ih=>
  grind
section
variable{S:aT}{ns:List Int}{k sp r:Int}{later carts o1 outs:List Str}{names:List D}{hand:Str}{a8 a9:ai Val}
structure uk (S:aT) (ns:List Int) (k sp r:Int) (later carts o1:List Str) (names:List D) (hand:Str) (a8 a9:ai Val):Prop where
 c1:cutD names (some (k+1)) none=dS later
 c2:((dS later).length+(dS carts).length<=1000000)=True
 ht:Pr m7 [.d (bj ns),aQ (1+k),aQ 64] (rd (.int sp))
 hp:Pr kW [.d (bj ns),aQ (6+k),aQ 3] (rd (.int r))
 hi:Nat.ble (1+r).natAbs 1000000000000=true
 ap:dS later++dS carts=dS (later++carts)
 hl:aN (ae 8) (uq 0) (gG 0 (1+r).toNat) (nA S ns k sp ((ak (.lst names))) carts later none none) (bZ S [])=some (.nx (nA S ns k sp ((ak (.lst names))) carts later a8 a9) (bZ S (dS o1)))
 tY:d_ (dS carts) 0=some (.str hand)
def YE(h:uk S ns k sp r later carts o1 names hand a8 a9)(hc:o1.contains hand=true):p7 0 [.d (bj ns),aQ k,.d (.lst names),.d (.lst (dS carts))] S=some (.ok (.o (.lst (dS o1))) S):=by
 obtain⟨c1,c2,ht,hp,hi,ap,hl,tY⟩:=h;unfold p7 FA;simp only[↓ev,c1,aF,c2,ap,aG,ht,hp,hi,iy,hl,nA,bZ,tY,fG,fj,eS,hc,e_,y8,tQ]
def YF(h:uk S ns k sp r later carts o1 names hand a8 a9)(hc:o1.contains hand=false)(hlen:o1.length<=1000){n:Int}(hn:((dS (o1.filter λo=>later.contains o)).length:Int)=n)(hz:(n == 0)=false):p7 0 [.d (bj ns),aQ k,.d (.lst names),.d (.lst (dS carts))] S=some (.ok (.o (.lst (dS o1))) S):=by
 obtain⟨c1,c2,ht,hp,hi,ap,hl,tY⟩:=h;have e:=λq S=>Ny q S o1 later hlen
 unfold p7 FA;simp only[↓ev,c1,aF,c2,ap,aG,ht,hp,hi,iy,hl,nA,bZ,tY,fG,fj,eS,hc,ja,e,hn,eV,hz,y8,tQ]
def Wr(h:uk S ns k sp r later carts o1 names hand a8 a9)(hc:o1.contains hand=false)(hlen:o1.length<=1000)(hn:((dS (o1.filter λo=>later.contains o)).length:Int)=0){d ol:Int}(el:((dS o1).length:Int)=ol)(hd:Pr ik [.d (bj ns),aQ (1+k),aQ 3,aQ (ol+1)] (rd (.int d)))
  (p0:(0<=d)=True) (p1:(d<2^62)=True) (p2:((dS o1).length<1000000)=True) (h2:(dS o1).take d.toNat++.str hand::(dS o1).drop d.toNat=dS outs):p7 0 [.d (bj ns),aQ k,.d (.lst names),.d (.lst (dS carts))] S=some (.ok (.o (.lst (dS outs))) S):=by
 obtain⟨c1,c2,ht,hp,hi,ap,hl,tY⟩:=h;have e:=λq S=>Ny q S o1 later hlen
 unfold p7 FA;simp only[↓ev,c1,aF,c2,ap,aG,ht,hp,hi,iy,hl,nA,bZ,tY,fG,fj,eS,hc,ja,e,hn,eV,cT,el,hd,p0,p1,p2,and_self,h2,kF,y8,tQ]
end
def FG{d r:List Nat}(e:List.range n=d++i::r):d.length=i/\i<n:=by
 have h2:d.length<n:=by have:=congrArg List.length e;simp at this;lia
 have h1:=congrArg (λl=>l[d.length]?) e
 simp only[ub (cv _),Mm,qq0] at h1;rw[zT h2] at h1;have:=Option.some.inj h1;exact⟨this,this ▸ h2⟩
def nE(n:Nat):gG 0 n=(List.range n).map λ(i:Nat)=>D.int (i:Int):=by
 unfold gG;simp only[Int.zero_add]
def e5m(ns:List Int)(k:Nat)(names carts:List Str)(hand:Str)(hk:k<5)(hl:names.length<=5)(hh:carts.head?=some hand)(hc:carts.length<=4):
  ∃outs,om (names.drop (k+1)) carts hand outs/\∀S,p7 0 [.d (bj ns),aQ k,.d (.lst (dS names)),.d (.lst (dS carts))] S=some (.ok (.o (.lst (dS outs))) S):=by
 have hc0:0<carts.length:=by cases carts with|nil=>cases hh|cons a b=>simp
 obtain⟨r1,r2,r3⟩:=il ns (6+k) 0 3 (by lia) (by decide) (by decide)
 have hp:=yi ns (6+k) 3 (by lia) (by decide)
 have ht:=xZ ns (1+k) 64 (by lia) (by decide)
 rw[show((6+k:Nat):Int)=6+(k:Int) by lia] at hp
 rw[show((1+k:Nat):Int)=1+(k:Int) by lia] at ht
 have sl:0<(names.drop (k+1)++carts).length:=by rw[dZ];lia
 have He:(names.drop (k+1)++carts).length<=100:=by rw[dZ,A8];lia
 obtain⟨⟨o1,a8,a9⟩,⟨nd,sb,ol,one⟩,e1⟩:=QP (gg:=ae 8) (body:=uq 0) (f:=λ(i:Nat)=>D.int (i:Int)) (λ(b:List Str×ai Val×ai Val) S=>(nA S ns k (bC ns (1+k) 2 64) ((ak (.lst (dS names)))) carts (names.drop (k+1)) b.2.1 b.2.2,bZ S (dS b.1)))
  (λpre b=>b.1.Nodup/\(∀o∈b.1,o∈names.drop (k+1)++carts)/\b.1.length<=pre.length/\(pre≠[]->b.1≠[])) (List.range (1+bC ns (6+k) 0 3).toNat) ([],none,none)
  ⟨EA,λo m=>(by cases m),cv _,λz=>cR rfl z⟩ (by
   rintro d i r eq ⟨outs,a8,a9⟩ ⟨nd,sb,ol,_⟩;obtain⟨hq,hi⟩:=FG eq;obtain⟨o2,y,n2,s2,l2,ne2,e2⟩:=YD ns k i (bC ns (1+k) 2 64) ((ak (.lst (dS names)))) carts (names.drop (k+1)) outs a9 hk (by lia) sl He nd sb (ju ol (Ew hq))
   exact⟨(o2,bY i,(bh y)),⟨n2,s2,by rw[dZ,zP,hq];exact l2,λ_=>ne2⟩,λS=>⟨_,rfl,.inl (e2 S)⟩⟩)
 dsimp only at nd sb ol one e1;rw[w_] at ol;have one:o1≠[]:=one (by intro z;have:=congrArg List.length z;simp at this;lia)
 have e1:=λS=>(congrArg (λl=>aN (ae 8) (uq 0) l _ _) (nE _)).trans (e1 S)
 have tY:d_ (dS carts) 0=some (.str hand):=by
  cases carts with
  |nil=>cases hh
  |cons a b=>cases hh;exact tL (xs:=D.str hand::b.map D.str) (j:=0) rfl
 have hm:hand∈names.drop (k+1)++carts:=n4 _ (List.mem_of_mem_head? hh);have H:∀S,uk S ns k (bC ns (1+k) 2 64) (bC ns (6+k) 0 3) (names.drop (k+1)) carts o1 (dS names) hand a8 a9:=λS=>⟨by rw[show(k:Int)+1=((k+1:Nat):Int) by lia,IV,dS,dS,Em],bu (by rw[bq,bq,A8];lia),ht,hp,My (by lia),fZ.symm,e1 S,tY⟩
 cases CW:o1.contains hand with
 |true=>exact⟨o1,⟨nd,sb,one,.inl (by simpa using CW),by lia⟩,λS=>YE (H S) CW⟩
 |false=>
  by_cases hf:(o1.filter λo=>(names.drop (k+1)).contains o).length=0
  .obtain⟨d1,d2,d3⟩:=il ns (1+k) 3 ((o1.length:Int)+1) (by lia) (by decide) (by lia)
   rw[show((1+k:Nat):Int)=1+(k:Int) by lia] at d1
   have hy:hand∉o1:=by simpa using CW
   refine⟨_,⟨P1 (k:=(bC ns (1+k) 3 ((o1.length:Int)+1)).toNat) nd hy,λo ho=>?_,λz=>?_,.inl (kD.mpr (.inl rfl)),by rw[Fw];lia⟩,λS=>Wr (H S) CW (by lia) (by rw[bq,hf];rfl) (by rw[bq]) d1 (bu d2) (bu (by lia)) (bu (by rw[bq];lia)) (PZ _ _ _)⟩
   .rcases kD.mp ho with z|z
    .rw[z];exact hm
    .exact sb o z
   .have:=Fw o1 (bC ns (1+k) 3 ((o1.length:Int)+1)).toNat hand;rw[z] at this;simp at this
  .refine⟨o1,⟨nd,sb,one,.inr ?_,by lia⟩,λS=>YF (H S) CW (by lia) rfl (by rw[bq];simp only[qJ];lia)⟩
   simp_all
def aw(b:ax):D:=.tup [.str b.name,.int b.long,.bl b.ring,.lst (dS b.outs)]
def av(h:az):D:=.tup [.lst (h.af.map aw),.lst (dS h.carts)]
abbrev ib(S:aT)(ns:List Int)(names carts:List Str)(k:Int)(a5 a6:ai Val):Gm:=[ak (bj ns),ak (.lst (dS names)),ak (.lst (dS carts)),aW S.s.length,bY k,a5,a6]
section
variable{S:aT}{ns:List Int}{ki pv ov nl tv dv:Int}{names carts outs:List Str}{nm:Str}{bl:List D}{rg:Bool}{a5 a6:ai Val}
def hB0(hp:Pr kW [.d (bj ns),aQ (1+ki),aQ 3] (rd (.int pv)))(hr:(pv == 0)=rg)(ho:Pr jQ [.d (bj ns),aQ (1+ki),aQ 5] (rd (.int ov)))(ha:d_ (dS names) ki=some (.str nm))(hx:∀S,p7 0 [.d (bj ns),aQ ki,.d (.lst (dS names)),.d (.lst (dS carts))] S=some (.ok (.o (.lst (dS outs))) S))(hb:(bl.length<1000000)=True)(e1:(ki == 0)=false):oS 0 (ib S ns names carts ki a5 a6) (bZ S bl)=some (.nx (ib S ns names carts ki ((ak (.bl rg))) ((bY (if rg=true then(1+ov)+1 else(1+ov))))) (bZ S (bl++[.tup [.str nm,.int (if rg=true then(1+ov)+1 else(1+ov)),.bl rg,.lst (dS outs)]]))):=by
 unfold oS ib bZ;cases rg with
 |true=>simp only[↓ev,hp,aG,eV,hr,aF,ho,e1,fG,ha,hx,hb,kF]
 |false=>simp only[↓ev,hp,aG,eV,hr,aF,ho,e1,fG,ha,hx,hb,kF]
def hB1(hp:Pr kW [.d (bj ns),aQ (1+ki),aQ 3] (rd (.int pv)))(hr:(pv == 0)=rg)(ho:Pr jQ [.d (bj ns),aQ (1+ki),aQ 5] (rd (.int ov)))(ha:d_ (dS names) ki=some (.str nm))(hx:∀S,p7 0 [.d (bj ns),aQ ki,.d (.lst (dS names)),.d (.lst (dS carts))] S=some (.ok (.o (.lst (dS outs))) S))(hb:(bl.length<1000000)=True)(e1:(ki == 0)=true)(el:((dS names).length:Int)=nl)(e2:(nl<3)=False):oS 0 (ib S ns names carts ki a5 a6) (bZ S bl)=some (.nx (ib S ns names carts ki ((ak (.bl rg))) ((bY (if rg=true then(1+ov)+1 else(1+ov))))) (bZ S (bl++[.tup [.str nm,.int (if rg=true then(1+ov)+1 else(1+ov)),.bl rg,.lst (dS outs)]]))):=by
 unfold oS ib bZ;cases rg with
 |true=>simp only[↓ev,hp,aG,eV,hr,aF,ho,e1,el,e2,decide_false,fG,ha,hx,hb,kF]
 |false=>simp only[↓ev,hp,aG,eV,hr,aF,ho,e1,el,e2,decide_false,fG,ha,hx,hb,kF]
def hB2(hp:Pr kW [.d (bj ns),aQ (1+ki),aQ 3] (rd (.int pv)))(hr:(pv == 0)=rg)(ho:Pr jQ [.d (bj ns),aQ (1+ki),aQ 5] (rd (.int ov)))(ha:d_ (dS names) ki=some (.str nm))(hx:∀S,p7 0 [.d (bj ns),aQ ki,.d (.lst (dS names)),.d (.lst (dS carts))] S=some (.ok (.o (.lst (dS outs))) S))(hb:(bl.length<1000000)=True)(e1:(ki == 0)=true)(el:((dS names).length:Int)=nl)(e2:(nl<3)=True)(ht:Pr m7 [.d (bj ns),aQ 0,aQ 3] (rd (.int tv)))(e3:(tv == 1)=false):oS 0 (ib S ns names carts ki a5 a6) (bZ S bl)=some (.nx (ib S ns names carts ki ((ak (.bl rg))) ((bY (if rg=true then(1+ov)+1 else(1+ov))))) (bZ S (bl++[.tup [.str nm,.int (if rg=true then(1+ov)+1 else(1+ov)),.bl rg,.lst (dS outs)]]))):=by
 unfold oS ib bZ;cases rg with
 |true=>simp only[↓ev,hp,aG,eV,hr,aF,ho,e1,el,e2,decide_true,ht,e3,fG,ha,hx,hb,kF]
 |false=>simp only[↓ev,hp,aG,eV,hr,aF,ho,e1,el,e2,decide_true,ht,e3,fG,ha,hx,hb,kF]
def hB3(hp:Pr kW [.d (bj ns),aQ (1+ki),aQ 3] (rd (.int pv)))(hr:(pv == 0)=rg)(ho:Pr jQ [.d (bj ns),aQ (1+ki),aQ 5] (rd (.int ov)))(ha:d_ (dS names) ki=some (.str nm))(hx:∀S,p7 0 [.d (bj ns),aQ ki,.d (.lst (dS names)),.d (.lst (dS carts))] S=some (.ok (.o (.lst (dS outs))) S))(hb:(bl.length<1000000)=True)(e1:(ki == 0)=true)(el:((dS names).length:Int)=nl)(e2:(nl<3)=True)(ht:Pr m7 [.d (bj ns),aQ 0,aQ 3] (rd (.int tv)))(e3:(tv == 1)=true)(hd:Pr ik [.d (bj ns),aQ 0,aQ 3,aQ 14] (rd (.int dv))):oS 0 (ib S ns names carts ki a5 a6) (bZ S bl)=some (.nx (ib S ns names carts ki ((ak (.bl rg))) ((bY (if rg=true then(10+dv)+1 else(10+dv))))) (bZ S (bl++[.tup [.str nm,.int (if rg=true then(10+dv)+1 else(10+dv)),.bl rg,.lst (dS outs)]]))):=by
 unfold oS ib bZ;cases rg with
 |true=>simp only[↓ev,hp,aG,eV,hr,aF,ho,e1,el,e2,decide_true,ht,e3,hd,fG,ha,hx,hb,kF]
 |false=>simp only[↓ev,hp,aG,eV,hr,aF,ho,e1,el,e2,decide_true,ht,e3,hd,fG,ha,hx,hb,kF]
end
def YG(ns:List Int)(k:Nat)(names carts:List Str)(hand:Str)(bs:List ax)(a5 a6:ai Val)(hk:k<names.length)(hl:names.length<=5)(hh:carts.head?=some hand)(hc:carts.length<=4)(hb:bs.length<=100):
  ∃b:ax,b.name=names.getD k ""/\(1<=b.long/\b.long<=26/\(b.long<=6\/k=0/\names.length<3))/\(b.ring=true->2<=b.long)/\om (names.drop (k+1)) carts hand b.outs/\∃a5' g9,∀S,oS 0 (ib S ns names carts k a5 a6) (bZ S (bs.map aw))=some (.nx (ib S ns names carts k a5' g9) (bZ S ((bs++[b]).map aw))):=by
 have hp:=yi ns (1+k) 3 (by lia) (by decide)
 have ho:=vH ns (1+k) 5 (by lia) (by decide)
 obtain⟨o1,o2,o3⟩:=il ns (1+k) 1 5 (by lia) (by decide) (by decide)
 rw[show((1+k:Nat):Int)=1+(k:Int) by lia] at hp ho
 obtain⟨outs,ok,eo⟩:=e5m ns k names carts hand (by lia) hl hh hc
 have ha:=F1 (xs:=names) (k:=(k:Int)) (by lia) (by lia)
 rw[Mo] at ha;have ht:Pr m7 [.d (bj ns),aQ 0,aQ 3] _:=xZ ns 0 3 (by decide) (by decide)
 obtain⟨d1,d2,d3⟩:=il ns 0 3 14 (by decide) (by decide) (by decide)
 have d1:Pr ik [.d (bj ns),aQ 0,aQ 3,aQ 14] _:=d1;have el:((dS names).length:Int)=(names.length:Int):=by rw[bq]
 have vW:((bs.map aw).length<1000000)=True:=bu (by rw[bq];lia)
 obtain⟨l',l1,e⟩:∃l':Int,(1<=l'/\l'<=25/\(l'<=5\/k=0/\names.length<3))/\∀S,oS 0 (ib S ns names carts k a5 a6) (bZ S (bs.map aw))=some (.nx (ib S ns names carts k ((ak (.bl (bC ns (1+k) 0 3 == 0)))) ((bY (if(bC ns (1+k) 0 3 == 0)=true then l'+1 else l')))) (bZ S (bs.map aw++[.tup [.str (names.getD k ""),.int (if(bC ns (1+k) 0 3 == 0)=true then l'+1 else l'),.bl (bC ns (1+k) 0 3 == 0),.lst (dS outs)]]))):=by
  cases e1:((k:Int) == 0) with
  |false=>exact⟨_,by lia,λS=>hB0 hp rfl ho ha eo vW e1⟩
  |true=>
   by_cases e2:(names.length:Int)<3
   .cases e3:(bC ns 0 2 3 == 1) with
    |false=>exact⟨_,by lia,λS=>hB2 hp rfl ho ha eo vW e1 el (bu e2) ht e3⟩
    |true=>exact⟨_,by have:=beq_iff_eq.mp e1;lia,λS=>hB3 hp rfl ho ha eo vW e1 el (bu e2) ht e3 d1⟩
   .exact⟨_,by lia,λS=>hB1 hp rfl ho ha eo vW e1 el (eq_false e2)⟩
 refine⟨ax.mk (names.getD k "") (if(bC ns (1+k) 0 3 == 0)=true then l'+1 else l') (bC ns (1+k) 0 3 == 0) outs,rfl,?_,λhr=>?_,ok,_,_,λS=>by rw[fZ];exact e S⟩
 all_goals lia
def TQ(q:Nat)(S:aT)(ns:List Int)(n:Nat)(hn:n<=14):aZ (ae 0) (fq true) (E_ q) (gG 0 n) [none,ak (bj ns)] S []=some (.ok (dS ((List.range n).map (jB ns 11))) S):=by
 rw[nE,ox (λk=>D.str (jB ns 11 k)) (List.range n) (by rw[w_];lia) λi m=>⟨rd (.str (jB ns 11 i)),by
  have h:Pr qz [.d (bj ns),aQ 11,aQ i] _:=Gi ns 11 (by decide) i (by have:=qp.mp m;lia)
  unfold E_;generalize(i:Int)=ii at *;simp only[↓ev,h],rfl⟩,dS,dh]
 rfl
def TR(q:Nat)(S:aT)(ns:List Int)(n:Nat)(hn:n<=4):aZ (ae 0) (fq true) (E' q) (gG 0 n) [none,ak (bj ns)] S []=some (.ok (dS ((List.range n).map λi=>jB ns 11 (10+i))) S):=by
 rw[nE,ox (λk=>D.str (jB ns 11 (10+k))) (List.range n) (by rw[w_];lia) λi m=>⟨rd (.str (jB ns 11 (10+i))),by
  have h:Pr qz [.d (bj ns),aQ 11,aQ ((10+i:Nat):Int)] _:=Gi ns 11 (by decide) (10+i) (by have:=qp.mp m;lia)
  rw[show((10+i:Nat):Int)=10+(i:Int) by lia] at h
  unfold E';generalize(i:Int)=ii at *;simp only[↓ev,h],rfl⟩,dS,dh]
 rfl
theorem P4:∀{bs:List ax},(∀b∈bs,b.outs.length<=4)->(bs.map λx=>x.outs.length).sum<=4*bs.length
 |[],_=>cv _
 |b::bs,h=>by
  rw[cZ,List.sum_cons,kO];have:=P4 λb m=>h b (qt _ m)
  grind
def OP(ns:List Int)(l:List Nat)(nd:l.Nodup)(hl:∀i∈l,i<14):(l.map (jB ns 11)).Nodup:=by
 rw[List.Nodup,En];exact nd.imp_of_mem λha hb ne z=>ne (QU ns 11 (by decide) _ _ (by have:=hl _ ha;lia) (by have:=hl _ hb;lia) z)
def U5(S:aT)(ns:List Int)(n c:Int)(names carts:List Str)(a4 a5 a6:ai Val)(bs:List D)(hp:Pr kW [.d (bj ns),aQ 0,aQ 5] (rd (.int n)))(ho:Pr jQ [.d (bj ns),aQ 0,aQ 4] (rd (.int c)))
  (i1:Nat.ble (1+n).natAbs 1000000000000=true) (i2:Nat.ble (1+c).natAbs 1000000000000=true) (nl:Int) (el:((dS names).length:Int)=nl) (i3:Nat.ble nl.natAbs 1000000000000=true)
  (e1:∀q S,aZ (ae 0) (fq true) (E_ q) (gG 0 (1+n).toNat) [none,ak (bj ns)] S []=some (.ok (dS names) S)) (e2:∀q S,aZ (ae 0) (fq true) (E' q) (gG 0 (1+c).toNat) [none,ak (bj ns)] S []=some (.ok (dS carts) S))
  (e3:aN (ae 4) (oS 0) (gG 0 nl.toNat) [ak (bj ns),ak (.lst (dS names)),ak (.lst (dS carts)),aW S.s.length,none,none,none] (bZ S [])=some (.nx [ak (bj ns),ak (.lst (dS names)),ak (.lst (dS carts)),aW S.s.length,a4,a5,a6] (bZ S bs))) :
  Ae 0 [.d (bj ns)] S=some (.ok (rd (.tup [.lst bs,.lst (dS carts)])) S):=by
 unfold Ae N5;simp only[↓ev,hp,i1,iy,e1,aF,ho,i2,e2,aG,el,i3,e3,bZ,fG,kF,tQ]
variable{ks:List Str}
noncomputable def findB(bs:List ax)(n:Str):ai ax:=bs.find? λb=>b.name == n
structure rq (h:az):Prop where
 bl:h.af.length<=100
 ct:h.carts.length<=100
 ou:(h.af.map λx=>x.outs.length).sum<=900
def lz(carts:List Str):List ax->Prop
 |[]=>True
 |b::bs=>(∀o∈b.outs,o∈bs.map ax.name\/o∈carts)/\b.name∉bs.map ax.name/\b.name∉carts/\lz carts bs
theorem B2{carts:List Str}:∀{bs:List ax},lz carts bs->∀x∈bs,∀y∈bs,x.name=y.name->x=y
 |z::bs,f,x,hx,y,hy,e=>by
  rcases y09.mp hx with t6|t6
  .rcases y09.mp hy with yV|yV
   .rw[t6,yV]
   .exact cR (mP (f:=ax.name) yV) (by rw[<-e,t6];exact f.2.1)
  .rcases y09.mp hy with yV|yV
   .exact cR (mP (f:=ax.name) t6) (by rw[e,yV];exact f.2.1)
   .exact B2 f.2.2.2 x t6 y yV e
theorem Fq{carts:List Str}:∀{bs:List ax},lz carts bs->∀c∈carts,c∉bs.map ax.name
 |[],_,c,_,h=>by cases h
 |b::bs,f,c,hc,h=>by
  rcases y09.mp h with z|z
  .exact f.2.2.1 (by rw[<-z];exact hc)
  .exact Fq f.2.2.2 c hc z
theorem BL{carts:List Str}:∀{xs ys:List ax},lz carts (xs++ys)->lz carts ys
 |[],_,f=>f
 |_::xs,ys,f=>BL (xs:=xs) f.2.2.2
abbrev mO(x:Str):Prop:=Pr nN [c_ x] (rd (.bl true))
structure aJ (h:az):Prop where
 fwd:lz h.carts h.af
 sm:rq h
 nm:∀b∈h.af,mO b.name
 cm:∀c∈h.carts,mO c
 lg:∀b∈h.af,1<=b.long/\(b.ring=true->2<=b.long)
 hd:∀b∈h.af,h.carts.getD 0 ""∈b.outs\/∃o∈b.outs,o∈h.af.map ax.name
 cn:h.carts.Nodup
 c0:0<h.carts.length
 nd:∀b∈h.af,b.outs.Nodup
def x6(bs:List ax)(h:bs.length<=1000000):Pr tK [.d (.lst (bs.map aw))] (.o (.lst (dS (bs.map ax.name)))):=by
 have e:∀q S,aZ (ae 0) (fq true) (MO q) (bs.map aw) [none] S []=some (.ok (dS (bs.map ax.name)) S):=λq S=>by
  rw[ox (λb=>D.str (ax.name b)) bs h λb m=>⟨rd (.str b.name),by
   rfl,rfl⟩,dS,dh]
  rfl
 intro q S;unfold tK M0;simp only[↓ev,e,f6]
def nv(ks:List Str):List (TK×D):=ks.map λk=>(TK.inr k,.bl true)
noncomputable def g_(ks:List Str)(k:Str):List Str:=if ks.contains k then ks else ks++[k]
theorem vN(x:Str):∀ks:List Str,(aO (nv ks) (.inr x)).isSome=ks.contains x
 |[]=>rfl
 |k::ks=>by
  have ih:=vN x ks;unfold aO nv at *;rw[cZ,Bf,List.contains_cons];by_cases e:k=x
  .rw[nK (by rw[e]),e,cT]
   rfl
  .rw[oM (λz=>e (TK.inr.inj z)),show(x == k)=false by rw[qJ];exact λz=>e z.symm]
   rw[Bool.false_or];exact ih
theorem Gj(k:Str):∀ks:List Str,bS (nv ks) (.inr k) (.bl true)=nv (g_ ks k)
 |[]=>rfl
 |j::ks=>by
  have ih:=Gj k ks
  grind [nv,bS,g_]
def JC(ks:List Str):(nv ks).length=ks.length:=by unfold nv;rw[bq]
theorem OQ(ks:List Str)(k:Str):(g_ ks k).length<=ks.length+1:=by
 unfold g_;split
 .lia
 .rw[dZ,zP];exact cv _
theorem OR{k n:Str}:n∈g_ ks k↔n=k\/n∈ks:=by
 grind [g_]
def e5n{x:Str}{S:aT}(hs:S.s[n]?=some (.o (.aA (nv ks))))(hn:mO x)(hx:ks.contains x=false)(hl:(ks.length<1000000)=True):z_ 0 [c_ x,.c n] S=some (.ok (rd .aI) ⟨S.s.set n (.o (.aA (nv (g_ ks x)))),S.r⟩):=by
 unfold z_ Nc;simp only[↓ev,hn,aG,hs,vN,hx,JC,hl,Gj,Qi]
variable{S:aT}{n:Nat}{ks carts:List Str}
noncomputable abbrev tk(S:aT)(n:Nat)(ks:List Str):aT:=⟨S.s.set n (.o (.aA (nv ks))),S.r⟩
def take1{x:Str}(hn:n<S.s.length)(hx:mO x)(h:x∉ks)(hl:ks.length<1000):z_ 0 [c_ x,.c n] (tk S n ks)=some (.ok (rd .aI) (tk S n (ks++[x]))):=by
 have hc:ks.contains x=false:=by simpa using h
 rw[e5n (S:=tk S n ks) (n:=n) (vw hn) hx hc (bu (by lia))]
 grind [g_,List.set_set]
def TU{d0 a:ai Val}(hn:n<S.s.length)(nm:∀c∈carts,mO c)(nd:(ks++carts).Nodup)(hl:ks.length+carts.length<1000):
  ∃a',aN (ae 2) (ES 0) (dS carts) [d0,aW n,a] (tk S n ks)=some (.nx [d0,aW n,a'] (tk S n (ks++carts))):=by
 obtain⟨U',S',e,a',rfl,rfl⟩:=iJ (gg:=ae 2) (body:=ES 0) (f:=D.str) (U:=[d0,aW n,a]) (S:=tk S n ks) (λpre U S'=>∃a',U=[d0,aW n,a']/\S'=tk S n (ks++pre)) carts ⟨a,rfl,by rw[jW]⟩ (by
  rintro d x r eq U S' ⟨a',rfl,rfl⟩;have h1:x∉ks++d:=by
   grind
  have h2:=congrArg List.length eq;rw[dZ,kO] at h2;have h:=take1 hn (nm x (by rw[eq];simp)) h1 (by rw[dZ];lia)
  refine⟨[d0,aW n,bh x],[d0,aW n,bh x],_,rfl,.inl ?_,_,rfl,rfl⟩;rw[<-kP];unfold ES;simp only[↓ev,h,yb])
 exact⟨a',e⟩
def YH(hn:n<S.s.length)(nm:∀c∈carts,mO c)(nd:(ks++carts).Nodup)(hl:ks.length+carts.length<1000)(h0:carts≠[]):EY 0 [.d (.lst (dS carts)),.c n] (tk S n ks)=some (.ok (rd .aI) (tk S n (ks++carts))):=by
 obtain⟨a',e⟩:=TU (d0:=(ak (.lst (dS carts)))) (a:=none) hn nm nd hl;have z:(dS carts).isEmpty=false:=by cases carts with|nil=>exact cR rfl h0|cons _ _=>rfl
 have lc:∀wg,(tk S n wg).cut (tk S n ks).s.length=tk S n wg:=λwg=>by unfold aT.cut;simp only[w6];rw[Ez (by rw[w6];exact cv _)]
 unfold EY MU;simp only[↓ev,iy,e,z,ja,aG,lc]
variable{S:aT}{n:Nat}{ks:List Str}
def e5o{c:Cell}{wg:List Str}:(tk S n wg).cut (S.s.set n c).length=tk S n wg:=by
 grind [aT.cut,List.take_of_length_le]
def TV{bs:List ax}{d0 a2 a3 a4 a5 a6:ai Val}(hn:n<S.s.length)(nm:∀b∈bs,mO b.name)(lg:∀b∈bs,1<=b.long/\(b.ring=true->2<=b.long))(nd:(ks++bs.map ax.name).Nodup)(hl:ks.length+bs.length<1000):
  ∃b2 b3 b4 b5 b6,aN (bo [(ae 2),(ae 3),(ae 4),(ae 5)]) (ET 0) (bs.map aw) [d0,aW n,a2,a3,a4,a5,a6] (tk S n ks)=some (.nx [d0,aW n,b2,b3,b4,b5,b6] (tk S n (ks++bs.map ax.name))):=by
 obtain⟨U',S',e,b2,b3,b4,b5,b6,rfl,rfl⟩:=iJ (gg:=bo [(ae 2),(ae 3),(ae 4),(ae 5)]) (body:=ET 0) (f:=aw) (U:=[d0,aW n,a2,a3,a4,a5,a6]) (S:=tk S n ks) (λpre U S'=>∃b2 b3 b4 b5 b6,U=[d0,aW n,b2,b3,b4,b5,b6]/\S'=tk S n (ks++pre.map ax.name)) bs ⟨a2,a3,a4,a5,a6,rfl,by rw[Ey,jW]⟩ (by
  rintro d x r eq U S' ⟨b2,b3,b4,b5,b6,rfl,rfl⟩;have h1:x.name∉ks++d.map ax.name:=by
   grind
  have h2:=congrArg List.length eq;rw[dZ,kO] at h2;have mx:x∈bs:=by rw[eq];simp
  have h:=take1 hn (nm x mx) h1 (by rw[dZ,bq];lia)
  obtain⟨l1,l2⟩:=lg x mx;have e1:∀b,bo [(ae 2),(ae 3),(ae 4),(ae 5)] (aw x) [d0,aW n,b2,b3,b4,b5,b]=some [d0,aW n,bh x.name,bY x.long,ak (.bl x.ring),ak (.lst (dS x.outs)),b]:=λ_=>rfl
  refine⟨_,[d0,aW n,bh x.name,bY x.long,ak (.bl x.ring),ak (.lst (dS x.outs)),bY (if x.ring=true then 2 else 1)],_,e1 _,.inl ?_,_,_,_,_,_,rfl,rfl⟩
  rw[fZ,cZ,Ey,<-kP];unfold ET;cases hr:x.ring with
  |true=>
   have z:(x.long<2)=False:=eq_false (by have:=l2 hr;lia)
   simp only[↓ev,h,yb,aF,z,decide_false,aG]
  |false=>
   have z:(x.long<1)=False:=eq_false (by lia)
   simp only[↓ev,h,yb,aG,aF,z,decide_false])
 exact⟨b2,b3,b4,b5,b6,e⟩
def YI{bs:List ax}(hn:n<S.s.length)(nm:∀b∈bs,mO b.name)(lg:∀b∈bs,1<=b.long/\(b.ring=true->2<=b.long))(nd:(ks++bs.map ax.name).Nodup)(hl:ks.length+bs.length<1000):EZ 0 [.d (.lst (bs.map aw)),.c n] (tk S n ks)=some (.ok (rd .aI) (tk S n (ks++bs.map ax.name))):=by
 obtain⟨b2,b3,b4,b5,b6,e⟩:=TV (d0:=(ak (.lst (bs.map aw)))) (a2:=none) (a3:=none) (a4:=none) (a5:=none) (a6:=none) hn nm lg nd hl;unfold EZ MV;simp only[↓ev,iy,e,e5o]
variable{ks:List Str}
noncomputable abbrev iE(S:aT)(ks:List Str):aT:=⟨S.s++[.o (.aA (nv ks))],S.r⟩
def bT(b:Str)(ks:List Str)(x:ax):List Str:=if(x.name == b || ks.contains x.name)=true then x.outs.foldl g_ ks else ks
def OS(outs:List Str):∀ks:List Str,(outs.foldl g_ ks).length<=ks.length+outs.length:=by
 induction outs with
 |nil=>intro ks;exact cv _
 |cons o outs ih=>
  grind [OQ]
section
variable{S:aT}{g0 g1 g3 g4 g5 g6 a:ai Val}
def Lx{o:Str}(hl:(ks.length<1000000)=True):BC 0 [g0,g1,aW S.s.length,g3,g4,g5,g6,bh o] (iE S ks)=some (.nx [g0,g1,aW S.s.length,g3,g4,g5,g6,bh o] (iE S (g_ ks o))):=by
 unfold BC;simp only[↓ev,fG,JC,hl,Gj,kF]
def Ws(outs ks:List Str)(h:ks.length+outs.length<1000000):∃a',aN (ae 7) (BC 0) (dS outs) [g0,g1,aW S.s.length,g3,g4,g5,g6,a] (iE S ks)=some (.nx [g0,g1,aW S.s.length,g3,g4,g5,g6,a'] (iE S (outs.foldl g_ ks))):=by
 obtain⟨U',S',e,a',rfl,rfl⟩:=iJ (gg:=ae 7) (body:=BC 0) (f:=D.str) (U:=[g0,g1,aW S.s.length,g3,g4,g5,g6,a]) (S:=iE S ks) (λpre U S'=>∃a',U=[g0,g1,aW S.s.length,g3,g4,g5,g6,a']/\S'=iE S (pre.foldl g_ ks)) outs ⟨a,rfl,rfl⟩ (by
  rintro d x r eq U S' ⟨a',rfl,rfl⟩;have h2:=congrArg List.length eq;rw[dZ,kO] at h2;have:=OS d ks;refine⟨_,_,_,rfl,.inl (Lx (bu (by lia))),_,rfl,by rw[Mt];rfl⟩)
 exact⟨a',e⟩
def TX(b:Str)(bs:List ax)(ks:List Str)(a3 a4 a5 a6 a7:ai Val)(h:ks.length+(bs.map λx=>x.outs.length).sum<1000000):∃b3 b4 b5 b6 b7,aN (bo [(ae 3),(ae 4),(ae 5),(ae 6)]) (Aa 0) (bs.map aw) [g0,bh b,aW S.s.length,a3,a4,a5,a6,a7] (iE S ks)=some (.nx [g0,bh b,aW S.s.length,b3,b4,b5,b6,b7] (iE S (bs.foldl (bT b) ks))):=by
 obtain⟨U',S',e,b3,b4,b5,b6,b7,rfl,rfl,_⟩:=iJ (gg:=bo [(ae 3),(ae 4),(ae 5),(ae 6)]) (body:=Aa 0) (f:=aw) (U:=[g0,bh b,aW S.s.length,a3,a4,a5,a6,a7]) (S:=iE S ks) (λpre U S'=>∃b3 b4 b5 b6 b7,U=[g0,bh b,aW S.s.length,b3,b4,b5,b6,b7]/\S'=iE S (pre.foldl (bT b) ks)/\(pre.foldl (bT b) ks).length<=ks.length+(pre.map λx=>x.outs.length).sum) bs ⟨a3,a4,a5,a6,a7,rfl,rfl,Ho _ _⟩ (by
  rintro d x r eq U S' ⟨b3,b4,b5,b6,b7,rfl,rfl,hl⟩;rw[eq,fZ,cZ,List.sum_append,List.sum_cons] at h;have hf:=OS x.outs (d.foldl (bT b) ks);have e1:bo [(ae 3),(ae 4),(ae 5),(ae 6)] (aw x) [g0,bh b,aW S.s.length,b3,b4,b5,b6,b7]=some [g0,bh b,aW S.s.length,bh x.name,bY x.long,ak (.bl x.ring),ak (.lst (dS x.outs)),b7]:=rfl;rw[Mt,fZ,List.sum_append];show ∃U1 U' S',_/\_/\∃b3 b4 b5 b6 b7,U'=_/\S'=iE S (bT b (d.foldl (bT b) ks) x)/\(bT b (d.foldl (bT b) ks) x).length<=_+(_+(x.outs.length+0));obtain⟨a',e2⟩:=Ws (S:=S) (g0:=g0) (g1:=(bh b)) (g3:=(bh x.name)) (g4:=(bY x.long)) (g5:=(ak (.bl x.ring))) (g6:=(ak (.lst (dS x.outs)))) (a:=b7) x.outs (d.foldl (bT b) ks) (by lia)
  generalize d.foldl (bT b) ks=ks1 at *;unfold bT;cases c1:x.name == b with
  |true=>
   refine⟨_,_,_,e1,.inl (by unfold Aa;simp only[↓ev,aG,dm,c1,iy,e2] <;> rfl),_,_,_,_,_,rfl,?_,?_⟩
   all_goals lia
  |false=>
   cases c2:ks1.contains x.name with
   |true=>
    refine⟨_,_,_,e1,.inl (by unfold Aa;simp only[↓ev,aG,dm,c1,fG,vN,c2,iy,e2] <;> rfl),_,_,_,_,_,rfl,?_,?_⟩
    .rw[Mz,bJ rfl]
    .rw[Mz,bJ rfl];lia
   |false=>
    refine⟨_,_,_,e1,.inl (by unfold Aa;simp only[↓ev,aG,dm,c1,fG,vN,c2] <;> rfl),_,_,_,_,_,rfl,?_,?_⟩
    all_goals lia)
 exact⟨b3,b4,b5,b6,b7,e⟩
def S9(q:Nat)(xs:List Str)(h:xs.length<=1000000):aZ (ae 0) (HX q) (HY q) (dS xs) [none,aW S.s.length] (iE S ks) []=some (.ok (dS (xs.filter λo=>ks.contains o)) (iE S ks)):=by
 rw[dS,uD (λo=>if ks.contains o=true then some (.str o) else none) xs (by lia) λo m=>by
  unfold HX HY;cases hc:ks.contains o with
  |true=>exact .inr ⟨rd (.str o),.str o,rfl,by simp only[↓ev,fG,aG,vN,hc],by simp only[↓ev],rfl⟩
  |false=>exact .inl ⟨rfl,by simp only[↓ev,fG,aG,vN,hc]⟩]
 congr 2
 induction xs with
 |nil=>rfl
 |cons o r ih=>
  grind
def U6{h:az}(sm:rq h)(b:Str):P0 Fo [.d (av h),c_ b] (.o (.lst (dS ((h.af.map ax.name++h.carts).filter λx=>(h.af.foldl (bT b) []).contains x)))):=by
 intro S;have h1:=sm.bl;have h2:=sm.ct;have h3:=sm.ou;obtain⟨b3,b4,b5,b6,b7,e⟩:=TX (S:=S) (g0:=(ak (av h))) b h.af [] none none none none none (by rw[Ba];lia)
 have hn:=x6 h.af (by lia)
 have hc:=λq=>S9 (S:=S) (ks:=h.af.foldl (bT b) []) q (h.af.map ax.name++h.carts) (by rw[dZ,bq];lia)
 have ap:dS (h.af.map ax.name)++dS h.carts=dS (h.af.map ax.name++h.carts):=fZ.symm;have le:((dS (h.af.map ax.name)).length+(dS h.carts).length<=1000000)=True:=bu (by rw[bq,bq,bq];lia)
 have hD:av h=.tup [.lst (h.af.map aw),.lst (dS h.carts)]:=rfl;rw[show iE S []=⟨S.s++[.o (.aA [])],S.r⟩ from rfl] at e;rw[hD] at e ⊢;unfold Fo N1;simp only[↓ev,aF,bA,iy,e,iE,hn,bX,le,ap,hc,tQ]
end
variable{outs:List Str}{b n:Str}{h:az}
def QV(bs:List ax)(b:Str):List Str:=bs.foldl (bT b) []
inductive RR (bs:List ax) (outs:List Str):Str->Prop
 |base {n:Str}:n∈outs->RR bs outs n
 |step {m n:Str} {b:ax}:RR bs outs m->b∈bs->b.name=m->n∈b.outs->RR bs outs n
def i5:∀{ks:List Str} {n:Str},n∈outs.foldl g_ ks↔n∈outs\/n∈ks:=by
 induction outs with
 |nil=>intro ks n;simp
 |cons o outs ih=>
  grind [OR]
def U7{x:ax}(h:n∈ks):n∈bT b ks x:=by
 unfold bT;split
 .exact i5.mpr (.inr h)
 .exact h
def U8{bs:List ax}:∀{ks:List Str} {n:Str},n∈ks->n∈bs.foldl (bT b) ks:=by
 induction bs with
 |nil=>intro ks n h;exact h
 |cons x bs ih=>intro ks n h;exact ih (U7 h)
theorem N7:∀{bs:List ax} {ks:List Str} {n:Str},lz carts bs->n∈bs.foldl (bT b) ks->n∈ks\/n∈bs.tail.map ax.name\/n∈carts
 |[],ks,n,_,h=>.inl h
 |x::bs,ks,n,f,h=>by
  rcases N7 f.2.2.2 h with z|z|z
  .unfold bT at z;split at z
   .rcases i5.mp z with z|z
    .rcases f.1 n z with z|z
     .exact .inr (.inl z)
     .exact .inr (.inr z)
    .exact .inl z
   .exact .inl z
  .refine .inr (.inl ?_);cases bs with
   |nil=>exact z
   |cons y bs=>exact qt _ z
  .exact .inr (.inr z)
theorem HV:∀{bs:List ax} {ks:List Str},lz carts bs->∀x∈bs,(x.name=b\/x.name∈bs.foldl (bT b) ks)->∀o∈x.outs,o∈bs.foldl (bT b) ks
 |y::bs,ks,f,x,hx,hn,o,ho=>by
  rcases y09.mp hx with rfl|hx
  .have h1:(x.name == b || ks.contains x.name)=true:=by
    rcases hn with hn|hn
    .lia
    .rcases N7 (b:=b) f hn with z|z|z
     .simp_all
     .exact cR z f.2.1
     .exact cR z f.2.2.1
   show o∈bs.foldl (bT b) (bT b ks x);refine U8 ?_;unfold bT;rw[bJ h1];exact i5.mpr (.inl ho)
  .exact HV (ks:=bT b ks y) f.2.2.2 x hx hn o ho
theorem OT{Cv:List ax}{b:ax}(hb:b∈Cv)(hu:∀x∈Cv,x.name=b.name->x=b):∀{bs:List ax} {ks:List Str},(∀x∈bs,x∈Cv)->(∀n∈ks,RR Cv b.outs n)->∀n∈bs.foldl (bT b.name) ks,RR Cv b.outs n
 |[],ks,_,h,n,hn=>h n hn
 |x::bs,ks,hs,h,n,hn=>OT hb hu (λy hy=>hs y (qt _ hy)) (λm hm=>by
   unfold bT at hm;split at hm
   .rename_i hc
    rcases i5.mp hm with z|z
    .rw[Bool.or_eq_true,beq_iff_eq,lj] at hc;rcases hc with hc|hc
     .rw[hu x (hs x A6) hc] at z;exact .base z
     .exact .step (h _ hc) (hs x A6) rfl z
    .exact h m z
   .exact h m hm) n hn
def U9(f:lz h.carts h.af){b:ax}(hb:b∈h.af)(n:Str):n∈QV h.af b.name↔RR h.af b.outs n:=by
 unfold QV;constructor
 .exact OT hb (λx hx e=>B2 f x hx b hb e) (λ_ m=>m) (λ_ m=>by cases m) n
 .intro r
  induction r with
  |base m=>exact HV f b hb (.inl rfl) _ m
  |step r hx hn hm ih=>exact HV f _ hx (.inr (by rw[hn];exact ih)) _ hm
def Wt{bs:List ax}{w:ax}(hw:w∈bs)(r:RR bs outs w.name)(r2:RR bs w.outs n):RR bs outs n:=by
 induction r2 with
 |base m=>exact .step r hw rfl m
 |step _ hb hn hm ih=>exact .step ih hb hn hm
theorem Jn(g:aJ h):∀{bs pre:List ax},h.af=pre++bs->∀b∈bs,RR h.af b.outs (h.carts.getD 0 "")
 |x::bs,pre,eq,b,hb=>by
  have AB:h.af=(pre++[x])++bs:=by rw[eq];simp
  rcases y09.mp hb with rfl|hb
  .have GL:b∈h.af:=by rw[eq];simp
   have fx:lz h.carts (b::bs):=BL (by rw[<-eq];exact g.fwd)
   rcases g.hd b GL with z|⟨o,z1,z2⟩
   .exact .base z
   .rcases fx.1 o z1 with y|y
    .obtain⟨w,hw,ew⟩:=fy.mp y;exact Wt (w:=w) (by rw[AB];simp[hw]) (by rw[ew];exact .base z1) (Jn g AB w hw)
    .exact cR z2 (Fq g.fwd o y)
  .exact Jn g AB b hb
def Cb(g:aJ h):h.carts.getD 0 ""∈h.carts/\d_ (dS h.carts) 0=some (.str (h.carts.getD 0 "")):=by
 have:=g.c0;cases GQ:h.carts with
 |nil=>rw[GQ] at this;simp at this
 |cons c cs=>exact⟨by simp,tL (j:=0) rfl⟩
def e5p(g:aJ h):P0 E2 [.d (av h)] (rd .aI):=by
 intro S;have bl:=g.sm.bl;obtain⟨hc,i0⟩:=Cb g;have e1:=x6 h.af (by lia)
 obtain⟨U',S',e,a,rfl,rfl⟩:=iJ (gg:=ae 2) (body:=HL 0) (f:=D.str) (U:=[ak (av h),bh (h.carts.getD 0 ""),none]) (S:=S) (λ_ U S'=>∃a,U=[ak (av h),bh (h.carts.getD 0 ""),a]/\S'=S) (h.af.map ax.name) ⟨_,rfl,rfl⟩ (by
  rintro d x r eq U S' ⟨a,rfl,rfl⟩;obtain⟨b,hb,rfl⟩:∃b∈h.af,b.name=x:=fy.mp (by rw[eq];simp)
  have e1:=U6 g.sm b.name;have hm:((h.af.map ax.name++h.carts).filter λx=>(h.af.foldl (bT b.name) []).contains x).contains (h.carts.getD 0 "")=true:=by
   rw[lj,qE];exact⟨n4 _ hc,lj.mpr ((U9 g.fwd hb _).mpr (Jn g (pre:=[]) rfl b hb))⟩
  refine⟨[ak (av h),bh (h.carts.getD 0 ""),bh b.name],_,_,rfl,.inl ?_,bh b.name,rfl,rfl⟩;unfold HL;generalize((h.af.map ax.name++h.carts).filter λx=>(h.af.foldl (bT b.name) []).contains x)=l at *
  generalize h.carts.getD 0 ""=hand at *;simp only[↓ev,e1,fj,eS,hm,e_,aG])
 have hD:av h=.tup [.lst (h.af.map aw),.lst (dS h.carts)]:=rfl;generalize h.carts.getD 0 ""=hand at *;rw[hD] at e ⊢;unfold E2 M4;simp only[↓ev,bX,i0,aF,bA,e1,iy,e,f6]
theorem M7{x z:Str}:∀{ys:List Str} {j:Nat},ys[j]?=some z->x∈ys->x≠z->x∈ys.eraseIdx j
 |y::ys,0,e,hx,gP=>by
  simp_all
 |y::ys,j+1,e,hx,gP=>by
  rw[List.getElem?_cons_succ] at e;show x∈y::ys.eraseIdx j;rcases y09.mp hx with rfl|hx
  .exact .head _
  .exact .tail _ (M7 e hx gP)
 |[],_,_,hx,_=>by cases hx
def BQ{z:Str}{ys:List Str}(h:z∈ys):∃j,findS ys z=some j:=by
 cases q:findS ys z with
 |some j=>exact⟨j,rfl⟩
 |none=>
  unfold findS at q;rw[List.findIdx?_eq_none_iff] at q;have:=q z h;simp at this
def Wu(L:List Str)(j:Nat):(dS L).eraseIdx j=dS (L.eraseIdx j):=by
 grind [List.eraseIdx_eq_take_drop_succ,List.map_take,List.map_drop]
section
variable{S:aT}{s0 s1 s2 s3 s4 s5 a7:ai Val}
def LC{L:List Str}{x:Str}{j:Nat}(hc:L.contains x=true)(hj:findS L x=some j):Bv 0 [s0,s1,s2,s3,s4,s5,aW S.s.length,bh x] (bZ S (dS L))=some (.nx [s0,s1,s2,s3,s4,s5,aW S.s.length,bh x] (bZ S (dS (L.eraseIdx j)))):=by
 have h:=NX L;unfold Bv;simp only[↓ev,bZ,fG,fj,eS,hc,e_,aG,h,hj,Wu,kF]
def YJ(outs L:List Str)(nd:outs.Nodup)(hs:∀o∈outs,o∈L):∃L' b7,aN (ae 7) (Bv 0) (dS outs) [s0,s1,s2,s3,s4,s5,aW S.s.length,a7] (bZ S (dS L))=some (.nx [s0,s1,s2,s3,s4,s5,aW S.s.length,b7] (bZ S (dS L'))):=by
 obtain⟨U',S',e,L',b7,rfl,rfl,_⟩:=iJ (gg:=ae 7) (body:=Bv 0) (f:=D.str) (U:=[s0,s1,s2,s3,s4,s5,aW S.s.length,a7]) (S:=bZ S (dS L)) (λpre U S'=>∃L' b7,U=[s0,s1,s2,s3,s4,s5,aW S.s.length,b7]/\S'=bZ S (dS L')/\∀o∈outs,o∉pre->o∈L') outs ⟨L,a7,rfl,rfl,λo ho _=>hs o ho⟩ (by
  rintro q x post eq U S' ⟨L',b7,rfl,rfl,hL⟩;have hxq:x∉q:=λz=>by
   rw[eq] at nd;exact(kQ.mp nd).2.2 x z x (.head _) rfl
  have hx:x∈L':=hL x (by rw[eq];simp) hxq
  obtain⟨j,hj⟩:=BQ hx;refine⟨_,_,_,rfl,.inl (LC (lj.mpr hx) hj),L'.eraseIdx j,bh x,rfl,rfl,λo ho hq=>?_⟩
  simp only[gZ,lL,not_or] at hq;exact M7 (Ac hj).1 (hL o ho hq.1) hq.2)
 exact⟨L',b7,e⟩
end
def Wv(q:List ax)(x:ax)(post:List ax)(i:Int)(hi:i=(q.length:Nat)):cutD ((q++x::post).map aw) (some (i+1)) none=post.map aw:=by
 unfold cutD;have e4:HT.cS ((q++x::post).map aw).length 0 (some (i+1))=q.length+1:=by
  grind [HT.cS]
 have e5:HT.cS ((q++x::post).map aw).length ((q++x::post).map aw).length none=((q++x::post).map aw).length:=rfl;have e6:((q++x::post).map aw).drop (q.length+1)=post.map aw:=by
  rw[<-Em,show q++x::post=(q++[x])++post by simp,List.drop_left' (by simp)]
 grind
section
variable{S:aT}{h:az}
def Ww{d0:List D}{cs:List Str}{i:Int}{x:ax}{post:List ax}{a4 a5 a6 a7:ai Val}(hs:cutD d0 (some (i+1)) none=post.map aw)(hp:post.length<=1000)(hc:cs.length<=1000)(nd:x.outs.Nodup)(sb:∀o∈x.outs,o∈post.map ax.name++cs)(ne:x.outs≠[]):
  ∃L' b7,EV 0 [ak (.lst d0),ak (.lst (dS cs)),bY i,ak (aw x),a4,a5,a6,a7] S=some (.nx [ak (.lst d0),ak (.lst (dS cs)),bY i,ak (aw x),bh x.name,ak (.lst (dS x.outs)),aW S.s.length,b7] (bZ S (dS L'))):=by
 obtain⟨L',b7,e⟩:=YJ (S:=S) (s0:=(ak (.lst d0))) (s1:=(ak (.lst (dS cs)))) (s2:=(bY i)) (s3:=(ak (aw x))) (s4:=(bh x.name)) (s5:=(ak (.lst (dS x.outs)))) (a7:=a7) x.outs (post.map ax.name++cs) nd sb;have e1:=x6 post (by lia)
 have ap:dS (post.map ax.name)++dS cs=dS (post.map ax.name++cs):=fZ.symm;have le:((dS (post.map ax.name)).length+(dS cs).length<=1000000)=True:=bu (by rw[bq,bq,bq];lia)
 have z:(dS x.outs).isEmpty=false:=by cases hz:x.outs with|nil=>exact cR hz ne|cons _ _=>rfl
 have hD:aw x=.tup [.str x.name,.int x.long,.bl x.ring,.lst (dS x.outs)]:=rfl;refine⟨L',b7,?_⟩;rw[hD] at e ⊢;unfold EV;simp only[↓ev,bA,aF,ow,R7,hs,e1,le,ap,iy,e,z,ja,aG]
def U_(g:aJ h)(ho:∀b∈h.af,b.outs≠[]):P0 E1 [.d (.lst (h.af.map aw)),.d (.lst (dS h.carts))] (rd .aI):=by
 intro S;have bl:=g.sm.bl;have ct:=g.sm.ct;have fw:=g.fwd;obtain⟨U',S',e,a2,a3,a4,a5,a6,a7,L,rfl,rfl⟩:=e9d (gg:=bo [(ae 2),(ae 3)]) (body:=EV 0) (U:=[ak (.lst (h.af.map aw)),ak (.lst (dS h.carts)),none,none,none,none,none,none]) (S:=S) aw (λpre U S'=>∃a2 a3 a4 a5 a6 a7 L,U=[ak (.lst (h.af.map aw)),ak (.lst (dS h.carts)),a2,a3,a4,a5,a6,a7]/\S'=⟨S.s++L,S.r⟩) h.af ⟨_,_,_,_,_,_,[],rfl,by rw[jW]⟩ (by
  rintro q x post eq U S' ⟨a2,a3,a4,a5,a6,a7,L,rfl,rfl⟩;have hb:x∈h.af:=by rw[eq];simp
  have hl:=congrArg List.length eq;rw[dZ,kO] at hl;have fx:lz h.carts (x::post):=BL (by rw[<-eq];exact fw)
  have hs:=Wv q x post (q.length:Nat) rfl;rw[<-eq] at hs;obtain⟨L',b7,e⟩:=Ww (S:=⟨S.s++L,S.r⟩) (a4:=a4) (a5:=a5) (a6:=a6) (a7:=a7) (cs:=h.carts) hs (by lia) (by lia) (g.nd x hb) (λo m=>by
   rcases fx.1 o m with z|z
   .exact Et _ z
   .exact n4 _ z) (ho x hb)
  exact⟨_,_,_,rfl,e,_,_,_,_,_,_,L++[.o (.lst (dS L'))],rfl,by unfold bZ;rw[kP]⟩)
 unfold E1 M3;simp only[↓ev,iy,e,tQ]
def Nz(g:aJ h):(h.carts++h.af.map ax.name).Nodup:=by
 refine kQ.mpr ⟨g.cn,?_,λa ha b hb e=>Fq g.fwd a ha (e ▸ hb)⟩
 have:∀{bs:List ax},lz h.carts bs->(bs.map ax.name).Nodup:=by
  intro bs
  induction bs with
  |nil=>intro _;exact .nil
  |cons b bs ih=>intro f;exact qH.mpr ⟨f.2.1,ih f.2.2.2⟩
 exact this g.fwd
def YK(g:aJ h):P0 E0 [.d (av h)] (rd (.bl true)):=by
 intro S;have ho:∀b∈h.af,b.outs≠[]:=λb hb z=>by
  rcases g.hd b hb with y|⟨o,y,_⟩
  all_goals simp_all
 have bl:=g.sm.bl;have ct:=g.sm.ct;have nd:=Nz g;have c0:h.carts≠[]:=λz=>by have:=g.c0;rw[z] at this;cases this
 have ln:∀c,S.s.length<(S.s++[c]:List Cell).length:=λc=>by rw[dZ];exact vx _
 have e1:=YH (S:=⟨S.s++[.o (.aA [])],S.r⟩) (n:=S.s.length) (ks:=[]) (carts:=h.carts) (ln _) g.cm (by rw[El];exact g.cn) (by rw[Ba];lia) c0
 have e2:=YI (S:=⟨S.s++[.o (.aA [])],S.r⟩) (n:=S.s.length) (ks:=h.carts) (bs:=h.af) (ln _) g.nm g.lg nd (by lia)
 have se:∀c:Cell,(S.s++[Cell.o (.aA [])]).set S.s.length c=S.s++[c]:=λc=>kF
 simp only[tk,se,qqc] at e1 e2;have k0:nv []=[]:=rfl;rw[k0] at e1;have e3:=U_ g ho;have e4:=e5p g;have hD:av h=.tup [.lst (h.af.map aw),.lst (dS h.carts)]:=rfl;rw[hD] at e4 ⊢;unfold E0 MW;simp only[↓ev,bA,aF,bX,e1,e2,e3,e4,tQ]
end
theorem N8(names carts:List Str)(nd:names.Nodup)(dj:∀x∈names,x∉carts):∀bs j,j+bs.length=names.length->(∀i b,bs[i]?=some b->b.name=names.getD (j+i) ""/\∀o∈b.outs,o∈names.drop (j+i+1)++carts)->lz carts bs/\bs.map ax.name=names.drop j
 |[],j,hl,_=>⟨tF,by rw[List.drop_eq_nil_of_le (by simp at hl;lia)];rfl⟩
 |b::bs,j,hl,h=>by
  rw[kO] at hl;obtain⟨f,e⟩:=N8 names carts nd dj bs (j+1) (by lia) λi b hb=>by
   have:=h (i+1) b (by simpa using hb)
   rw[show j+(i+1)=j+1+i by lia] at this
   exact this
  obtain⟨h1,h2⟩:=h 0 b rfl;rw[Nat.add_zero] at h1 h2;have hj:j<names.length:=by lia
  have ed:names.drop j=names[j]::names.drop (j+1):=Mp hj;have en:b.name=names[j]:=by rw[h1,zW,g7 hj];rfl
  have nd':(names.drop j).Nodup:=nd.sublist (List.drop_sublist _ _);rw[ed] at nd';refine⟨⟨λo ho=>?_,?_,?_,f⟩,by rw[cZ,e,en,ed]⟩
  all_goals grind
noncomputable def jN(bs:List ax):Int:=(bs.map ax.long).sum
theorem DW:∀{bs:List ax},(∀b∈bs,b.long<=6)->jN bs<=6*bs.length
 |[],_=>by unfold jN;simp
 |b::bs,h=>by
  have h1:=h b (.head _);have h2:=DW (bs:=bs) λx m=>h x (.tail _ m)
  unfold jN at *;rw[cZ,List.sum_cons,kO];lia
def DV{bs:List ax}(hl:bs.length<=5)(h:∀(i:Nat) (b:ax),bs[i]?=some b->b.long<=26/\(b.long<=6\/i=0/\bs.length<3)):jN bs<=39:=by
 by_cases z:bs.length<3
 .clear hl;unfold jN;cases bs with
  |nil=>simp
  |cons a l=>
   have:=h 0 a rfl;cases l with
   |nil=>simp;lia
   |cons b l=>
    have:=h 1 b rfl;cases l with
    |nil=>simp;lia
    |cons c l=>simp at z;lia
 .have:=DW (bs:=bs) λb m=>by
   obtain⟨i,hi⟩:=zR.mp m;have:=h i b hi;lia
  lia
def YL(ns:List Int):∃h:az,aJ h/\jN h.af<=39/\0<h.af.length/\h.af.length<=5/\h.carts.length<=4/\P0 Ae [.d (bj ns)] (rd (av h)):=by
 obtain⟨p1,p2,p3⟩:=il ns 0 0 5 (by decide) (by decide) (by decide)
 obtain⟨q1,q2,q3⟩:=il ns 0 1 4 (by decide) (by decide) (by decide)
 have hp:=yi ns 0 5 (by decide) (by decide)
 have ho:=vH ns 0 4 (by decide) (by decide)
 have e1:=λq S=>TQ q S ns (1+bC ns 0 0 5).toNat (by lia)
 have e2:=λq S=>TR q S ns (1+bC ns 0 1 4).toNat (by lia)
 have nl:((List.range (1+bC ns 0 0 5).toNat).map (jB ns 11)).length=(1+bC ns 0 0 5).toNat:=by simp
 have cl:((List.range (1+bC ns 0 1 4).toNat).map λi=>jB ns 11 (10+i)).length=(1+bC ns 0 1 4).toNat:=by simp
 have nnd:((List.range (1+bC ns 0 0 5).toNat).map (jB ns 11)).Nodup:=OP ns _ Mr λi m=>by have:=qp.mp m;lia
 have Wq:((List.range (1+bC ns 0 1 4).toNat).map λi=>jB ns 11 (10+i)).Nodup:=by
  rw[show(λi=>jB ns 11 (10+i))=jB ns 11∘(10+·) from rfl,<-dh]
  refine OP ns _ ?_ λi m=>?_
  .rw[List.Nodup,En];exact Mr.imp λne z=>ne (by lia)
  grind
 have dj:∀x∈(List.range (1+bC ns 0 0 5).toNat).map (jB ns 11),x∉(List.range (1+bC ns 0 1 4).toNat).map λi=>jB ns 11 (10+i):=λx hx hc=>by
  obtain⟨i,hi,rfl⟩:=fy.mp hx;obtain⟨j,hj,e⟩:=fy.mp hc;have h1:=qp.mp hi;have h2:=qp.mp hj;have:=QU ns 11 (by decide) _ _ (by lia) (by lia) e
  lia
 have G9:∀x∈(List.range (1+bC ns 0 0 5).toNat).map (jB ns 11),mO x:=λx hx=>by
  obtain⟨i,hi,rfl⟩:=fy.mp hx;exact N6 _ (Aw ns 11 (by decide) i).1 (Aw ns 11 (by decide) i).2 (OL ns 11 (by decide) i)
 have nmC:∀x∈(List.range (1+bC ns 0 1 4).toNat).map (λi=>jB ns 11 (10+i)),mO x:=λx hx=>by
  obtain⟨i,hi,rfl⟩:=fy.mp hx;exact N6 _ (Aw ns 11 (by decide) (10+i)).1 (Aw ns 11 (by decide) (10+i)).2 (OL ns 11 (by decide) (10+i))
 generalize(List.range (1+bC ns 0 0 5).toNat).map (jB ns 11)=names at *;generalize((List.range (1+bC ns 0 1 4).toNat).map λi=>jB ns 11 (10+i))=carts at *
 obtain⟨hand,hh⟩:∃x,carts.head?=some x:=by
  cases carts with
  |nil=>simp at cl;lia
  |cons a b=>exact⟨a,rfl⟩
 obtain⟨⟨bs,a4,a5,a6⟩,⟨bl,bp⟩,e3⟩:=QP (gg:=ae 4) (body:=oS 0) (f:=λ(i:Nat)=>D.int (i:Int)) (λ(b:List ax×ai Val×ai Val×ai Val) S=>([ak (bj ns),ak (.lst (dS names)),ak (.lst (dS carts)),aW S.s.length,b.2.1,b.2.2.1,b.2.2.2],bZ S (b.1.map aw)))
  (λpre b=>b.1.length=pre.length/\(∀i x,b.1[i]?=some x->x.name=names.getD i ""/\(1<=x.long/\x.long<=26/\(x.long<=6\/i=0/\names.length<3))/\(x.ring=true->2<=x.long)/\om (names.drop (i+1)) carts hand x.outs)) (List.range (names.length:Int).toNat) ([],none,none,none) ⟨rfl,λi b e=>(by simp at e)⟩ (by
   rintro q i post eq ⟨bs,a4,a5,a6⟩ ⟨bl,bp⟩;obtain⟨hq,hi⟩:=FG eq;dsimp only at bl bp;have hi:i<names.length:=by lia
   obtain⟨b,b1,b2,b3,b4,a5',g9,e⟩:=YG ns i names carts hand bs a5 a6 hi (by lia) hh (by lia) (by lia)
   refine⟨(bs++[b],bY i,a5',g9),⟨by show(bs++[b]).length=_;rw[dZ,dZ,bl];rfl,λj b' l_=>?_⟩,λS=>⟨_,rfl,.inl (e S)⟩⟩
   have l_:(bs++[b])[j]?=some b':=l_;by_cases hj:j<bs.length
   .rw[uc hj] at l_;exact bp j b' l_
   .rw[ub (by lia)] at l_
    have:j - bs.length=0:=by
     have:=(eQ.mp l_).1;simp at this;lia
    rw[this] at l_;cases l_;have ej:j=i:=by lia
    rw[ej];exact⟨b1,b2,b3,b4⟩)
 dsimp only at bl bp e3;rw[w_] at bl;have e3:=λS=>(congrArg (λl=>aN (ae 4) (oS 0) l _ _) (nE _)).trans (e3 S)
 obtain⟨fw,en⟩:=N8 names carts nnd dj bs 0 (by lia) λi b hb=>by
  rw[Nat.zero_add];exact⟨(bp i b hb).1,(bp i b hb).2.2.2.sub⟩
 rw[List.drop_zero] at en;have gi:∀b∈bs,∃i,bs[i]?=some b:=λb hb=>zR.mp hb
 have hg:carts.getD 0 ""=hand:=by
  cases carts with
  |nil=>cases hh
  |cons a b=>cases hh;rfl
 refine⟨⟨bs,carts⟩,⟨fw,⟨by show bs.length<=100;lia,by show carts.length<=100;lia,?_⟩,λb hb=>?_,nmC,λb hb=>?_,λb hb=>?_,Wq,by show 0<carts.length;lia,λb hb=>?_⟩,DV (bs:=bs) (by lia) λi b hi=>(by have:=bp i b hi;lia),by show 0<bs.length;lia,by show bs.length<=5;lia,by show carts.length<=4;lia,λS=>U5 S ns _ _ names carts a4 a5 a6 _ hp ho (My (by lia)) (My (by lia)) (names.length:Int) (by rw[bq]) (My (by lia)) e1 e2 (e3 S)⟩
 .have:=P4 (bs:=bs) λb hb=>by
   obtain⟨i,hi⟩:=gi b hb;exact(bp i b hi).2.2.2.len
  lia
 .exact G9 _ (by rw[<-en];exact mP hb)
 .obtain⟨i,hi⟩:=gi b hb;exact⟨(bp i b hi).2.1.1,(bp i b hi).2.2.1⟩
 .obtain⟨i,hi⟩:=gi b hb;show carts.getD 0 ""∈b.outs\/∃o∈b.outs,o∈bs.map ax.name;rw[hg,en];rcases(bp i b hi).2.2.2.hand with z|⟨o,z1,z2⟩
  .exact .inl z
  .exact .inr ⟨o,z1,List.mem_of_mem_drop z2⟩
 .obtain⟨i,hi⟩:=gi b hb;exact(bp i b hi).2.2.2.nd
section
variable{h:az}
def e9j{q:Nat}{b:ax}{d0:ai Val}(hb:(b.name == n)=false):z9 q [d0,bh n,ak (aw b)] S=some (.nx [d0,bh n,ak (aw b)] S):=by
 unfold z9 aw;simp only[↓ev,bA,aG,dm,hb]
def e5q{q:Nat}{b:ax}{d0:ai Val}(hb:(b.name == n)=true):z9 q [d0,bh n,ak (aw b)] S=some (.rt (rd (aw b)) S):=by
 unfold z9 aw;simp only[↓ev,bA,aG,dm,hb,bX,eP,ow,aF]
def Ai(g:aJ h){b:ax}(hb:b∈h.af):Pr xJ [.d (av h),c_ b.name] (rd (aw b)):=by
 intro q S;obtain⟨d,r,eq⟩:=List.append_of_mem hb;have e:aN (ae 2) (z9 q) (h.af.map aw) [ak (av h),bh b.name,none] S=some (.rt (rd (aw b)) S):=by
  rw[eq];refine PR (f:=aw) (λ_ U S'=>∃a,U=[ak (av h),bh b.name,a]/\S'=S) d [] _ _ ⟨_,rfl,rfl⟩ ?_ ?_
  .rintro d' y r' e' U S' ⟨a,rfl,rfl⟩;refine⟨_,_,_,rfl,.inl (e9j ?_),_,rfl,rfl⟩;rw[qJ];intro z;have hy:y∈d:=by rw[El] at e';rw[e'];simp
   have e2:=B2 g.fwd y (by rw[eq];simp[hy]) b hb z
   have nd:=(kQ.mp (Nz g)).2.1
   grind
  .rintro U S' ⟨a,rfl,rfl⟩;exact⟨_,rfl,e5q (cT _)⟩
 have hD:av h=.tup [.lst (h.af.map aw),.lst (dS h.carts)]:=rfl;rw[hD] at e ⊢;unfold xJ N0;simp only[↓ev,bA,Nat.max_zero,e,f6]
def OU(g:aJ h):Pr BX [.d (av h)] (rd (av h)):=by
 intro q S;have bl:=g.sm.bl;have hn:=x6 h.af (by lia)
 have e:∀q S,aZ (ae 0) (fq true) (Ic q) (dS (h.af.map ax.name)) [none,ak (av h)] S []=some (.ok (h.af.map aw) S):=λq S=>by
  rw[dS,dh,ox aw h.af (by lia) λb m=>⟨rd (aw b),by
   have hb:=Ai g m;unfold Ic;simp only[↓ev,Function.comp,hb],rfl⟩]
 have hD:av h=.tup [.lst (h.af.map aw),.lst (dS h.carts)]:=rfl;rw[hD] at e ⊢;unfold BX OB;simp only[↓ev,bA,hn,e,aF,bX,f6]
end
def Wx:atrs.contains (cHall,("built":Str))=true:=by decide +kernel
def SO:atrs.contains (cHall,("told_rounds":Str))=true:=by decide +kernel
def e5r:atrs.contains (cHall,("now":Str))=true:=by decide +kernel
def YM:atrs.contains (cHall,("book":Str))=true:=by decide +kernel
def Wy:atrs.contains (cHall,("halts":Str))=true:=by decide +kernel
def Va:atrs.contains (cHall,("places":Str))=true:=by decide +kernel
def Te:atrs.contains (cHall,("readings":Str))=true:=by decide +kernel
def TY:atrs.contains (cHall,("rounded":Str))=true:=by decide +kernel
def YN:atrs.contains (cHall,("gone":Str))=true:=by decide +kernel
def Vb:atrs.contains (cHall,("carted":Str))=true:=by decide +kernel
section
variable{d0 d1 d2 d3 d4 d5 d6 d7 d8 d9 v:D}
def Ll:gE "told_rounds" v [(("built":Str),d0)]=[(("built":Str),d0),(("told_rounds":Str),v)]:=by kernel_rfl
def Lm:gE "now" v [(("built":Str),d0),(("told_rounds":Str),d1)]=[(("built":Str),d0),(("told_rounds":Str),d1),(("now":Str),v)]:=by kernel_rfl
def Ln:gE "book" v [(("built":Str),d0),(("told_rounds":Str),d1),(("now":Str),d2)]=[(("built":Str),d0),(("told_rounds":Str),d1),(("now":Str),d2),(("book":Str),v)]:=by kernel_rfl
def Lo:gE "halts" v [(("built":Str),d0),(("told_rounds":Str),d1),(("now":Str),d2),(("book":Str),d3)]=[(("built":Str),d0),(("told_rounds":Str),d1),(("now":Str),d2),(("book":Str),d3),(("halts":Str),v)]:=by kernel_rfl
def Lp:gE "places" v [(("built":Str),d0),(("told_rounds":Str),d1),(("now":Str),d2),(("book":Str),d3),(("halts":Str),d4)]=[(("built":Str),d0),(("told_rounds":Str),d1),(("now":Str),d2),(("book":Str),d3),(("halts":Str),d4),(("places":Str),v)]:=by kernel_rfl
def Lq:gE "readings" v [(("built":Str),d0),(("told_rounds":Str),d1),(("now":Str),d2),(("book":Str),d3),(("halts":Str),d4),(("places":Str),d5)]=[(("built":Str),d0),(("told_rounds":Str),d1),(("now":Str),d2),(("book":Str),d3),(("halts":Str),d4),(("places":Str),d5),(("readings":Str),v)]:=by kernel_rfl
def Lr:gE "rounded" v [(("built":Str),d0),(("told_rounds":Str),d1),(("now":Str),d2),(("book":Str),d3),(("halts":Str),d4),(("places":Str),d5),(("readings":Str),d6)]=[(("built":Str),d0),(("told_rounds":Str),d1),(("now":Str),d2),(("book":Str),d3),(("halts":Str),d4),(("places":Str),d5),(("readings":Str),d6),(("rounded":Str),v)]:=by kernel_rfl
def Ls:gE "gone" v [(("built":Str),d0),(("told_rounds":Str),d1),(("now":Str),d2),(("book":Str),d3),(("halts":Str),d4),(("places":Str),d5),(("readings":Str),d6),(("rounded":Str),d7)]=[(("built":Str),d0),(("told_rounds":Str),d1),(("now":Str),d2),(("book":Str),d3),(("halts":Str),d4),(("places":Str),d5),(("readings":Str),d6),(("rounded":Str),d7),(("gone":Str),v)]:=by kernel_rfl
def Lu:gE "carted" v [(("built":Str),d0),(("told_rounds":Str),d1),(("now":Str),d2),(("book":Str),d3),(("halts":Str),d4),(("places":Str),d5),(("readings":Str),d6),(("rounded":Str),d7),(("gone":Str),d8)]=[(("built":Str),d0),(("told_rounds":Str),d1),(("now":Str),d2),(("book":Str),d3),(("halts":Str),d4),(("places":Str),d5),(("readings":Str),d6),(("rounded":Str),d7),(("gone":Str),d8),(("carted":Str),v)]:=by kernel_rfl
end
def hF(hd:D)(r now:Int)(n:Nat):List (Str×D):=[("built",hd),("told_rounds",.int r),("now",.int now),("book",.ref (n+1)),("halts",.ref (n+2)),("places",.ref (n+3)),("readings",.ref (n+4)),("rounded",.ref (n+5)),("gone",.ref (n+6)),("carted",.ref (n+7))]
section
variable{S:aT}{h:az}{r:Int}
def e5s(g:aJ h):BZ 0 [.d (.ref S.r.length),.d (av h),aQ r] ⟨S.s,S.r++[.ins cHall []]⟩=some (.ok (rd .aI) ⟨S.s,S.r++[.ins cHall (hF (av h) r 0 S.r.length),.o (.aA []),.o (.aA []),.o (.aA []),.o (.aA []),.o (.aA []),.o (.lst []),.o (.aA [])]⟩):=by
 have e1:=YK g;have e2:=OU g;generalize av h=hd at *;unfold BZ OK hF;simp only[↓ev,e1,e2,fG,Wx,kF,SO,Ll,e5r,Lm,Ds,yb,YM,Ln,Wy,Lo,Va,Lp,Te,Lq,TY,Lr,aF,aG,YN,Ls,Vb,Lu,f6]
end
def YO(a b:Str):decide ((TK.inr a:TK)=TK.inr b)=(a == b):=by
 lia
theorem Fs{α:Type}(e:TK×α)(es:List (TK×α))(k:TK)(v:α):bS (e::es) k v=if e.1=k then(e.1,v)::es else e::bS es k v:=rfl
section
variable{α:Type}{k:α->Str}{v:α->D}{xs:List α}{b:Str}{y:D}
def td(k:α->Str)(v:α->D)(xs:List α):List (TK×D):=xs.map λx=>(.inr (k x),v x)
def kX:(td k v xs).length=xs.length:=bq ..
theorem Cn(b:Str):∀xs:List α,aO (td k v xs) (.inr b)=(xs.find? λx=>k x == b).map v
 |[]=>rfl
 |x::xs=>by
  have ih:=Cn b xs;unfold aO td at *;rw[cZ,Bf,Bf];dsimp only;rw[YO];cases(k x == b) with
  |true=>rfl
  |false=>exact ih
def ip{x:α}(nd:(xs.map k).Nodup)(hx:x∈xs):aO (td k v xs) (.inr (k x))=some (v x):=by
 rw[Cn];have:xs.find? (λz=>k z == k x)=some x:=by
  induction xs with
  |nil=>cases hx
  |cons z zs ih=>
   grind
 simp_all
theorem e5t(b:Str)(xs:List α):(b∉xs.map k/\aO (td k v xs) (.inr b)=none)\/∃x∈xs,k x=b/\aO (td k v xs) (.inr b)=some (v x):=by
 rw[Cn];cases e:xs.find? (λx=>k x == b) with
 |none=>
  simp_all
 |some x=>exact .inr ⟨x,MA e,by have:=MB e;exact beq_iff_eq.mp this,rfl⟩
theorem Cp(h:b∉xs.map k):bS (td k v xs) (.inr b) y=td k v xs++[(.inr b,y)]:=by
 induction xs with
 |nil=>rfl
 |cons x xs ih=>
  grind [td,Fs]
def Ax(nd:(xs.map k).Nodup)(h:b∈xs.map k):bS (td k v xs) (.inr b) y=td k (λx=>if k x=b then y else v x) xs:=by
 induction xs with
 |nil=>cases h
 |cons x xs ih=>
  rw[cZ,qH] at nd;unfold td at *;rw[cZ,cZ,Fs];dsimp only;by_cases e:k x=b
  .rw[bJ (by rw[e]),bJ e]
   congr 1
   refine mJ λz m=>?_
   rw[br λe2=>nd.1 (by rw[e,<-e2];exact mP m)]
  .rw[br (λe2=>e (TK.inr.inj e2)),br e,ih nd.2]
   rcases y09.mp h with z|z
   .exact cR z.symm e
   .exact z
def x8:dc (td k v xs) b=td k v (xs.filter λx=>decide (k x≠b)):=by
 unfold dc td;rw[List.filter_map]
 congr 1
 refine List.filter_congr λx _=>?_
 unfold i7;dsimp only[Function.comp];exact decide_eq_decide.mpr (not_congr ⟨λz=>TK.inr.inj z,λz=>congrArg TK.inr z⟩)
def Ap:(td k v xs).map (·.1.d)=dS (xs.map k):=by
 unfold td dS;rw[dh,dh];refine mJ λx _=>?_
 simp[TK.d]
def qC:dX (td k v xs)=true:=by
 unfold td dX;rw[xa];exact jX.mpr λx _=>rfl
end
section
variable{hd:D}{r nw v:Int}{n:Nat}
def e5u:gE "now" (.int v) (hF hd r nw n)=hF hd r v n:=by kernel_rfl
end
variable{hd:D}
structure Row where
 bag:Str
 b:Str
 i:Int
 fl:ai Str
 gn:Int
instance:Inhabited Row:=⟨"","",0,none,0⟩
structure Hl where
 now:Int
 book:List (Str×Str×Int)
 halts:List Str
 rows:List Row
 gone:List (Str×Str×Int)
def aM:ai Str->D
 |none=>.aI
 |some x=>.str x
abbrev pl(b:Str)(i:Int):D:=.tup [.str b,.int i]
def t3(p:Str×Str×Int):D:=.tup [.str p.1,.str p.2.1,.int p.2.2]
def kc(l:List (Str×Str×Int)):List (TK×D):=td (·.1) t3 l
def gY(l:List Row):List (TK×D):=td Row.bag (λr=>pl r.b r.i) l
def iG(l:List Row):List (TK×D):=td Row.bag (λr=>aM r.fl) l
def kN(l:List Row):List (TK×D):=td Row.bag (λr=>.int r.gn) l
def uF(l:List (Str×Str×Int)):List (TK×D):=td (·.1) (λp=>.str p.2.1) l
def jz(l:List (Str×Str×Int)):List D:=l.map t3
abbrev hR(hd:D)(r:Int)(x:Hl)(B:List Cell):List Cell:=.ins cHall (hF hd r x.now 0)::.o (.aA (kc x.book))::.o (.aA (nv x.halts))::.o (.aA (gY x.rows))::.o (.aA (iG x.rows))::.o (.aA (kN x.rows))::.o (.lst (jz x.gone))::.o (.aA (uF x.gone))::B
noncomputable abbrev hS(B:List Cell)(hd:D)(r:Int)(x:Hl)(s:List Cell):aT:=⟨s,hR hd r x B⟩
section
variable{s B:List Cell}{h:az}{r:Int}{x:Hl}{q:Nat}{b:Str}
def Wz(g:aJ h):Fp q [cQ] (hS B (av h) r x s)=some (.ok (rd (av h)) (hS B (av h) r x s)):=by
 have e2:=OU g;unfold Fp N4;generalize av h=hd at *;simp only[↓ev,hR,aF,e2,bL]
def N9:Fe q [cQ] (hS B hd r x s)=some (.ok (rd (.int r)) (hS B hd r x s)):=by
 unfold Fe Nt;simp only[↓ev,hR,aF,bL]
def e5v:F0 q [cQ] (hS B hd r x s)=some (.ok (.o (.lst (jz x.gone))) (hS B hd r x s)):=by
 unfold F0 PV;simp only[↓ev,hR,aF,bL]
def Af(g:aJ h){v:Bool}(hb:(h.af.map ax.name).contains b=v):z7 q [cQ,c_ b] (hS B (av h) r x s)=some (if v=true then .ok (rd .aI) (hS B (av h) r x s) else .ex 116 none (hS B (av h) r x s)):=by
 have bl:=g.sm.bl;have hn:=x6 h.af (by lia)
 unfold z7 MQ av;cases v with
 |true=>simp only[↓ev,hR,aF,bA,hn,fj,eS,hb,e_,aG,bL]
 |false=>simp only[↓ev,hR,aF,bA,hn,fj,eS,hb,ja,bL,aG]
def qa{α:Type}{k:α->Str}{v:α->D}{xs:List α}:(aO (td k v xs) (.inr b)).isSome=(xs.map k).contains b:=by
 grind [e5t]
def WA(q:Nat)(ns:List Str)(hl:ns.length<=1000):aZ (ae 0) (HP q) (HQ q) (dS ns) [none,cq] (hS B hd r x s) []=some (.ok (dS (ns.filter λn=>x.halts.contains n)) (hS B hd r x s)):=by
 rw[dS,uD (λo=>if x.halts.contains o=true then some (.str o) else none) ns (by lia) λo m=>by
  have v:=vN o x.halts;unfold HP HQ;cases hc:x.halts.contains o with
  |true=>
   rw[hc] at v;exact .inr ⟨rd (.str o),.str o,rfl,by simp only[↓ev,hR,aF,aG,v],by simp only[↓ev],rfl⟩
  |false=>
   rw[hc] at v;exact .inl ⟨rfl,by simp only[↓ev,hR,aF,aG,v]⟩]
 congr 2
 induction ns with
 |nil=>rfl
 |cons o ns ih=>
  grind
noncomputable def cH(h:az)(x:Hl):List Str:=(h.af.map ax.name).filter λn=>x.halts.contains n
def IB(g:aJ h):Ab q [cQ] (hS B (av h) r x s)=some (.ok (.o (.lst (dS (cH h x)))) (hS B (av h) r x s)):=by
 have bl:=g.sm.bl;have hn:=x6 h.af (by lia)
 have e:=λq=>WA (B:=B) (s:=s) (r:=r) (x:=x) (hd:=av h) q (h.af.map ax.name) (by rw[bq];lia)
 unfold Ab Nd cH av at *;simp only[↓ev,hR,aF,bA,hn,e,bL]
end
variable{h:az}{b:Str}{S:aT}
noncomputable def rk(h:az)(b:Str):Int:=((findS (h.af.map ax.name) b).getD 0:Nat)
theorem FH:∀xs:List Str,dY (dS xs)=some xs
 |[]=>rfl
 |x::xs=>by
  have ih:=FH xs;show(dY (D.str x::dS xs))=_;unfold dY;rw[ih];rfl
def e5w(hb:b∈h.af.map ax.name):jq (.lst (dS (h.af.map ax.name))) (.str b)=some (rd (.int (rk h b))):=by
 obtain⟨j,hj⟩:=BQ hb;show(dY (dS _)).bind _=_;unfold rk;rw[FH,zS,hj];rfl
def e5x{c:Str}(hb:b∈h.af.map ax.name)(hc:c∈h.af.map ax.name)(e:rk h b=rk h c):b=c:=by
 obtain⟨j,hj⟩:=BQ hb;obtain⟨k,hk⟩:=BQ hc;unfold rk at e;rw[hj,hk] at e;have e:((j:Nat):Int)=(k:Nat):=e;have e:j=k:=by lia
 have h1:=(Ac hj).1;have h2:=(Ac hk).1;rw[e,h2] at h1;exact(Option.some.inj h1).symm
def lC(h:az)(r:Row):Prop:=∃bt∈h.af,bt.name=r.b/\0<=r.i/\r.i<bt.long/\0<=r.gn
def lC.nm{r:Row}(o:lC h r):r.b∈h.af.map ax.name:=by
 obtain⟨bt,hb,e,_⟩:=o;rw[<-e];exact mP hb
def nG(h:az)(r:Row):D:=.tup [.int (rk h r.b),.int r.i,.str r.bag]
def jt(h:az)(r:Row):Int×Int:=(rk h r.b,r.i)
def ord(h:az)(rows:List Row):List Row:=if rows.length<2 then rows else(dP (rows.map (jt h))).map λj=>rows.getD j default
theorem OV(h:az):∀rows:List Row,ky (rows.map (nG h))=some (rows.map (jt h))
 |[]=>rfl
 |r::rows=>by
  have ih:=OV h rows;show ky (D.tup [.int (rk h r.b),.int r.i,.str r.bag]::rows.map (nG h))=_;show(ky (rows.map (nG h))).map _=_;rw[ih];rfl
def OW{rows:List Row}(nd:(rows.map (jt h)).Nodup):(ord h rows).Perm rows:=by
 unfold ord;split
 .rfl
 .rename_i hl
  obtain⟨p,_⟩:=BU nd (by rw[bq];lia)
  rw[bq] at p;refine(p.map _).trans ?_;have:(List.range rows.length).map (λj=>rows.getD j default)=rows:=by
   refine Hq λi=>?_
   rw[fL];by_cases hi:i<rows.length
   .rw[zT hi,g7 hi];simp[hi]
   .rw[xg (by simp;lia),xg (by lia)]
    rfl
  rw[this]
def e5y(rows:List Row):(List.range (gY rows).length).map (λi=>D.tup ((((gY rows)[i]?).map λp=>[p.1.d,p.2]).getD []))=rows.map λr=>.tup [.str r.bag,pl r.b r.i]:=by
 unfold gY;refine Hq λi=>?_
 rw[kX,fL,fL];by_cases hi:i<rows.length
 .rw[zT hi,g7 hi];unfold td;rw[Bd,Bd,fL,g7 hi];simp[TK.d]
 .rw[xg (by simp;lia),xg (by lia)]
  rfl
section
variable{s B:List Cell}{h:az}{r:Int}{x:Hl}{q:Nat}
def YQ(q:Nat)(rows:List Row)(hl:rows.length<=1000)(ho:∀w∈rows,lC h w):aZ (bo [(ae 0),(ae 1)]) (fq true) (HJ q) (rows.map λw=>.tup [.str w.bag,pl w.b w.i]) [none,none,ak (.lst (dS (h.af.map ax.name)))] S []=some (.ok (rows.map (nG h)) S):=by
 rw[Gg (λw=>some (nG h w)) (λU=>∃a b,U=[a,b,ak (.lst (dS (h.af.map ax.name)))]) rows _ [] ⟨_,_,rfl⟩ (by rw[Ba];lia) λw m U ⟨a,b,hU⟩=>⟨[bh w.bag,ak (pl w.b w.i),ak (.lst (dS (h.af.map ax.name)))],by rw[hU];rfl,⟨_,_,rfl⟩,.inr ⟨rd (nG h w),nG h w,rfl,rfl,by
   have hi:=e5w (ho w m).nm;unfold HJ nG;simp only[↓ev,bA,hi,bX,aF],rfl⟩⟩,List.filterMap_eq_map',El]
def YR(q:Nat)(l:List Row)(hl:l.length<=1000):aZ (ae 0) (fq true) (HK q) (l.map (nG h)) [none] S []=some (.ok (dS (l.map Row.bag)) S):=by
 rw[ox (λw=>.str w.bag) l (by lia) λw m=>⟨rd (.str w.bag),by unfold HK nG;simp only[↓ev,eP],rfl⟩]
 unfold dS;rw[dh];rfl
def YS(g:aJ h)(nd:(x.rows.map (jt h)).Nodup)(hl:x.rows.length<64)(ho:∀w∈x.rows,lC h w):Bz q [cQ] (hS B (av h) r x s)=some (.ok (.o (.lst (dS ((ord h x.rows).map Row.bag)))) (hS B (av h) r x s)):=by
 have bl:=g.sm.bl;have hn:=x6 h.af (by lia)
 have e1:=λq=>YQ (S:=hS B (av h) r x s) q x.rows (by lia) ho
 have e2:=e5y x.rows;have pl:=(OW nd).length_eq;have e3:=λq=>YR (h:=h) (S:=hS B (av h) r x s) q (ord h x.rows) (by lia)
 have e0:dX (gY x.rows)=true:=qC;by_cases lt:x.rows.length<2
 .have h1:((x.rows.map (nG h)).length<2)=True:=bu (by rw[bq];exact lt)
  have h2:ord h x.rows=x.rows:=bJ lt;rw[h2] at e3 ⊢;unfold Bz HR av at *;generalize(x.rows.map (nG h))=l1 at *;simp only[↓ev,hR,aF,bA,hn,e0,e2,e1,h1,e3,bL]
 .have h1:((x.rows.map (nG h)).length<2)=False:=eq_false (by rw[bq];exact lt)
  have h2:=OV h x.rows;have h3:((x.rows.map (jt h)).Nodup/\(x.rows.map (jt h)).length<64)=True:=bu ⟨nd,by rw[bq];exact hl⟩
  have h4:lG (x.rows.map (nG h)) (dP (x.rows.map (jt h)))=(ord h x.rows).map (nG h):=by
   unfold ord lG;rw[br lt,dh];refine mJ λj m=>?_
   have p:=(BU nd (by rw[bq];lia)).1
   have hj:j<x.rows.length:=by
    have:=qp.mp (p.mem_iff.mp m)
    rwa[bq] at this
   simp[hj]
  unfold Bz HR av at *;generalize(x.rows.map (nG h))=l1 at *;generalize((ord h x.rows).map (nG h))=l2 at *;generalize(x.rows.map (jt h))=ks at *;simp only[↓ev,hR,aF,bA,hn,e0,e2,e1,h1,h2,h3,h4,e3,bL]
end
variable{hd:D}
structure Ok (h:az) (n:Nat) (x:Hl):Prop where
 rw:∀w∈x.rows,lC h w/\mO w.bag/\∀f,w.fl=some f->f∈x.book.map (·.1)
 nd:(x.rows.map Row.bag++x.gone.map (·.1)).Nodup
 un:(x.rows.map λw=>(w.b,w.i)).Nodup
 bk:∀p∈x.book,p.2.1∈h.carts.drop 1
 bn:(x.book.map (·.1)).Nodup
 gi:∀p∈x.gone,mO p.1
 rl:x.rows.length<=8
 sz:x.book.length+x.halts.length+x.rows.length+x.gone.length<=n
noncomputable def bN(w:Row):D:=.tup [.str w.bag,aM w.fl,pl w.b w.i,.int w.gn]
section
variable{s B:List Cell}{h:az}{r:Int}{x:Hl}{q n:Nat}{w:Row}
def Ok.nb(o:Ok h n x):(x.rows.map Row.bag).Nodup:=(kQ.mp o.nd).1
theorem Ok.nk(o:Ok h n x):(x.rows.map (jt h)).Nodup:=by
 have e:=o.un;rw[List.Nodup,En] at e ⊢;refine e.imp_of_mem λ{a b} ma mb ne z=>ne ?_
 have h1:=congrArg Prod.fst z;have h2:=congrArg Prod.snd z;rw[show a.b=b.b from e5x (o.rw a ma).1.nm (o.rw b mb).1.nm h1,show a.i=b.i from h2]
def Ok.perm(o:Ok h n x):(ord h x.rows).Perm x.rows:=OW o.nk
def Ok.mem(o:Ok h n x):w∈ord h x.rows↔w∈x.rows:=o.perm.mem_iff
def Vc(q:Nat)(nb:(x.rows.map Row.bag).Nodup)(l:List Row)(hl:l.length<=1000)(hm:∀w∈l,w∈x.rows):aZ (ae 0) (fq true) (Ie q) (dS (l.map Row.bag)) [none,cq] (hS B hd r x s) []=some (.ok (l.map bN) (hS B hd r x s)):=by
 rw[show dS (l.map Row.bag)=l.map λw=>.str w.bag by unfold dS;rw[dh];rfl,ox bN l (by lia) λw m=>⟨rd (bN w),by
  have h1:aO (gY x.rows) (.inr w.bag)=_:=ip nb (hm w m);have h2:aO (iG x.rows) (.inr w.bag)=_:=ip nb (hm w m);have h3:aO (kN x.rows) (.inr w.bag)=_:=ip nb (hm w m);unfold Ie bN;generalize aM w.fl=ff at *;simp only[↓ev,hR,aF,h2,h1,h3],rfl⟩]
def Gk(g:aJ h)(o:Ok h n x):xS q [cQ] (hS B (av h) r x s)=some (.ok (.o (.lst ((ord h x.rows).map bN))) (hS B (av h) r x s)):=by
 have rl:=o.rl;have e1:=λq=>YS (B:=B) (s:=s) (r:=r) (q:=q) g o.nk (by lia) λw m=>(o.rw w m).1
 have e2:=λq=>Vc (B:=B) (s:=s) (r:=r) (hd:=av h) q o.nb (ord h x.rows) (by rw[o.perm.length_eq];lia) λw m=>o.mem.mp m
 generalize av h=hd at *;unfold xS OG;simp only[↓ev,hR,fB,aF,e1,e2,bL]
def P5(q:Nat)(hn:mO w.bag)(hw:w∈x.rows)(nb:(x.rows.map Row.bag).Nodup):vC q [cQ,c_ w.bag] (hS B hd r x s)=some (.ok (rd .aI) (hS B hd r x s)):=by
 have h1:aO (gY x.rows) (.inr w.bag)=_:=ip nb hw;unfold vC HH;simp only[↓ev,hn,aG,hR,aF,h1,e_,bL]
end
noncomputable def nX(kn:List (Str×Int)):List (TK×D):=kn.map λp=>(.inr p.1,.int p.2)
noncomputable def atS(kn:List (Str×Int))(n:Str):ai Int:=(kn.find? λp=>p.1 == n).map (·.2)
theorem P6(x:Str):atS [] x=none:=rfl
theorem xV(k:Str)(v:Int)(kn:List (Str×Int))(x:Str):atS ((k,v)::kn) x=if k=x then some v else atS kn x:=by
 grind [atS]
theorem FI(k:Str)(v:Int)(x:Str):∀kn:List (Str×Int),atS (kn++[(k,v)]) x=(atS kn x).or (if k=x then some v else none)
 |[]=>by rw[El,xV,P6,Option.none_or]
 |(k',v')::kn=>by
  rw[List.cons_append,xV,xV,FI k v x kn];split
  .rfl
  .rfl
theorem Cd(x:Str):∀kn:List (Str×Int),aO (nX kn) (.inr x)=(atS kn x).map .int
 |[]=>rfl
 |(k,v)::kn=>by
  have ih:=Cd x kn
  grind [xV,aO,nX]
def pg0{a:TK}{y:D}:bS [] a y=[(a,y)]:=rfl
theorem P7:∀kn k v,atS kn k=none->bS (nX kn) (.inr k) (.int v)=nX (kn++[(k,v)])
 |[],_,_,_=>rfl
 |(k',v')::kn,k,v,h=>by
  rw[xV] at h;have e:¬k'=k:=λz=>by rw[bJ z] at h;cases h
  rw[br e] at h;show bS ((TK.inr k',D.int v')::nX kn) (.inr k) (.int v)=(TK.inr k',D.int v')::nX (kn++[(k,v)]);rw[<-P7 kn k v h,Fs,br (λz=>e (TK.inr.inj z))]
def eC(kn:List (Str×Int))(outs:List Str):List Int:=outs.filterMap (atS kn)
def bx(aX:Str):List ax->List (Str×Int)
 |[]=>[(aX,0)]
 |b::bs=>if eC (bx aX bs) b.outs=[] then bx aX bs else bx aX bs++[(b.name,b.long+i6 (eC (bx aX bs) b.outs))]
theorem OX(aX:Str):∀bs:List ax,(bx aX bs).length<=bs.length+1
 |[]=>cv _
 |b::bs=>by
  have:=OX aX bs;unfold bx;split
  .rw[kO];lia
  .rw[dZ,zP,kO];lia
theorem IW{aX:Str}:∀{bs:List ax} {n:Str},n≠aX->n∉bs.map ax.name->atS (bx aX bs) n=none
 |[],n,h1,_=>by
  show atS [(aX,0)] n=none
  grind [xV,P6]
 |b::bs,n,h1,h2=>by
  rw[cZ] at h2;have h3:n≠b.name:=λz=>h2 (by rw[z];exact .head _)
  have ih:=IW (aX:=aX) (bs:=bs) h1 λz=>h2 (.tail _ z)
  unfold bx;split
  .exact ih
  .rw[FI,ih,br (λz=>h3 z.symm)];rfl
theorem YT(kn:List (Str×Int)):∀outs:List Str,(outs.filterMap λo=>(atS kn o).map D.int)=(eC kn outs).map D.int
 |[]=>rfl
 |o::outs=>by
  grind [eC]
abbrev mr(S:aT)(kn:List (Str×Int)):aT:=⟨S.s++[.o (.aA (nX kn))],S.r⟩
section
variable{S:aT}{kn:List (Str×Int)}{outs:List Str}{g0 g1 a7:ai Val}{x:ax}
def OY(q:Nat)(h:outs.length<=1000):aZ (ae 0) (Ia q) (Ib q) (dS outs) [none,aW S.s.length] (mr S kn) []=some (.ok ((eC kn outs).map D.int) (mr S kn)):=by
 rw[dS,uD (λo=>(atS kn o).map D.int) outs (by lia) λo m=>by
  have v:=Cd o kn;unfold Ia Ib;cases hc:atS kn o with
  |some w=>
   rw[hc] at v;exact .inr ⟨rd (.int w),.int w,rfl,by simp only[↓ev,fG,aG,v,vy],by simp only[↓ev,fG,v],rfl⟩
  |none=>
   rw[hc] at v;exact .inl ⟨rfl,by simp only[↓ev,fG,aG,v,zV]⟩,YT]
def e5z(ho:x.outs.length<=1000)(hb:eC kn x.outs=[]):Ad 0 [g0,g1,aW S.s.length,bh x.name,bY x.long,ak (.bl x.ring),ak (.lst (dS x.outs)),a7] (mr S kn)=some (.nx [g0,g1,aW S.s.length,bh x.name,bY x.long,ak (.bl x.ring),ak (.lst (dS x.outs)),ak (.lst [])] (mr S kn)):=by
 have e:=λq=>OY (S:=S) (kn:=kn) q ho
 rw[hb] at e;unfold Ad;simp only[↓ev,e,aF,aG]
def YU(ho:x.outs.length<=1000){i:Int}{is:List Int}(hb:eC kn x.outs=i::is)(hn:atS kn x.name=none)(hl:((nX kn).length<1000000)=True):Ad 0 [g0,g1,aW S.s.length,bh x.name,bY x.long,ak (.bl x.ring),ak (.lst (dS x.outs)),a7] (mr S kn)=some (.nx [g0,g1,aW S.s.length,bh x.name,bY x.long,ak (.bl x.ring),ak (.lst (dS x.outs)),ak (.lst ((i::is).map D.int))] (mr S (kn++[(x.name,x.long+i6 (i::is))]))):=by
 have e:=λq=>OY (S:=S) (kn:=kn) q ho
 rw[hb] at e;have p:=P7 kn x.name (x.long+i6 (i::is)) hn;have z:((i::is).map D.int).isEmpty=false:=rfl;have m:=NV (i::is);have ne:((i::is)=[])=False:=eq_false (List.cons_ne_nil _ _);generalize(i::is).map D.int=l at *;unfold Ad;simp only[↓ev,e,aF,z,ja,m,ne,fG,hl,p,kF]
def OZ(g:aJ h){aX:Str}(hc:aX∈h.carts):P0 BV [.d (av h),c_ aX] (.o (.aA (nX (bx aX h.af)))):=by
 intro S;have bl:=g.sm.bl;have ou:=g.sm.ou;have f:=g.fwd;obtain⟨U',S',e,a3,a4,a5,a6,a7,rfl,rfl⟩:=iJ (gg:=bo [(ae 3),(ae 4),(ae 5),(ae 6)]) (body:=Ad 0) (f:=aw) (U:=[ak (av h),bh aX,aW S.s.length,none,none,none,none,none]) (S:=mr S (bx aX [])) (λpre U S'=>∃a3 a4 a5 a6 a7,U=[ak (av h),bh aX,aW S.s.length,a3,a4,a5,a6,a7]/\S'=mr S (bx aX pre.reverse)) h.af.reverse ⟨_,_,_,_,_,rfl,rfl⟩ (by
  rintro q x post eq U S' ⟨a3,a4,a5,a6,a7,rfl,rfl⟩;have eb:h.af=post.reverse++x::q.reverse:=by
   simp_all
  have fx:lz h.carts (x::q.reverse):=BL (by rw[<-eb];exact f)
  have ho:x.outs.length<=1000:=by
   grind
  have hn:atS (bx aX q.reverse) x.name=none:=IW (λz=>fx.2.2.1 (z ▸ hc)) fx.2.1
  have hl:(bx aX q.reverse).length<=1000:=by
   grind [OX]
  rw[List.reverse_append,List.reverse_singleton,List.singleton_append];have ebg:bx aX (x::q.reverse)=if eC (bx aX q.reverse) x.outs=[] then bx aX q.reverse else bx aX q.reverse++[(x.name,x.long+i6 (eC (bx aX q.reverse) x.outs))]:=by
   rfl
  rw[ebg];generalize bx aX q.reverse=kn at *;cases hb:eC kn x.outs with
  |nil=>exact⟨_,_,_,rfl,.inl (e5z ho hb),_,_,_,_,_,rfl,by rw[bJ rfl]⟩
  |cons i is=>exact⟨_,_,_,rfl,.inl (YU ho hb hn (bu (by unfold nX;rw[bq];lia))),_,_,_,_,_,rfl,by rw[br (List.cons_ne_nil _ _)]⟩)
 rw[List.reverse_reverse,List.map_reverse,show mr S (bx aX [])=⟨S.s++[.o (.aA [(.inr aX,.int 0)])],S.r⟩ from rfl] at e;have hD:av h=.tup [.lst (h.af.map aw),.lst (dS h.carts)]:=rfl;have tl:∀c:Cell,(S.s++[c]).take S.s.length=S.s:=λc=>List.take_left
 rw[hD] at e ⊢;unfold BV Ox;simp only[↓ev,Ds,fG,aF,Mv,pg0,List.foldl_nil,tl,bA,iy,e,y8,tQ]
end
variable{kn:List (Str×Int)}{outs:List Str}{best:ai Str}
theorem IX:∀{bs:List ax},lz carts bs->∀b∈bs,∀o∈b.outs,o∈bs.map ax.name\/o∈carts
 |x::bs,f,b,hb,o,ho=>by
  rcases y09.mp hb with rfl|hb
  .rcases f.1 o ho with z|z
   .exact .inl (.tail _ z)
   .exact .inr z
  .rcases IX f.2.2.2 b hb o ho with z|z
   .exact .inl (.tail _ z)
   .exact .inr z
def Fc{aX:Str}{x:ax}{bs:List ax}(h:n≠x.name):atS (bx aX (x::bs)) n=atS (bx aX bs) n:=by
 grind [bx,FI]
def NA{kn':List (Str×Int)}(h:∀o∈outs,atS kn o=atS kn' o):eC kn outs=eC kn' outs:=by
 unfold eC
 induction outs with
 |nil=>rfl
 |cons o outs ih=>
  have:=ih λz hz=>h z (.tail _ hz)
  rw[qr,qr,h o (.head _),this]
theorem Jo{aX:Str}(hc:aX∈carts):∀{bs:List ax},lz carts bs->∀b∈bs,atS (bx aX bs) b.name=if eC (bx aX bs) b.outs=[] then none else some (b.long+i6 (eC (bx aX bs) b.outs))
 |x::bs,f,b,hb=>by
  rcases y09.mp hb with rfl|hb
  .have ho:∀o∈b.outs,o≠b.name:=λo ho z=>by
    rcases f.1 o ho with y|y
    .exact f.2.1 (by rw[<-z];exact y)
    .exact f.2.2.1 (by rw[<-z];exact y)
   have e:=NA (kn:=bx aX (b::bs)) (kn':=bx aX bs) (outs:=b.outs) λo m=>Fc (ho o m)
   rw[e]
   conv=>lhs;unfold bx
   have hn:atS (bx aX bs) b.name=none:=IW (λz=>f.2.2.1 (by rw[z];exact hc)) f.2.1
   split
   .exact hn
   .rw[FI,hn,bJ rfl];rfl
  .have hn:b.name≠x.name:=λz=>f.2.1 (by rw[<-z];exact mP (f:=ax.name) hb)
   have ho:∀o∈b.outs,o≠x.name:=λo ho z=>by
    rcases IX f.2.2.2 b hb o ho with y|y
    .exact f.2.1 (by rw[<-z];exact y)
    .exact f.2.2.1 (by rw[<-z];exact y)
   have e:=NA (kn:=bx aX (x::bs)) (kn':=bx aX bs) (outs:=b.outs) λo m=>Fc (ho o m)
   rw[e,Fc hn];exact Jo hc f.2.2.2 b hb
theorem P8{aX:Str}(hc:aX∈carts):∀{bs:List ax},lz carts bs->atS (bx aX bs) aX=some 0
 |[],_=>by show atS [(aX,0)] aX=some 0;rw[xV,bJ rfl]
 |x::bs,f=>by rw[Fc (λz=>f.2.2.1 (by rw[<-z];exact hc))];exact P8 hc f.2.2.2
def yF(h:az)(aX n:Str)(c:Int):D:=match atS (bx aX h.af) n with
 |none=>.aI
 |some v=>.int (v - c)
def m9(kn:List (Str×Int))(best:ai Str)(o:Str):ai Str:=match atS kn o with
 |none=>best
 |some v=>match best with
  |none=>some o
  |some p=>if v<(atS kn p).getD 0 then some o else best
def h_(kn:List (Str×Int))(outs:List Str):ai Str:=outs.foldl (m9 kn) none
def yj(kn:List (Str×Int))(best:ai Str):Prop:=∀p,best=some p->∃v,atS kn p=some v
def NB(h:yj kn best)(o:Str):yj kn (m9 kn best o):=by
 intro p e;unfold m9 at e;cases q:atS kn o with
 |none=>rw[q] at e;exact h p e
 |some v=>
  rw[q] at e;dsimp only at e;cases best with
  |none=>cases e;exact⟨v,q⟩
  |some p'=>
   dsimp only at e;split at e
   .simp_all
   .exact h p e
theorem P9:∀{outs:List Str} {best:ai Str},yj kn best->yj kn (outs.foldl (m9 kn) best)
 |[],_,h=>h
 |o::outs,best,h=>P9 (outs:=outs) (NB h o)
theorem IY:∀{outs:List Str} {best:ai Str},yj kn best->
  (outs.foldl (m9 kn) best=none↔best=none/\eC kn outs=[])/\
  ∀a,outs.foldl (m9 kn) best=some a->(best=some a\/a∈outs)/\∃v,atS kn a=some v/\(∀o∈outs,∀w,atS kn o=some w->v<=w)/\∀p w,best=some p->atS kn p=some w->v<=w
 |[],best,h=>by
  refine⟨⟨λe=>⟨e,rfl⟩,λe=>e.1⟩,λa e=>?_⟩
  obtain⟨v,hv⟩:=h a e;refine⟨.inl e,v,hv,λo m=>(by cases m),λp w e1 e2=>?_⟩
  have e:best=some a:=e;rw[e] at e1;cases e1;rw[hv] at e2;cases e2;exact Ms _
 |o::outs,best,h=>by
  obtain⟨i1,i2⟩:=IY (outs:=outs) (NB h o);rw[Mv];constructor
  .rw[i1];unfold m9 eC;cases q:atS kn o with
   |none=>rw[List.filterMap_cons_none q]
   |some v=>
    rw[List.filterMap_cons_some q];constructor
    .rintro⟨e,_⟩;exfalso;cases best with
     |none=>cases e
     |some p=>dsimp only at e;split at e <;> cases e
    .rintro⟨_,e⟩;cases e
  .intro a e;obtain⟨j1,v,j2,j3,j4⟩:=i2 a e;cases q:atS kn o with
   |none=>
    have es:m9 kn best o=best:=by unfold m9;rw[q]
    rw[es] at j1 j4;refine⟨?_,v,j2,λo' m w e'=>?_,j4⟩
    .rcases j1 with z|z
     .exact .inl z
     .exact .inr (.tail _ z)
    .rcases y09.mp m with rfl|m
     .rw[q] at e';cases e'
     .exact j3 o' m w e'
   |some u=>
    cases best with
    |none=>
     have es:m9 kn none o=some o:=by unfold m9;rw[q]
     rw[es] at j1 j4;refine⟨.inr ?_,v,j2,λo' m w e'=>?_,λp w e'=>(by cases e')⟩
     .rcases j1 with z|z
      .cases z;exact .head _
      .exact .tail _ z
     .rcases y09.mp m with rfl|m
      .rw[q] at e';cases e';exact j4 o' u rfl q
      .exact j3 o' m w e'
    |some p=>
     obtain⟨pv,hp⟩:=h p rfl;by_cases mh:u<pv
     .have es:m9 kn (some p) o=some o:=by unfold m9;rw[q];dsimp only;rw[hp,Hs,bJ mh]
      rw[es] at j1 j4;refine⟨.inr ?_,v,j2,λo' m w e'=>?_,λp' w e1 e2=>?_⟩
      all_goals grind
     .have es:m9 kn (some p) o=some p:=by unfold m9;rw[q];dsimp only;rw[hp,Hs,br mh]
      rw[es] at j1 j4;refine⟨?_,v,j2,λo' m w e'=>?_,j4⟩
      all_goals grind
def kB{v:Int}:v∈eC kn outs↔∃o∈outs,atS kn o=some v:=wY
def lE:h_ kn outs=none↔eC kn outs=[]:=by
 have:=(IY (kn:=kn) (outs:=outs) (best:=none) (λp e=>by cases e)).1
 grind [h_]
def Vd{a:Str}(e:h_ kn outs=some a):a∈outs/\atS kn a=some (i6 (eC kn outs)):=by
 obtain⟨j1,v,j2,j3,_⟩:=(IY (kn:=kn) (outs:=outs) (best:=none) (λp e=>by cases e)).2 a e
 have ha:a∈outs:=by
  lia
 have gP:eC kn outs≠[]:=λz=>by rw[lE.mpr z] at e;cases e
 obtain⟨m1,m2⟩:=NU gP;obtain⟨o,ho,eo⟩:=kB.mp m1;have c1:=j3 o ho _ eo;have c2:=m2 v (kB.mpr ⟨a,ha,j2⟩)
 grind
section
variable{h:az}{aX n:Str}{c:Int}
def e9k(g:aJ h)(hc:aX∈h.carts):P0 Gr [.d (av h),.d (.tup [.str n,.int c]),c_ aX] (rd (yF h aX n c)):=by
 intro S;have e:=OZ g hc;have v:=Cd n (bx aX h.af);unfold Gr Rl yF;generalize av h=hd at *;cases hk:atS (bx aX h.af) n with
 |none=>
  rw[hk] at v;simp only[↓ev,e,aF,bA,v,zV,ja,f6]
 |some w=>
  rw[hk] at v;simp only[↓ev,e,aF,bA,v,vy,e_,aG,bX,f6]
def WB(ok:yj kn best)(o:Str){g0 g1 g2:ai Val}:B' 0 [g0,g1,g2,ak (.aA (nX kn)),ak (aM best),bh o] S=some (.nx [g0,g1,g2,ak (.aA (nX kn)),ak (aM (m9 kn best o)),bh o] S):=by
 have v:=Cd o kn;unfold B' m9;cases hk:atS kn o with
 |none=>
  rw[hk] at v;simp only[↓ev,aG,v,zV]
 |some w=>
  rw[hk] at v;cases best with
  |none=>
   unfold aM;simp only[↓ev,aG,v,vy,aF]
  |some p=>
   obtain⟨u,hu⟩:=ok p rfl;have v2:=Cd p kn;rw[hu] at v2;unfold aM;by_cases hl:w<u
   .have mf:=bu hl;simp only[↓ev,aG,v,vy,v2,mf,decide_true,aF,hu]
   .have mf:=eq_false hl;simp only[↓ev,aG,v,vy,v2,mf,decide_false,hu]
def WC{g0 g1 g2 a:ai Val}:∃a',aN (ae 5) (B' 0) (dS outs) [g0,g1,g2,ak (.aA (nX kn)),ak .aI,a] S=some (.nx [g0,g1,g2,ak (.aA (nX kn)),ak (aM (h_ kn outs)),a'] S):=by
 obtain⟨U',S',e,a',rfl,rfl⟩:=iJ (gg:=ae 5) (body:=B' 0) (f:=D.str) (U:=[g0,g1,g2,ak (.aA (nX kn)),ak .aI,a]) (S:=S) (λpre U S'=>∃a',U=[g0,g1,g2,ak (.aA (nX kn)),ak (aM (h_ kn pre)),a']/\S'=S) outs ⟨a,rfl,rfl⟩ (by
  rintro d x r eq U S' ⟨a',rfl,rfl⟩;have ok:yj kn (h_ kn d):=P9 λp z=>by cases z
  refine⟨_,_,_,rfl,.inl (WB ok x),bh x,?_,rfl⟩;unfold h_;rw[Mt];rfl)
 exact⟨a',e⟩
def Gu(g:aJ h){b:ax}(hb:b∈h.af)(hc:aX∈h.carts):P0 Gs [.d (av h),c_ b.name,c_ aX] (rd (aM (h_ (bx aX h.af) b.outs))):=by
 intro S;have e1:=OZ g hc;have e2:=Ai g hb;obtain⟨a',e⟩:=WC (S:=S) (kn:=bx aX h.af) (outs:=b.outs) (g0:=(ak (av h))) (g1:=(bh b.name)) (g2:=(bh aX)) (a:=none);have hD:aw b=.tup [.str b.name,.int b.long,.bl b.ring,.lst (dS b.outs)]:=rfl;rw[hD] at e2;unfold Gs Rm;generalize av h=hd at *;simp only[↓ev,e1,aF,e2,ow,iy,e,f6]
end
noncomputable abbrev iZ(h:az):Str:=h.carts.getD 0 ""
def rN(h:az)(ct:Str)(nw cl:Int)(b:Str)(i:Int):Bool:=match atS (bx ct h.af) b with
 |none=>false
 |some v=>decide (nw+(v - i)<=cl)
noncomputable def rV(x:Hl)(w:Row):ai (Str×Int):=w.fl.bind λf=>(x.book.find? λp=>p.1 == f).map (·.2)
def yq(h:az)(x:Hl)(w:Row):Bool:=match rV x w with
 |none=>false
 |some (ct,cl)=>rN h ct x.now cl w.b w.i
def gj(h:az)(x:Hl)(w:Row):Str:=match rV x w with
 |none=>iZ h
 |some (ct,cl)=>if rN h ct x.now cl w.b w.i=true then ct else iZ h
section
variable{s B:List Cell}{h:az}{r:Int}{x:Hl}{n:Nat}{w:Row}
def IC(o:Ok h n x)(hw:w∈x.rows):(w.fl=none/\rV x w=none)\/∃f ct cl,w.fl=some f/\rV x w=some (ct,cl)/\ct∈h.carts/\aO (kc x.book) (.inr f)=some (.tup [.str f,.str ct,.int cl]):=by
 unfold rV;cases hf:w.fl with
 |none=>exact .inl ⟨rfl,rfl⟩
 |some f=>
  have v:aO (kc x.book) (.inr f)=_:=Cn f x.book;cases e:x.book.find? (λp=>p.1 == f) with
  |none=>
   obtain⟨p,hp,ep⟩:=fy.mp ((o.rw w hw).2.2 f hf);have:=List.find?_eq_none.mp e p hp;rw[ep,cT] at this;exact cR rfl this
  |some p=>
   have e1:=MB e;have e1:p.1=f:=beq_iff_eq.mp e1;refine .inr ⟨f,p.2.1,p.2.2,rfl,by rw[zS,e];rfl,List.mem_of_mem_drop (o.bk p (MA e)),?_⟩
   rw[v,e,<-e1];rfl
def YV(g:aJ h)(o:Ok h n x)(hw:w∈x.rows):E7 0 [cQ,c_ w.bag] (hS B (av h) r x s)=some (.ok (rd (.bl (yq h x w))) (hS B (av h) r x s)):=by
 have h1:aO (gY x.rows) (.inr w.bag)=_:=ip o.nb hw;have h2:aO (iG x.rows) (.inr w.bag)=_:=ip o.nb hw;unfold E7 Nf yq;rcases IC o hw with⟨e1,e2⟩|⟨f,ct,cl,e1,e2,hc,hk⟩
 .rw[e1] at h2;rw[e2];unfold aM at h2;generalize av h=hd at *;simp only[↓ev,hR,aF,h2,aG,bL]
 .rw[e1] at h2;rw[e2];unfold aM at h2;have e:=e9k (n:=w.b) (c:=w.i) g hc;unfold yF at e;dsimp only;unfold rN;cases hv:atS (bx ct h.af) w.b with
  |none=>
   rw[hv] at e;generalize av h=hd at *;simp only[↓ev,hR,aF,h2,aG,hk,h1,bX,e,bL]
  |some v=>
   rw[hv] at e;generalize av h=hd at *;simp only[↓ev,hR,aF,h2,aG,hk,h1,bX,e,eP,bL]
def e6a(g:aJ h)(o:Ok h n x)(hw:w∈x.rows):E9 0 [cQ,c_ w.bag] (hS B (av h) r x s)=some (.ok (rd (.str (gj h x w))) (hS B (av h) r x s)):=by
 have h2:aO (iG x.rows) (.inr w.bag)=_:=ip o.nb hw;have e1:=λq=>P5 (B:=B) (s:=s) (r:=r) q (hd:=av h) (o.rw w hw).2.1 hw o.nb
 have e2:=YV (B:=B) (s:=s) (r:=r) g o hw;obtain⟨_,ha⟩:=Cb g;have hD:av h=.tup [.lst (h.af.map aw),.lst (dS h.carts)]:=rfl;rw[hD] at e1 e2 ⊢;unfold E9 Ng gj;unfold yq at e2;rcases IC o hw with⟨e3,e4⟩|⟨f,ct,cl,e3,e4,hc,hk⟩
 .rw[e4] at e2 ⊢;unfold iZ;generalize h.carts.getD 0 ""=hnd at *;simp only[↓ev,hR,fB,aF,e1,e2,aG,bX,ha,bL]
 .rw[e4] at e2 ⊢;rw[e3] at h2;unfold aM at h2;dsimp only at e2 ⊢;unfold iZ;generalize h.carts.getD 0 ""=hnd at *;cases hb:rN h ct x.now cl w.b w.i with
  |true=>
   rw[hb] at e2;simp only[↓ev,hR,fB,aF,e1,e2,h2,hk,bX,bL]
  |false=>
   rw[hb] at e2;simp only[↓ev,hR,fB,aF,e1,e2,aG,bX,ha,bL]
theorem IZ(g:aJ h):∀{bs pre:List ax},h.af=pre++bs->∀b∈bs,∃v,atS (bx (iZ h) h.af) b.name=some v
 |x::bs,pre,eq,b,hb=>by
  have AB:h.af=(pre++[x])++bs:=by rw[eq];simp
  rcases y09.mp hb with rfl|hb
  .have GL:b∈h.af:=by rw[eq];simp
   have fx:lz h.carts (b::bs):=BL (by rw[<-eq];exact g.fwd)
   have key:∀o∈b.outs,∀v,atS (bx (iZ h) h.af) o=some v->∃v,atS (bx (iZ h) h.af) b.name=some v:=λo m v e=>by
    have hm:=kB.mpr ⟨o,m,e⟩;rw[Jo (Cb g).1 g.fwd b GL,br λz=>by rw[z] at hm;cases hm]
    exact⟨_,rfl⟩
   rcases g.hd b GL with z|⟨o,z1,z2⟩
   .exact key _ z _ (P8 (Cb g).1 g.fwd)
   .rcases fx.1 o z1 with y|y
    .obtain⟨w,hw,rfl⟩:=fy.mp y;obtain⟨v,e⟩:=IZ g AB w hw;exact key _ z1 v e
    .exact cR z2 (Fq g.fwd o y)
  .exact IZ g AB b hb
def P_(g:aJ h)(o:Ok h n x)(hw:w∈x.rows):gj h x w∈h.carts/\∃v,atS (bx (gj h x w) h.af) w.b=some v:=by
 obtain⟨bt,hb,eb,_⟩:=(o.rw w hw).1;have hh:iZ h∈h.carts/\∃v,atS (bx (iZ h) h.af) w.b=some v:=⟨(Cb g).1,by rw[<-eb];exact IZ g (pre:=[]) (bs:=h.af) rfl bt hb⟩
 unfold gj;rcases IC o hw with⟨e3,e4⟩|⟨f,ct,cl,e3,e4,hc,hk⟩
 .rw[e4];exact hh
 .rw[e4];dsimp only;split
  .rename_i yM
   refine⟨hc,?_⟩;unfold rN at yM;cases hv:atS (bx ct h.af) w.b with
   |none=>rw[hv] at yM;cases yM
   |some v=>exact⟨v,rfl⟩
  .exact hh
end
variable{bt:ax}{o:Str}{busy:List Str}
abbrev Goal:=Str×ai Int
def gD:Goal->D
 |(c,none)=>.str c
 |(b,some i)=>pl b i
section
variable{s B:List Cell}{h:az}{r:Int}{x:Hl}{n:Nat}{w:Row}{ct:Str}
def e6b(g:aJ h)(hb:bt∈h.af)(hc:ct∈h.carts)(ho:h_ (bx ct h.af) bt.outs=some o)(hi:h.carts.contains o=true){busy:D}:P0 qy [.d (av h),.d (aw bt),c_ ct,.d busy] (rd (.str o)):=by
 intro S;have e:=Gu g hb hc;rw[ho] at e;have hD:av h=.tup [.lst (h.af.map aw),.lst (dS h.carts)]:=rfl;have hB:aw bt=.tup [.str bt.name,.int bt.long,.bl bt.ring,.lst (dS bt.outs)]:=rfl;rw[hD] at e ⊢;rw[hB];unfold qy BH;unfold aM at e;simp only[↓ev,bA,e,aF,bX,fj,aG,eS,hi,f6]
def e6c(g:aJ h)(hb:bt∈h.af)(hc:ct∈h.carts)(ho:h_ (bx ct h.af) bt.outs=some o)(hi:h.carts.contains o=false)(hy:busy.contains o=false):P0 qy [.d (av h),.d (aw bt),c_ ct,.d (.lst (dS busy))] (rd (pl o 0)):=by
 intro S;have e:=Gu g hb hc;rw[ho] at e;have hD:av h=.tup [.lst (h.af.map aw),.lst (dS h.carts)]:=rfl;have hB:aw bt=.tup [.str bt.name,.int bt.long,.bl bt.ring,.lst (dS bt.outs)]:=rfl;rw[hD] at e ⊢;rw[hB];unfold qy BH;unfold aM at e;cases hr:bt.ring with
 |true=>simp only[↓ev,bA,e,aF,bX,fj,aG,eS,hi,eP,hy,f6]
 |false=>simp only[↓ev,bA,e,aF,bX,fj,aG,eS,hi,eP,f6]
def e6d(g:aJ h)(hb:bt∈h.af)(hc:ct∈h.carts)(ho:h_ (bx ct h.af) bt.outs=some o)(hi:h.carts.contains o=false)(hr:bt.ring=true)(hy:busy.contains o=true):P0 qy [.d (av h),.d (aw bt),c_ ct,.d (.lst (dS busy))] (rd (pl bt.name 0)):=by
 intro S;have e:=Gu g hb hc;rw[ho] at e;have hD:av h=.tup [.lst (h.af.map aw),.lst (dS h.carts)]:=rfl;have hB:aw bt=.tup [.str bt.name,.int bt.long,.bl bt.ring,.lst (dS bt.outs)]:=rfl;rw[hD] at e ⊢;rw[hB,hr];unfold qy BH;unfold aM at e;simp only[↓ev,bA,e,aF,bX,fj,aG,eS,hi,eP,hy,f6]
def e6e(g:aJ h)(hb:bt∈h.af)(hc:ct∈h.carts)(ho:h_ (bx ct h.af) bt.outs=some o)(hi:h.carts.contains o=false)(hr:bt.ring=false):P0 qy [.d (av h),.d (aw bt),c_ ct,.d (.lst (dS busy))] (rd (pl o 0)):=by
 intro S;have e:=Gu g hb hc;rw[ho] at e;have hD:av h=.tup [.lst (h.af.map aw),.lst (dS h.carts)]:=rfl;have hB:aw bt=.tup [.str bt.name,.int bt.long,.bl bt.ring,.lst (dS bt.outs)]:=rfl;rw[hD] at e ⊢;rw[hB,hr];unfold qy BH;unfold aM at e;simp only[↓ev,bA,e,aF,bX,fj,aG,eS,hi,eP,f6]
def iq(h:az)(x:Hl):List Str:=cH h x++(ord h x.rows).filterMap λw=>if(w.i == 0)=true then some w.b else none
def Ve(q:Nat)(l:List Row)(hl:l.length<=1000):aZ (ae 0) (HM q) (HN q) (l.map bN) [none] S []=some (.ok (dS (l.filterMap λw=>if(w.i == 0)=true then some w.b else none)) S):=by
 rw[uD (λw=>(if(w.i == 0)=true then some w.b else none).map D.str) l (by lia) λw m=>by
  unfold HM HN bN;generalize aM w.fl=ff at *;cases hc:(w.i == 0) with
  |true=>exact .inr ⟨rd (.str w.b),.str w.b,rfl,by simp only[↓ev,eP,bX,aG,eV,hc],by simp only[↓ev,eP,bA],rfl⟩
  |false=>exact .inl ⟨rfl,by simp only[↓ev,eP,bX,aG,eV,hc]⟩]
 congr 2
 unfold dS;rw[List.map_filterMap]
def e6f(g:aJ h)(o:Ok h n x):E3 0 [cQ] (hS B (av h) r x s)=some (.ok (.o (.lst (dS (iq h x)))) (hS B (av h) r x s)):=by
 have rl:=o.rl;have e1:=λq=>IB (B:=B) (s:=s) (r:=r) (q:=q) (x:=x) g
 have e2:=λq=>Gk (B:=B) (s:=s) (r:=r) (q:=q) g o
 have e3:=λq=>Ve (S:=hS B (av h) r x s) q (ord h x.rows) (by rw[o.perm.length_eq];lia)
 have hl:((dS (cH h x)).length+(dS ((ord h x.rows).filterMap λw=>if(w.i == 0)=true then some w.b else none)).length<=1000000)=True:=bu (by
  have h1:(cH h x).length<=(h.af.map ax.name).length:=tu _ _;have h2:=Ep (λw:Row=>if(w.i == 0)=true then some w.b else none) (ord h x.rows)
  have h3:=o.perm.length_eq;have h4:=g.sm.bl
  grind)
 generalize av h=hd at *;unfold E3 M6 iq;rw[dS,fZ,<-dS,<-dS];simp only[↓ev,hR,fB,aF,e1,e2,e3,hl,bL]
def sJ(h:az)(x:Hl)(bt:ax)(o:Str):Goal:=if h.carts.contains o=true then(o,none) else if(bt.ring&&(iq h x).contains o)=true then(bt.name,some 0) else(o,some 0)
def kr(h:az)(r:Int)(x:Hl)(w:Row)(bt:ax):Goal:=if w.i+1<bt.long then(bt.name,some (w.i+1)) else if bt.ring=true/\w.fl=none/\w.gn<r then(bt.name,some 0) else sJ h x bt ((h_ (bx (gj h x w) h.af) bt.outs).getD "")
def aq(h:az)(r:Int)(x:Hl)(w:Row):Goal:=match findB h.af w.b with
 |none=>(w.b,none)
 |some bt=>kr h r x w bt
def BR(g:aJ h)(hb:bt∈h.af):findB h.af bt.name=some bt:=by
 unfold findB;cases e:h.af.find? (λb=>b.name == bt.name) with
 |none=>
  grind
 |some c=>
  have h1:=MB e;rw[B2 g.fwd c (MA e) bt hb (beq_iff_eq.mp h1)]
def JD(g:aJ h)(o:Ok h n x)(hw:w∈x.rows)(hb:bt∈h.af)(eb:bt.name=w.b):∃a,h_ (bx (gj h x w) h.af) bt.outs=some a/\a∈bt.outs:=by
 obtain⟨hc,v,hv⟩:=P_ g o hw;have bg:=Jo hc g.fwd bt hb;rw[eb,hv] at bg;have gP:¬eC (bx (gj h x w) h.af) bt.outs=[]:=λz=>by rw[bJ z] at bg;cases bg
 cases e:h_ (bx (gj h x w) h.af) bt.outs with
 |none=>exact cR (lE.mp e) gP
 |some a=>exact⟨a,rfl,(Vd e).1⟩
def WD(g:aJ h)(hb:bt∈h.af)(hc:ct∈h.carts)(ho:h_ (bx ct h.af) bt.outs=some o):P0 qy [.d (av h),.d (aw bt),c_ ct,.d (.lst (dS (iq h x)))] (rd (gD (sJ h x bt o))):=by
 unfold sJ;cases e1:h.carts.contains o with
 |true=>exact e6b g hb hc ho e1
 |false=>
  rw[br (by decide)]
  cases e2:bt.ring with
  |false=>exact e6e g hb hc ho e1 e2
  |true=>
   cases e3:(iq h x).contains o with
   |true=>exact e6d g hb hc ho e1 e2 e3
   |false=>exact e6c g hb hc ho e1 e3
end
section
variable{s B:List Cell}{h:az}{r:Int}{x:Hl}{n:Nat}{w:Row}{bt:ax}{aU:List D}{a8 a9:ai Val}{bz:D}
abbrev wS(B:List Cell)(hd:D)(r:Int)(x:Hl)(s:List Cell)(aU:List D):aT:=⟨s++[.o (.lst aU)],hR hd r x B⟩
def L7(g:aJ h)(hb:bt∈h.af)(eb:bt.name=w.b)(hl:(w.i+1<bt.long)=True)(ha:(aU.length<1000000)=True):ur 0 [cq,ak (av h),ak bz,aW s.length,bh w.bag,ak (aM w.fl),ak (pl w.b w.i),bY w.gn,a8,a9] (wS B (av h) r x s aU)=some (.nx [cq,ak (av h),ak bz,aW s.length,bh w.bag,ak (aM w.fl),ak (pl w.b w.i),bY w.gn,ak (aw bt),ak (pl bt.name (w.i+1))] (wS B (av h) r x s (aU++[.tup [.str w.bag,pl bt.name (w.i+1)]]))):=by
 have e4:=Ai g hb;have hB:aw bt=.tup [.str bt.name,.int bt.long,.bl bt.ring,.lst (dS bt.outs)]:=rfl;rw[hB] at e4 ⊢;rw[eb] at e4 ⊢;generalize av h=hd at *;generalize aM w.fl=ff at *;unfold ur;simp only[↓ev,bA,e4,aF,bX,hl,decide_true,fG,ha,kF]
def L8(g:aJ h)(hb:bt∈h.af)(eb:bt.name=w.b)(hl:(w.i+1<bt.long)=False)(hr:bt.ring=true)(hf:w.fl=none)(hg:(w.gn<r)=True)(ha:(aU.length<1000000)=True):ur 0 [cq,ak (av h),ak bz,aW s.length,bh w.bag,ak (aM w.fl),ak (pl w.b w.i),bY w.gn,a8,a9] (wS B (av h) r x s aU)=some (.nx [cq,ak (av h),ak bz,aW s.length,bh w.bag,ak (aM w.fl),ak (pl w.b w.i),bY w.gn,ak (aw bt),ak (pl bt.name 0)] (wS B (av h) r x s (aU++[.tup [.str w.bag,pl bt.name 0]]))):=by
 have e4:=Ai g hb;have e5:=λq s=>N9 (B:=B) (s:=s) (hd:=av h) (r:=r) (q:=q) (x:=x)
 have hB:aw bt=.tup [.str bt.name,.int bt.long,.bl bt.ring,.lst (dS bt.outs)]:=rfl;rw[hB,hr] at e4 ⊢;rw[eb] at e4 ⊢;rw[hf];generalize av h=hd at *;unfold ur aM;simp only[↓ev,bA,e4,aF,bX,hl,decide_false,aG,eP,hR,fB,e5,hg,decide_true,fG,ha,kF]
def L9(g:aJ h)(o:Ok h n x)(hw:w∈x.rows)(hb:bt∈h.af)(eb:bt.name=w.b)(hl:(w.i+1<bt.long)=False){goal:D}(ho:P0 qy [.d (av h),.d (aw bt),c_ (gj h x w),.d bz] (rd goal))(hc:bt.ring=false\/(∃f,w.fl=some f)\/w.fl=none/\¬w.gn<r)(ha:(aU.length<1000000)=True):ur 0 [cq,ak (av h),ak bz,aW s.length,bh w.bag,ak (aM w.fl),ak (pl w.b w.i),bY w.gn,a8,a9] (wS B (av h) r x s aU)=some (.nx [cq,ak (av h),ak bz,aW s.length,bh w.bag,ak (aM w.fl),ak (pl w.b w.i),bY w.gn,ak (aw bt),ak goal] (wS B (av h) r x s (aU++[.tup [.str w.bag,goal]]))):=by
 have e4:=Ai g hb;have e5:=λq s=>N9 (B:=B) (s:=s) (hd:=av h) (r:=r) (q:=q) (x:=x)
 have e6:=λs=>e6a (B:=B) (s:=s) (r:=r) g o hw
 have hB:aw bt=.tup [.str bt.name,.int bt.long,.bl bt.ring,.lst (dS bt.outs)]:=rfl;rw[hB] at e4 ho ⊢;rw[eb] at e4 ho ⊢;generalize av h=hd at *;generalize gj h x w=ct at *;unfold ur;cases er:bt.ring with
 |false=>
  rw[er] at e4 ho;generalize aM w.fl=ff at *;simp only[↓ev,bA,e4,aF,bX,hl,decide_false,aG,eP,hR,fB,e6,ho,fG,ha,kF]
 |true=>
  rw[er] at e4 ho;rcases hc with z|⟨f,hf⟩|⟨hf,hg⟩
  .rw[er] at z;cases z
  .rw[hf];unfold aM;simp only[↓ev,bA,e4,aF,bX,hl,decide_false,aG,eP,hR,fB,e6,ho,fG,ha,kF]
  .rw[hf];unfold aM;have hg:=eq_false hg;simp only[↓ev,bA,e4,aF,bX,hl,decide_false,aG,eP,hR,fB,e5,hg,e6,ho,fG,ha,kF]
def e6g(g:aJ h)(o:Ok h n x)(hw:w∈x.rows)(ha:aU.length<1000)(s:List Cell):∃b8 b9,ur 0 [cq,ak (av h),ak (.lst (dS (iq h x))),aW s.length,bh w.bag,ak (aM w.fl),ak (pl w.b w.i),bY w.gn,a8,a9] (wS B (av h) r x s aU)=some (.nx [cq,ak (av h),ak (.lst (dS (iq h x))),aW s.length,bh w.bag,ak (aM w.fl),ak (pl w.b w.i),bY w.gn,b8,b9] (wS B (av h) r x s (aU++[.tup [.str w.bag,gD (aq h r x w)]]))):=by
 obtain⟨bt,hb,eb,_,_⟩:=(o.rw w hw).1;have Kq:(aU.length<1000000)=True:=bu (by lia)
 have eg:aq h r x w=kr h r x w bt:=by unfold aq;rw[<-eb,BR g hb]
 rw[eg];unfold kr;by_cases hl:w.i+1<bt.long
 .rw[bJ hl];exact⟨_,_,L7 g hb eb (bu hl) Kq⟩
 .rw[br hl];by_cases hc:bt.ring=true/\w.fl=none/\w.gn<r
  .rw[bJ hc];exact⟨_,_,L8 g hb eb (eq_false hl) hc.1 hc.2.1 (bu hc.2.2) Kq⟩
  .rw[br hc];obtain⟨a,ea,_⟩:=JD g o hw hb eb;rw[ea,Hs];refine⟨_,_,L9 g o hw hb eb (eq_false hl) (WD g hb (P_ g o hw).1 ea) ?_ Kq⟩;cases er:bt.ring with
   |false=>exact .inl rfl
   |true=>
    cases ef:w.fl with
    |some f=>exact .inr (.inl ⟨f,rfl⟩)
    |none=>exact .inr (.inr ⟨rfl,λz=>hc ⟨er,ef,z⟩⟩)
def pH(h:az)(r:Int)(x:Hl)(w:Row):D:=.tup [.str w.bag,gD (aq h r x w)]
def WE(g:aJ h)(o:Ok h n x):FC 0 [cQ] (hS B (av h) r x s)=some (.ok (.o (.lst ((ord h x.rows).map (pH h r x)))) (hS B (av h) r x s)):=by
 have rl:=o.rl;have e1:=λq s=>Wz (B:=B) (s:=s) (r:=r) (q:=q) (x:=x) g
 have e2:=λs=>e6f (B:=B) (s:=s) (r:=r) g o
 have e3:=λq s=>Gk (B:=B) (s:=s) (r:=r) (q:=q) g o
 have pl:=o.perm.length_eq;obtain⟨U',S',e,⟨a4,a5,a6,a7,a8,a9,rfl⟩,rfl⟩:=iJ (gg:=bo [(ae 4),(ae 5),(ae 6),(ae 7)]) (body:=ur 0) (f:=bN) (U:=[cq,ak (av h),ak (.lst (dS (iq h x))),aW s.length,none,none,none,none,none,none]) (S:=wS B (av h) r x s []) (λpre U S'=>(∃a4 a5 a6 a7 a8 a9,U=[cq,ak (av h),ak (.lst (dS (iq h x))),aW s.length,a4,a5,a6,a7,a8,a9])/\S'=wS B (av h) r x s (pre.map (pH h r x))) (ord h x.rows) ⟨⟨_,_,_,_,_,_,rfl⟩,rfl⟩ (by
  rintro d w post eq U S' ⟨⟨a4,a5,a6,a7,a8,a9,rfl⟩,rfl⟩;have hw:w∈x.rows:=o.mem.mp (by rw[eq];simp)
  have hd:d.length<1000:=by
   grind
  obtain⟨b8,b9,e⟩:=e6g (r:=r) (a8:=a8) (a9:=a9) g o hw (aU:=d.map (pH h r x)) (by rw[bq];exact hd) s
  refine⟨_,_,_,rfl,.inl e,⟨_,_,_,_,_,_,rfl⟩,?_⟩;rw[fZ];rfl)
 generalize av h=hd at *;generalize dS (iq h x)=bz at *;unfold FC OJ;simp only[↓ev,hR,fB,aF,e1,e2,aG,e3,iy,e,y8,fG,tQ]
end
variable{W W':List (Str×D)}{b:Str}{S:aT}{n:Nat}
noncomputable def cJ(W:List (Str×D)):List (TK×D):=td (·.1) (·.2) W
noncomputable def cN(G:Row->Goal)(L:List Row):List (TK×D):=td Row.bag (λw=>gD (G w)) L
abbrev tw(S:aT)(n:Nat)(W:List (Str×D)):aT:=⟨S.s.set n (.o (.aA (cJ W))),S.r⟩
def JE{y:D}(h:b∉W.map (·.1)):bS (cJ W) (.inr b) y=cJ (W++[(b,y)]):=by
 unfold cJ;rw[Cp h];unfold td;rw[fZ];rfl
def Ay:(aO (cJ W) (.inr b)).isSome=(W.map (·.1)).contains b:=qa
def JZ(hn:n<S.s.length):(S.s.set n (.o (.aA (cJ W))))[n]?=some (.o (.aA (cJ W))):=vw hn
def JF:(S.s.set n (.o (.aA (cJ W)))).set n (.o (.aA (cJ W')))=S.s.set n (.o (.aA (cJ W'))):=Eo ..
def e6h:(tw S n W').cut (S.s.set n (.o (.aA (cJ W)))).length=tw S n W':=by
 grind [aT.cut,List.take_of_length_le]
noncomputable def kI(st:List Str)(G:Row->Goal)(w:Row):ai D:=if st.contains w.b=true then some (.tup [.str "stopped",.str w.b]) else match G w with
 |(b,some _)=>if st.contains b=true then some (.tup [.str "stopped",.str b]) else none
 |(_,none)=>none
def df(st:List Str)(G:Row->Goal)(L:List Row):List (Str×D):=L.filterMap λw=>(kI st G w).map λy=>(w.bag,y)
section
variable{S:aT}{n:Nat}{st:List Str}{G:Row->Goal}{L:List Row}{w:Row}{W:List (Str×D)}{a8 bg:ai Val}
def WG(hn:n<S.s.length)(hv:aO (cN G L) (.inr w.bag)=some (gD (G w)))(hW:w.bag∉W.map (·.1))(hl:W.length<1000):∃b8,z5 0 [bg,ak (.aA (cN G L)),ak (.lst (dS st)),aW n,bh w.bag,ak (aM w.fl),ak (pl w.b w.i),bY w.gn,a8] (tw S n W)=some (.nx [bg,ak (.aA (cN G L)),ak (.lst (dS st)),aW n,bh w.bag,ak (aM w.fl),ak (pl w.b w.i),bY w.gn,b8] (tw S n (W++((kI st G w).map λy=>(w.bag,y)).toList))):=by
 have ta:=JZ (W:=W) hn;have ts:=λW'=>JF (S:=S) (n:=n) (W:=W) (W':=W')
 have hp:=λy=>JE (y:=y) hW
 have mf:((cJ W).length<1000000)=True:=bu (by unfold cJ;rw[kX];lia)
 unfold kI;cases h1:st.contains w.b with
 |true=>
  refine⟨(ak (gD (G w))),?_⟩;generalize gD (G w)=gg at *;generalize aM w.fl=ff at *;show _=some (Fr.nx _ (tw S n (W++[(w.bag,_)])));unfold z5;simp only[↓ev,hv,aF,bA,fj,aG,eS,h1,ta,mf,hp,ts]
 |false=>
  rw[br (by decide)]
  generalize aM w.fl=ff at *;obtain⟨c,gi⟩:∃c,G w=c:=⟨_,rfl⟩;rw[gi] at hv ⊢;obtain⟨c,i⟩:=c;cases i with
  |none=>
   refine⟨(bh c),?_⟩;show _=some (Fr.nx _ (tw S n (W++[])));rw[jW];unfold z5;unfold gD at hv;simp only[↓ev,hv,aF,bA,fj,aG,eS,h1,K1]
  |some i=>
   refine⟨(ak (pl c i)),?_⟩;unfold z5;unfold gD at hv;dsimp only at hv ⊢;cases h2:st.contains c with
   |true=>
    show _=some (Fr.nx _ (tw S n (W++[(w.bag,_)])));simp only[↓ev,hv,aF,bA,fj,aG,eS,h1,Dk,h2,ta,mf,hp,ts]
   |false=>
    show _=some (Fr.nx _ (tw S n (W++[])));rw[jW];simp only[↓ev,hv,aF,bA,fj,aG,eS,h1,Dk,h2]
def TZ(st:List Str)(G:Row->Goal)(L:List Row):∀b∈(df st G L).map (·.1),b∈L.map Row.bag:=λb m=>by
 obtain⟨p,hp,rfl⟩:=fy.mp m;obtain⟨w,hw,e⟩:=wY.mp hp;obtain⟨y,_,rfl⟩:=dH.mp e;exact mP hw
def I_{d post:List Row}(eq:L=d++w::post)(nd:(L.map Row.bag).Nodup):w.bag∉d.map Row.bag:=by
 grind
def YW(hn:n<S.s.length)(nd:(L.map Row.bag).Nodup)(hl:L.length<100):ER 0 [.d (.lst (L.map bN)),.d (.aA (cN G L)),.d (.lst (dS st)),.c n] (tw S n [])=some (.ok (rd .aI) (tw S n (df st G L))):=by
 obtain⟨U',S',e,⟨a4,a5,a6,a7,a8,rfl⟩,rfl⟩:=iJ (gg:=bo [(ae 4),(ae 5),(ae 6),(ae 7)]) (body:=z5 0) (f:=bN) (U:=[ak (.lst (L.map bN)),ak (.aA (cN G L)),ak (.lst (dS st)),aW n,none,none,none,none,none]) (S:=tw S n []) (λpre U S'=>(∃a4 a5 a6 a7 a8,U=[ak (.lst (L.map bN)),ak (.aA (cN G L)),ak (.lst (dS st)),aW n,a4,a5,a6,a7,a8])/\S'=tw S n (df st G pre)) L ⟨⟨_,_,_,_,_,rfl⟩,rfl⟩ (by
  rintro d w post eq U S' ⟨⟨a4,a5,a6,a7,a8,rfl⟩,rfl⟩;have hw:w∈L:=by rw[eq];simp
  have hv:aO (cN G L) (.inr w.bag)=some (gD (G w)):=ip nd hw;have hd:d.length<100:=by
   grind
  obtain⟨b8,e⟩:=WG (st:=st) (a8:=a8) (bg:=(ak (.lst (L.map bN)))) hn hv (W:=df st G d) (λm=>I_ eq nd (TZ st G d _ m)) (Mn (Ep _ _) (by lia))
  refine⟨_,_,_,rfl,.inl e,⟨_,_,_,_,_,rfl⟩,?_⟩;unfold df;rw[Er];rw[show List.filterMap (λw=>(kI st G w).map λy=>(w.bag,y)) [w]=((kI st G w).map λy=>(w.bag,y)).toList by rw[qr,xh];cases(kI st G w) <;> rfl])
 have cu:=e6h (S:=S) (n:=n) (W:=[]) (W':=df st G L);generalize df st G L=W2 at *;unfold ER MM;simp only[↓ev,iy,e,cu]
end
abbrev bF:=Str×Int
noncomputable def kC(p:bF):TK:=.tp [.inr p.1,.inl p.2]
theorem QW{p q:bF}(e:kC p=kC q):p=q:=by
 grind [kC]
def ir(C:List (bF×Str)):List (TK×D):=C.map λe=>(kC e.1,.str e.2)
noncomputable def look(C:List (bF×Str))(k:bF):ai Str:=(C.find? λe=>e.1 == k).map (·.2)
noncomputable def kh:List (bF×Str)->bF->Str->List (bF×Str)
 |[],k,v=>[(k,v)]
 |e::es,k,v=>if e.1=k then(e.1,v)::es else e::kh es k v
theorem xR{e:bF×Str}{es:List (bF×Str)}{k:bF}:look (e::es) k=if e.1=k then some e.2 else look es k:=by
 grind [look]
theorem O0(k:bF)(v:Str)(k':bF):∀C:List (bF×Str),look (kh C k v) k'=if k=k' then some v else look C k'
 |[]=>by show look [(k,v)] k'=_;rw[xR]
 |e::es=>by
  unfold kh;by_cases h:e.1=k
  .rw[bJ h,xR,xR,h];split <;> rfl
  .rw[br h,xR,O0 k v k' es,xR]
   lia
theorem Cq(k:bF):∀C:List (bF×Str),aO (ir C) (kC k)=(look C k).map D.str
 |[]=>rfl
 |e::es=>by
  have ih:=Cq k es
  grind [xR,aO,ir,QW]
theorem JG(k:bF)(v:Str):∀C:List (bF×Str),bS (ir C) (kC k) (.str v)=ir (kh C k v)
 |[]=>rfl
 |e::es=>by
  have ih:=JG k v es
  grind [ir,Fs,kh,QW]
theorem O1(k:bF)(v:Str):∀C:List (bF×Str),(kh C k v).length<=C.length+1
 |[]=>by unfold kh;exact cv _
 |e::es=>by
  have ih:=O1 k v es;unfold kh;split
  .rw[kO,kO];lia
  .rw[kO,kO];lia
noncomputable def gk(G:Row->Goal)(w:Row):bF:=((G w).1,(G w).2.getD 0)
def ask(G:Row->Goal)(W:List (Str×D))(L:List Row):List Row:=L.filter λw => !(W.map (·.1)).contains w.bag&&(G w).2.isSome
def Rn{G:Row->Goal}{w:Row}(h:(G w).2.isSome=true):gD (G w)=pl (gk G w).1 (gk G w).2:=by
 unfold gk gD;generalize G w=p at *;obtain⟨c,i⟩:=p;cases i with
 |none=>cases h
 |some i=>rfl
def kp{j:Int}:nJ [.str o,.int j]=some [.inr o,.inl j]:=by simp[nJ,qD]
def Cz(G:Row->Goal)(C:List (bF×Str))(w:Row):List (bF×Str):=if look C (gk G w)=none\/w.b=(gk G w).1 then kh C (gk G w) w.bag else C
section
variable{S:aT}{n m:Nat}{G:Row->Goal}{L:List Row}{w:Row}{W:List (Str×D)}{C:List (bF×Str)}{a8 a9 qx g0 g3:ai Val}{t rr:List Cell}
def e6j(hv:aO (cN G L) (.inr w.bag)=some (gD (G w)))(hs:(G w).2.isSome=true)(ht:t[m]?=some (.o (.aA (ir C))))(hl:C.length<1000):Br 0 [g0,ak (.aA (cN G L)),aW n,g3,aW m,bh w.bag,ak (aM w.fl),ak (pl w.b w.i),bY w.gn,a9,qx] ⟨t,rr⟩=some (.nx [g0,ak (.aA (cN G L)),aW n,g3,aW m,bh w.bag,ak (aM w.fl),ak (pl w.b w.i),bY w.gn,ak (gD (G w)),qx] ⟨t.set m (.o (.aA (ir (Cz G C w)))),rr⟩):=by
 rw[Rn hs] at hv ⊢;have v:=Cq (gk G w) C;have pu:=JG (gk G w) w.bag C;have mf:((ir C).length<1000000)=True:=bu (by unfold ir;rw[bq];lia)
 have lt:(m<t.length)=True:=bu (eQ.mp ht).1;have se:t.set m (.o (.aA (ir C)))=t:=by
  obtain⟨h1,h2⟩:=eQ.mp ht;rw[<-h2,MC]
 unfold Cz;unfold kC at v pu;generalize aM w.fl=ff at *;unfold Br;cases hk:look C (gk G w) with
 |none=>
  rw[bJ (.inl rfl)];rw[hk] at v;simp only[↓ev,hv,aF,ht,v,zV,ja,mf,pu]
 |some b=>
  rw[hk] at v;cases he:(w.b == (gk G w).1) with
  |true=>
   rw[bJ (.inr (beq_iff_eq.mp he))];simp only[↓ev,hv,aF,ht,v,vy,e_,aG,bA,dm,he,mf,pu]
  |false=>
   rw[br (by rw[not_or];exact⟨λz=>(by cases z),λz=>(by rw[z,cT] at he;cases he)⟩),se]
   simp only[↓ev,hv,aF,ht,v,vy,e_,aG,bA,dm,he]
def WH(q:Nat)(nd:(L.map Row.bag).Nodup)(hl:L.length<=1000)(hn:t[n]?=some (.o (.aA (cJ W)))):aZ (ae 0) (HF q) (HG q) (L.map bN) [none,aW n,ak (.aA (cN G L))] ⟨t,rr⟩ []=some (.ok ((ask G W L).map bN) ⟨t,rr⟩):=by
 rw[uD (λw=>if(!(W.map (·.1)).contains w.bag&&(G w).2.isSome)=true then some (bN w) else none) L (by lia) λw m=>by
  have v:aO (cN G L) (.inr w.bag)=_:=ip nd m;have i:=Ay (W:=W) (b:=w.bag);unfold HF HG;cases h1:(W.map (·.1)).contains w.bag with
  |true=>
   refine .inl ⟨rfl,?_⟩;rw[h1] at i;unfold bN;generalize aM w.fl=ff at *;generalize gD (G w)=gg at *;simp only[↓ev,bA,hn,i,e_,aG]
  |false=>
   rw[h1] at i;cases h2:(G w).2 with
   |none=>
    have e:gD (G w)=.str (G w).1:=by unfold gD;generalize G w=p at *;obtain⟨c,j⟩:=p;cases h2;rfl
    rw[e] at v;refine .inl ⟨rfl,?_⟩;unfold bN;generalize aM w.fl=ff at *;simp only[↓ev,bA,hn,i,ja,v,K1]
   |some j=>
    have e:gD (G w)=pl (G w).1 j:=by unfold gD;generalize G w=p at *;obtain⟨c,j⟩:=p;cases h2;rfl
    rw[e] at v;refine .inr ⟨rd (bN w),bN w,rfl,?_,?_,rfl⟩
    .unfold bN;generalize aM w.fl=ff at *;simp only[↓ev,bA,hn,i,ja,v,Dk]
    rfl]
 congr 2
 unfold ask;clear nd hl
 induction L with
 |nil=>rfl
 |cons w L ih=>
  rw[qr,A9,ih];cases(!(W.map (·.1)).contains w.bag&&(G w).2.isSome) <;> rfl
end
variable{G:Row->Goal}
def mQ(G:Row->Goal)(d:List Row)(C:List (bF×Str)):Prop:=(∀k b,look C k=some b->∃c∈d,c.bag=b/\gk G c=k/\((∃z∈d,gk G z=k/\z.b=k.1)->c.b=k.1))/\(∀w∈d,look C (gk G w)≠none)/\C.length<=d.length
def e6k:mQ G [] []:=⟨λk b e=>(by cases e),λw m=>(by cases m),cv _⟩
def YX{d:List Row}{C:List (bF×Str)}(o:mQ G d C)(w:Row):mQ G (d++[w]) (Cz G C w):=by
 obtain⟨o1,o2,o3⟩:=o;have me:∀{z},z∈d++[w]↔z∈d\/z=w:=λ{z}=>by rw[gZ,lL]
 unfold Cz;by_cases hc:look C (gk G w)=none\/w.b=(gk G w).1
 .rw[bJ hc];refine⟨λk b e=>?_,λz m=>?_,?_⟩
  all_goals grind [O0,O1]
 .rw[br hc];rw[not_or] at hc;refine⟨λk b e=>?_,λz m=>?_,by rw[dZ];lia⟩
  .obtain⟨c,mc,e1,e2,e3⟩:=o1 k b e;refine⟨c,me.mpr (.inl mc),e1,e2,λ⟨z,mz,e4,e5⟩=>e3 ?_⟩
   rcases me.mp mz with mz|rfl
   .exact⟨z,mz,e4,e5⟩
   .exact cR (by rw[e4];exact e5) hc.2
  .rcases me.mp m with m|rfl
   .exact o2 z m
   .exact hc.1
def fM(G:Row->Goal)(C:List (bF×Str))(w:Row):ai (Str×D):=match look C (gk G w) with
 |none=>none
 |some c=>if c=w.bag then none else some (w.bag,.tup [.str "yields",.str c])
section
variable{S:aT}{n m:Nat}{G:Row->Goal}{L A:List Row}{w:Row}{W:List (Str×D)}{C:List (bF×Str)}{a8 a9 qx g0 g3:ai Val}{t rr:List Cell}
def e6l(hv:aO (cN G L) (.inr w.bag)=some (gD (G w)))(hs:(G w).2.isSome=true)(hm:t[m]?=some (.o (.aA (ir C))))(hn:t[n]?=some (.o (.aA (cJ W))))(hW:w.bag∉W.map (·.1))(hl:W.length<1000){c:Str}(hk:look C (gk G w)=some c):Bs 0 [g0,ak (.aA (cN G L)),aW n,g3,aW m,bh w.bag,ak (aM w.fl),ak (pl w.b w.i),bY w.gn,a9,qx] ⟨t,rr⟩=some (.nx [g0,ak (.aA (cN G L)),aW n,g3,aW m,bh w.bag,ak (aM w.fl),ak (pl w.b w.i),bY w.gn,a9,bh c] ⟨t.set n (.o (.aA (cJ (W++(fM G C w).toList)))),rr⟩):=by
 rw[Rn hs] at hv;have v:=Cq (gk G w) C;rw[hk] at v;have hp:=λy=>JE (y:=y) hW
 have mf:((cJ W).length<1000000)=True:=bu (by unfold cJ;rw[kX];lia)
 have lt:(n<t.length)=True:=bu (eQ.mp hn).1;have se:t.set n (.o (.aA (cJ W)))=t:=by
  obtain⟨h1,h2⟩:=eQ.mp hn;rw[<-h2,MC]
 unfold fM;rw[hk];dsimp only;unfold kC at v;generalize aM w.fl=ff at *;unfold Bs;cases he:(c == w.bag) with
 |true=>
  rw[bJ (beq_iff_eq.mp he)];show _=some (Fr.nx _ ⟨t.set n (.o (.aA (cJ (W++[])))),rr⟩);rw[jW,se];simp only[↓ev,hv,hm,v,aF,he,e_,aG]
 |false=>
  rw[br (by rw[qJ] at he;exact he)]
  show _=some (Fr.nx _ ⟨t.set n (.o (.aA (cJ (W++[(w.bag,.tup [.str "yields",.str c])])))),rr⟩);simp only[↓ev,hv,hm,v,aF,he,ja,hn,mf,hp]
def oW:w∈ask G W L↔w∈L/\w.bag∉W.map (·.1)/\(G w).2.isSome=true:=by
 unfold ask;rw[qE,jU,Mw,Es,ne_eq,lj]
def WI(C:List (bF×Str))(A:List Row):∀b∈(A.filterMap (fM G C)).map (·.1),b∈A.map Row.bag:=λb m=>by
 grind [fM]
def YY(nd:(L.map Row.bag).Nodup)(hl:L.length<100)(hA:∀w∈A,w∈L/\(G w).2.isSome=true)(GD:A.length<100)(t:List Cell):∃C,mQ G A C/\∃a5 a6 a7 a8 a9,aN (bo [(ae 5),(ae 6),(ae 7),(ae 8)]) (Br 0) (A.map bN) [g0,ak (.aA (cN G L)),aW n,g3,aW t.length,none,none,none,none,none,none] ⟨t++[.o (.aA [])],rr⟩=some (.nx [g0,ak (.aA (cN G L)),aW n,g3,aW t.length,a5,a6,a7,a8,a9,none] ⟨t++[.o (.aA (ir C))],rr⟩):=by
 obtain⟨U',S',e,⟨a5,a6,a7,a8,a9,rfl⟩,C,oC,rfl⟩:=iJ (gg:=bo [(ae 5),(ae 6),(ae 7),(ae 8)]) (body:=Br 0) (f:=bN) (U:=[g0,ak (.aA (cN G L)),aW n,g3,aW t.length,none,none,none,none,none,none]) (S:=⟨t++[.o (.aA [])],rr⟩) (λpre U S'=>(∃a5 a6 a7 a8 a9,U=[g0,ak (.aA (cN G L)),aW n,g3,aW t.length,a5,a6,a7,a8,a9,none])/\∃C,mQ G pre C/\S'=⟨t++[.o (.aA (ir C))],rr⟩) A ⟨⟨_,_,_,_,_,rfl⟩,[],e6k,rfl⟩ (by
  rintro d w post eq U S' ⟨⟨a5,a6,a7,a8,a9,rfl⟩,C,oC,rfl⟩;obtain⟨hw,hs⟩:=hA w (by rw[eq];simp)
  have hd:d.length<100:=by
   grind
  have:=oC.2.2;refine⟨_,_,_,rfl,.inl (e6j (ip nd hw) hs fG (by lia)),⟨_,_,_,_,_,rfl⟩,Cz G C w,YX oC w,?_⟩
  rw[kF];rfl)
 exact⟨C,oC,a5,a6,a7,a8,a9,e⟩
def YZ(nd:(L.map Row.bag).Nodup)(Lf:(A.map Row.bag).Nodup)(hA:∀w∈A,w∈L/\w.bag∉W.map (·.1)/\(G w).2.isSome=true)(GD:A.length<100)(Kp:W.length<100)(oC:mQ G A C)(hn:t[n]?=some (.o (.aA (cJ W))))(hm:t[m]?=some (.o (.aA (ir C))))(nm:n≠m){a5 a6 a7 a8 a9:ai Val}:∃b5 b6 b7 b8 yh,aN (bo [(ae 5),(ae 6),(ae 7),(ae 8)]) (Bs 0) (A.map bN) [g0,ak (.aA (cN G L)),aW n,g3,aW m,a5,a6,a7,a8,a9,none] ⟨t,rr⟩=some (.nx [g0,ak (.aA (cN G L)),aW n,g3,aW m,b5,b6,b7,b8,a9,yh] ⟨t.set n (.o (.aA (cJ (W++A.filterMap (fM G C))))),rr⟩):=by
 have lt:=(eQ.mp hn).1;have se:t.set n (.o (.aA (cJ (W++[]))))=t:=by
  obtain⟨h1,h2⟩:=eQ.mp hn;rw[jW,<-h2,MC]
 obtain⟨U',S',e,⟨b5,b6,b7,b8,yh,rfl⟩,rfl⟩:=iJ (gg:=bo [(ae 5),(ae 6),(ae 7),(ae 8)]) (body:=Bs 0) (f:=bN) (U:=[g0,ak (.aA (cN G L)),aW n,g3,aW m,a5,a6,a7,a8,a9,none]) (S:=⟨t,rr⟩) (λpre U S'=>(∃b5 b6 b7 b8 yh,U=[g0,ak (.aA (cN G L)),aW n,g3,aW m,b5,b6,b7,b8,a9,yh])/\S'=⟨t.set n (.o (.aA (cJ (W++pre.filterMap (fM G C))))),rr⟩) A ⟨⟨_,_,_,_,_,rfl⟩,by rw[xh,se]⟩ (by
  rintro d w post eq U S' ⟨⟨b5,b6,b7,b8,yh,rfl⟩,rfl⟩;have RX:w∈A:=by rw[eq];simp
  obtain⟨hw,hwW,hs⟩:=hA w RX;have hd:d.length<100:=by
   have:=congrArg List.length eq;rw[dZ] at this;lia
  obtain⟨c,hc⟩:=Option.ne_none_iff_exists'.mp (oC.2.1 w RX);have hlen:=Ep (fM G C) d;refine⟨_,_,_,rfl,.inl (e6l (ip nd hw) hs (by rw[A7 nm];exact hm) (by rw[vw lt]) (W:=W++d.filterMap (fM G C)) (λz=>?_) (by rw[dZ];lia) hc),⟨_,_,_,_,_,rfl⟩,?_⟩
  .rw[fZ,gZ] at z;rcases z with z|z
   .exact hwW z
   .exact I_ eq Lf (WI C d _ z)
  .rw[Eo,Er,kP,show List.filterMap (fM G C) [w]=(fM G C w).toList by rw[qr,xh];cases fM G C w <;> rfl])
 exact⟨b5,b6,b7,b8,yh,e⟩
def Y0(hn:n<S.s.length)(nd:(L.map Row.bag).Nodup)(hl:L.length<100)(Kp:W.length<100):∃C,mQ G (ask G W L) C/\EM 0 [.d (.lst (L.map bN)),.d (.aA (cN G L)),.c n] (tw S n W)=some (.ok (rd .aI) (tw S n (W++(ask G W L).filterMap (fM G C)))):=by
 have ta:=JZ (W:=W) hn;have hA:∀w∈ask G W L,w∈L/\w.bag∉W.map (·.1)/\(G w).2.isSome=true:=λw m=>oW.mp m
 have GD:(ask G W L).length<100:=Mn (tu _ _) hl;have Lf:((ask G W L).map Row.bag).Nodup:=nd.sublist (List.Sublist.map _ Be);have e1:=λq=>WH (G:=G) (rr:=S.r) q nd (by lia) ta
 obtain⟨C,oC,a5,a6,a7,a8,a9,e2⟩:=YY (n:=n) (rr:=S.r) (g0:=(ak (.lst (L.map bN)))) (g3:=(ak (.lst ((ask G W L).map bN)))) nd hl (λw m=>⟨(hA w m).1,(hA w m).2.2⟩) GD (S.s.set n (.o (.aA (cJ W))))
 have mh:n<(S.s.set n (.o (.aA (cJ W)))).length:=by rw[w6];exact hn
 obtain⟨b5,b6,b7,b8,yh,e3⟩:=YZ (n:=n) (m:=(S.s.set n (.o (.aA (cJ W)))).length) (rr:=S.r) (g0:=(ak (.lst (L.map bN)))) (g3:=(ak (.lst ((ask G W L).map bN)))) (a5:=a5) (a6:=a6) (a7:=a7) (a8:=a8) (a9:=a9) nd Lf hA GD Kp oC (t:=S.s.set n (.o (.aA (cJ W)))++[.o (.aA (ir C))]) (by rw[uc mh];exact ta) fG (by lia)
 refine⟨C,oC,?_⟩;generalize(ask G W L).filterMap (fM G C)=Y at *;rw[List.set_append_left _ _ mh,JF] at e3;have cu:aT.cut ⟨S.s.set n (.o (.aA (cJ (W++Y))))++[.o (.aA (ir C))],S.r⟩ (S.s.set n (.o (.aA (cJ W)))).length=tw S n (W++Y):=by
  grind [aT.cut]
 generalize(ask G W L).map bN=al at *;unfold EM MH;simp only[↓ev,iy,e1,aF,e2,e3,cu]
end
variable{C:List (bF×Str)}
noncomputable def iK(L:List Row):List (bF×Str):=L.map λw=>((w.b,w.i),w.bag)
theorem O2{k:bF}{v:Str}:∀{C:List (bF×Str)},k∉C.map (·.1)->kh C k v=C++[(k,v)]
 |[],_=>rfl
 |e::es,h=>by
  rw[cZ,y09,not_or] at h;unfold kh;rw[br λz=>h.1 z.symm,O2 h.2]
  rfl
def WJ{k:bF}(nd:(C.map (·.1)).Nodup)(h:(k,b)∈C):look C k=some b:=by
 induction C with
 |nil=>cases h
 |cons e es ih=>
  grind [xR]
def hold(G:Row->Goal)(L:List Row)(w:Row):ai Str:=match(G w).2 with
 |none=>none
 |some i=>look (iK L) ((G w).1,i)
noncomputable def Cu(o:Str):D:=.tup [.str "behind",.str o]
def ke(G:Row->Goal)(L:List Row)(X:List (Str×D))(w:Row)(o:Str):Prop:=w.bag∉X.map (·.1)/\hold G L w=some o/\o∈X.map (·.1)
inductive lY (G:Row->Goal) (L:List Row) (W:List (Str×D)):List (Str×D)->Prop
 |base:lY G L W W
 |step {X:List (Str×D)} {w:Row} {o:Str}:lY G L W X->w∈L->ke G L X w o->lY G L W (X++[(w.bag,Cu o)])
def lY.trans{L:List Row}{W X Y:List (Str×D)}(a:lY G L W X)(b:lY G L X Y):lY G L W Y:=by
 induction b with
 |base=>exact a
 |step _ hw hc ih=>exact .step ih hw hc
section
variable{S:aT}{n m:Nat}{G:Row->Goal}{L:List Row}{w:Row}{W X:List (Str×D)}{a5 a6 a7 a9 g0:ai Val}{t rr:List Cell}{gr:Bool}
def e6m{d:List Row}(ht:t[m]?=some (.o (.aA (ir (iK d)))))(hl:d.length<1000)(hk:(w.b,w.i)∉d.map λw=>(w.b,w.i)){g1 g2 a8:ai Val}:Bt 0 [g0,g1,g2,aW m,bh w.bag,ak (aM w.fl),ak (pl w.b w.i),bY w.gn,a8,a9] ⟨t,rr⟩=some (.nx [g0,g1,g2,aW m,bh w.bag,ak (aM w.fl),ak (pl w.b w.i),bY w.gn,a8,a9] ⟨t.set m (.o (.aA (ir (iK (d++[w]))))),rr⟩):=by
 have pu:=JG (w.b,w.i) w.bag (iK d);rw[O2 (by unfold iK;rw[dh];exact hk),show iK d++[((w.b,w.i),w.bag)]=iK (d++[w]) by unfold iK;rw[fZ];rfl] at pu
 have mf:((ir (iK d)).length<1000000)=True:=bu (by unfold ir iK;rw[bq,bq];lia)
 have lt:(m<t.length)=True:=bu (eQ.mp ht).1;unfold kC at pu;dsimp only at pu;generalize aM w.fl=ff at *;unfold Bt;simp only[↓ev,ht,mf,pu]
def WK{c:Cell}(h:t[n]?=some c):t.set n c=t:=by
 obtain⟨h1,h2⟩:=eQ.mp h;rw[<-h2,MC]
def e6n{c:Str}:aO (ir C) (.inr c)=none:=by
 grind [aO,ir,kC]
def e6o{α:Type}{k:α->Str}{v:α->D}{xs:List α}:aO (td k v xs) TK.aI=none:=by
 grind [aO,td]
def e9l(hv:aO (cN G L) (.inr w.bag)=some (gD (G w)))(hm:t[m]?=some (.o (.aA (ir (iK L)))))(hn:t[n]?=some (.o (.aA (cJ X))))(hc:∀o,¬ke G L X w o):∃b9,xE 0 [g0,ak (.aA (cN G L)),aW n,aW m,bh w.bag,a5,a6,a7,ak (.bl gr),a9] ⟨t,rr⟩=some (.nx [g0,ak (.aA (cN G L)),aW n,aW m,bh w.bag,a5,a6,a7,ak (.bl gr),b9] ⟨t,rr⟩):=by
 have i:=Ay (W:=X) (b:=w.bag);have nn:aO (cJ X) TK.aI=none:=e6o;unfold ke hold at hc;unfold xE;generalize G w=p at *;obtain⟨c,j⟩:=p;cases j with
 |none=>
  unfold gD at hv;have v:=e6n (C:=iK L) (c:=c);refine⟨(ak .aI),?_⟩;cases h1:(X.map (·.1)).contains w.bag with
  |true=>
   rw[h1] at i;simp only[↓ev,hm,hv,v,aF,hn,i,e_,aG]
  |false=>
   rw[h1] at i;simp only[↓ev,hm,hv,v,aF,hn,i,ja,aG,nn,zV]
 |some j=>
  unfold gD at hv;dsimp only at hc hv;have v:=Cq (c,j) (iK L);unfold kC at v;dsimp only at v;cases hk:look (iK L) (c,j) with
  |none=>
   rw[hk] at v;refine⟨(ak .aI),?_⟩;cases h1:(X.map (·.1)).contains w.bag with
   |true=>
    rw[h1] at i;simp only[↓ev,hm,hv,v,aF,hn,i,e_,aG]
   |false=>
    rw[h1] at i;simp only[↓ev,hm,hv,v,aF,hn,i,ja,aG,nn,zV]
  |some o=>
   rw[hk] at v;refine⟨(bh o),?_⟩;cases h1:(X.map (·.1)).contains w.bag with
   |true=>
    rw[h1] at i;simp only[↓ev,hm,hv,v,aF,hn,i,e_,aG]
   |false=>
    rw[h1] at i;have i2:=Ay (W:=X) (b:=o);have h2:(X.map (·.1)).contains o=false:=by
     rw[Es];intro z;exact hc o ⟨λy=>(by rw[lj.mpr y] at h1;cases h1),hk,lj.mp z⟩
    rw[h2] at i2;simp only[↓ev,hm,hv,v,aF,hn,i,ja,aG,i2]
def e6p(hv:aO (cN G L) (.inr w.bag)=some (gD (G w)))(hm:t[m]?=some (.o (.aA (ir (iK L)))))(hn:t[n]?=some (.o (.aA (cJ X))))(hc:ke G L X w o)(hl:X.length<1000):xE 0 [g0,ak (.aA (cN G L)),aW n,aW m,bh w.bag,a5,a6,a7,ak (.bl gr),a9] ⟨t,rr⟩=some (.nx [g0,ak (.aA (cN G L)),aW n,aW m,bh w.bag,a5,a6,a7,ak (.bl true),bh o] ⟨t.set n (.o (.aA (cJ (X++[(w.bag,Cu o)])))),rr⟩):=by
 have i:=Ay (W:=X) (b:=w.bag);have i2:=Ay (W:=X) (b:=o);obtain⟨c1,c2,c3⟩:=hc;rw[show(X.map (·.1)).contains w.bag=false by rw[Es];exact λz=>c1 (lj.mp z)] at i
 rw[lj.mpr c3] at i2;have hp:=JE (y:=Cu o) c1;have mf:((cJ X).length<1000000)=True:=bu (by unfold cJ;rw[kX];lia)
 have lt:(n<t.length)=True:=bu (eQ.mp hn).1;unfold hold at c2;unfold xE;generalize G w=p at *;obtain⟨c,j⟩:=p;cases j with
 |none=>cases c2
 |some j=>
  unfold gD at hv;dsimp only at c2 hv;have v:=Cq (c,j) (iK L);unfold kC at v;dsimp only at v;rw[c2] at v;unfold Cu at hp ⊢;simp only[↓ev,hm,hv,v,aF,hn,i,ja,aG,i2,mf,hp]
end
variable{X:List (Str×D)}{w:Row}{L:List Row}
noncomputable def nk(X:List (Str×D))(w:Row):Bool := !(X.map (·.1)).contains w.bag
def mn:nk X w=true↔w.bag∉X.map (·.1):=by
 unfold nk;rw[Mw,Es,ne_eq,lj]
def mu(L:List Row)(X:List (Str×D)):Nat:=(L.filter (nk X)).length
def Y1{y:D}(hw:w∈L)(h:w.bag∉X.map (·.1)):mu L (X++[(w.bag,y)])<mu L X:=by
 unfold mu;have e:L.filter (nk (X++[(w.bag,y)]))=(L.filter (nk X)).filter λz=>decide (z.bag≠w.bag):=by
  rw[List.filter_filter];refine List.filter_congr λz _=>?_
  rw[A_,mn,jU,mn,y9a,fZ,gZ,List.map_singleton,lL];exact⟨λz=>⟨λy=>z (.inr y),λy=>z (.inl y)⟩,λz y=>y.elim z.2 z.1⟩
 rw[e,List.length_filter_lt_length_iff_exists];exact⟨w,qE.mpr ⟨hw,mn.mpr h⟩,by simp⟩
def lY.zM(a:lY G L W X):X.length+mu L X<=W.length+mu L W:=by
 induction a with
 |base=>exact cv _
 |@step X w o _ hw hc ih=>
  have:=Y1 (y:=Cu o) hw hc.1;rw[dZ];simp;lia
def Ro:mu L X<=L.length:=tu _ _
section
variable{S:aT}{n m:Nat}{G:Row->Goal}{L:List Row}{w:Row}{W X:List (Str×D)}{a4 a5 a6 a7 a9 g0:ai Val}{t rr:List Cell}
def WL(nd:(L.map Row.bag).Nodup)(hl:L.length<100)(hX:X.length<200)(nm:n≠m)(hm:t[m]?=some (.o (.aA (ir (iK L)))))(hn:t[n]?=some (.o (.aA (cJ X)))):∃X' gr b4 b9,lY G L X X'/\(gr=true->X.length<X'.length)/\(gr=false->X'=X/\∀w∈L,∀o,¬ke G L X w o)/\aN (ae 4) (xE 0) (dS (L.map Row.bag)) [g0,ak (.aA (cN G L)),aW n,aW m,a4,a5,a6,a7,ak (.bl false),a9] ⟨t,rr⟩=some (.nx [g0,ak (.aA (cN G L)),aW n,aW m,b4,a5,a6,a7,ak (.bl gr),b9] ⟨t.set n (.o (.aA (cJ X'))),rr⟩):=by
 have lt:=(eQ.mp hn).1;rw[show dS (L.map Row.bag)=L.map λw=>.str w.bag by unfold dS;rw[dh];rfl]
 obtain⟨U',S',e,X',gr,b4,b9,rfl,rfl,i1,i2,i3⟩:=iJ (gg:=ae 4) (body:=xE 0) (f:=λw:Row=>.str w.bag) (U:=[g0,ak (.aA (cN G L)),aW n,aW m,a4,a5,a6,a7,ak (.bl false),a9]) (S:=⟨t,rr⟩) (λpre U S'=>∃X' gr b4 b9,U=[g0,ak (.aA (cN G L)),aW n,aW m,b4,a5,a6,a7,ak (.bl gr),b9]/\S'=⟨t.set n (.o (.aA (cJ X'))),rr⟩/\lY G L X X'/\(gr=true->X.length<X'.length)/\(gr=false->X'=X/\∀w∈pre,∀o,¬ke G L X w o)) L ⟨X,false,_,_,rfl,by rw[WK hn],.base,λz=>(by cases z),λ_=>⟨rfl,λw m=>(by cases m)⟩⟩ (by
  rintro d w post eq U S' ⟨X',gr,b4,b9,rfl,rfl,i1,i2,i3⟩;have hw:w∈L:=by rw[eq];simp
  have hv:aO (cN G L) (.inr w.bag)=some (gD (G w)):=ip nd hw;have RU:(t.set n (.o (.aA (cJ X'))))[m]?=some (.o (.aA (ir (iK L)))):=by rw[A7 nm];exact hm
  have GW:(t.set n (.o (.aA (cJ X'))))[n]?=some (.o (.aA (cJ X'))):=vw lt;have tt:=i1.zM;have ml:=Ro (L:=L) (X:=X);by_cases hc:∃o,ke G L X' w o
  .obtain⟨o,hc⟩:=hc;refine⟨_,_,_,rfl,.inl (e6p hv RU GW hc (by lia)),_,true,_,_,rfl,by rw[Eo],.step i1 hw hc,λ_=>?_,λz=>(by cases z)⟩
   have:=(lY.step i1 hw hc).zM;rw[dZ];have h2:X.length<=X'.length:=by
    grind
   simp;lia
  .obtain⟨c9,e⟩:=e9l (gr:=gr) (a5:=a5) (a6:=a6) (a7:=a7) (a9:=b9) (g0:=g0) (rr:=rr) hv RU GW λo z=>hc ⟨o,z⟩
   refine⟨_,_,_,rfl,.inl e,X',gr,_,_,rfl,rfl,i1,i2,λz=>⟨(i3 z).1,λw' mw o co=>?_⟩⟩
   rcases gZ.mp mw with mw|mw
   .exact(i3 z).2 w' mw o co
   .rw[lL.mp mw] at co;exact hc ⟨o,by rw[(i3 z).1];exact co⟩)
 exact⟨X',gr,b4,b9,i1,i2,i3,e⟩
def WM(nd:(L.map Row.bag).Nodup)(hl:L.length<100)(hX:X.length<200)(nm:n≠m)(hm:t[m]?=some (.o (.aA (ir (iK L)))))(hn:t[n]?=some (.o (.aA (cJ X)))){a8:ai Val}:∃X' gr b4 b9,lY G L X X'/\(gr=true->X.length<X'.length)/\(gr=false->X'=X/\∀w∈L,∀o,¬ke G L X w o)/\EN 0 [g0,ak (.aA (cN G L)),aW n,aW m,a4,a5,a6,a7,a8,a9] ⟨t,rr⟩=some (.nx [g0,ak (.aA (cN G L)),aW n,aW m,b4,a5,a6,a7,ak (.bl gr),b9] ⟨t.set n (.o (.aA (cJ X'))),rr⟩):=by
 obtain⟨X',gr,b4,b9,i1,i2,i3,e⟩:=WL (G:=G) (a4:=a4) (a5:=a5) (a6:=a6) (a7:=a7) (a9:=a9) (g0:=g0) (rr:=rr) nd hl hX nm hm hn;refine⟨X',gr,b4,b9,i1,i2,i3,?_⟩;have k:(cN G L).map (·.1.d)=dS (L.map Row.bag):=Ap
 unfold EN;simp only[↓ev,aF,k,iy,e]
theorem N_(nd:(L.map Row.bag).Nodup)(hl:L.length<100)(nm:n≠m):∀(f:Nat) {X:List (Str×D)} {t:List Cell} {a4 a9:ai Val},X.length+mu L X<200->mu L X+2<=f->t[m]?=some (.o (.aA (ir (iK L))))->t[n]?=some (.o (.aA (cJ X)))->∃X' b4 b9,lY G L X X'/\(∀w∈L,∀o,¬ke G L X' w o)/\dw (cD (rX 8)) (EN 0) f [g0,ak (.aA (cN G L)),aW n,aW m,a4,a5,a6,a7,ak (.bl true),a9] ⟨t,rr⟩=some (.nx [g0,ak (.aA (cN G L)),aW n,aW m,b4,a5,a6,a7,ak (.bl false),b9] ⟨t.set n (.o (.aA (cJ X'))),rr⟩)
 |0,X,t,a4,a9,h1,h2,hm,hn=>by lia
 |f+1,X,t,a4,a9,h1,h2,hm,hn=>by
  have lt:=(eQ.mp hn).1;obtain⟨X',gr,b4,b9,i1,i2,i3,e⟩:=WM (G:=G) (a4:=a4) (a5:=a5) (a6:=a6) (a7:=a7) (a8:=(ak (.bl true))) (a9:=a9) (g0:=g0) (rr:=rr) nd hl (by lia) nm hm hn
  have tt:=i1.zM;cases gr with
  |true=>
   have l1:=i2 rfl;obtain⟨Y,c4,c9,j1,j2,e2⟩:=N_ nd hl nm f (X:=X') (t:=t.set n (.o (.aA (cJ X')))) (a4:=b4) (a9:=b9) (by lia) (by lia) (by rw[A7 nm];exact hm) (vw lt)
   rw[Eo] at e2;refine⟨Y,c4,c9,i1.trans j1,j2,?_⟩;unfold dw;simp only[↓ev,e,e2]
  |false=>
   obtain⟨j1,j2⟩:=i3 rfl;subst j1;obtain⟨f',rfl⟩:∃f',f=f'+1:=⟨f - 1,by lia⟩
   refine⟨X',b4,b9,i1,j2,?_⟩;unfold dw;simp only[↓ev,e];rfl
end
section
variable{S:aT}{n:Nat}{G:Row->Goal}{L:List Row}{W:List (Str×D)}{g0 g1 g2:ai Val}{t rr:List Cell}
def Y2(un:(L.map λw=>(w.b,w.i)).Nodup)(hl:L.length<100)(t:List Cell):∃b4 b5 b6 b7,aN (bo [(ae 4),(ae 5),(ae 6),(ae 7)]) (Bt 0) (L.map bN) [g0,g1,g2,aW t.length,none,none,none,none,none,none] ⟨t++[.o (.aA [])],rr⟩=some (.nx [g0,g1,g2,aW t.length,b4,b5,b6,b7,none,none] ⟨t++[.o (.aA (ir (iK L)))],rr⟩):=by
 obtain⟨U',S',e,⟨b4,b5,b6,b7,rfl⟩,rfl⟩:=iJ (gg:=bo [(ae 4),(ae 5),(ae 6),(ae 7)]) (body:=Bt 0) (f:=bN) (U:=[g0,g1,g2,aW t.length,none,none,none,none,none,none]) (S:=⟨t++[.o (.aA [])],rr⟩) (λpre U S'=>(∃b4 b5 b6 b7,U=[g0,g1,g2,aW t.length,b4,b5,b6,b7,none,none])/\S'=⟨t++[.o (.aA (ir (iK pre)))],rr⟩) L ⟨⟨_,_,_,_,rfl⟩,rfl⟩ (by
  rintro d w post eq U S' ⟨⟨b4,b5,b6,b7,rfl⟩,rfl⟩;have hd:d.length<100:=by
   grind
  have hk:(w.b,w.i)∉d.map λw=>(w.b,w.i):=by
   grind
  refine⟨_,_,_,rfl,.inl (e6m fG (by lia) hk),⟨_,_,_,_,rfl⟩,?_⟩
  rw[kF];rfl)
 exact⟨b4,b5,b6,b7,e⟩
def WN(hn:n<S.s.length)(nd:(L.map Row.bag).Nodup)(un:(L.map λw=>(w.b,w.i)).Nodup)(hl:L.length<100)(Kp:W.length<100):∃X,lY G L W X/\(∀w∈L,∀o,¬ke G L X w o)/\EU 0 [.d (.lst (L.map bN)),.d (.aA (cN G L)),.c n] (tw S n W)=some (.ok (rd .aI) (tw S n X)):=by
 have ta:=JZ (W:=W) hn;have mh:n<(S.s.set n (.o (.aA (cJ W)))).length:=by rw[w6];exact hn
 obtain⟨b4,b5,b6,b7,e1⟩:=Y2 (g0:=(ak (.lst (L.map bN)))) (g1:=(ak (.aA (cN G L)))) (g2:=(aW n)) (rr:=S.r) un hl (S.s.set n (.o (.aA (cJ W))));have ml:=Ro (L:=L) (X:=W);obtain⟨X,c4,c9,i1,i2,e2⟩:=N_ (G:=G) (n:=n) (m:=(S.s.set n (.o (.aA (cJ W)))).length) (g0:=(ak (.lst (L.map bN)))) (a5:=b5) (a6:=b6) (a7:=b7) (rr:=S.r) nd hl (by lia) 1000 (X:=W) (t:=S.s.set n (.o (.aA (cJ W)))++[.o (.aA (ir (iK L)))]) (a4:=b4) (a9:=none) (by lia) (by lia) fG (by rw[uc mh];exact ta)
 refine⟨X,i1,i2,?_⟩;rw[List.set_append_left _ _ mh,JF] at e2;have cu:aT.cut ⟨S.s.set n (.o (.aA (cJ X)))++[.o (.aA (ir (iK L)))],S.r⟩ (S.s.set n (.o (.aA (cJ W)))).length=tw S n X:=by
  grind [aT.cut]
 unfold EU MP;simp only[↓ev,aF,iy,e1,e2,cu]
end
variable{a bag o:Str}{x j gn:Int}{z:Row}
def AD{y:Int}:ec (pl a x) (pl b y)=(a == b&&(x == y)):=by
 show iC [.str a,.int x] [.str b,.int y]=_;show(ec (.str a) (.str b)&&(ec (.int x) (.int y)&&true))=_;rw[dm,eV,Bool.and_true]
def DF:fX 40 (pl a x)=true:=rfl
noncomputable def eE(bag o:Str)(j gn:Int)(z:Row):Row:=if z.bag=bag then{ z with b:=o,i:=j,gn:=gn} else z
def B3:(eE bag o j gn z).bag=z.bag:=by unfold eE;split <;> rfl
def Y3:(eE bag o j gn z).fl=z.fl:=by unfold eE;split <;> rfl
theorem nc{α β:Type}{f:α->β}{l:List α}(nd:(l.map f).Nodup){a b:α}(ha:a∈l)(hb:b∈l)(e:f a=f b):a=b:=by
 induction l with
 |nil=>cases ha
 |cons z l ih=>
  grind
section
variable{rows:List Row}{bag o:Str}{j gn:Int}{w:Row}
def QX(nb:(rows.map Row.bag).Nodup)(hb:bag∈rows.map Row.bag):bS (gY rows) (.inr bag) (pl o j)=gY (rows.map (eE bag o j gn)):=by
 unfold gY;rw[Ax nb hb];unfold td;rw[dh];refine mJ λz _=>?_
 dsimp only[Function.comp];rw[B3];unfold eE;split <;> rfl
def e6r(nb:(rows.map Row.bag).Nodup)(hb:bag∈rows.map Row.bag):bS (kN rows) (.inr bag) (.int gn)=kN (rows.map (eE bag o j gn)):=by
 unfold kN;rw[Ax nb hb];unfold td;rw[dh];refine mJ λz _=>?_
 dsimp only[Function.comp];rw[B3];unfold eE;split <;> rfl
def Y4(nb:(rows.map Row.bag).Nodup)(hw:w∈rows):kN (rows.map (eE w.bag o j w.gn))=kN rows:=by
 unfold kN td;rw[dh];refine mJ λz mz=>?_
 dsimp only[Function.comp];rw[B3];unfold eE;split
 .rename_i e
  rw[nc nb mz hw e]
 .rfl
def QY:iG (rows.map (eE bag o j gn))=iG rows:=by
 unfold iG td;rw[dh];refine mJ λz _=>?_
 dsimp only[Function.comp];rw[B3,Y3]
end
section
variable{s B:List Cell}{h:az}{r:Int}{x:Hl}{w:Row}{bt:ax}{o c:Str}{j:Int}
noncomputable def iH(bt:ax)(i:Int)(o:Str)(j:Int):Bool:=bt.ring&&((i == bt.long - 1)&&(o == bt.name&&(j == 0)))
def e6s(g:aJ h)(nb:(x.rows.map Row.bag).Nodup)(hw:w∈x.rows)(hb:bt∈h.af)(eb:bt.name=w.b)(hl:x.rows.length<1000):vD 0 [cQ,c_ w.bag,.d (pl o j)] (hS B (av h) r x s)=some (.ok (rd .aI) (hS B (av h) r { x with rows:=x.rows.map (eE w.bag o j (if iH bt w.i o j=true then w.gn+1 else w.gn))} s)):=by
 have e:=Ai g hb;have hB:aw bt=.tup [.str bt.name,.int bt.long,.bl bt.ring,.lst (dS bt.outs)]:=rfl;rw[hB] at e;have hm:=mP (f:=Row.bag) hw;have h1:aO (gY x.rows) (.inr w.bag)=_:=ip nb hw;have h2:aO (kN x.rows) (.inr w.bag)=_:=ip nb hw;have l1:((gY x.rows).length<1000000)=True:=bu (by unfold gY;rw[kX];lia)
 have l2:((kN x.rows).length<1000000)=True:=bu (by unfold kN;rw[kX];lia)
 rw[<-eb] at h1;generalize av h=hd at *;have yes:iH bt w.i o j=true->vD 0 [cQ,c_ w.bag,.d (pl o j)] (hS B hd r x s)=some (.ok (rd .aI) (hS B hd r { x with rows:=x.rows.map (eE w.bag o j (if iH bt w.i o j=true then w.gn+1 else w.gn))} s)):=λhc=>by
  rw[bJ hc];have p1:=QX (o:=o) (j:=j) (gn:=w.gn+1) nb hm;have p2:=e6r (o:=o) (j:=j) (gn:=w.gn+1) nb hm;have p3:=QY (rows:=x.rows) (bag:=w.bag) (o:=o) (j:=j) (gn:=w.gn+1);unfold iH at hc;rw[jU,jU] at hc;obtain⟨c1,c2,c3⟩:=hc;unfold vD HZ;rw[c1] at e;simp only[↓ev,hS,hR,aF,h1,bA,e,eP,bX,DF,aG,AD,cT,c2,c3,h2,l2,p2,l1,p1,bL,p3]
 have no:iH bt w.i o j=false->vD 0 [cQ,c_ w.bag,.d (pl o j)] (hS B hd r x s)=some (.ok (rd .aI) (hS B hd r { x with rows:=x.rows.map (eE w.bag o j (if iH bt w.i o j=true then w.gn+1 else w.gn))} s)):=λhc=>by
  rw[br (by rw[hc];decide)]
  have p1:=QX (o:=o) (j:=j) (gn:=w.gn) nb hm;have p2:=Y4 (o:=o) (j:=j) nb hw;have p3:=QY (rows:=x.rows) (bag:=w.bag) (o:=o) (j:=j) (gn:=w.gn);unfold iH at hc;unfold vD HZ;cases er:bt.ring with
  |false=>
   rw[er] at e;simp only[↓ev,hS,hR,aF,h1,bA,e,eP,aG,l1,p1,bL,p3,p2]
  |true=>
   rw[er] at e hc;rw[Bool.true_and] at hc;cases c2:(w.i == bt.long - 1) with
   |false=>simp only[↓ev,hS,hR,aF,h1,bA,e,eP,bX,DF,aG,AD,cT,c2,l1,p1,bL,p3,p2]
   |true=>
    rw[c2,Bool.true_and] at hc;simp only[↓ev,hS,hR,aF,h1,bA,e,eP,bX,DF,aG,AD,cT,c2,hc,l1,p1,bL,p3,p2]
 cases hc:iH bt w.i o j with
 |true=>have:=yes hc;rw[hc] at this;exact this
 |false=>have:=no hc;rw[hc] at this;exact this
end
section
variable{s B:List Cell}{h:az}{r:Int}{x:Hl}{w:Row}{c:Str}
def e6t{l:List (Str×Str×Int)}{nw:Int}(hb:b∉l.map (·.1)):bS (uF l) (.inr b) (.str c)=uF (l++[(b,c,nw)]):=by
 unfold uF;rw[Cp hb];unfold td;rw[fZ];rfl
def Y5(nb:(x.rows.map Row.bag).Nodup)(hw:w∈x.rows)(hg:w.bag∉x.gone.map (·.1))(hl:x.gone.length<2000):By 0 [cQ,c_ w.bag,c_ c] (hS B hd r x s)=some (.ok (rd .aI) (hS B hd r { x with rows:=x.rows.filter λz=>decide (z.bag≠w.bag),gone:=x.gone++[(w.bag,c,x.now)]} s)):=by
 have h1:aO (gY x.rows) (.inr w.bag)=_:=ip nb hw;have h2:aO (kN x.rows) (.inr w.bag)=_:=ip nb hw;have h3:aO (iG x.rows) (.inr w.bag)=_:=ip nb hw;have d1:dc (gY x.rows) w.bag=gY (x.rows.filter λz=>decide (z.bag≠w.bag)):=x8
 have d2:dc (kN x.rows) w.bag=kN (x.rows.filter λz=>decide (z.bag≠w.bag)):=x8
 have d3:dc (iG x.rows) w.bag=iG (x.rows.filter λz=>decide (z.bag≠w.bag)):=x8
 have p1:=e6t (c:=c) (nw:=x.now) hg;have l1:((uF x.gone).length<1000000)=True:=bu (by unfold uF;rw[kX];lia)
 have l2:((jz x.gone).length<1000000)=True:=bu (by unfold jz;rw[bq];lia)
 have p2:jz x.gone++[.tup [.str w.bag,.str c,.int x.now]]=jz (x.gone++[(w.bag,c,x.now)]):=by unfold jz;rw[fZ];rfl
 have t1:dX (gY x.rows)=true:=qC;have t2:dX (kN x.rows)=true:=qC;have t3:dX (iG x.rows)=true:=qC;generalize aM w.fl=ff at *;unfold By M1;simp only[↓ev,hS,hR,aF,t1,h1,d1,t3,h3,d3,t2,h2,d2,l1,p1,l2,p2,bL]
end
variable{z:Row}
def pd(h:az)(G:Row->Goal)(z:Row):ai Row:=match(G z).2 with
 |none=>none
 |some j=>some { z with b:=(G z).1,i:=j,gn:=match findB h.af z.b with
  |none=>z.gn
  |some bt=>if iH bt z.i (G z).1 j=true then z.gn+1 else z.gn}
def hZ(h:az)(G:Row->Goal)(p:Row->Bool)(rows:List Row):List Row:=rows.filterMap λz=>if p z=true then pd h G z else some z
noncomputable def eM(G:Row->Goal)(nw:Int)(w:Row):ai (Str×Str×Int):=match(G w).2 with
 |none=>some (w.bag,(G w).1,nw)
 |some _=>none
def hV(h:az)(G:Row->Goal)(p:Row->Bool)(M:List Row)(x:Hl):Hl:={ x with now:=x.now+1,rows:=hZ h G p x.rows,gone:=x.gone++M.filterMap (eM G (x.now+1))}
section
variable{s B:List Cell}{h:az}{r:Int}{x:Hl}{w:Row}{G:Row->Goal}{p p':Row->Bool}{rows:List Row}
def Ja{α β:Type}{f g:α->ai β}{l:List α}(h:∀x∈l,f x=g x):l.filterMap f=l.filterMap g:=by
 induction l with
 |nil=>rfl
 |cons x l ih=>rw[qr,qr,h x (.head _),ih λy m=>h y (.tail _ m)]
theorem F2{z':Row}(e:pd h G z=some z'):z'.bag=z.bag/\z'.fl=z.fl:=by
 unfold pd at e;split at e
 .cases e
 .cases e;exact⟨rfl,rfl⟩
def FJ(p:Row->Bool)(rows:List Row):((hZ h G p rows).map Row.bag).Sublist (rows.map Row.bag):=by
 unfold hZ
 induction rows with
 |nil=>exact .slnil
 |cons z rows ih=>
  grind [F2]
def P'(hz:z∈rows)(hp:p z=false):z∈hZ h G p rows:=wY.mpr ⟨z,hz,by rw[hp];rfl⟩
def Qa(nb:(rows.map Row.bag).Nodup)(hw:w∈rows)(hp:p w=false)(AL:∀z,p' z=(p z || z.bag == w.bag))(hG:(G w).2=none):(hZ h G p rows).filter (λz=>decide (z.bag≠w.bag))=hZ h G p' rows:=by
 unfold hZ;rw[List.filter_filterMap];refine Ja λz mz=>?_
 rw[AL z];by_cases e:z.bag=w.bag
 .have ez:=nc nb mz hw e;subst ez;rw[hp,cT,Mz,br (by decide),bJ rfl,show pd h G z=none by unfold pd;rw[hG]]
  show Option.filter _ (some z)=none;unfold Option.filter;simp
 .rw[show(z.bag == w.bag)=false by rw[qJ];exact e,Bool.or_false]
  split
  .cases em:pd h G z with
   |none=>rfl
   |some z'=>
    unfold Option.filter;dsimp only;exact bJ (nK (by rw[(F2 em).1];exact e))
  .unfold Option.filter;dsimp only;exact bJ (nK e)
def QZ(nb:(rows.map Row.bag).Nodup)(hw:w∈rows)(hp:p w=false)(AL:∀z,p' z=(p z || z.bag == w.bag))(hG:(G w).2=some j)(hb:findB h.af w.b=some bt):(hZ h G p rows).map (eE w.bag (G w).1 j (if iH bt w.i (G w).1 j=true then w.gn+1 else w.gn))=hZ h G p' rows:=by
 obtain⟨gv,RN⟩:∃gv,(if iH bt w.i (G w).1 j=true then w.gn+1 else w.gn)=gv:=⟨_,rfl⟩
 rw[RN];unfold hZ;rw[List.map_filterMap];refine Ja λz mz=>?_
 rw[AL z];by_cases e:z.bag=w.bag
 .have ez:=nc nb mz hw e;subst ez;rw[hp,cT,Mz,br (by decide),bJ rfl]
  unfold pd eE;rw[hG,hb,Bd,bJ rfl];dsimp only;rw[RN]
 .rw[show(z.bag == w.bag)=false by rw[qJ];exact e,Bool.or_false]
  split
  .cases em:pd h G z with
   |none=>rfl
   |some z'=>
    rw[Bd];unfold eE;rw[br (by rw[(F2 em).1];exact e)]
  .rw[Bd];unfold eE;rw[br e]
end
variable{S2:aT}{hd:D}
noncomputable def jo(d:List Row)(z:Row):Bool:=(d.map Row.bag).contains z.bag
noncomputable def nZ(G:Row->Goal)(w:Row):D:=.tup [.str w.bag,gD (G w)]
section
variable{s B:List Cell}{h:az}{r:Int}{x:Hl}{w:Row}{G:Row->Goal}{n:Nat}{M:List Row}{g1 a2 a3:ai Val}
def e9m(hG:(G w).2=some j)(e:vD 0 [cQ,c_ w.bag,.d (pl (G w).1 j)] (hS B hd r x s)=some (.ok (rd .aI) S2)):xI 0 [cq,g1,bh w.bag,ak (gD (G w))] (hS B hd r x s)=some (.nx [cq,g1,bh w.bag,ak (gD (G w))] S2):=by
 have e1:gD (G w)=pl (G w).1 j:=by unfold gD;generalize G w=p at *;obtain⟨c,i⟩:=p;cases hG;rfl
 rw[e1];unfold xI;simp only[↓ev,Dk,hR,fB,aF,e]
def e6u(hG:(G w).2=none)(e:By 0 [cQ,c_ w.bag,.d (.str (G w).1)] (hS B hd r x s)=some (.ok (rd .aI) S2)):xI 0 [cq,g1,bh w.bag,ak (gD (G w))] (hS B hd r x s)=some (.nx [cq,g1,bh w.bag,ak (gD (G w))] S2):=by
 have e1:gD (G w)=.str (G w).1:=by unfold gD;generalize G w=p at *;obtain⟨c,i⟩:=p;cases hG;rfl
 rw[e1];unfold xI;simp only[↓ev,K1,aG,hR,fB,aF,e]
def Jb(d:List Row)(w z:Row):jo (d++[w]) z=(jo d z || z.bag == w.bag):=by
 grind [jo]
def Y6(g:aJ h)(o:Ok h n x)(hM:∀w∈M,w∈x.rows)(nM:(M.map Row.bag).Nodup)(RF:M.length<=x.rows.length)(hn:n<1000):∃b2 b3,aN (bo [(ae 2),(ae 3)]) (xI 0) (M.map (nZ G)) [cq,g1,none,none] (hS B (av h) r { x with now:=x.now+1} s)=some (.nx [cq,g1,b2,b3] (hS B (av h) r (hV h G (jo M) M x) s)):=by
 obtain⟨U',S',e,⟨b2,b3,rfl⟩,rfl⟩:=iJ (gg:=bo [(ae 2),(ae 3)]) (body:=xI 0) (f:=nZ G) (U:=[cq,g1,none,none]) (S:=hS B (av h) r { x with now:=x.now+1} s) (λpre U S'=>(∃b2 b3,U=[cq,g1,b2,b3])/\S'=hS B (av h) r (hV h G (jo pre) pre x) s) M ⟨⟨_,_,rfl⟩,by
   have e1:hV h G (jo []) [] x={ x with now:=x.now+1}:=by
    unfold hV hZ;rw[xh,jW,show(λz:Row=>if jo [] z=true then pd h G z else some z)=some from funext λz=>by rw[br (by unfold jo;simp)],List.filterMap_some]
   rw[e1]⟩ (by
  rintro d w post eq U S' ⟨⟨b2,b3,rfl⟩,rfl⟩;have hw:w∈x.rows:=hM w (by rw[eq];simp)
  have hwd:w.bag∉d.map Row.bag:=I_ eq nM;have hp:jo d w=false:=by unfold jo;rw[Es];exact λz=>hwd (lj.mp z)
  have nb:((hV h G (jo d) d x).rows.map Row.bag).Nodup:=o.nb.sublist (FJ _ _);have RY:w∈(hV h G (jo d) d x).rows:=P' hw hp;have ll:(hV h G (jo d) d x).rows.length<=x.rows.length:=by
   have:=(FJ (h:=h) (G:=G) (jo d) x.rows).length_le;rw[bq,bq] at this;exact this
  have rl:=o.rl;have sz:=o.sz;obtain⟨bt,hb,eb,_⟩:=(o.rw w hw).1;have fb:=BR g hb;rw[eb] at fb;cases hG:(G w).2 with
  |some j=>
   refine⟨_,_,_,rfl,.inl (e9m hG (e6s g nb RY hb eb (by lia))),⟨_,_,rfl⟩,?_⟩
   unfold hV;dsimp only;rw[QZ o.nb hw hp (Jb d w) hG fb,Er,show List.filterMap (eM G (x.now+1)) [w]=[] by rw[qr,xh];unfold eM;rw[hG],jW]
  |none=>
   have hgd:w.bag∉(hV h G (jo d) d x).gone.map (·.1):=by
    unfold hV;dsimp only;rw[fZ,gZ];rintro(z|z)
    .exact(kQ.mp o.nd).2.2 _ (mP hw) _ z rfl
    grind [eM]
   have C1:(hV h G (jo d) d x).gone.length<2000:=by
    grind [hV]
   refine⟨_,_,_,rfl,.inl (e6u hG (Y5 nb RY hgd C1)),⟨_,_,rfl⟩,?_⟩;unfold hV;dsimp only;rw[Qa o.nb hw hp (Jb d w) hG,Er,show List.filterMap (eM G (x.now+1)) [w]=[(w.bag,(G w).1,x.now+1)] by rw[qr,xh];unfold eM;rw[hG],kP])
 exact⟨b2,b3,e⟩
end
section
variable{s B:List Cell}{h:az}{r:Int}{x:Hl}{w:Row}{G:Row->Goal}{n m:Nat}{M L:List Row}{X:List (Str×D)}{hd:D}
def hlen{nw':Int}:Nat.blt (hF hd r nw' m).length 1000=true:=rfl
def e6v(g:aJ h)(o:Ok h n x)(hM:∀w∈M,w∈x.rows)(nM:(M.map Row.bag).Nodup)(RF:M.length<=x.rows.length)(hn:n<1000)(hs:s[m]?=some (.o (.lst (M.map (nZ G))))):Fz 0 [cQ,.c m] (hS B (av h) r x s)=some (.ok (rd .aI) (hS B (av h) r (hV h G (jo M) M x) (s.set m (.z (.lst (M.map (nZ G))))))):=by
 obtain⟨b2,b3,e⟩:=Y6 (G:=G) (r:=r) (B:=B) (s:=s.set m (.z (.lst (M.map (nZ G))))) (g1:=(aW m)) g o hM nM RF hn;generalize M.map (nZ G)=ml at *;generalize av h=hd at *;unfold Fz OH;simp only[↓ev,hS,hR,aF,cT,hlen,e5u,hs,iy,e,Qi]
noncomputable def gz(X:List (Str×D))(G:Row->Goal)(w:Row):D:=match X.find? λp=>p.1 == w.bag with
 |some p=>.tup [.str w.bag,pl w.b w.i,pl w.b w.i,p.2]
 |none=>.tup [.str w.bag,pl w.b w.i,gD (G w),.aI]
abbrev tS(B:List Cell)(hd:D)(r:Int)(x:Hl)(s:List Cell)(X:List (Str×D))(lg mv:List D):aT:=⟨s++[.o (.aA (cJ X)),.o (.lst lg),.o (.lst mv)],hR hd r x B⟩
def Y7(X:List (Str×D))(w:Row):(X.find? (λp=>p.1 == w.bag)=none/\nk X w=true/\aO (cJ X) (.inr w.bag)=none)\/∃p,X.find? (λp=>p.1 == w.bag)=some p/\nk X w=false/\aO (cJ X) (.inr w.bag)=some p.2:=by
 have v:aO (cJ X) (.inr w.bag)=_:=Cn w.bag X;have i:=Ay (W:=X) (b:=w.bag);rw[v] at i ⊢;unfold nk;rw[<-i];cases X.find? (λp=>p.1 == w.bag) with
 |none=>exact .inl ⟨rfl,rfl,rfl⟩
 |some p=>exact .inr ⟨p,rfl,rfl,rfl⟩
def e6w{lg mv:List D}{g1:ai Val}(hv:aO (cN G L) (.inr w.bag)=some (gD (G w)))(l1:lg.length<1000)(l2:mv.length<1000):B1 0 [cq,g1,ak (.aA (cN G L)),aW s.length,aW (s.length+1),aW (s.length+2),bh w.bag,ak (aM w.fl),ak (pl w.b w.i),bY w.gn] (tS B hd r x s X lg mv)=some (.nx [cq,g1,ak (.aA (cN G L)),aW s.length,aW (s.length+1),aW (s.length+2),bh w.bag,ak (aM w.fl),ak (pl w.b w.i),bY w.gn] (tS B hd r x s X (lg++[gz X G w]) (if nk X w=true then mv++[nZ G w] else mv))):=by
 have R_:(lg.length<1000000)=True:=bu (by lia)
 have l2':(mv.length<1000000)=True:=bu (by lia)
 unfold gz nZ;generalize aM w.fl=ff at *;generalize gD (G w)=gg at *;unfold B1;rcases Y7 X w with⟨e1,e2,e3⟩|⟨p,e1,e2,e3⟩
 .rw[e1,e2,bJ rfl];simp only[↓ev,tS,fG,aG,e3,zV,FF,hv,aF,R_,LJ,l2']
 .rw[e1,e2,br (by decide)]
  dsimp only;generalize p.2=py at *;simp only[↓ev,tS,fG,aG,e3,vy,FF,aF,R_,LJ]
def Y8{g1:ai Val}(nd:(L.map Row.bag).Nodup)(hl:L.length<100):∃a6 a7 a8 a9,aN (bo [(ae 6),(ae 7),(ae 8),(ae 9)]) (B1 0) (L.map bN) [cq,g1,ak (.aA (cN G L)),aW s.length,aW (s.length+1),aW (s.length+2),none,none,none,none] (tS B hd r x s X [] [])=some (.nx [cq,g1,ak (.aA (cN G L)),aW s.length,aW (s.length+1),aW (s.length+2),a6,a7,a8,a9] (tS B hd r x s X (L.map (gz X G)) ((L.filter (nk X)).map (nZ G)))):=by
 obtain⟨U',S',e,⟨a6,a7,a8,a9,rfl⟩,rfl⟩:=iJ (gg:=bo [(ae 6),(ae 7),(ae 8),(ae 9)]) (body:=B1 0) (f:=bN) (U:=[cq,g1,ak (.aA (cN G L)),aW s.length,aW (s.length+1),aW (s.length+2),none,none,none,none]) (S:=tS B hd r x s X [] []) (λpre U S'=>(∃a6 a7 a8 a9,U=[cq,g1,ak (.aA (cN G L)),aW s.length,aW (s.length+1),aW (s.length+2),a6,a7,a8,a9])/\S'=tS B hd r x s X (pre.map (gz X G)) ((pre.filter (nk X)).map (nZ G))) L ⟨⟨_,_,_,_,rfl⟩,rfl⟩ (by
  rintro d w post eq U S' ⟨⟨a6,a7,a8,a9,rfl⟩,rfl⟩;have hd:d.length<100:=by
   grind
  have hf:=tu (nk X) d;refine⟨_,_,_,rfl,.inl (e6w (ip nd (by rw[eq];simp)) (by rw[bq];lia) (by rw[bq];lia)),⟨_,_,_,_,rfl⟩,?_⟩
  grind)
 exact⟨a6,a7,a8,a9,e⟩
theorem Qb:∀L:List Row,iF (L.map (nZ G))=some (cN G L)
 |[]=>rfl
 |w::L=>by
  have ih:=Qb L;rw[cZ];show(jL (.str w.bag)).bind (λk=>(iF (L.map (nZ G))).map ((k,gD (G w))::·))=_
  rw[ih];rfl
def Y9(nd:(L.map Row.bag).Nodup):(cN G L).foldl (λa p=>bS a p.1 p.2) []=cN G L:=by
 have key:∀(M N:List Row),((N++M).map Row.bag).Nodup->(cN G M).foldl (λa p=>bS a p.1 p.2) (cN G N)=cN G (N++M):=by
  intro M
  induction M with
  |nil=>intro N _;rw[jW];rfl
  |cons w M ih=>
   intro N nd;have hw:w.bag∉N.map Row.bag:=by
    grind
   have e:bS (cN G N) (.inr w.bag) (gD (G w))=cN G (N++[w]):=by
    unfold cN;rw[Cp hw];unfold td;rw[fZ];rfl
   show(cN G M).foldl _ (bS (cN G N) (.inr w.bag) (gD (G w)))=_;rw[e,ih (N++[w]) (by rw[kP];exact nd),kP]
   rfl
 exact key L [] nd
end
def m6(h:az)(r:Int)(x:Hl)(X:List (Str×D)):Prop:=∃C,mQ (aq h r x) (ask (aq h r x) (df (cH h x) (aq h r x) (ord h x.rows)) (ord h x.rows)) C/\lY (aq h r x) (ord h x.rows) (df (cH h x) (aq h r x) (ord h x.rows)++(ask (aq h r x) (df (cH h x) (aq h r x) (ord h x.rows)) (ord h x.rows)).filterMap (fM (aq h r x) C)) X/\∀w∈ord h x.rows,∀o,¬ke (aq h r x) (ord h x.rows) X w o
def cO(h:az)(x:Hl)(X:List (Str×D)):List Row:=(ord h x.rows).filter (nk X)
def cW(h:az)(r:Int)(x:Hl)(X:List (Str×D)):Hl:=hV h (aq h r x) (jo (cO h x X)) (cO h x X) x
section
variable{s B:List Cell}{h:az}{r:Int}{x:Hl}{n:Nat}
def Aq{rr:List Cell}:tw ⟨s++[.o (.aA (cJ W))],rr⟩ s.length W'=⟨s++[.o (.aA (cJ W'))],rr⟩:=by
 simp_all
def e6x(g:aJ h)(o:Ok h n x)(hn:n<1000):∃X,m6 h r x X/\Gh 0 [cQ] (hS B (av h) r x s)=some (.ok (.o (.lst ((ord h x.rows).map (gz X (aq h r x))))) (hS B (av h) r (cW h r x X) s)):=by
 have rl:=o.rl;have pl:=o.perm.length_eq;have nd:((ord h x.rows).map Row.bag).Nodup:=(o.perm.map _).nodup_iff.mpr o.nb;have un:((ord h x.rows).map λw=>(w.b,w.i)).Nodup:=(o.perm.map _).nodup_iff.mpr o.un
 have e1:=λq s=>Gk (B:=B) (s:=s) (r:=r) (q:=q) g o
 have e2:=λs=>WE (B:=B) (s:=s) (r:=r) g o
 have e3:=λq s=>IB (B:=B) (s:=s) (r:=r) (q:=q) (x:=x) g
 have ln:s.length<(s++[Cell.o (.aA (cJ []))]).length:=by rw[dZ];exact vx _
 have e5:=YW (S:=⟨s++[.o (.aA (cJ []))],hR (av h) r x B⟩) (n:=s.length) (st:=cH h x) (G:=aq h r x) (L:=ord h x.rows) ln nd (by lia)
 rw[Aq,Aq] at e5;have lw:(df (cH h x) (aq h r x) (ord h x.rows)).length<=(ord h x.rows).length:=Ep _ _;obtain⟨C,oC,e6⟩:=Y0 (S:=⟨s++[.o (.aA (cJ []))],hR (av h) r x B⟩) (n:=s.length) (W:=df (cH h x) (aq h r x) (ord h x.rows)) (G:=aq h r x) (L:=ord h x.rows) ln nd (by lia) (by lia)
 rw[Aq,Aq] at e6;have ly:((ask (aq h r x) (df (cH h x) (aq h r x) (ord h x.rows)) (ord h x.rows)).filterMap (fM (aq h r x) C)).length<=(ord h x.rows).length:=ju (Ep _ _) (tu _ _);obtain⟨X,i1,i2,e7⟩:=WN (S:=⟨s++[.o (.aA (cJ []))],hR (av h) r x B⟩) (n:=s.length) (W:=df (cH h x) (aq h r x) (ord h x.rows)++(ask (aq h r x) (df (cH h x) (aq h r x) (ord h x.rows)) (ord h x.rows)).filterMap (fM (aq h r x) C)) (G:=aq h r x) (L:=ord h x.rows) ln nd un (by lia) (by rw[dZ];lia)
 rw[Aq,Aq] at e7;obtain⟨a6,a7,a8,a9,e8⟩:=Y8 (B:=B) (s:=s) (hd:=av h) (r:=r) (x:=x) (X:=X) (G:=aq h r x) (L:=ord h x.rows) (g1:=(ak (.lst ((ord h x.rows).map bN)))) nd (by lia)
 have e4:=e6v (r:=r) (G:=aq h r x) (M:=cO h x X) (m:=s.length+2) (B:=B) (s:=s++[.o (.aA (cJ X)),.o (.lst ((ord h x.rows).map (gz X (aq h r x)))),.o (.lst ((cO h x X).map (nZ (aq h r x))))]) g o (λw m=>o.mem.mp (qE.mp m).1) (nd.sublist (List.Sublist.map _ Be)) (by rw[<-pl];exact tu _ _) hn FF
 rw[LJ] at e4;refine⟨X,⟨C,oC,i1,i2⟩,?_⟩;have pw:=Qb (G:=aq h r x) (ord h x.rows);have fg:=Y9 (G:=aq h r x) nd;have ll:((cN (aq h r x) (ord h x.rows)).length<1000)=True:=bu (by unfold cN;rw[kX];lia)
 have ew:(ord h x.rows).map (pH h r x)=(ord h x.rows).map (nZ (aq h r x)):=rfl;have w0:cJ []=[]:=rfl;rw[w0] at e5;unfold cW;rw[ew] at e2;clear i1 i2 oC;generalize df (cH h x) (aq h r x) (ord h x.rows)=W1 at *;generalize W1++(ask (aq h r x) W1 (ord h x.rows)).filterMap (fM (aq h r x) C)=W2 at *;generalize hV h (aq h r x) (jo (cO h x X)) (cO h x X) x=x2 at *;unfold cO at e4;generalize(ord h x.rows).map (nZ (aq h r x))=l1 at *;generalize((ord h x.rows).filter (nk X)).map (nZ (aq h r x))=l2 at *;generalize(ord h x.rows).map (gz X (aq h r x))=l3 at *;generalize(ord h x.rows).map bN=l4 at *;generalize cN (aq h r x) (ord h x.rows)=gs at *;generalize av h=hd at *;unfold Gh QT;simp only[↓ev,hR,fB,aF,e1,e2,pw,ll,fg,e3,e5,e6,e7,aG,Ds,yb,iy,e8,e4,lt2,FF,tQ]
end
variable{G:Row->Goal}{j:Int}
theorem Qc{α:Type}[DecidableEq α]:∀{l1 l2:List α},l1.Nodup->(∀a∈l1,a∈l2)->l1.length<=l2.length
 |[],_,_,_=>k_ _
 |a::l1,l2,nd,h=>by
  rw[qH] at nd;have ha:=h a (.head _);have ih:=Qc (l1:=l1) (l2:=l2.erase a) nd.2 λb m=>by
   grind
  grind
section
variable{h:az}{r:Int}{x:Hl}{n:Nat}{X:List (Str×D)}{w z:Row}
def Y_(g:aJ h)(o:Ok h n x)(hw:w∈x.rows):((aq h r x w).2=none->(aq h r x w).1∈h.carts)/\∀j,(aq h r x w).2=some j->∃bt∈h.af,bt.name=(aq h r x w).1/\0<=j/\j<bt.long:=by
 obtain⟨bt,hb,eb,i0,i1,_⟩:=(o.rw w hw).1;have lo:=(g.lg bt hb).1;have eg:aq h r x w=kr h r x w bt:=by unfold aq;rw[<-eb,BR g hb]
 rw[eg];unfold kr;split
 .exact⟨λz=>(by cases z),λj e=>⟨bt,hb,rfl,by cases e;lia,by cases e;assumption⟩⟩
 .split
  .exact⟨λz=>(by cases z),λj e=>⟨bt,hb,rfl,by cases e;lia,by cases e;lia⟩⟩
  .obtain⟨a,ea,ha⟩:=JD g o hw hb eb;rw[ea,Hs];unfold sJ;split
   .simp_all
   .rename_i hc
    split
    .exact⟨λz=>(by cases z),λj e=>⟨bt,hb,rfl,by cases e;lia,by cases e;lia⟩⟩
    .have hm:a∈h.af.map ax.name:=(IX g.fwd bt hb a ha).resolve_right λz=>hc (lj.mpr z)
     obtain⟨b2,rZ,e2⟩:=fy.mp hm;have l2:=(g.lg b2 rZ).1;exact⟨λz=>(by cases z),λj e=>⟨b2,rZ,e2,by cases e;lia,by cases e;lia⟩⟩
def lY.sub(a:lY G L W X):∀b∈W.map (·.1),b∈X.map (·.1):=by
 induction a with
 |base=>exact λ_ m=>m
 |step _ _ _ ih=>exact λb m=>by rw[fZ];exact gZ.mpr (.inl (ih b m))
theorem x9(o:Ok h n x):w∈cO h x X↔w∈x.rows/\w.bag∉X.map (·.1):=by
 unfold cO;rw[qE,o.mem,mn]
def WO(o:Ok h n x)(t:m6 h r x X):∃C:List (bF×Str),∀w∈cO h x X,(aq h r x w).2.isSome=true->look C (gk (aq h r x) w)=some w.bag:=by
 obtain⟨C,oC,gr,fn⟩:=t;refine⟨C,λw hw hs=>?_⟩
 obtain⟨hr,hX⟩:=(x9 o).mp hw;have h1:w.bag∉(df (cH h x) (aq h r x) (ord h x.rows)).map (·.1):=λm=>hX (gr.sub _ (by rw[fZ];exact gZ.mpr (.inl m)))
 have ha:w∈ask (aq h r x) (df (cH h x) (aq h r x) (ord h x.rows)) (ord h x.rows):=oW.mpr ⟨o.mem.mpr hr,h1,hs⟩;obtain⟨c,hc⟩:=Option.ne_none_iff_exists'.mp (oC.2.1 w ha);rw[hc];by_cases e:c=w.bag
 .rw[e]
 .refine cR (gr.sub w.bag ?_) hX
  grind [fM]
def Rq(e:(G w).2=some j):gk G w=((G w).1,j):=by unfold gk;rw[e];rfl
theorem T1(o:Ok h n x)(t:m6 h r x X)(hw:w∈cO h x X)(hz:z∈cO h x X){k:Int}(ew:(aq h r x w).2=some j)(ez:(aq h r x z).2=some k)(e:((aq h r x w).1,j)=((aq h r x z).1,k)):w=z:=by
 obtain⟨C,hC⟩:=WO o t;have h1:=hC w hw (by rw[ew];rfl)
 have h2:=hC z hz (by rw[ez];rfl)
 rw[Rq ew,e,<-Rq ez,h2] at h1;exact nc o.nb ((x9 o).mp hw).1 ((x9 o).mp hz).1 (Option.some.inj h1).symm
def Y'(un:(x.rows.map λw=>(w.b,w.i)).Nodup)(o:Ok h n x)(hz:z∈x.rows)(ew:(G w).2=some j)(e:((G w).1,j)=(z.b,z.i)):hold G (ord h x.rows) w=some z.bag:=by
 unfold hold;rw[ew];dsimp only;rw[e];refine WJ ?_ (fy.mpr ⟨z,o.mem.mpr hz,rfl⟩);unfold iK;rw[dh];exact(o.perm.map _).nodup_iff.mpr un
theorem WQ(o:Ok h n x)(t:m6 h r x X)(hw:w∈cO h x X)(hz:z∈x.rows)(ew:(aq h r x w).2=some j)(e:((aq h r x w).1,j)=(z.b,z.i)):z∈cO h x X:=by
 obtain⟨C,oC,gr,fn⟩:=t;obtain⟨hr,hX⟩:=(x9 o).mp hw;refine(x9 o).mpr ⟨hz,λm=>fn w (o.mem.mpr hr) z.bag ⟨hX,Y' o.un o hz ew e,m⟩⟩
theorem Jp(o:Ok h n x)(hz:z∈x.rows):jo (cO h x X) z=true↔z∈cO h x X:=by
 unfold jo;rw[lj,fy];constructor
 .rintro⟨u,hu,e⟩;rw[<-nc o.nb ((x9 o).mp hu).1 hz e];exact hu
 .exact λm=>⟨z,m,rfl⟩
end
section
variable{h:az}{r:Int}{x:Hl}{n:Nat}{X:List (Str×D)}{w z z':Row}
def O3(o:Ok h n x)(hz:z'∈(cW h r x X).rows):∃z∈x.rows,z'.bag=z.bag/\z'.fl=z.fl/\((z∉cO h x X/\z'=z)\/(z∈cO h x X/\pd h (aq h r x) z=some z')):=by
 obtain⟨z,KR,e⟩:=wY.mp hz;refine⟨z,KR,?_⟩;split at e
 .rename_i hm
  obtain⟨e1,e2⟩:=F2 e;exact⟨e1,e2,.inr ⟨(Jp o KR).mp hm,e⟩⟩
 .rename_i hm
  cases e;exact⟨rfl,rfl,.inl ⟨λm=>hm ((Jp o KR).mpr m),rfl⟩⟩
def e6z(e:pd h G z=some z')(h0:0<=z.gn):0<=z'.gn:=by
 grind [pd]
theorem JH(e:pd h G z=some z'):∃j,(G z).2=some j/\z'.b=(G z).1/\z'.i=j:=by
 grind [pd]
def Qd{nw:Int}{p:Str×Str×Int}(o:Ok h n x)(hp:p∈(cO h x X).filterMap (eM (aq h r x) nw)):∃u∈x.rows,u∈cO h x X/\(aq h r x u).2=none/\p=(u.bag,(aq h r x u).1,nw):=by
 grind [x9,eM]
theorem Qe{G:Row->Goal}{nw:Int}:∀M:List Row,((M.filterMap (eM G nw)).map (·.1)).Sublist (M.map Row.bag)
 |[]=>.slnil
 |u::M=>by
  have ih:=Qe (G:=G) (nw:=nw) M;rw[cZ];cases e:(G u).2 with
  |none=>
   rw[List.filterMap_cons_some (b:=(u.bag,(G u).1,nw)) (by unfold eM;rw[e])]
   exact ih.cons₂ _
  |some j=>
   rw[List.filterMap_cons_none (by unfold eM;rw[e])]
   exact ih.cons _
def Ok.turn(g:aJ h)(o:Ok h n x)(t:m6 h r x X):Ok h n (cW h r x X):=by
 have nM:((cO h x X).map Row.bag).Nodup:=(((o.perm.map _).nodup_iff.mpr o.nb:((ord h x.rows).map Row.bag).Nodup)).sublist (List.Sublist.map _ Be);have sb:((cW h r x X).rows.map Row.bag).Sublist (x.rows.map Row.bag):=FJ _ _;have sL:∀b∈((cO h x X).filterMap (eM (aq h r x) (x.now+1))).map (·.1),∃u∈x.rows,u∈cO h x X/\(aq h r x u).2=none/\b=u.bag:=λb m=>by
  obtain⟨p,hp,rfl⟩:=fy.mp m;obtain⟨u,h1,h2,h3,rfl⟩:=Qd o hp;exact⟨u,h1,h2,h3,rfl⟩
 have dj:∀b∈(cW h r x X).rows.map Row.bag,b∉((cO h x X).filterMap (eM (aq h r x) (x.now+1))).map (·.1):=λb mb mo=>by
  obtain⟨z',G2,rfl⟩:=fy.mp mb;obtain⟨u,hu,hum,hn,e⟩:=sL _ mo;obtain⟨z,hz,eb,_,st⟩:=O3 o G2;have ezu:z=u:=nc o.nb hz hu (by rw[<-eb,e])
  grind [JH]
 have ndo:(((cO h x X).filterMap (eM (aq h r x) (x.now+1))).map (·.1)).Nodup:=by
  exact nM.sublist (Qe _)
 have nd:((cW h r x X).rows.map Row.bag++(cW h r x X).gone.map (·.1)).Nodup:=by
  have o1:=kQ.mp o.nd;have eg:(cW h r x X).gone.map (·.1)=x.gone.map (·.1)++((cO h x X).filterMap (eM (aq h r x) (x.now+1))).map (·.1):=by
   show(x.gone++_).map _=_
   simp_all
  rw[eg,kQ];refine⟨o1.1.sublist sb,kQ.mpr ⟨o1.2.1,ndo,λa ma b mb e=>?_⟩,λa ma b mb e=>?_⟩
  .obtain⟨u,hu,_,_,eu⟩:=sL b mb;exact o1.2.2 u.bag (mP hu) a ma (by rw[e,eu])
  .rcases gZ.mp mb with mb|mb
   .exact o1.2.2 a (sb.subset ma) b mb e
   .exact dj a ma (by rw[e];exact mb)
 refine⟨λz' G2=>?_,nd,?_,o.bk,o.bn,λp hp=>?_,?_,?_⟩
 .obtain⟨z,hz,eb,ef,st⟩:=O3 o G2;obtain⟨k1,k2,k3⟩:=o.rw z hz;refine⟨?_,by rw[eb];exact k2,by rw[ef];exact k3⟩
  rcases st with⟨_,rfl⟩|⟨_,s2⟩
  .exact k1
  .obtain⟨j,ej,e1,e2⟩:=JH s2;obtain⟨bt,hb,e3,e4,e5⟩:=(Y_ g o hz).2 j ej;obtain⟨_,_,_,_,_,Kh⟩:=k1;exact⟨bt,hb,by rw[e1];exact e3,by rw[e2];exact e4,by rw[e2];exact e5,e6z s2 Kh⟩
 .show((hZ h (aq h r x) (jo (cO h x X)) x.rows).map _).Nodup;unfold hZ;rw[List.Nodup,En,List.pairwise_filterMap];have un:=o.un;have nb:=o.nb;rw[List.Nodup,En] at un nb;refine(un.and nb).imp_of_mem λ{a b} ma mb ne a' ea b' eb' e=>?_
  grind [JH,Jp,WQ,T1]
 .rcases gZ.mp (show p∈x.gone++(cO h x X).filterMap (eM (aq h r x) (x.now+1)) from hp) with m|m
  .exact o.gi p m
  .obtain⟨u,hu,_,_,rfl⟩:=Qd o m;exact(o.rw u hu).2.1
 .have:=sb.length_le;rw[bq,bq] at this;exact ju this o.rl
 .have:=Qc nd (l2:=x.rows.map Row.bag++x.gone.map (·.1)) λa m=>by
   rcases gZ.mp m with m|m
   .exact gZ.mpr (.inl (sb.subset m))
   .have m:a∈(x.gone++(cO h x X).filterMap (eM (aq h r x) (x.now+1))).map (·.1):=m
    rw[fZ,gZ] at m;rcases m with m|m
    .exact gZ.mpr (.inr m)
    .obtain⟨u,hu,_,_,e⟩:=sL a m;exact gZ.mpr (.inl (by rw[e];exact mP hu))
  rw[dZ,dZ,bq,bq,bq,bq] at this;have sz:=o.sz;show x.book.length+x.halts.length+_+_<=n;lia
end
variable{l:List Str}
abbrev jJ(z:Str)(v:Bool):Prop:=Pr nN [c_ z] (rd (.bl v))
abbrev uQ(z:Str)(v:Bool):Prop:=Pr BB [c_ z] (rd (.bl v))
def Az(c:ah):Bool:=[44,68,92,104,116,128,140].contains c
def Dn(h:az)(r:Int)(n:Nat)(x:Hl)(s B:List Cell)(c:ah)(x':Hl)(res:ai (Rs Rv)):Prop:=(c=0/\res=some (.ok (rd .aI) (hS B (av h) r x' s))/\Ok h (n+1) x')\/(Az c=true/\res=some (.ex c none (hS B (av h) r x s)))
def JO(v c1 c2 n:Bool):ah:=if(v && !c1)=true then if c2=true then if n=true then 92 else 0 else 68 else 44
def JN(c n:Bool):ah:=if c=true then if n=true then 92 else 0 else 104
abbrev cz(x:Hl)(f:Str):Bool:=(x.book.map (·.1)).contains f
abbrev hasB(h:az)(b:Str):Bool:=(h.af.map ax.name).contains b
section
variable{s B:List Cell}{h:az}{r:Int}{x:Hl}{n q:Nat}{f ct b:Str}{cl:Int}{v:Bool}
def Ce(q:Nat)(hv:jJ f v):xF q [cQ,c_ f] (hS B hd r x s)=some (if(v&&cz x f)=true then .ok (rd .aI) (hS B hd r x s) else .ex 104 none (hS B hd r x s)):=by
 have i:(aO (kc x.book) (.inr f)).isSome=cz x f:=qa;unfold xF MI;cases v with
 |false=>simp only[↓ev,hv,bL,hR,aG]
 |true=>
  cases hc:cz x f with
  |true=>rw[hc] at i;simp only[↓ev,hv,aG,hR,aF,i,e_,bL]
  |false=>rw[hc] at i;simp only[↓ev,hv,aG,hR,aF,i,ja,bL]
def Oa(q:Nat):Bu q [aQ cl] S=some (if cl<0 then .ex 92 none S else .ok (rd .aI) S):=by
 unfold Bu ML;by_cases hl:cl<0
 .rw[bJ hl];have hl:=bu hl;simp only[↓ev,hl,decide_true,f6]
 .rw[br hl];have hl:=eq_false hl;simp only[↓ev,hl,decide_false,aG,f6]
def Ok.up(o:Ok h n x):Ok h (n+1) x:=⟨o.rw,o.nd,o.un,o.bk,o.bn,o.gi,o.rl,Bg o.sz⟩
def rA(h:l.contains b=true):b∈l:=lj.mp h
def BM(h:l.contains b=false):b∉l:=λm=>by rw[lj.mpr m] at h;cases h
def WR(g:aJ h)(o:Ok h n x)(hn:n<1000)(hv:jJ f v):Dn h r n x s B (JO v (cz x f) ((h.carts.drop 1).contains ct) (decide (cl<0))) { x with book:=x.book++[(f,ct,cl)]} (BG 0 [cQ,c_ f,c_ ct,aQ cl] (hS B (av h) r x s)):=by
 have i:(aO (kc x.book) (.inr f)).isSome=cz x f:=qa;have cu:cutD (dS h.carts) (some 1) none=dS (h.carts.drop 1):=by rw[show(1:Int)=((1:Nat):Int) from rfl,IV,dS,dS,Em]
 have e1:=λq S=>Oa (cl:=cl) (S:=S) q
 have hD:av h=.tup [.lst (h.af.map aw),.lst (dS h.carts)]:=rfl;unfold Dn;rw[hD];unfold BG Nv;cases v with
 |false=>
  refine .inr ⟨rfl,?_⟩;show _=some (Rs.ex 44 none _);simp only[↓ev,hv,bL,hR]
 |true=>
  cases h1:cz x f with
  |true=>
   rw[h1] at i;refine .inr ⟨rfl,?_⟩;show _=some (Rs.ex 44 none _);simp only[↓ev,hv,aG,hR,aF,i,bL]
  |false=>
   rw[h1] at i;cases h2:(h.carts.drop 1).contains ct with
   |false=>
    refine .inr ⟨rfl,?_⟩;show _=some (Rs.ex 68 none _);simp only[↓ev,hv,aG,hR,aF,i,bX,cu,fj,eS,h2,ja,bL]
   |true=>
    by_cases hl:cl<0
    .simp only[bJ hl] at e1;rw[nK hl];refine .inr ⟨rfl,?_⟩;show _=some (Rs.ex 92 none _);simp only[↓ev,hv,aG,hR,aF,i,bX,cu,fj,eS,h2,e_,e1,bL]
    .simp only[br hl] at e1;have hf:=BM h1;have p:bS (kc x.book) (.inr f) (.tup [.str f,.str ct,.int cl])=kc (x.book++[(f,ct,cl)]):=by
      unfold kc;rw[Cp hf];unfold td;rw[fZ];rfl
     have sz:=o.sz;have l1:((kc x.book).length<1000000)=True:=bu (by unfold kc;rw[kX];lia)
     rw[oM hl];refine .inl ⟨rfl,?_,λw m=>⟨(o.rw w m).1,(o.rw w m).2.1,λf' e=>?_⟩,o.nd,o.un,λp m=>?_,?_,o.gi,o.rl,?_⟩
     .simp only[↓ev,hS,hR,hv,aG,aF,i,bX,cu,fj,eS,h2,e_,e1,l1,p,bL]
     .rw[fZ];exact gZ.mpr (.inl ((o.rw w m).2.2 f' e))
     .rcases gZ.mp m with m|m
      .exact o.bk p m
      simp_all
     .rw[fZ,kQ];refine⟨o.bn,by simp,λa ma b mb e=>hf ?_⟩
      have:b=f:=by simpa using mb
      rw[<-this,<-e];exact ma
     grind
def WS(g:aJ h)(o:Ok h n x)(hn:n<1000)(hv:jJ f v):Dn h r n x s B (JN (v&&cz x f) (decide (cl<0))) { x with book:=x.book.map λz=>if z.1=f then(f,z.2.1,cl) else z} (BI 0 [cQ,c_ f,aQ cl] (hS B (av h) r x s)):=by
 have e0:=λq=>Ce (B:=B) (s:=s) (hd:=av h) (r:=r) (x:=x) q hv
 have e1:=λq S=>Oa (cl:=cl) (S:=S) q
 unfold Dn;generalize av h=hd at *;unfold BI Nw;cases hc:(v&&cz x f) with
 |false=>
  simp only[hc,aG,lr] at e0;refine .inr ⟨rfl,?_⟩;show _=some (Rs.ex 104 none _);simp only[↓ev,hR,fB,aF,e0,bL]
 |true=>
  simp only[hc,pJ] at e0;by_cases hl:cl<0
  .simp only[bJ hl] at e1;rw[nK hl];refine .inr ⟨rfl,?_⟩;show _=some (Rs.ex 92 none _);simp only[↓ev,hR,fB,aF,e0,e1,bL]
  .simp only[br hl] at e1;rw[jU] at hc;have hm:=rA hc.2;obtain⟨p,hp,ep⟩:=fy.mp hm;have v0:aO (kc x.book) (.inr f)=some (.tup [.str p.1,.str p.2.1,.int p.2.2]):=by rw[<-ep];exact ip o.bn hp
   have pu:bS (kc x.book) (.inr f) (.tup [.str f,.str p.2.1,.int cl])=kc (x.book.map λz=>if z.1=f then(f,z.2.1,cl) else z):=by
    unfold kc;rw[Ax o.bn hm];unfold td;rw[dh];refine mJ λz mz=>?_
    dsimp only[Function.comp];by_cases e:z.1=f
    .rw[bJ e,bJ e,nc (f:=λp:Str×Str×Int=>p.1) o.bn mz hp (by rw[e,ep]),ep]
     rfl
    .rw[br e,br e]
   have sz:=o.sz;have l1:((kc x.book).length<1000000)=True:=bu (by unfold kc;rw[kX];lia)
   have ek:(x.book.map λz=>if z.1=f then(f,z.2.1,cl) else z).map (·.1)=x.book.map (·.1):=by
    rw[dh];refine mJ λz _=>?_
    dsimp only[Function.comp];split
    .rename_i e;exact e.symm
    .rfl
   rw[oM hl];refine .inl ⟨rfl,?_,λw m=>⟨(o.rw w m).1,(o.rw w m).2.1,λf' e=>?_⟩,o.nd,o.un,λp m=>?_,?_,o.gi,o.rl,?_⟩
   .simp only[↓ev,hS,hR,fB,aF,e0,e1,v0,bX,l1,pu,bL]
   .show f'∈(x.book.map _).map _;rw[ek];exact(o.rw w m).2.2 f' e
   .obtain⟨z,mz,rfl⟩:=fy.mp m;split
    .exact o.bk z mz
    .exact o.bk z mz
   .show((x.book.map _).map _).Nodup;rw[ek];exact o.bn
   grind
def e7a(g:aJ h)(o:Ok h n x)(hn:n<1000):Dn h r n x s B (if hasB h b=true then 0 else 116) { x with halts:=g_ x.halts b} (Ah 0 [cQ,c_ b] (hS B (av h) r x s)):=by
 cases hb:hasB h b with
 |false=>
  have e0:=λq=>Af (B:=B) (s:=s) (r:=r) (x:=x) (q:=q) g hb
  simp only[aG,lr] at e0;refine .inr ⟨rfl,?_⟩;show _=some (Rs.ex 116 none _);generalize av h=hd at *;unfold Ah IT;simp only[↓ev,hR,fB,aF,e0,bL]
 |true=>
  have e0:=λq=>Af (B:=B) (s:=s) (r:=r) (x:=x) (q:=q) g hb
  simp only[pJ] at e0;have sz:=o.sz;have l1:((nv x.halts).length<1000000)=True:=bu (by rw[JC];lia)
  have p:=Gj b x.halts;refine .inl ⟨rfl,?_,o.rw,o.nd,o.un,o.bk,o.bn,o.gi,o.rl,?_⟩
  .generalize av h=hd at *;unfold Ah IT;simp only[↓ev,hS,hR,fB,aF,e0,l1,p,bL]
  grind [OQ]
def Za(b:Str)(ks:List Str):dc (nv ks) b=nv (ks.filter λk=>decide (k≠b)):=x8 (k:=λk=>k) (v:=λ_=>.bl true)
def Zb(g:aJ h)(o:Ok h n x)(hb:(h.af.map ax.name).contains b=true):xK 0 [cQ,c_ b] (hS B (av h) r x s)=some (.ok (rd .aI) (hS B (av h) r { x with halts:=x.halts.filter λk=>decide (k≠b)} s)):=by
 have e0:=λq=>Af (B:=B) (s:=s) (r:=r) (x:=x) (q:=q) g hb
 simp only[pJ] at e0;have i:=vN b x.halts;have d:=Za b x.halts;have t1:dX (nv x.halts)=true:=qC (k:=λk=>k) (v:=λ_=>.bl true)
 generalize av h=hd at *;unfold xK Iw;cases hc:x.halts.contains b with
 |true=>
  rw[hc] at i;obtain⟨y,hy⟩:=Option.isSome_iff_exists.mp i;simp only[↓ev,hS,hR,fB,aF,e0,aG,hy,vy,t1,d,bL]
 |false=>
  rw[hc] at i;have hf:x.halts.filter (λk=>decide (k≠b))=x.halts:=List.filter_eq_self.mpr λk m=>nK λe=>BM hc (by rw[<-e];exact m)
  simp only[↓ev,hS,hR,fB,aF,e0,aG,i,bL,hf]
def Ok.start(o:Ok h n x):Ok h n { x with halts:=x.halts.filter λk=>decide (k≠b)}:=⟨o.rw,o.nd,o.un,o.bk,o.bn,o.gi,o.rl,by
 have:=tu (λk=>decide (k≠b)) x.halts
 have sz:=o.sz
 lia⟩
def WT(g:aJ h)(o:Ok h n x):Dn h r n x s B (if hasB h b=true then 0 else 116) { x with halts:=x.halts.filter λk=>decide (k≠b)} (xK 0 [cQ,c_ b] (hS B (av h) r x s)):=by
 cases hb:hasB h b with
 |false=>
  have e0:=λq=>Af (B:=B) (s:=s) (r:=r) (x:=x) (q:=q) g hb
  simp only[aG,lr] at e0;refine .inr ⟨rfl,?_⟩;show _=some (Rs.ex 116 none _);generalize av h=hd at *;unfold xK Iw;simp only[↓ev,hR,fB,aF,e0,bL]
 |true=>exact .inl ⟨rfl,Zb g o hb,o.start.up⟩
end
def Zc(hn:mO b):b.length<=8:=by
 refine Classical.byContradiction λz=>?_
 have e:=hn 0 ⟨[],[]⟩;have h2:((b.length:Int)<=8)=False:=eq_false (by lia)
 have h3:(1<=(b.length:Int))=True:=bu (by lia)
 by_cases hl:b.length<=1000000
 .have h4:=bu hl;have e2:nN 0 [c_ b] ⟨[],[]⟩=some (.ok (rd (.bl false)) ⟨[],[]⟩):=by
   unfold nN BO;simp only[↓ev,AO,aG,h4,h3,decide_true,h2,decide_false];rfl
  lia
 .have h4:=eq_false hl;have e2:nN 0 [c_ b] ⟨[],[]⟩=none:=by
   unfold nN BO;simp only[↓ev,AO,aG,h4];rfl
  lia
noncomputable def wo(rows:List Row)(b:Str):Bool:=rows.any λw=>w.b == b&&w.i == 0
def O4(b:Str)(rows:List Row):((gY rows).map (·.2)).any (λz=>ec z (pl b 0))=wo rows b:=by
 unfold gY td wo;rw[dh,List.any_map]
 congr 1
 funext w;exact AD
def Zd(rows:List Row):((gY rows).map (·.2)).all (fX 40)=true:=by
 unfold gY td;rw[dh,xa];exact jX.mpr λw _=>rfl
def Cf{α:Type}{k:α->Str}{v:α->D}{xs:List α}{x:α}(h:k x∉xs.map k):bS (td k v xs) (.inr (k x)) (v x)=td k v (xs++[x]):=by
 grind [Cp,td]
def JS(v c1 c2 cf cb oc:Bool):ah:=if(v && !c1 && !c2)=true then if cf=true then if cb=true then if oc=true then 128 else 0 else 116 else 104 else 44
abbrev oz(x:Hl)(v2:Bool):ai Str->Bool
 |none=>true
 |some f=>v2&&cz x f
section
variable{s B:List Cell}{h:az}{r:Int}{x:Hl}{n q:Nat}{f b bag:Str}{v v2:Bool}{fl:ai Str}
def Jq{res:Rs Rv}{ff:D}(pre:∀rest:GS,uw rest 0 [cq,bh bag,ak ff,bh b,none] S=rest [cq,bh bag,ak ff,bh b,none] S)(e:(Ao 0 [cq,bh bag,ak ff,bh b,none] S).bind (leave S.s.length)=some res):ux 0 [cQ,c_ bag,.d ff,c_ b] S=some res:=by
 rw[<-pre (Ao 0)] at e;exact e
def e9n(g:aJ h)(o:Ok h n x)(hn:n<1000)(hv:jJ bag v)(hf:∀f,fl=some f->jJ f v2)(h8:x.rows.length<8):Dn h r n x s B (JS v ((x.rows.map Row.bag).contains bag) ((x.gone.map (·.1)).contains bag) (oz x v2 fl) (hasB h b) (wo x.rows b)) { x with rows:=x.rows++[⟨bag,b,0,fl,0⟩]} (ux 0 [cQ,c_ bag,.d (aM fl),c_ b] (hS B (av h) r x s)):=by
 have i1:(aO (gY x.rows) (.inr bag)).isSome=_:=qa;have i2:(aO (uF x.gone) (.inr bag)).isSome=_:=qa;cases v with
 |false=>
  refine .inr ⟨rfl,?_⟩;show _=some (Rs.ex 44 none _);generalize av h=hd at *;generalize aM fl=ff at *;unfold ux Ca uw;simp only[↓ev,hv,bL,hR]
 |true=>
 cases h1:(x.rows.map Row.bag).contains bag with
 |true=>
  rw[h1] at i1;refine .inr ⟨rfl,?_⟩;show _=some (Rs.ex 44 none _);generalize av h=hd at *;generalize aM fl=ff at *;unfold ux Ca uw;simp only[↓ev,hv,aG,hR,aF,i1,bL]
 |false=>
 rw[h1] at i1;cases h2:(x.gone.map (·.1)).contains bag with
 |true=>
  rw[h2] at i2;refine .inr ⟨rfl,?_⟩;show _=some (Rs.ex 44 none _);generalize av h=hd at *;generalize aM fl=ff at *;unfold ux Ca uw;simp only[↓ev,hv,aG,hR,aF,i1,i2,bL]
 |false=>
 rw[h2] at i2;have fz:(∃f,fl=some f/\(v2&&cz x f)=false)\/(fl=none\/∃f,fl=some f/\(v2&&cz x f)=true):=by
  cases fl with
  |none=>exact .inr (.inl rfl)
  |some f=>
   lia
 rcases fz with⟨f,rfl,hc⟩|fz
 .have e0:=λq=>Ce (B:=B) (s:=s) (hd:=av h) (r:=r) (x:=x) q (hf f rfl)
  simp only[hc,aG,lr] at e0;rw[show oz x v2 (some f)=false from hc];refine .inr ⟨rfl,?_⟩;show _=some (Rs.ex 104 none _);generalize av h=hd at *;unfold ux Ca uw aM;simp only[↓ev,hv,aG,hR,aF,i1,i2,fB,e0,bL]
 .have AK:oz x v2 fl=true:=by
   rcases fz with rfl|⟨f,rfl,hc⟩
   .rfl
   .exact hc
  rw[AK];have hfl:∀f,fl=some f->f∈x.book.map (·.1):=λf e=>by
   simp_all
  have pre:∀rest:GS,uw rest 0 [cq,bh bag,ak (aM fl),bh b,none] (hS B (av h) r x s)=rest [cq,bh bag,ak (aM fl),bh b,none] (hS B (av h) r x s):=λrest=>by
   rcases fz with rfl|⟨f,rfl,hc⟩
   .generalize av h=hd at *;unfold uw aM;simp only[↓ev,hv,aG,hR,aF,i1,i2]
   .have e0:=λq=>Ce (B:=B) (s:=s) (hd:=av h) (r:=r) (x:=x) q (hf f rfl)
    simp only[hc,pJ] at e0;generalize av h=hd at *;unfold uw aM;simp only[↓ev,hv,aG,hR,aF,i1,i2,fB,e0]
  cases hb:hasB h b with
  |false=>
   have e1:=λq=>Af (B:=B) (s:=s) (r:=r) (x:=x) (q:=q) g hb
   simp only[aG,lr] at e1;refine .inr ⟨rfl,Jq pre ?_⟩;show _=some (Rs.ex 116 none _);generalize av h=hd at *;generalize aM fl=ff at *;unfold Ao;simp only[↓ev,hR,fB,aF,e1,bL]
  |true=>
   have e1:=λq=>Af (B:=B) (s:=s) (r:=r) (x:=x) (q:=q) g hb
   simp only[pJ] at e1;have t1:dX (gY x.rows)=true:=qC;have va:=O4 b x.rows;have vo:=Zd x.rows;obtain⟨bt,yL,CH⟩:=fy.mp (rA hb);have lb:=Zc (g.nm bt yL);rw[CH] at lb;have l1:(b.length<=1000000)=True:=bu (by lia)
   have l2:((Str.empty++("cell 0 of belt ":Str)).length<=1000000)=True:=bu (by decide +kernel)
   have l3:((Str.empty++("cell 0 of belt ":Str)++b).length<=1000000)=True:=bu (by
    rw[Str.length_append];have:(Str.empty++("cell 0 of belt ":Str)).length<=100:=by decide +kernel
    lia)
   have l4:((Str.empty++("cell 0 of belt ":Str)++b++(" has a bag":Str)).length<=1000000)=True:=bu (by
    rw[Str.length_append,Str.length_append];have:(Str.empty++("cell 0 of belt ":Str)).length<=100:=by decide +kernel
    have:(" has a bag":Str).length<=100:=by decide +kernel
    lia)
   cases ho:wo x.rows b with
   |true=>
    rw[ho] at va;refine .inr ⟨rfl,Jq pre ?_⟩;show _=some (Rs.ex 128 none _);generalize av h=hd at *;generalize aM fl=ff at *;unfold Ao;simp only[↓ev,hR,fB,aF,e1,t1,vo,aG,va,l2,l1,l3,l4,bL]
   |false=>
    rw[ho] at va;have yK:=BM h1;have p1:bS (gY x.rows) (.inr bag) (pl b 0)=gY (x.rows++[⟨bag,b,0,fl,0⟩]):=Cf (x:=(⟨bag,b,0,fl,0⟩:Row)) yK;have p2:bS (iG x.rows) (.inr bag) (aM fl)=iG (x.rows++[⟨bag,b,0,fl,0⟩]):=Cf (x:=(⟨bag,b,0,fl,0⟩:Row)) yK;have p3:bS (kN x.rows) (.inr bag) (.int 0)=kN (x.rows++[⟨bag,b,0,fl,0⟩]):=Cf (x:=(⟨bag,b,0,fl,0⟩:Row)) yK;have m1:((gY x.rows).length<1000000)=True:=bu (by unfold gY;rw[kX];lia)
    have m2:((iG x.rows).length<1000000)=True:=bu (by unfold iG;rw[kX];lia)
    have m3:((kN x.rows).length<1000000)=True:=bu (by unfold kN;rw[kX];lia)
    have sz:=o.sz;have lo:=(g.lg bt yL).1;refine .inl ⟨rfl,Jq pre ?_,λw m=>?_,?_,?_,o.bk,o.bn,o.gi,?_,?_⟩
    .generalize av h=hd at *;generalize aM fl=ff at *;unfold Ao;simp only[↓ev,hS,hR,fB,aF,e1,t1,vo,aG,va,m1,p1,m2,p2,m3,p3,bL]
    .rcases gZ.mp m with m|m
     .exact o.rw w m
     .rw[lL.mp m];exact⟨⟨bt,yL,CH,Ms _,by show(0:Int)<_;lia,Ms _⟩,hv,hfl⟩
    .dsimp only;rw[fZ,kP];have o1:=kQ.mp o.nd
     grind
    .dsimp only;rw[fZ];refine kQ.mpr ⟨o.un,by simp,λa ma c mc e=>?_⟩
     grind [wo]
    all_goals grind
end
variable{hd:D}
noncomputable def dq(p:Row->Bool)(y:ai Str)(z:Row):Row:=if p z=true then{ z with fl:=y} else z
def JT(c1 c2:Bool):ah:=if c1=true then if c2=true then 0 else 104 else 140
section
variable{s B:List Cell}{h:az}{r:Int}{x:Hl}{n q:Nat}{f bag:Str}{v v2:Bool}{p:Row->Bool}{y:ai Str}{rows:List Row}
def Qf:(rows.map (dq p y)).map Row.bag=rows.map Row.bag:=by
 grind [List.map_congr_left,dq]
def Q0:gY (rows.map (dq p y))=gY rows:=by
 unfold gY td;rw[dh];refine mJ λz _=>?_
 dsimp only[Function.comp];unfold dq;split <;> rfl
def Q1:kN (rows.map (dq p y))=kN rows:=by
 grind [kN,td,List.map_congr_left,dq]
def Ok.read(o:Ok h n x){bk:List (Str×Str×Int)}(hb:∀q∈bk,q∈x.book)(hbn:(bk.map (·.1)).Nodup)(hl:bk.length<=x.book.length)(hf:∀w∈x.rows,∀f,(dq p y w).fl=some f->f∈bk.map (·.1)):Ok h (n+1) { x with book:=bk,rows:=x.rows.map (dq p y)}:=by
 have sz:=o.sz;refine⟨λw m=>?_,?_,?_,λq m=>o.bk q (hb q m),hbn,o.gi,?_,?_⟩
 .obtain⟨z,mz,rfl⟩:=fy.mp m;obtain⟨k1,k2,k3⟩:=o.rw z mz;refine⟨?_,?_,hf z mz⟩
  .unfold dq;split
   .exact k1
   .exact k1
  .unfold dq;split
   .exact k2
   .exact k2
 .dsimp only;rw[Qf];exact o.nd
 .dsimp only;have:(x.rows.map (dq p y)).map (λw=>(w.b,w.i))=x.rows.map λw=>(w.b,w.i):=by
   grind [List.map_congr_left,dq]
  rw[this];exact o.un
 .dsimp only;rw[bq];exact o.rl
 grind
def WU(q:Nat)(hv:jJ bag v):vC q [cQ,c_ bag] (hS B hd r x s)=some (if(v&&(x.rows.map Row.bag).contains bag)=true then .ok (rd .aI) (hS B hd r x s) else .ex 140 none (hS B hd r x s)):=by
 have i:(aO (gY x.rows) (.inr bag)).isSome=_:=qa;unfold vC HH;cases v with
 |false=>simp only[↓ev,hv,bL,hR,aG]
 |true=>
  cases hc:(x.rows.map Row.bag).contains bag with
  |true=>rw[hc] at i;simp only[↓ev,hv,aG,hR,aF,i,e_,bL]
  |false=>rw[hc] at i;simp only[↓ev,hv,aG,hR,aF,i,ja,bL]
def e7b(g:aJ h)(o:Ok h n x)(hn:n<1000)(hv:jJ bag v)(nu:jJ f v2):Dn h r n x s B (JT (v&&(x.rows.map Row.bag).contains bag) (v2&&cz x f)) { x with rows:=x.rows.map (dq (λz=>z.bag == bag) (some f))} (BY 0 [cQ,c_ bag,c_ f] (hS B (av h) r x s)):=by
 have e0:=λq=>WU (B:=B) (s:=s) (hd:=av h) (r:=r) (x:=x) q hv
 have e1:=λq=>Ce (B:=B) (s:=s) (hd:=av h) (r:=r) (x:=x) q nu
 unfold Dn;generalize av h=hd at *;unfold BY OF;cases hc:(v&&(x.rows.map Row.bag).contains bag) with
 |false=>
  simp only[hc,aG,lr] at e0;refine .inr ⟨rfl,?_⟩;show _=some (Rs.ex 140 none _);simp only[↓ev,hR,fB,aF,e0,bL]
 |true=>
  simp only[hc,pJ] at e0;cases r9:(v2&&cz x f) with
  |false=>
   simp only[r9,aG,lr] at e1;refine .inr ⟨rfl,?_⟩;show _=some (Rs.ex 104 none _);simp only[↓ev,hR,fB,aF,e0,e1,bL]
  |true=>
   simp only[r9,pJ] at e1;rw[jU] at hc r9;have hm:=rA hc.2;have p1:bS (iG x.rows) (.inr bag) (.str f)=iG (x.rows.map (dq (λz=>z.bag == bag) (some f))):=by
    unfold iG;rw[Ax o.nb hm];unfold td;rw[dh];refine mJ λz _=>?_
    dsimp only[Function.comp];unfold dq;by_cases e:z.bag=bag
    .rw[bJ e,bJ (beq_iff_eq.mpr e)];rfl
    lia
   have p2:=Q0 (p:=λz=>z.bag == bag) (y:=some f) (rows:=x.rows)
   have p3:=Q1 (p:=λz=>z.bag == bag) (y:=some f) (rows:=x.rows)
   have rl:=o.rl;have m2:((iG x.rows).length<1000000)=True:=bu (by unfold iG;rw[kX];lia)
   refine .inl ⟨rfl,?_,o.read (p:=λz=>z.bag == bag) (y:=some f) (λ_ m=>m) o.bn (cv _) λw mw f' e=>?_⟩
   .simp only[↓ev,hS,hR,fB,aF,e0,e1,m2,p1,bL,p2,p3]
   .unfold dq at e;split at e
    .cases e;exact rA r9.2
    .exact(o.rw w mw).2.2 f' e
def e7c{rs:List Row}(nb:(rs.map Row.bag).Nodup)(hw:w∈rs)(hl:rs.length<1000){a2:ai Val}:Bw 0 [cq,bh f,bh w.bag] (hS B hd r { x with rows:=rs} s)=some (.nx [cq,bh f,bh w.bag] (hS B hd r { x with rows:=rs.map (dq (λz=>z.bag == w.bag&&z.fl == some f) none)} s)):=by
 have v0:aO (iG rs) (.inr w.bag)=some (aM w.fl):=ip nb hw;have p2:=Q0 (p:=λz=>z.bag == w.bag&&z.fl == some f) (y:=none) (rows:=rs)
 have p3:=Q1 (p:=λz=>z.bag == w.bag&&z.fl == some f) (y:=none) (rows:=rs)
 have m2:((iG rs).length<1000000)=True:=bu (by unfold iG;rw[kX];lia)
 have same:w.fl≠some f->rs.map (dq (λz=>z.bag == w.bag&&z.fl == some f) none)=rs:=λne=>by
  conv=>rhs;rw[<-List.map_id rs]
  grind [List.map_congr_left,dq,nc]
 unfold Bw;cases hf:w.fl with
 |none=>
  rw[hf] at v0;rw[same (by rw[hf];intro z;cases z)]
  unfold aM at v0;have en:ec .aI (.str f)=false:=rfl;simp only[↓ev,hR,aF,v0,aG,en]
 |some f'=>
  rw[hf] at v0;unfold aM at v0;cases he:(f' == f) with
  |false=>
   rw[same (by rw[hf];intro z;cases z;rw[cT] at he;cases he)]
   simp only[↓ev,hR,aF,v0,aG,dm,he]
  |true=>
   have p1:bS (iG rs) (.inr w.bag) .aI=iG (rs.map (dq (λz=>z.bag == w.bag&&z.fl == some f) none)):=by
    unfold iG;rw[Ax nb (mP hw)];unfold td;rw[dh];refine mJ λz mz=>?_
    dsimp only[Function.comp];unfold dq;by_cases e:z.bag=w.bag
    .have ez:=nc nb mz hw e;rw[bJ e,bJ (by rw[ez];dsimp only;rw[hf,cT,beq_iff_eq.mp he];simp)]
     rfl
    lia
   simp only[↓ev,hS,hR,aF,v0,aG,dm,he,m2,p1,p2,p3]
def Jc:(dq p y z).bag=z.bag:=by unfold dq;split <;> rfl
def WV(d:List Row)(w z:Row):dq (λz=>z.bag == w.bag&&z.fl == some f) none (dq (λz=>(d.map Row.bag).contains z.bag&&z.fl == some f) none z)=dq (λz=>((d++[w]).map Row.bag).contains z.bag&&z.fl == some f) none z:=by
 unfold dq;dsimp only;rw[fZ];by_cases h2:z.fl=some f
 .by_cases h1:z.bag∈d.map Row.bag
  .simp[h1,h2]
  .by_cases h3:z.bag=w.bag
   .rw[h3] at h1;simp[h1,h2,h3]
   .simp[h1,h2,h3]
 .simp[h2]
def Ze(nb:(x.rows.map Row.bag).Nodup)(hl:x.rows.length<1000):∃a2,aN (ae 2) (Bw 0) (dS (x.rows.map Row.bag)) [cq,bh f,none] (hS B hd r x s)=some (.nx [cq,bh f,a2] (hS B hd r { x with rows:=x.rows.map (dq (λz=>z.fl == some f) none)} s)):=by
 rw[show dS (x.rows.map Row.bag)=x.rows.map λw=>.str w.bag by unfold dS;rw[dh];rfl]
 obtain⟨U',S',e,⟨a2,rfl⟩,rfl⟩:=iJ (gg:=ae 2) (body:=Bw 0) (f:=λw:Row=>.str w.bag) (U:=[cq,bh f,none]) (S:=hS B hd r x s) (λpre U S'=>(∃a2,U=[cq,bh f,a2])/\S'=hS B hd r { x with rows:=x.rows.map (dq (λz=>(pre.map Row.bag).contains z.bag&&z.fl == some f) none)} s) x.rows ⟨⟨_,rfl⟩,by
   have:x.rows.map (dq (λz=>(([]:List Row).map Row.bag).contains z.bag&&z.fl == some f) none)=x.rows:=by
    conv=>rhs;rw[<-List.map_id x.rows]
    rfl
   rw[this]⟩ (by
  rintro d w post eq U S' ⟨⟨a2,rfl⟩,rfl⟩;have hw:w∈x.rows:=by rw[eq];simp
  have e:=e7c (hd:=hd) (r:=r) (B:=B) (s:=s) (x:=x) (f:=f) (a2:=none) (rs:=x.rows.map (dq (λz=>(d.map Row.bag).contains z.bag&&z.fl == some f) none)) (w:=dq (λz=>(d.map Row.bag).contains z.bag&&z.fl == some f) none w) (by rw[Qf];exact nb) (mP hw) (by rw[bq];exact hl)
  rw[Jc] at e;refine⟨_,_,_,rfl,.inl e,⟨_,rfl⟩,?_⟩;rw[dh]
  congr 3
  funext z;exact WV d w z)
 have:x.rows.map (dq (λz=>(x.rows.map Row.bag).contains z.bag&&z.fl == some f) none)=x.rows.map (dq (λz=>z.fl == some f) none):=mJ λz mz=>by
  have hc:(x.rows.map Row.bag).contains z.bag=true:=lj.mpr (mP mz);unfold dq;simp only[hc,Bool.true_and]
 rw[this] at e;exact⟨a2,e⟩
def e9o(g:aJ h)(o:Ok h n x)(hv:jJ f v):Dn h r n x s B (if(v&&cz x f)=true then 0 else 104) { x with book:=x.book.filter λz=>decide (z.1≠f),rows:=x.rows.map (dq (λz=>z.fl == some f) none)} (BA 0 [cQ,c_ f] (hS B (av h) r x s)):=by
 have e0:=λq=>Ce (B:=B) (s:=s) (hd:=av h) (r:=r) (x:=x) q hv
 unfold Dn;generalize av h=hd at *;unfold BA M5;cases hc:(v&&cz x f) with
 |false=>
  simp only[hc,aG,lr] at e0;refine .inr ⟨rfl,?_⟩;show _=some (Rs.ex 104 none _);simp only[↓ev,hR,fB,aF,e0,bL]
 |true=>
  simp only[hc,pJ] at e0;rw[jU] at hc;obtain⟨p,hp,ep⟩:=fy.mp (rA hc.2);have v0:aO (kc x.book) (.inr f)=some (t3 p):=by rw[<-ep];exact ip o.bn hp
  have d1:dc (kc x.book) f=kc (x.book.filter λz=>decide (z.1≠f)):=x8
  have t1:dX (kc x.book)=true:=qC;have k1:(iG x.rows).map (·.1.d)=dS (x.rows.map Row.bag):=Ap
  have rl:=o.rl;have l1:((iG x.rows).length<1000000)=True:=bu (by unfold iG;rw[kX];lia)
  have l2:((iG x.rows).length<=1000000)=True:=bu (by unfold iG;rw[kX];lia)
  obtain⟨a2,e1⟩:=Ze (hd:=hd) (r:=r) (B:=B) (s:=s) (f:=f) (x:={ x with book:=x.book.filter λz=>decide (z.1≠f)}) o.nb (by dsimp only;lia)
  generalize t3 p=tp at *;refine .inl ⟨rfl,?_,o.read (p:=λz=>z.fl == some f) (y:=none) (bk:=x.book.filter λz=>decide (z.1≠f)) (λq m=>(qE.mp m).1) (o.bn.sublist (List.Sublist.map _ Be)) (tu _ _) λw mw f' e=>?_⟩
  .dsimp only at e1;simp only[↓ev,hS,hR,fB,aF,e0,t1,v0,d1,k1,iy,e1,bL]
  .unfold dq at e;split at e
   .cases e
   .rename_i ne
    obtain⟨q,hq,eq⟩:=fy.mp ((o.rw w mw).2.2 f' e)
    grind
end
inductive iO:D->Prop
 |oA {f ct:Str} {cl:Int} {v:Bool}:jJ f v->uQ f v->iO (.tup [.str "flight",.str f,.str ct,.int cl])
 |change {f:Str} {cl:Int} {v:Bool}:jJ f v->iO (.tup [.str "change",.str f,.int cl])
 |off {f:Str} {v:Bool}:jJ f v->iO (.tup [.str "off",.str f])
 |put {bag b:Str} {fl:ai Str} {v v2:Bool}:jJ bag v->uQ bag v->(∀f,fl=some f->jJ f v2)->iO (.tup [.str "put",.str bag,aM fl,.str b])
 |read {bag f:Str} {v v2:Bool}:jJ bag v->jJ f v2->iO (.tup [.str "read",.str bag,.str f])
 |stop {b:Str}:iO (.tup [.str "stop",.str b])
 |start {b:Str}:iO (.tup [.str "start",.str b])
section
variable{s B:List Cell}{h:az}{r:Int}{x x':Hl}{n q:Nat}{d:D}{c:ah}{f ct b bag:Str}{cl:Int}{fl:ai Str}
def yk:(∀{f ct cl},Dn h r n x s B c x' (BG 0 (cQ::[c_ f,c_ ct,aQ cl]) (hS B (av h) r x s))->Dn h r n x s B c x' (p_ 0 [cQ,.d (.tup (.str "flight"::[.str f,.str ct,.int cl]))] (hS B (av h) r x s)))/\(∀{f cl},Dn h r n x s B c x' (BI 0 (cQ::[c_ f,aQ cl]) (hS B (av h) r x s))->Dn h r n x s B c x' (p_ 0 [cQ,.d (.tup (.str "change"::[.str f,.int cl]))] (hS B (av h) r x s)))/\(∀{f},Dn h r n x s B c x' (BA 0 (cQ::[c_ f]) (hS B (av h) r x s))->Dn h r n x s B c x' (p_ 0 [cQ,.d (.tup (.str "off"::[.str f]))] (hS B (av h) r x s)))/\(∀{bag fl b},Dn h r n x s B c x' (ux 0 (cQ::[c_ bag,.d (aM fl),c_ b]) (hS B (av h) r x s))->Dn h r n x s B c x' (p_ 0 [cQ,.d (.tup (.str "put"::[.str bag,aM fl,.str b]))] (hS B (av h) r x s)))/\(∀{bag f},Dn h r n x s B c x' (BY 0 (cQ::[c_ bag,c_ f]) (hS B (av h) r x s))->Dn h r n x s B c x' (p_ 0 [cQ,.d (.tup (.str "read"::[.str bag,.str f]))] (hS B (av h) r x s)))/\(∀{b},Dn h r n x s B c x' (Ah 0 (cQ::[c_ b]) (hS B (av h) r x s))->Dn h r n x s B c x' (p_ 0 [cQ,.d (.tup (.str "stop"::[.str b]))] (hS B (av h) r x s)))/\(∀{b},Dn h r n x s B c x' (xK 0 (cQ::[c_ b]) (hS B (av h) r x s))->Dn h r n x s B c x' (p_ 0 [cQ,.d (.tup (.str "start"::[.str b]))] (hS B (av h) r x s))):=by
 unfold Dn;generalize av h=hd;unfold p_ OI;refine⟨?_,?_,?_,?_,?_,?_,?_⟩
 all_goals
  intros
  try generalize aM _=ff at *
  rcases ‹_\/_› with⟨rfl,e,ok⟩|⟨hc,e⟩
  .refine .inl ⟨rfl,?_,ok⟩;simp only[↓ev,bA,aG,dm,cT,hR,fB,aF,bX,eP,ow,e,bL]
  .refine .inr ⟨hc,?_⟩;simp only[↓ev,bA,aG,dm,cT,hR,fB,aF,bX,eP,ow,e,bL]
def wl:List (ah×Str):=[(44,"name"),(68,"out"),(92,"moment"),(104,"flight"),(116,"belt"),(128,"room"),(140,"bag")]
def wd(c:ah):Str:=(wl.lookup c).getD ""
def GY:List GH:=wl.map λp=>(wN rJ p.1,bU (ar 2 false (gC (.str p.2))))
def th{U:Gm}(hm:c∈[44,68,92,104,116,128,140]):sZ GY c U S=((bU (ar 2 false (gC (.str (wd c))))) U S).bind AX:=by
 simp only[y09,y19,or_false] at hm;rcases hm with rfl|rfl|rfl|rfl|rfl|rfl|rfl
 all_goals kernel_rfl
def Zf(e:Dn h r n x s B c x' (p_ 0 [cQ,.d d] (hS B (av h) r x s))):xP 0 [cQ,.d d] (hS B (av h) r x s)=some (.ok (rd (.str (wd c))) (hS B (av h) r (if c=0 then x' else x) s)):=by
 unfold Dn at *;generalize av h=hd at *;have eq:Iz 0=l9 (ar 2 false (gC (.str ""))) (rY (bU (cY (ao (p_ 0) (bR 0 1)))) GY) (au 2):=by unfold Iz GY;rfl
 unfold xP aR;rw[eq];clear eq;rcases e with⟨rfl,e,ok⟩|⟨hc,e⟩
 .rw[bJ rfl];simp only[↓ev,aF,e,bL];rfl
 .have hm:c∈[44,68,92,104,116,128,140]:=lj.mp hc;have t:=λU S=>th (U:=U) (S:=S) hm
  rw[br (λz=>by rw[z] at hc;cases hc)]
  generalize wd c=w at *;generalize GY=hs at *;simp only[↓ev,aF,e,t,bL]
end
def F3(l:List Nat)(h1:1<=l.length)(h2:l.length<=8):∃v,jJ ⟨l.toArray⟩ v/\uQ ⟨l.toArray⟩ v:=by
 have e:∀q S,aZ (ae 0) (fq true) (E6 q) (l.map λc=>.str (iU c)) [none] S []=some (.ok ((l.map λc => !(Builtin.Str.occurrences (Str.ofString "abcdefghijklmnopqrstuvwxyz") (iU c) 0 (Str.ofString "abcdefghijklmnopqrstuvwxyz").length 1).isEmpty).map D.bl) S):=λq S=>by
  rw[ox (λc=>D.bl (!(Builtin.Str.occurrences (Str.ofString "abcdefghijklmnopqrstuvwxyz") (iU c) 0 (Str.ofString "abcdefghijklmnopqrstuvwxyz").length 1).isEmpty)) l (by lia) λc m=>⟨rd (.bl _),by
   rfl,rfl⟩,dh]
  rfl
 have e2:∀q S,aZ (ae 0) (fq true) (MT q) (l.map λc=>.str (iU c)) [none] S []=_:=e
 have c4:(((⟨l.toArray⟩:Str).length:Int)<1)=False:=eq_false (by rw[rF];lia)
 have c5:(8<((⟨l.toArray⟩:Str).length:Int))=False:=eq_false (by rw[rF];lia)
 have c1:(1<=((⟨l.toArray⟩:Str).length:Int))=True:=bu (by rw[rF];lia)
 have c2:(((⟨l.toArray⟩:Str).length:Int)<=8)=True:=bu (by rw[rF];lia)
 have c3:((⟨l.toArray⟩:Str).length<=1000000)=True:=bu (by rw[rF];lia)
 refine⟨(l.map λc => !(Builtin.Str.occurrences (Str.ofString "abcdefghijklmnopqrstuvwxyz") (iU c) 0 (Str.ofString "abcdefghijklmnopqrstuvwxyz").length 1).isEmpty).all id,λq S=>?_,λq S=>?_⟩
 .generalize(l.map λc => !(Builtin.Str.occurrences (Str.ofString "abcdefghijklmnopqrstuvwxyz") (iU c) 0 (Str.ofString "abcdefghijklmnopqrstuvwxyz").length 1).isEmpty)=bs at *
  unfold nN BO;simp only[↓ev,AO,aG,c3,c1,decide_true,c2,e,BP,f6]
 .generalize(l.map λc => !(Builtin.Str.occurrences (Str.ofString "abcdefghijklmnopqrstuvwxyz") (iU c) 0 (Str.ofString "abcdefghijklmnopqrstuvwxyz").length 1).isEmpty)=bs at *
  unfold BB Nb;simp only[↓ev,c3,c4,decide_false,aG,c5,e2,BP,f6]
noncomputable abbrev l3:List D:=[.int 11,.int 12,.int 13]
theorem Rr:∀a:Nat,a<3->d_ l3 (a:Int)=some (.int ((11+a:Nat):Int))
 |0,_=>rfl
 |1,_=>rfl
 |2,_=>rfl
section
variable{ns:List Int}
def Zg(n:Nat)(hn:n<20):∃f v,Pr z6 [.d (bj ns),aQ (n:Int)] (rd (.str f))/\jJ f v/\uQ f v:=by
 obtain⟨d1,d2,d3⟩:=il ns 12 4 3 (by decide) (by decide) (by decide)
 have d1:Pr ik [.d (bj ns),aQ 12,aQ 4,aQ 3] _:=d1;cases h6:((n:Int) == 6) with
 |true=>
  obtain⟨v,hv⟩:=F3 [65] (by decide) (by decide)
  refine⟨"A",v,λq S=>?_,by rw[show("A":Str)=⟨[65].toArray⟩ by decide +kernel];exact hv⟩
  generalize(n:Int)=ni at *;unfold z6 HI;simp only[↓ev,aG,eV,h6,f6]
 |false=>
  have ha:=Rr (bC ns 12 4 3).toNat (by lia)
  rw[Int.toNat_of_nonneg d2] at ha;have hx:=Gi ns (11+(bC ns 12 4 3).toNat) (by lia) n hn
  have hl:=Aw ns (11+(bC ns 12 4 3).toNat) (by lia) n
  obtain⟨v,hv⟩:=F3 _ hl.1 hl.2;refine⟨_,v,λq S=>?_,hv⟩
  generalize((11+(bC ns 12 4 3).toNat:Nat):Int)=qi at *;generalize bC ns 12 4 3=dg at *;generalize(n:Int)=ni at *;unfold z6 HI;unfold jB at hx;simp only[↓ev,aG,eV,h6,aF,d1,ha,hx,f6]
def Zh(n:Nat)(hn:n<20):∃f v,Pr z8 [.d (bj ns),aQ (n:Int)] (rd (.str f))/\jJ f v/\uQ f v:=by
 obtain⟨d1,d2,d3⟩:=il ns 13 4 3 (by decide) (by decide) (by decide)
 have d1:Pr ik [.d (bj ns),aQ 13,aQ 4,aQ 3] _:=d1;cases h6:((n:Int) == 12) with
 |true=>
  obtain⟨v,hv⟩:=F3 [98,49] (by decide) (by decide)
  refine⟨"b1",v,λq S=>?_,by rw[show("b1":Str)=⟨[98,49].toArray⟩ by decide +kernel];exact hv⟩
  generalize(n:Int)=ni at *;unfold z8 HS;simp only[↓ev,aG,eV,h6,f6]
 |false=>
  have ha:=Rr (bC ns 13 4 3).toNat (by lia)
  rw[Int.toNat_of_nonneg d2] at ha;have hx:=Gi ns (11+(bC ns 13 4 3).toNat) (by lia) n hn
  have hl:=Aw ns (11+(bC ns 13 4 3).toNat) (by lia) n
  obtain⟨v,hv⟩:=F3 _ hl.1 hl.2;refine⟨_,v,λq S=>?_,hv⟩
  generalize((11+(bC ns 13 4 3).toNat:Nat):Int)=qi at *;generalize bC ns 13 4 3=dg at *;generalize(n:Int)=ni at *;unfold z8 HS;unfold jB at hx;simp only[↓ev,aG,eV,h6,aF,d1,ha,hx,f6]
def T2(k:Nat)(hk:k<900):∃cl,Pr vE [.d (bj ns),aQ (k:Int)] (rd (.int cl)):=by
 have hp:=yi ns (k+1) 10 (by lia) (by decide)
 obtain⟨c,hc⟩:=JB ns k;obtain⟨d1,_,_⟩:=il ns (k+1) 3 30 (by lia) (by decide) (by decide)
 rw[show((k+1:Nat):Int)=(k:Int)+1 by lia] at hp d1
 have d1:Pr ik [.d (bj ns),aQ ((k:Int)+1),aQ 3,aQ 30] _:=d1;generalize(k:Int)=ki at *;generalize bC ns (k+1) 0 10=pv at *;have p8:(0<(10:Int)^8)=True:=bu (by decide)
 have p9:(0<(10:Int)^9)=True:=bu (by decide)
 have Sk:(Int.natAbs 10<2^64)=True:=bu (by decide)
 cases h0:(pv == 0) with
 |true=>
  refine⟨-1 - c%10^8,λq S=>?_⟩
  unfold vE E8;simp only[↓ev,hp,aF,aG,eV,h0,hc,Sk,and_self,decide_true,p8,f6]
 |false=>
  cases h1:(pv == 1) with
  |true=>
   refine⟨c%10^9,λq S=>?_⟩
   unfold vE E8;simp only[↓ev,hp,aF,aG,eV,h0,h1,hc,Sk,and_self,decide_true,p9,f6]
  |false=>
   refine⟨bC ns (k+1) 3 30,λq S=>?_⟩
   unfold vE E8;simp only[↓ev,hp,aF,aG,eV,h0,h1,d1,f6]
end
section
variable{ns:List Int}{k kd mk fi ob tb oc ln AU cl:Int}{bl nl cs c1 n1:List D}{f bag b ct:Str}{S:aT}
structure Ht (ns:List Int) (k kd mk fi ob tb oc ln AU cl:Int) (bl nl cs c1 n1:List D) (f bag b ct:Str):Prop where
 hp:Pr kW [.d (bj ns),aQ k,aQ 20] (rd (.int kd))
 ht:Pr m7 [.d (bj ns),aQ k,aQ 10] (rd (.int mk))
 hi:(mk == 9)=true/\fi=6\/(mk == 9)=false/\fi=mk%3
 hf:Pr z6 [.d (bj ns),aQ fi] (rd (.str f))
 ho:Pr jQ [.d (bj ns),aQ k,aQ 13] (rd (.int ob))
 hb:Pr z8 [.d (bj ns),aQ ob] (rd (.str bag))
 hc:∀q S,aZ (ae 0) (fq true) (Fb q) bl [none] S []=some (.ok nl S)
 k1:cutD cs none (some 1)=c1
 k2:cutD nl none (some 1)=n1
 a1:(nl.length+nl.length<=1000000)=True
 a2:(nl.length+nl.length+c1.length<=1000000)=True
 a3:(cs.length+n1.length<=1000000)=True
 ll:(nl.length:Int)=ln
 lc:((cs.length+n1.length:Nat):Int)=AU
 hm:(-2^64<(2:Int)/\(2:Int)<2^64 \/ -2^64<ln/\ln<2^64)=True
 AM:Pr m7 [.d (bj ns),aQ (k+1),aQ (2*ln+1)] (rd (.int tb))
 rZ:d_ (nl++(nl++c1)) tb=some (.str b)
 uO:Pr jQ [.d (bj ns),aQ (k+1),aQ AU] (rd (.int oc))
 AH:d_ (cs++n1) oc=some (.str ct)
 tZ:Pr vE [.d (bj ns),aQ k] (rd (.int cl))
abbrev tR(ns:List Int)(k kd mk cl:Int)(bl nl cs n1:List D)(f bag b ct:Str):Gm:=[ak (bj ns),bY k,ak (.tup [.lst bl,.lst cs]),bY kd,bY mk,bh f,bh bag,ak (.lst nl),bh b,ak (.lst (cs++n1)),ak (.tup [.str "flight",.str f,.str ct,.int cl])]
def tN(x:Ht ns k kd mk fi ob tb oc ln AU cl bl nl cs c1 n1 f bag b ct)(rest:GS):IA rest 0 [ak (bj ns),bY k,ak (.tup [.lst bl,.lst cs]),none,none,none,none,none,none,none,none] S=rest (tR ns k kd mk cl bl nl cs n1 f bag b ct) S:=by
 obtain⟨hp,ht,hi,hf,ho,hb,hc,k1,k2,a1,a2,a3,ll,lc,hm,AM,rZ,uO,AH,tZ⟩:=x;have m3:((0:Int)<3)=True:=bu (by decide)
 unfold IA;rcases hi with⟨h9,rfl⟩|⟨h9,rfl⟩
 .simp only[↓ev,hp,aF,ht,aG,eV,h9,hf,ho,hb,bA,iy,hc,a1,bX,k1,Ds,a2,yb,ll,hm,AM,rZ,k2,a3,lc,uO,AH,tZ]
 .simp only[↓ev,hp,aF,ht,aG,eV,h9,m3,decide_true,hf,ho,hb,bA,iy,hc,a1,bX,k1,Ds,a2,yb,ll,hm,AM,rZ,k2,a3,lc,uO,AH,tZ]
end
noncomputable def kJ(m:Int):D:=.tup [.str "turn",.int m]
def xp(ds:List D):Prop:=ds.length<=2/\∀d∈ds,iO d\/∃m:Int,1<=m/\m<=12/\d=kJ m
section
variable{ns:List Int}{k kd mk fi ob tb oc ln AU cl:Int}{bl nl cs c1 n1:List D}{f bag b ct:Str}{S:aT}{v v2:Bool}
def tO{ds:List D}(e:p6 0 [ak (bj ns),bY k,ak hd,none,none,none,none,none,none,none,none] S=some (.rt (.o (.lst ds)) S)):xQ 0 [.d (bj ns),aQ k,.d hd] S=some (.ok (.o (.lst ds)) S):=by
 unfold xQ aR;generalize p6 0=ml at *;simp only[↓ev,e,f6]
def O6(x:Ht ns k kd mk fi ob tb oc ln AU cl bl nl cs c1 n1 f bag b ct)(k0:0<=kd)(k20:kd<20)(hv:jJ bag v/\uQ bag v)(nu:jJ f v2/\uQ f v2){o3 t1 bg:Int}(h3:Pr jQ [.d (bj ns),aQ (k+1),aQ 3] (rd (.int o3)))(vW:d_ bl 0=some (aw bt))(hbg:(9<bt.long)=True/\bg=12\/(9<bt.long)=False/\bg=4)(CP:Pr m7 [.d (bj ns),aQ (k+1),aQ bg] (rd (.int t1)))(ht1:0<=t1/\t1<12):∃ds,xp ds/\xQ 0 [.d (bj ns),aQ k,.d (.tup [.lst bl,.lst cs])] S=some (.ok (.o (.lst ds)) S):=by
 have tZ:=x.tZ;have one:∀{d:D},iO d->xp [d]:=λ{d} hd=>⟨by simp,λz m=>by rw[lL.mp m];exact .inl hd⟩
 by_cases c3:kd<3
 .have q1:=bu c3;refine⟨_,one (.oA (ct:=ct) (cl:=cl) nu.1 nu.2),tO ?_⟩;unfold p6;rw[tN x];unfold rD;clear x;simp only[↓ev,tR,q1,decide_true,aF,aG]
 have q1:=eq_false c3;cases e3:(kd == 3) with
 |true=>
  refine⟨_,one (.change (cl:=cl) nu.1),tO ?_⟩;unfold p6;rw[tN x];unfold rD;clear x;simp only[↓ev,tR,q1,decide_false,aG,eV,e3,tZ,aF]
 |false=>
 cases e4:(kd == 4) with
 |true=>
  refine⟨_,one (.off nu.1),tO ?_⟩;unfold p6;rw[tN x];unfold rD;clear x;simp only[↓ev,tR,q1,decide_false,aG,eV,e3,e4,aF]
 |false=>
 cases e5:(kd == 5) with
 |true=>
  refine⟨[.tup [.str "off",.str f],.tup [.str "flight",.str f,.str ct,.int cl]],⟨by simp,λz m=>?_⟩,tO ?_⟩
  .rcases y09.mp m with rfl|m
   .exact .inl (.off nu.1)
   .rw[lL.mp m];exact .inl (.oA nu.1 nu.2)
  .unfold p6;rw[tN x];unfold rD;clear x;simp only[↓ev,tR,q1,decide_false,aG,eV,e3,e4,e5,aF]
 |false=>
 by_cases O9:kd<11
 .have q2:=bu O9;cases e0:(o3 == 0) with
  |true=>
   refine⟨[.tup [.str "put",.str bag,.aI,.str b]],one (.put (fl:=none) (v2:=true) hv.1 hv.2 λ_ z=>by cases z),tO ?_⟩
   unfold p6;rw[tN x];unfold rD;clear x;simp only[↓ev,tR,q1,decide_false,aG,eV,e3,e4,e5,q2,decide_true,h3,e0,aF]
  |false=>
   refine⟨[.tup [.str "put",.str bag,.str f,.str b]],one (.put (fl:=some f) hv.1 hv.2 λ_ z=>by cases z;exact nu.1),tO ?_⟩
   unfold p6;rw[tN x];unfold rD;clear x;simp only[↓ev,tR,q1,decide_false,aG,eV,e3,e4,e5,q2,decide_true,h3,e0,aF]
 have q2:=eq_false O9;cases CG:(kd == 11) with
 |true=>
  refine⟨_,one (.read hv.1 nu.1),tO ?_⟩;unfold p6;rw[tN x];unfold rD;clear x;simp only[↓ev,tR,q1,decide_false,aG,eV,e3,e4,e5,q2,CG,aF]
 |false=>
 have n11:kd≠11:=by rw[qJ] at CG;exact CG
 by_cases TN:kd<14
 .rcases(show kd=12\/kd=13 by lia) with rfl|rfl
  .refine⟨_,one (.stop (b:=b)),tO ?_⟩;unfold p6;rw[tN x];unfold rD;rfl
  .refine⟨_,one (.start (b:=b)),tO ?_⟩;unfold p6;rw[tN x];unfold rD;rfl
 have q3:=eq_false TN;refine⟨[kJ (1+t1)],⟨by simp,λz m=>by rw[lL.mp m];exact .inr ⟨1+t1,by lia,by lia,rfl⟩⟩,tO ?_⟩
 unfold p6;rw[tN x];unfold rD;clear x;unfold kJ;unfold aw at vW;rcases hbg with⟨h9,rfl⟩|⟨h9,rfl⟩
 .simp only[↓ev,tR,q1,decide_false,aG,eV,e3,e4,e5,q2,CG,q3,bA,vW,bX,h9,decide_true,CP,aF]
 .simp only[↓ev,tR,q1,decide_false,aG,eV,e3,e4,e5,q2,CG,q3,bA,vW,bX,h9,CP,aF]
end
def Qg(ds:List D):cutD ds none (some 1)=ds.take 1:=by
 grind [cutD,HT.cS]
section
variable{ns:List Int}{h:az}
def Zi(g:aJ h)(b0:0<h.af.length)(k:Nat)(hk:k<900)(S:aT):∃ds,xp ds/\xQ 0 [.d (bj ns),aQ (k:Int),.d (av h)] S=some (.ok (.o (.lst ds)) S):=by
 have bl:=g.sm.bl;have ct:=g.sm.ct;have c0:=g.c0;obtain⟨_,p0,p1⟩:=il ns k 0 20 (by lia) (by decide) (by decide)
 have hp:=yi ns k 20 (by lia) (by decide)
 obtain⟨_,t0,t1⟩:=il ns k 2 10 (by lia) (by decide) (by decide)
 have ht:=xZ ns k 10 (by lia) (by decide)
 obtain⟨_,o0,o1⟩:=il ns k 1 13 (by lia) (by decide) (by decide)
 have ho:=vH ns k 13 (by lia) (by decide)
 obtain⟨fn,C0,hfi⟩:∃fn:Nat,fn<20/\((bC ns k 2 10 == 9)=true/\(fn:Int)=6\/(bC ns k 2 10 == 9)=false/\(fn:Int)=bC ns k 2 10%3):=by
  cases e:(bC ns k 2 10 == 9) with
  |true=>exact⟨6,by decide,.inl ⟨rfl,rfl⟩⟩
  |false=>exact⟨(bC ns k 2 10%3).toNat,by lia,.inr ⟨rfl,by lia⟩⟩
 obtain⟨f,v2,hf,nu⟩:=Zg (ns:=ns) fn C0;obtain⟨bag,v,hb,hv⟩:=Zh (ns:=ns) (bC ns k 1 13).toNat (by lia)
 rw[Int.toNat_of_nonneg o0] at hb;obtain⟨cl,tZ⟩:=T2 (ns:=ns) k hk;have comp:∀q S,aZ (ae 0) (fq true) (Fb q) (h.af.map aw) [none] S []=some (.ok (dS (h.af.map ax.name)) S):=λq S=>by
  rw[ox (λb=>.str b.name) h.af (by lia) λb m=>⟨rd (.str b.name),by unfold Fb aw;simp only[↓ev,bA],rfl⟩,dS,dh]
  rfl
 obtain⟨_,tb0,tb1⟩:=il ns (k+1) 2 (2*(h.af.length:Int)+1) (by lia) (by decide) (by lia)
 have AM:=xZ ns (k+1) (2*(h.af.length:Int)+1) (by lia) (by lia)
 obtain⟨_,oc0,oc1⟩:=il ns (k+1) 1 (((h.carts.length+1:Nat)):Int) (by lia) (by decide) (by lia)
 have uO:=vH ns (k+1) (((h.carts.length+1:Nat)):Int) (by lia) (by lia)
 have h3:=vH ns (k+1) 3 (by lia) (by decide)
 have CP:=xZ ns (k+1) 12 (by lia) (by decide)
 have h4:=xZ ns (k+1) 4 (by lia) (by decide)
 obtain⟨_,a0,a1⟩:=il ns (k+1) 2 12 (by lia) (by decide) (by decide)
 obtain⟨_,SI,b1⟩:=il ns (k+1) 2 4 (by lia) (by decide) (by decide)
 rw[show((k+1:Nat):Int)=(k:Int)+1 by lia] at AM uO h3 CP h4
 have y8:(h.carts.take 1).length=1:=by rw[wZ];lia
 have Sd:((h.af.map ax.name).take 1).length=1:=by rw[wZ,bq];lia
 have rZ:=F1 (xs:=h.af.map ax.name++(h.af.map ax.name++h.carts.take 1)) (k:=bC ns (k+1) 2 (2*(h.af.length:Int)+1)) tb0 (by rw[dZ,dZ,bq,y8];lia)
 have AH:=F1 (xs:=h.carts++(h.af.map ax.name).take 1) (k:=bC ns (k+1) 1 (((h.carts.length+1:Nat)):Int)) oc0 (by rw[dZ,Sd];lia)
 generalize(h.af.map ax.name++(h.af.map ax.name++h.carts.take 1)).getD (bC ns (k+1) 2 (2*(h.af.length:Int)+1)).toNat ""=bb at *;generalize(h.carts++(h.af.map ax.name).take 1).getD (bC ns (k+1) 1 (((h.carts.length+1:Nat)):Int)).toNat ""=cc at *;rw[dS,fZ,fZ,<-dS,<-dS] at rZ;rw[dS,fZ,<-dS,<-dS] at AH;have D:Ht ns k (bC ns k 0 20) (bC ns k 2 10) fn (bC ns k 1 13) (bC ns (k+1) 2 (2*(h.af.length:Int)+1)) (bC ns (k+1) 1 (((h.carts.length+1:Nat)):Int)) h.af.length (((h.carts.length+1:Nat)):Int) cl (h.af.map aw) (dS (h.af.map ax.name)) (dS h.carts) (dS (h.carts.take 1)) (dS ((h.af.map ax.name).take 1)) f bag bb cc:=⟨hp,ht,hfi,hf,ho,hb,comp,by rw[Qg,dS,dS,Mx],by rw[Qg,dS,dS,Mx],bu (by simp;lia),bu (by simp;lia),bu (by simp;lia),by simp,by rw[bq,bq,Sd],bu (.inl (by decide)),AM,rZ,uO,AH,tZ⟩
 obtain⟨bt,yL,ab⟩:∃bt∈h.af,d_ (h.af.map aw) 0=some (aw bt):=by
  cases e:h.af with
  |nil=>rw[e] at b0;simp at b0
  |cons z zs=>exact⟨z,.head _,bA⟩
 by_cases h9:9<bt.long
 .exact O6 D p0 p1 hv nu h3 ab (.inl ⟨bu h9,rfl⟩) CP ⟨a0,a1⟩
 .exact O6 D p0 p1 hv nu h3 ab (.inr ⟨eq_false h9,rfl⟩) h4 ⟨SI,by lia⟩
end
variable{hd:D}
noncomputable def kG(a b c d e:D):List (TK×D):=[(TK.inr "now",a),(TK.inr "flights",b),(TK.inr "still",c),(TK.inr "inside",d),(TK.inr "gone",e)]
section
variable{a b c d e y:D}
def JI:aO (kG a b c d e) (.inr "now")=some a:=by kernel_rfl
def lD:aO (kG a b c d e) (.inr "flights")=some b:=by kernel_rfl
def FK:aO (kG a b c d e) (.inr "still")=some c:=by kernel_rfl
def iS:aO (kG a b c d e) (.inr "inside")=some d:=by kernel_rfl
def rH:aO (kG a b c d e) (.inr "gone")=some e:=by kernel_rfl
def e7e:bS (kG a b c d e) (.inr "now") y=kG y b c d e:=by kernel_rfl
def O7:bS (kG a b c d e) (.inr "still") y=kG a b y d e:=by kernel_rfl
end
abbrev stC(x:Hl)(T:List Str):Cell:=.o (.aA (kG (.int x.now) (.ref 8) (.lst (dS T)) (.ref 9) (.ref 10)))
noncomputable def yG(p:Str×Str×Int):D:=.tup [.str p.2.1,.int p.2.2]
abbrev jx(l:List (Str×Str×Int)):List (TK×D):=td (·.1) yG l
def kE(w:Row):List D:=[aM w.fl,pl w.b w.i,.int w.gn]
def inD(L:List (Row×Nat)):List (TK×D):=td (λp=>p.1.bag) (λp=>.ref (p.2+11)) L
abbrev lB(x:Hl)(L:List (Row×Nat))(C:List Cell):List Cell:=.o (.aA (jx x.book))::.o (.aA (inD L))::.o (.lst (jz x.gone))::C
abbrev lS(hd:D)(r:Int)(x y:Hl)(L:List (Row×Nat))(C:List Cell)(T:List Str)(s:List Cell):aT:=hS (lB x L C) hd r y (stC x T::s)
structure Ss (n:Nat) (x:Hl) (L:List (Row×Nat)) (C:List Cell) (T:List Str):Prop where
 rows:L.map (·.1)=x.rows
 nd:(L.map (·.2)).Nodup
 at_:∀p∈L,C[p.2]?=some (.o (.lst (kE p.1)))
 tl:T.length<=n
 tm:∀b,T.contains b=x.halts.contains b
 bv:∀p∈x.book,mO p.1
def jG{a0 a1 a2 a3 a4 a5 a6 a7 a8 a9 qx:Cell}{C:List Cell}{k:Nat}:(a0::a1::a2::a3::a4::a5::a6::a7::a8::a9::qx::C)[k+11]?=C[k]?:=rfl
section
variable{s C:List Cell}{h:az}{r cl:Int}{x y:Hl}{n q:Nat}{L:List (Row×Nat)}{T:List Str}{f ct b bag:Str}{v v2:Bool}{fl:ai Str}
def Vf(hl:uQ f v):uo q [.d (av h),.c 0,.d (.tup [.str "flight",.str f,.str ct,.int cl])] (lS (av h) r x y L C T s)=some (.ok (rd (.str (wd (JO v (cz x f) ((h.carts.drop 1).contains ct) (decide (cl<0)))))) (lS (av h) r x y L C T s)):=by
 have i:(aO (jx x.book) (.inr f)).isSome=cz x f:=qa;have cu:cutD (dS h.carts) (some 1) none=dS (h.carts.drop 1):=by rw[show(1:Int)=((1:Nat):Int) from rfl,IV,dS,dS,Em]
 have hD:av h=.tup [.lst (h.af.map aw),.lst (dS h.carts)]:=rfl;rw[hD];unfold uo EX;cases v with
 |false=>simp only[↓ev,bX,aF,bA,aG,dm,cT,hl,bL,hR,lB];rfl
 |true=>
  cases h1:cz x f with
  |true=>rw[h1] at i;simp only[↓ev,bX,aF,bA,aG,dm,cT,hl,lD,hR,lB,i,bL];rfl
  |false=>
   rw[h1] at i;cases h2:(h.carts.drop 1).contains ct with
   |false=>simp only[↓ev,bX,aF,bA,aG,dm,cT,hl,lD,hR,lB,i,eP,cu,fj,eS,h2,ja,bL];rfl
   |true=>
    by_cases hc:cl<0
    .rw[nK hc];have hc:=bu hc;simp only[↓ev,bX,aF,bA,aG,dm,cT,hl,lD,hR,lB,i,eP,cu,fj,eS,h2,e_,ow,hc,decide_true,bL];rfl
    .rw[oM hc];have hc:=eq_false hc;simp only[↓ev,bX,aF,bA,aG,dm,cT,hl,lD,hR,lB,i,eP,cu,fj,eS,h2,e_,ow,hc,decide_false,bL];rfl
def Vg:uo q [.d hd,.c 0,.d (.tup [.str "change",.str f,.int cl])] (lS hd r x y L C T s)=some (.ok (rd (.str (wd (JN (cz x f) (decide (cl<0)))))) (lS hd r x y L C T s)):=by
 have i:(aO (jx x.book) (.inr f)).isSome=cz x f:=qa;unfold uo EX;cases h1:cz x f with
 |false=>rw[h1] at i;simp only[↓ev,bX,aF,bA,aG,dm,lD,hR,lB,i,ja,bL];rfl
 |true=>
  rw[h1] at i;by_cases hc:cl<0
  .rw[nK hc];have hc:=bu hc;simp only[↓ev,bX,aF,bA,aG,dm,lD,hR,lB,i,e_,cT,eP,hc,decide_true,bL];rfl
  .rw[oM hc];have hc:=eq_false hc;simp only[↓ev,bX,aF,bA,aG,dm,lD,hR,lB,i,e_,cT,eP,hc,decide_false,bL];rfl
def e7f:uo q [.d hd,.c 0,.d (.tup [.str "off",.str f])] (lS hd r x y L C T s)=some (.ok (rd (.str (wd (if cz x f=true then 0 else 104)))) (lS hd r x y L C T s)):=by
 have i:(aO (jx x.book) (.inr f)).isSome=cz x f:=qa;unfold uo EX;cases h1:cz x f with
 |false=>rw[h1] at i;simp only[↓ev,bX,aF,bA,aG,dm,lD,hR,lB,i,ja,bL];rfl
 |true=>rw[h1] at i;simp only[↓ev,bX,aF,bA,aG,dm,lD,hR,lB,i,e_,bL];rfl
def Cg(bl:h.af.length<=1000):aZ (ae 0) (fq true) (Ir q) (h.af.map aw) [none] S []=some (.ok (dS (h.af.map ax.name)) S):=by
 rw[ox (λb=>.str b.name) h.af (by lia) λb m=>⟨rd (.str b.name),by unfold Ir aw;simp only[↓ev,bA],rfl⟩,dS,dh]
 rfl
end
def ia0:([.str "flight",.str "change",.str "off"]:List D).any (λz=>ec z (.str "flight"))=true:=by kernel_rfl
def ia1:([.str "flight",.str "change",.str "off"]:List D).any (λz=>ec z (.str "change"))=true:=by kernel_rfl
def ia2:([.str "flight",.str "change",.str "off"]:List D).any (λz=>ec z (.str "off"))=true:=by kernel_rfl
def R0:([.str "flight",.str "change",.str "off"]:List D).any (λz=>ec z (.str "stop"))=false:=by kernel_rfl
def R4:([.str "stop",.str "start"]:List D).any (λz=>ec z (.str "stop"))=true:=by kernel_rfl
def R3:([.str "flight",.str "change",.str "off"]:List D).any (λz=>ec z (.str "start"))=false:=by kernel_rfl
def R5:([.str "stop",.str "start"]:List D).any (λz=>ec z (.str "start"))=true:=by kernel_rfl
def KY:([.str "flight",.str "change",.str "off"]:List D).any (λz=>ec z (.str "read"))=false:=by kernel_rfl
def KZ:([.str "stop",.str "start"]:List D).any (λz=>ec z (.str "read"))=false:=by kernel_rfl
def t7:([.str "flight",.str "change",.str "off"]:List D).any (λz=>ec z (.str "put"))=false:=by kernel_rfl
def t8:([.str "stop",.str "start"]:List D).any (λz=>ec z (.str "put"))=false:=by kernel_rfl
section
variable{s C:List Cell}{h:az}{r cl:Int}{x y:Hl}{n q:Nat}{L:List (Row×Nat)}{T:List Str}{f ct b bag:Str}{v v2:Bool}{fl:ai Str}
def Ss.l0(o:Ss n x L C T):L.map (λp=>p.1.bag)=x.rows.map Row.bag:=by
 rw[<-o.rows,dh];rfl
def Q2(o:Ss n x L C T):(aO (inD L) (.inr bag)).isSome=(x.rows.map Row.bag).contains bag:=by
 unfold inD;rw[qa,o.l0]
def JJ{k:Str}{ds:List D}{w:D}(hk:k="flight"\/k="change"\/k="off")(bl:h.af.length<=1000)(e:∀q,uo q [.d (av h),.c 0,.d (.tup (.str k::ds))] (lS (av h) r x y L C T s)=some (.ok (rd w) (lS (av h) r x y L C T s))):nQ 0 [.d (av h),.c 0,.d (.tup (.str k::ds))] (lS (av h) r x y L C T s)=some (.ok (rd w) (lS (av h) r x y L C T s)):=by
 have p:=λq=>Cg (q:=q) bl (S:=lS (av h) r x y L C T s)
 unfold av at *;unfold nQ An;rcases hk with rfl|rfl|rfl
 .simp only[↓ev,bA,p,aF,aG,ia0,e,bL,hR,lB]
 .simp only[↓ev,bA,p,aF,aG,ia1,e,bL,hR,lB]
 .simp only[↓ev,bA,p,aF,aG,ia2,e,bL,hR,lB]
def Zj(bl:h.af.length<=1000):nQ 0 [.d (av h),.c 0,.d (.tup [.str "stop",.str b])] (lS (av h) r x y L C T s)=some (.ok (rd (.str (wd (if hasB h b=true then 0 else 116)))) (lS (av h) r x y L C T s)):=by
 have p:=λq=>Cg (q:=q) bl (S:=lS (av h) r x y L C T s)
 unfold av at *;unfold nQ An;cases hb:hasB h b with
 |true=>simp only[↓ev,bA,p,aF,aG,R0,R4,bX,fj,eS,hb,bL,hR,lB];rfl
 |false=>simp only[↓ev,bA,p,aF,aG,R0,R4,bX,fj,eS,hb,bL,hR,lB];rfl
def WW(bl:h.af.length<=1000):nQ 0 [.d (av h),.c 0,.d (.tup [.str "start",.str b])] (lS (av h) r x y L C T s)=some (.ok (rd (.str (wd (if hasB h b=true then 0 else 116)))) (lS (av h) r x y L C T s)):=by
 have p:=λq=>Cg (q:=q) bl (S:=lS (av h) r x y L C T s)
 unfold av at *;unfold nQ An;cases hb:hasB h b with
 |true=>simp only[↓ev,bA,p,aF,aG,R3,R5,bX,fj,eS,hb,bL,hR,lB];rfl
 |false=>simp only[↓ev,bA,p,aF,aG,R3,R5,bX,fj,eS,hb,bL,hR,lB];rfl
def Zk(bl:h.af.length<=1000)(o:Ss n x L C T):nQ 0 [.d (av h),.c 0,.d (.tup [.str "read",.str bag,.str f])] (lS (av h) r x y L C T s)=some (.ok (rd (.str (wd (JT ((x.rows.map Row.bag).contains bag) (cz x f))))) (lS (av h) r x y L C T s)):=by
 have p:=λq=>Cg (q:=q) bl (S:=lS (av h) r x y L C T s)
 have i1:=Q2 (bag:=bag) o;have i2:(aO (jx x.book) (.inr f)).isSome=cz x f:=qa;unfold av at *;unfold nQ An;cases h1:(x.rows.map Row.bag).contains bag with
 |false=>rw[h1] at i1;simp only[↓ev,bA,p,aF,aG,KY,KZ,dm,cT,bX,iS,hR,lB,i1,ja,bL];rfl
 |true=>
  rw[h1] at i1;cases h2:cz x f with
  |false=>rw[h2] at i2;simp only[↓ev,bA,p,aF,aG,KY,KZ,dm,cT,bX,iS,hR,lB,i1,e_,eP,lD,i2,bL];rfl
  |true=>rw[h2] at i2;simp only[↓ev,bA,p,aF,aG,KY,KZ,dm,cT,bX,iS,hR,lB,i1,e_,eP,lD,i2,bL];rfl
def WX(hl:x.gone.length<=1000):aZ (ae 0) (fq true) (Iu q) (jz x.gone) [none] S []=some (.ok (dS (x.gone.map (·.1))) S):=by
 unfold jz;rw[ox (λp=>.str p.1) x.gone (by lia) λp m=>⟨rd (.str p.1),by unfold Iu t3;simp only[↓ev,bA],rfl⟩,dS,dh]
 rfl
def WY(o:Ss n x L C T)(hl:L.length<=1000):aZ (ae 0) (fq true) (Iv q) ((inD L).map (·.2)) [none] (lS hd r x y L C T s) []=some (.ok (L.map λp=>pl p.1.b p.1.i) (lS hd r x y L C T s)):=by
 unfold inD td;rw[dh];rw[show((λx:TK×D=>x.2)∘λp:Row×Nat=>(TK.inr p.1.bag,D.ref (p.2+11)))=λp=>D.ref (p.2+11) from rfl]
 rw[ox (λp:Row×Nat=>pl p.1.b p.1.i) L (by lia) λp m=>⟨rd (pl p.1.b p.1.i),by
  have e:=o.at_ p m;unfold Iv;unfold kE at e;generalize aM p.1.fl=ff at *;simp only[↓ev,hR,lB,jG,e,bX],rfl⟩]
def Zl(o:Ss n x L C T):(L.map λp=>pl p.1.b p.1.i).any (λz=>ec z (pl b 0))=wo x.rows b:=by
 rw[<-O4,<-o.rows];unfold gY td;rw[dh,dh];rfl
def e7g:(L.map λp=>pl p.1.b p.1.i).all (fX 40)=true:=by
 rw[xa];exact jX.mpr λw _=>rfl
def e7h(bl:h.af.length<=1000)(o:Ss n x L C T)(hn:x.gone.length<=1000)(KC:L.length<=1000)(hl:uQ bag v):nQ 0 [.d (av h),.c 0,.d (.tup [.str "put",.str bag,aM fl,.str b])] (lS (av h) r x y L C T s)=some (.ok (rd (.str (wd (JS v ((x.rows.map Row.bag).contains bag) ((x.gone.map (·.1)).contains bag) (oz x true fl) (hasB h b) (wo x.rows b))))) (lS (av h) r x y L C T s)):=by
 have p:=λq=>Cg (q:=q) bl (S:=lS (av h) r x y L C T s)
 have e1:=λq=>WX (q:=q) (S:=lS (av h) r x y L C T s) hn
 have e2:=λq=>WY (q:=q) (r:=r) (y:=y) (s:=s) (hd:=av h) o KC
 have i1:=Q2 (bag:=bag) o;have va:=Zl (b:=b) o;have vo:=e7g (L:=L);have tx:dX (inD L)=true:=qC;have i2:∀f,(aO (jx x.book) (.inr f)).isSome=cz x f:=λf=>qa
 unfold av at *;unfold nQ An;generalize(L.map λp=>pl p.1.b p.1.i)=pls at *
 cases v with
 |false=>simp only[↓ev,bA,p,aF,aG,t7,t8,dm,cT,bX,hl,bL,hR,lB];rfl
 |true=>
 cases h1:(x.rows.map Row.bag).contains bag with
 |true=>rw[h1] at i1;simp only[↓ev,bA,p,aF,aG,t7,t8,dm,cT,bX,hl,iS,hR,lB,i1,bL];rfl
 |false=>
 rw[h1] at i1;cases h2:(x.gone.map (·.1)).contains bag with
 |true=>simp only[↓ev,bA,p,aF,aG,t7,t8,dm,cT,bX,hl,iS,hR,lB,i1,rH,e1,fj,eS,h2,bL];rfl
 |false=>
 cases h3:oz x true fl with
 |false=>
  cases fl with
  |none=>cases h3
  |some f=>
   have i2:=i2 f;rw[show cz x f=false from h3] at i2;unfold aM;simp only[↓ev,bA,p,aF,aG,t7,t8,dm,cT,bX,hl,iS,hR,lB,i1,rH,e1,fj,eS,h2,eP,lD,i2,ja,bL];rfl
 |true=>
 cases hb:hasB h b with
 |false=>
  cases fl with
  |none=>
   unfold aM;simp only[↓ev,bA,p,aF,aG,t7,t8,dm,cT,bX,hl,iS,hR,lB,i1,rH,e1,fj,eS,h2,eP,ow,hb,ja,bL];rfl
  |some f=>
   have i2:=i2 f;rw[show cz x f=true from h3] at i2;unfold aM;simp only[↓ev,bA,p,aF,aG,t7,t8,dm,cT,bX,hl,iS,hR,lB,i1,rH,e1,fj,eS,h2,eP,lD,i2,e_,ow,hb,ja,bL];rfl
 |true=>
 cases ho:wo x.rows b with
 |false=>
  rw[ho] at va;cases fl with
  |none=>
   unfold aM;simp only[↓ev,bA,p,aF,aG,t7,t8,dm,cT,bX,hl,iS,hR,lB,i1,rH,e1,fj,eS,h2,eP,ow,hb,e_,tx,e2,vo,va,bL];rfl
  |some f=>
   have i2:=i2 f;rw[show cz x f=true from h3] at i2;unfold aM;simp only[↓ev,bA,p,aF,aG,t7,t8,dm,cT,bX,hl,iS,hR,lB,i1,rH,e1,fj,eS,h2,eP,lD,i2,e_,ow,hb,tx,e2,vo,va,bL];rfl
 |true=>
  rw[ho] at va;cases fl with
  |none=>
   unfold aM;simp only[↓ev,bA,p,aF,aG,t7,t8,dm,cT,bX,hl,iS,hR,lB,i1,rH,e1,fj,eS,h2,eP,ow,hb,e_,tx,e2,vo,va,bL];rfl
  |some f=>
   have i2:=i2 f;rw[show cz x f=true from h3] at i2;unfold aM;simp only[↓ev,bA,p,aF,aG,t7,t8,dm,cT,bX,hl,iS,hR,lB,i1,rH,e1,fj,eS,h2,eP,lD,i2,e_,ow,hb,tx,e2,vo,va,bL];rfl
end
section
variable{a0 a1 a2 a3 a4 a5 a6 a7 a8 a9 qx c:Cell}{C:List Cell}{k:Nat}
def sS:(a0::a1::a2::a3::a4::a5::a6::a7::a8::a9::qx::C).set (k+11) c=a0::a1::a2::a3::a4::a5::a6::a7::a8::a9::qx::C.set k c:=rfl
def K':(a0::a1::a2::a3::a4::a5::a6::a7::a8::a9::qx::C).length=C.length+11:=rfl
def Ij:(a0::a1::a2::a3::a4::a5::a6::a7::a8::a9::qx::C)++[c]=a0::a1::a2::a3::a4::a5::a6::a7::a8::a9::qx::(C++[c]):=rfl
end
def JV{a b:Cell}{s R:List Cell}:aT.cut ⟨a::s,R⟩ (b::s).length=⟨a::s,R⟩:=by
 show(⟨a::s.take s.length,R⟩:aT)=_
 simp_all
def lM(hd:D)(r:Int)(n:Nat)(x x' y:Hl)(L:List (Row×Nat))(C:List Cell)(T:List Str)(s:List Cell)(d:D):Prop:=∃L' C' T',rK 0 [.c 0,.d d] (lS hd r x y L C T s)=some (.ok (rd .aI) (lS hd r x' y L' C' T' s))/\Ss (n+1) x' L' C' T'
section
variable{s C:List Cell}{r cl:Int}{x y:Hl}{n q:Nat}{L:List (Row×Nat)}{T:List Str}{f ct b bag:Str}{fl:ai Str}{hd:D}
def Vh(o:Ss n x L C T)(hl:x.book.length<=1000)(hf:cz x f=false)(hn:mO f):lM hd r n x { x with book:=x.book++[(f,ct,cl)]} y L C T s (.tup [.str "flight",.str f,.str ct,.int cl]):=by
 have p:bS (jx x.book) (.inr f) (.tup [.str ct,.int cl])=jx (x.book++[(f,ct,cl)]):=Cf (x:=(f,ct,cl)) (BM hf);have l1:((jx x.book).length<1000000)=True:=bu (by rw[kX];lia)
 refine⟨L,C,T,?_,o.rows,o.nd,o.at_,Bg o.tl,o.tm,λq m=>?_⟩
 .unfold rK vM;simp only[↓ev,bA,aG,dm,cT,eP,ow,aF,lD,bX,hR,lB,l1,p,bL]
 .rcases gZ.mp m with m|m
  .exact o.bv q m
  .rw[lL.mp m];exact hn
def Vi(o:Ss n x L C T)(bn:(x.book.map (·.1)).Nodup)(hl:x.book.length<=1000)(hf:cz x f=true):lM hd r n x { x with book:=x.book.map λz=>if z.1=f then(f,z.2.1,cl) else z} y L C T s (.tup [.str "change",.str f,.int cl]):=by
 have hm:=rA hf;obtain⟨p,hp,ep⟩:=fy.mp hm;have v0:aO (jx x.book) (.inr f)=some (.tup [.str p.2.1,.int p.2.2]):=by rw[<-ep];exact ip bn hp
 have pu:bS (jx x.book) (.inr f) (.tup [.str p.2.1,.int cl])=jx (x.book.map λz=>if z.1=f then(f,z.2.1,cl) else z):=by
  unfold jx;rw[Ax bn hm];unfold td;rw[dh];refine mJ λz mz=>?_
  dsimp only[Function.comp];by_cases e:z.1=f
  .rw[bJ e,bJ e,nc (f:=λp:Str×Str×Int=>p.1) bn mz hp (by rw[e,ep]),ep]
   rfl
  .rw[br e,br e]
 have l1:((jx x.book).length<1000000)=True:=bu (by rw[kX];lia)
 refine⟨L,C,T,?_,o.rows,o.nd,o.at_,Bg o.tl,o.tm,λq m=>?_⟩
 .unfold rK vM;simp only[↓ev,bA,aG,dm,aF,cT,lD,bX,hR,lB,v0,eP,l1,pu,bL]
 .obtain⟨z,mz,rfl⟩:=fy.mp m;split
  .rename_i e;rw[<-e];exact o.bv z mz
  .exact o.bv z mz
def e7i(o:Ss n x L C T)(hl:L.length<=1000)(hb:(x.rows.map Row.bag).contains bag=false):lM hd r n x { x with rows:=x.rows++[⟨bag,b,0,fl,0⟩]} y L C T s (.tup [.str "put",.str bag,aM fl,.str b]):=by
 have p:bS (inD L) (.inr bag) (.ref (C.length+11))=inD (L++[(⟨bag,b,0,fl,0⟩,C.length)]):=Cf (x:=((⟨bag,b,0,fl,0⟩:Row),C.length)) (by rw[o.l0];exact BM hb)
 have l1:((inD L).length<1000000)=True:=bu (by unfold inD;rw[kX];lia)
 have la:∀p∈L,p.2<C.length:=λp m=>(eQ.mp (o.at_ p m)).1
 refine⟨L++[(⟨bag,b,0,fl,0⟩,C.length)],C++[.o (.lst (kE ⟨bag,b,0,fl,0⟩))],T,?_,?_,?_,λp m=>?_,Bg o.tl,o.tm,o.bv⟩
 .unfold rK vM kE;generalize aM fl=ff at *;simp only[↓ev,bA,aG,dm,aF,cT,eP,ow,hR,lB,K',Ij,iS,bX,l1,p,bL]
 .rw[fZ,o.rows];rfl
 .rw[fZ];refine kQ.mpr ⟨o.nd,by simp,λa ma b mb e=>?_⟩
  grind
 .rcases gZ.mp m with m|m
  .rw[uc (la p m)];exact o.at_ p m
  simp_all
def NC(hl:T.length<=1000){d:D}:aZ (ae 0) (IQ q) (IS q) (dS T) [none,some (.d (.tup [d,.str b]))] S []=some (.ok (dS (T.filter λk=>decide (k≠b))) S):=by
 rw[dS,uD (λo=>if(o == b)=true then none else some (.str o)) T (by lia) λo m=>by
  unfold IQ IS;cases hc:(o == b) with
  |true=>exact .inl ⟨rfl,by simp only[↓ev,bX,hc,e_]⟩
  |false=>exact .inr ⟨rd (.str o),.str o,rfl,by simp only[↓ev,bX,hc,ja],by simp only[↓ev],rfl⟩]
 congr 2
 induction T with
 |nil=>rfl
 |cons o T ih=>grind
def Zs(o:Ss n x L C T)(hl:T.length<1000):lM hd r n x { x with halts:=g_ x.halts b} y L C T s (.tup [.str "stop",.str b]):=by
 have e:=λq S=>NC (T:=T) (b:=b) (q:=q) (d:=.str "stop") (S:=S) (by lia)
 have fl:=tu (λk=>decide (k≠b)) T
 have l1:((dS (T.filter λk=>decide (k≠b))).length+1<=1000000)=True:=bu (by rw[bq];lia)
 have l2:((kG (.int x.now) (.ref 8) (.lst (dS T)) (.ref 9) (.ref 10)).length<1000000)=True:=bu (by show 5<1000000;decide)
 refine⟨L,C,T.filter (λk=>decide (k≠b))++[b],?_,o.rows,o.nd,o.at_,?_,λk=>?_,o.bv⟩
 .unfold rK vM lS stC;rw[show dS (T.filter (λk=>decide (k≠b))++[b])=dS (T.filter λk=>decide (k≠b))++[.str b] from fZ]
  simp only[↓ev,lB,bA,aG,dm,aF,cT,FK,e,bX,l1,l2,O7,hR,JV]
 .have:=o.tl;rw[dZ,zP];lia
 .have h1:=o.tm k
  grind [OR]
def WZ(o:Ss n x L C T)(hl:T.length<1000):lM hd r n x { x with halts:=x.halts.filter λk=>decide (k≠b)} y L C T s (.tup [.str "start",.str b]):=by
 have e:=λq S=>NC (T:=T) (b:=b) (q:=q) (d:=.str "start") (S:=S) (by lia)
 have e:∀q S,aZ (ae 0) (Oy q) (Oz q) (dS T) [none,some (.d (.tup [.str "start",.str b]))] S []=_:=e;have fl:=tu (λk=>decide (k≠b)) T
 have l2:((kG (.int x.now) (.ref 8) (.lst (dS T)) (.ref 9) (.ref 10)).length<1000000)=True:=bu (by show 5<1000000;decide)
 refine⟨L,C,T.filter (λk=>decide (k≠b)),?_,o.rows,o.nd,o.at_,?_,λk=>?_,o.bv⟩
 .unfold rK vM;simp only[↓ev,bA,aG,dm,aF,cT,FK,e,l2,O7,hR,lB,JV]
 .have:=o.tl;lia
 .have h1:=o.tm k
  grind
end
variable{b0 b1 b2:Cell}{d0:D}
def ze:(max 0 1:Nat)=1:=rfl
def RZ:((0:Int)<((3:Nat):Int))=True:=bu (by decide)
section
variable{s C:List Cell}{r cl:Int}{x y:Hl}{n q a:Nat}{L:List (Row×Nat)}{T:List Str}{f ct b bag:Str}{fl:ai Str}{hd d:D}{w:Row}{c:Cell}
def e7j(h:C[a]?=some c):(C.set a c)=C:=by
 refine Hq λi=>?_
 rw[zX];split
 .rename_i e;subst e
  obtain⟨h1,_⟩:=eQ.mp h;rw[bJ h1,h]
 .rfl
def Q3(h:C[a]?=some (.o (.lst (kE w)))):(C.set a c)[a]?=some c:=by
 obtain⟨h1,_⟩:=eQ.mp h;rw[zX,bJ rfl,bJ h1]
def JK{F:Row×Nat->Row}(hF:∀q∈L,(F q).bag=q.1.bag):inD (L.map λq=>(F q,q.2))=inD L:=by
 grind [inD,td,List.map_congr_left]
def Zt(o:Ss n x L C T)(nb:(x.rows.map Row.bag).Nodup)(hb:(x.rows.map Row.bag).contains bag=true):lM hd r n x { x with rows:=x.rows.map (dq (λz=>z.bag == bag) (some f))} y L C T s (.tup [.str "read",.str bag,.str f]):=by
 have DA:(L.map λp=>p.1.bag).Nodup:=by rw[o.l0];exact nb
 obtain⟨p,hp,ep⟩:=fy.mp (show bag∈L.map λp=>p.1.bag by rw[o.l0];exact rA hb)
 have v0:aO (inD L) (.inr bag)=some (.ref (p.2+11)):=by rw[<-ep];exact ip DA hp
 have c0:=o.at_ p hp;have hw:dq (λz=>z.bag == bag) (some f) p.1={ p.1 with fl:=some f}:=by
  unfold dq;rw[bJ (beq_iff_eq.mpr ep)]
 refine⟨L.map λq=>(dq (λz=>z.bag == bag) (some f) q.1,q.2),C.set p.2 (.o (.lst (kE (dq (λz=>z.bag == bag) (some f) p.1)))),T,?_,?_,?_,λq m=>?_,Bg o.tl,o.tm,o.bv⟩
 .have e:=JK (L:=L) (F:=λq=>dq (λz=>z.bag == bag) (some f) q.1) λq _=>Jc
  unfold lS lB;rw[e,hw];unfold kE at *;generalize aM p.1.fl=ff at *;unfold rK vM aM;simp only[↓ev,bA,aG,dm,aF,cT,eP,iS,bX,hR,v0,jG,c0,RZ,sS,bL]
 .rw[dh,<-o.rows,dh];rfl
 .rw[dh];exact o.nd
 .obtain⟨z,mz,rfl⟩:=fy.mp m;by_cases e:z.2=p.2
  .cases nc o.nd mz hp e;exact Q3 c0
  .have e2:z.1.bag≠bag:=λe3=>e (by rw[nc DA mz hp (e3.trans ep.symm)])
   show(C.set p.2 _)[z.2]?=_;rw[zX,br (λq=>e q.symm),o.at_ z mz]
   unfold dq;rw[br (by rw[beq_iff_eq];exact e2)]
def e7k(hc:C[a]?=some (.o (.lst (kE w)))):BW 1 [some (.c 0),some (.d (.tup [d0,.str f])),some (.d (.ref (a+11)))] (hS (b0::b1::b2::C) hd r y s)=some (.nx [some (.c 0),some (.d (.tup [d0,.str f])),some (.d (.ref (a+11)))] (hS (b0::b1::b2::C.set a (.o (.lst (kE (dq (λz=>z.fl == some f) none w))))) hd r y s)):=by
 have same:w.fl≠some f->C.set a (.o (.lst (kE (dq (λz=>z.fl == some f) none w))))=C:=λne=>by
  rw[show dq (λz=>z.fl == some f) none w=w by unfold dq;rw[br (by rw[beq_iff_eq];exact ne)]]
  exact e7j hc
 unfold BW;cases hf:w.fl with
 |none=>
  rw[same (by rw[hf];intro z;cases z)]
  unfold kE at hc;rw[hf] at hc;unfold aM at hc;have en:ec .aI (.str f)=false:=rfl;simp only[↓ev,hR,jG,hc,bA,bX,aG,en]
 |some f'=>
  cases he:(f' == f) with
  |false=>
   rw[same (by rw[hf];intro z;cases z;rw[cT] at he;cases he)]
   unfold kE at hc;rw[hf] at hc;unfold aM at hc;simp only[↓ev,hR,jG,hc,bA,bX,aG,dm,he]
  |true=>
   have hr:dq (λz=>z.fl == some f) none w={ w with fl:=none}:=by
    unfold dq;rw[bJ (show(w.fl == some f)=true by rw[hf,beq_iff_eq,beq_iff_eq.mp he])]
   rw[hr];unfold kE at *;rw[hf] at hc;unfold aM at *;simp only[↓ev,hR,jG,hc,bA,bX,aG,dm,he,aF,RZ,sS]
def Zu(nd:(L.map (·.2)).Nodup)(at_:∀p∈L,C[p.2]?=some (.o (.lst (kE p.1)))):∃a2 C',aN (ae 2) (BW 1) ((inD L).map (·.2)) [some (.c 0),some (.d (.tup [d0,.str f])),none] (hS (b0::b1::b2::C) hd r y s)=some (.nx [some (.c 0),some (.d (.tup [d0,.str f])),a2] (hS (b0::b1::b2::C') hd r y s))/\∀p∈L,C'[p.2]?=some (.o (.lst (kE (dq (λz=>z.fl == some f) none p.1)))):=by
 rw[show(inD L).map (·.2)=L.map λp=>D.ref (p.2+11) by unfold inD td;rw[dh];rfl]
 obtain⟨U',S',e,⟨a2,rfl⟩,C',rfl,h1,_⟩:=iJ (gg:=ae 2) (body:=BW 1) (f:=λp:Row×Nat=>D.ref (p.2+11)) (U:=[some (.c 0),some (.d (.tup [d0,.str f])),none]) (S:=hS (b0::b1::b2::C) hd r y s)
  (λpre U S'=>(∃a2,U=[some (.c 0),some (.d (.tup [d0,.str f])),a2])/\∃C',S'=hS (b0::b1::b2::C') hd r y s/\(∀p∈pre,C'[p.2]?=some (.o (.lst (kE (dq (λz=>z.fl == some f) none p.1)))))/\∀p∈L,p∉pre->C'[p.2]?=some (.o (.lst (kE p.1)))) L ⟨⟨_,rfl⟩,C,rfl,(λ_ m=>nomatch m),λp m _=>at_ p m⟩ (by
  rintro pre p post eq U S' ⟨⟨a2,rfl⟩,C',rfl,h1,h2⟩;have hp:p∈L:=by rw[eq];simp
  have np:p∉pre:=λm=>by
   rw[eq,fZ,cZ] at nd;exact(kQ.mp nd).2.2 _ (mP m) _ (.head _) rfl
  have c0:=h2 p hp np;refine⟨_,_,_,rfl,.inl (e7k c0),⟨_,rfl⟩,_,rfl,λz m=>?_,λz mz m=>?_⟩
  .by_cases e:z.2=p.2
   .have:z∈L:=by rw[eq];rcases gZ.mp m with m|m <;> simp_all
    cases nc nd this hp e;exact Q3 c0
   .rw[zX,br (λq=>e q.symm)]
    rcases gZ.mp m with m|m
    .exact h1 z m
    .exact cR (by rw[lL.mp m]) e
  .rw[gZ,not_or] at m;rw[zX,br λq=>m.2 (by rw[nc nd hp mz q];exact .head _)]
   exact h2 z mz m.1)
 exact⟨a2,C',e,h1⟩
def e7l(o:Ss n x L C T)(bn:(x.book.map (·.1)).Nodup)(hf:cz x f=true):lM hd r n x { x with book:=x.book.filter λz=>decide (z.1≠f),rows:=x.rows.map (dq (λz=>z.fl == some f) none)} y L C T s (.tup [.str "off",.str f]):=by
 obtain⟨p,hp,ep⟩:=fy.mp (rA hf);have v0:aO (jx x.book) (.inr f)=some (yG p):=by rw[<-ep];exact ip bn hp
 have d1:dc (jx x.book) f=jx (x.book.filter λz=>decide (z.1≠f)):=x8
 have t1:dX (jx x.book)=true:=qC;have t2:dX (inD L)=true:=qC;obtain⟨a2,C',e,h1⟩:=Zu (b0:=.o (.aA (jx (x.book.filter λz=>decide (z.1≠f))))) (b1:=.o (.aA (inD L))) (b2:=.o (.lst (jz x.gone))) (d0:=.str "off") (f:=f) (hd:=hd) (r:=r) (y:=y) (s:=stC x T::s) o.nd o.at_
 refine⟨L.map λq=>(dq (λz=>z.fl == some f) none q.1,q.2),C',T,?_,?_,?_,λq m=>?_,Bg o.tl,o.tm,λq m=>o.bv q (qE.mp m).1⟩
 .have e2:=JK (L:=L) (F:=λq=>dq (λz=>z.fl == some f) none q.1) λq _=>Jc
  unfold lS lB;rw[e2];generalize yG p=fp at *;unfold rK vM;simp only[↓ev,bA,aG,dm,aF,cT,lD,hR,bX,t1,v0,d1,iS,t2,ze,e,bL]
 .rw[dh,<-o.rows,dh];rfl
 .rw[dh];exact o.nd
 .obtain⟨z,mz,rfl⟩:=fy.mp m;exact h1 z mz
end
def KS:((1:Int)<((3:Nat):Int))=True:=bu (by decide)
def KU:((2:Int)<((3:Nat):Int))=True:=bu (by decide)
section
variable{s C:List Cell}{r nw i j gn:Int}{x y:Hl}{n q a:Nat}{L:List (Row×Nat)}{T:List Str}{bag b o:Str}{hd rf was wy ff:D}{w:Row}{c b0 b1 b2:Cell}{g1 a6:ai Val}{d1 d2 d4 d5:D}{IN:List (TK×D)}{GN:List D}
abbrev rS(hd:D)(r:Int)(y:Hl)(IN:List (TK×D))(GN:List D)(C:List Cell)(b0:Cell)(nw:Int)(d2:D)(s:List Cell):aT:=hS (b0::.o (.aA IN)::.o (.lst GN)::C) hd r y (.o (.aA (kG (.int nw) (.ref 8) d2 (.ref 9) (.ref 10)))::s)
def Zv{ws:List D}(hv:aO IN (.inr bag)=some (.ref a)):rC 0 [some (.c 0),g1,bh bag,ak was,ak (pl b i),ak (.tup ws),a6] (rS hd r y IN GN C b0 nw d2 s)=some (.nx [some (.c 0),g1,bh bag,ak was,ak (pl b i),ak (.tup ws),some (.d (.ref a))] (rS hd r y IN GN C b0 nw d2 s)):=by
 unfold rC;simp only[↓ev,iS,hR,hv,aF,G4,aG]
def e7m(hv:aO IN (.inr bag)=some (.ref a))(ht:dX IN=true)(hl:GN.length<1000000):rC 0 [some (.c 0),g1,bh bag,ak was,bh o,ak .aI,a6] (rS hd r y IN GN C b0 nw d2 s)=some (.nx [some (.c 0),g1,bh bag,ak was,bh o,ak .aI,some (.d (.ref a))] (rS hd r y (dc IN bag) (GN++[.tup [.str bag,.str o,.int nw]]) C b0 nw d2 s)):=by
 have hl:=bu hl;unfold rC;simp only[↓ev,iS,hR,hv,aF,AO,ht,rH,JI,hl]
def e9p(hv:aO IN (.inr bag)=some (.ref (a+11)))(hc:C[a]?=some (.o (.lst [ff,d4,.int gn]))):rC 0 [some (.c 0),g1,bh bag,ak (pl b i),ak (pl o j),ak .aI,a6] (rS hd r y IN GN C b0 nw d2 s)=some (.nx [some (.c 0),g1,bh bag,ak (pl b i),ak (pl o j),ak .aI,some (.d (.ref (a+11)))] (rS hd r y IN GN (C.set a (.o (.lst [ff,pl o j,.int (if(b == o&&j == 0)=true then gn+1 else gn)]))) b0 nw d2 s)):=by
 have e2:∀v:D,(C.set a (.o (.lst [ff,d4,v])))[a]?=some (.o (.lst [ff,d4,v])):=λv=>by
  obtain⟨h1,_⟩:=eQ.mp hc;rw[zX,bJ rfl,bJ h1]
 have e3:∀v w:Cell,(C.set a v).set a w=C.set a w:=λv w=>Eo ..
 unfold rC;cases h1:(b == o) with
 |false=>simp only[↓ev,iS,hR,hv,aF,G4,aG,jG,hc,eP,bA,dm,h1,Int.add_zero,KU,sS,e2,KS,e3]
 |true=>
  cases h2:(j == 0) with
  |false=>simp only[↓ev,iS,hR,hv,aF,G4,aG,jG,hc,eP,bA,dm,h1,bX,eV,h2,Int.add_zero,KU,sS,e2,KS,e3]
  |true=>simp only[↓ev,iS,hR,hv,aF,G4,aG,jG,hc,eP,bA,dm,h1,bX,eV,h2,KU,sS,e2,KS,e3]
end
theorem Q4:∀{bs:List ax},lz carts bs->∀b∈bs,∀o∈b.outs,o≠b.name
 |z::bs,f,b,hb,o,ho,e=>by
  rcases y09.mp hb with rfl|hb
  .rcases f.1 o ho with m|m
   .exact f.2.1 (e ▸ m)
   .exact f.2.2.1 (e ▸ m)
  .exact Q4 f.2.2.2 b hb o ho e
section
variable{s C:List Cell}{h:az}{r:Int}{x y:Hl}{n q:Nat}{L:List (Row×Nat)}{T:List Str}{w:Row}{X:List (Str×D)}{g1:ai Val}
def e7n(g:aJ h)(o:Ok h n x)(hw:w∈x.rows)(hb:bt∈h.af)(eb:bt.name=w.b)(ej:(aq h r x w).2=some j):(w.b == (aq h r x w).1&&j == 0)=iH bt w.i (aq h r x w).1 j:=by
 have eG:aq h r x w=kr h r x w bt:=by
  unfold aq;rw[<-eb,BR g hb]
 obtain⟨a,ha,ma⟩:=JD g o hw hb eb;have na:=Q4 g.fwd bt hb a ma;obtain⟨b2,rZ,e2,i0,i1,_⟩:=(o.rw w hw).1;cases B2 g.fwd b2 rZ bt hb (e2.trans eb.symm)
 grind [kr,iH,sJ]
def Zw(t:m6 h r x X):∀p∈X,∃l,p.2=.tup l:=by
 obtain⟨Co,_,gr,_⟩:=t;refine lY.rec (motive:=λX _=>∀p∈X,∃l,p.2=D.tup l) ?_ ?_ gr
 .intro p m;rcases gZ.mp m with m|m
  .obtain⟨w,_,e⟩:=wY.mp m
   grind [kI]
  grind [fM]
 .intro Y w c _ _ _ ih p m;rcases gZ.mp m with m|m
  .exact ih p m
  .rw[lL.mp m];exact⟨_,rfl⟩
abbrev vV(h:az)(r:Int)(x:Hl)(d:List Row):List (Str×Str×Int):=x.gone++d.filterMap (eM (aq h r x) (x.now+1))
def EJ(h:az)(r:Int)(x y:Hl)(T:List Str)(s:List Cell)(d:List Row)(S':aT):Prop:=∃L' C',S'=rS (av h) r y (inD L') (jz (vV h r x d)) C' (.o (.aA (jx x.book))) (x.now+1) (.lst (dS T)) s/\L'.map (·.1)=hZ h (aq h r x) (jo d) x.rows/\(L'.map (·.2)).Nodup/\∀p∈L',C'[p.2]?=some (.o (.lst (kE p.1)))
def Qh(g:aJ h)(o:Ok h n x)(hn:n<1000)(hw:w∈x.rows){d:List Row}{S':aT}(hd:w.bag∉d.map Row.bag)(dl:d.length<=1000)(i:EJ h r x y T s d S'){a6:ai Val}{was:D}:
  (∀ws,∃g9,rC 0 [some (.c 0),g1,bh w.bag,ak was,ak (pl w.b w.i),ak (.tup ws),a6] S'=some (.nx [some (.c 0),g1,bh w.bag,ak was,ak (pl w.b w.i),ak (.tup ws),g9] S'))/\
  ∃g9 S2,rC 0 [some (.c 0),g1,bh w.bag,ak (pl w.b w.i),ak (gD (aq h r x w)),ak .aI,a6] S'=some (.nx [some (.c 0),g1,bh w.bag,ak (pl w.b w.i),ak (gD (aq h r x w)),ak .aI,g9] S2)/\EJ h r x y T s (d++[w]) S2:=by
 obtain⟨L',C',rfl,h1,h2,h3⟩:=i;have hp:jo d w=false:=by
  grind [jo]
 have AL:=λz=>Jb d w z
 have DA:(L'.map λp=>p.1.bag).Nodup:=by
  rw[show(L'.map λp=>p.1.bag)=(L'.map (·.1)).map Row.bag by rw[dh];rfl,h1]
  exact o.nb.sublist (FJ _ _)
 obtain⟨p,mp,ep⟩:=fy.mp (show w∈L'.map (·.1) by rw[h1];exact P' hw hp)
 have v0:aO (inD L') (.inr w.bag)=some (.ref (p.2+11)):=by rw[<-ep];exact ip DA mp
 have c0:=h3 p mp;refine⟨λws=>⟨_,Zv v0⟩,?_⟩
 have sz:=o.sz;cases hG:(aq h r x w).2 with
 |none=>
  have hg:gD (aq h r x w)=.str (aq h r x w).1:=by
   generalize aq h r x w=gg at *;obtain⟨g1,g2⟩:=gg;cases hG;rfl
  have fl:(d.filterMap (eM (aq h r x) (x.now+1))).length<=d.length:=Ep _ _;rw[hg];refine⟨_,_,e7m v0 qC (by unfold jz;rw[bq,dZ];lia),L'.filter (λq=>decide (q.1.bag≠w.bag)),C',?_,?_,h2.sublist (List.Sublist.map _ Be),λq m=>h3 q (qE.mp m).1⟩
  .rw[show dc (inD L') w.bag=inD (L'.filter λq=>decide (q.1.bag≠w.bag)) from x8]
   unfold jz vV;rw[Er,fZ,<-kP,fZ];simp only[qr,xh,eM,hG,qq6,qq7,fZ];rfl
  .rw[<-Qa o.nb hw hp AL hG,<-h1,List.filter_map];rfl
 |some j=>
  have hg:gD (aq h r x w)=pl (aq h r x w).1 j:=by
   generalize aq h r x w=gg at *;obtain⟨g1,g2⟩:=gg;cases hG;rfl
  obtain⟨bt,yL,CH,_⟩:=(o.rw w hw).1;have fb:findB h.af w.b=some bt:=by rw[<-CH];exact BR g yL
  have cn:=e7n g o hw yL CH hG;rw[ep] at c0;unfold kE at c0;have e:=e9p (hd:=av h) (r:=r) (y:=y) (GN:=jz (vV h r x d)) (b0:=.o (.aA (jx x.book))) (nw:=x.now+1) (d2:=.lst (dS T)) (s:=s) (g1:=g1) (a6:=a6) (b:=w.b) (i:=w.i) (o:=(aq h r x w).1) (j:=j) v0 c0;rw[hg];refine⟨_,_,e,L'.map λq=>(eE w.bag (aq h r x w).1 j (if iH bt w.i (aq h r x w).1 j=true then w.gn+1 else w.gn) q.1,q.2),C'.set p.2 (.o (.lst [aM w.fl,pl (aq h r x w).1 j,.int (if(w.b == (aq h r x w).1&&j == 0)=true then w.gn+1 else w.gn)])),?_,?_,?_,λq m=>?_⟩
  .rw[JK (L:=L') (F:=λq=>eE w.bag (aq h r x w).1 j (if iH bt w.i (aq h r x w).1 j=true then w.gn+1 else w.gn) q.1) λq _=>B3]
   have:vV h r x (d++[w])=vV h r x d:=by
    unfold vV;rw[Er];simp only[qr,xh,eM,hG,jW]
   rw[this]
  .rw[<-QZ o.nb hw hp AL hG fb,<-h1,dh,dh];rfl
  .rw[dh];exact h2
  .obtain⟨z,mz,rfl⟩:=fy.mp m;by_cases e:z.2=p.2
   .cases nc h2 mz mp e;rw[cn];obtain⟨l1,_⟩:=eQ.mp c0;show(C'.set p.2 _)[p.2]?=_;rw[zX,bJ rfl,bJ l1,ep];unfold eE kE;rw[bJ rfl]
   .have e2:z.1.bag≠w.bag:=λe3=>e (by rw[nc DA mz mp (e3.trans (by rw[ep]))])
    show(C'.set p.2 _)[z.2]?=_;rw[zX,br (λq=>e q.symm),h3 z mz]
    unfold eE;rw[br e2]
end
section
variable{s C:List Cell}{h:az}{r:Int}{x y:Hl}{n q m:Nat}{L:List (Row×Nat)}{T:List Str}{w:Row}{X:List (Str×D)}{g1:ai Val}
def Zx:hZ h (aq h r x) (jo []) x.rows=x.rows:=by
 unfold hZ;exact(Ja λz _=>br (show ¬jo [] z=true from qF)).trans List.filterMap_some
def Zy(g:aJ h)(o:Ok h n x)(hn:n<1000)(t:m6 h r x X)(st:Ss m x L C T):∃a2 a3 a4 a5 a6 S',aN (bo [ae 2,ae 3,ae 4,ae 5]) (rC 0) ((ord h x.rows).map (gz X (aq h r x))) [some (.c 0),g1,none,none,none,none,none] (rS (av h) r y (inD L) (jz x.gone) C (.o (.aA (jx x.book))) (x.now+1) (.lst (dS T)) s)=some (.nx [some (.c 0),g1,a2,a3,a4,a5,a6] S')/\EJ h r x y T s (cO h x X) S':=by
 have wt:=Zw t;have nd:((ord h x.rows).map Row.bag).Nodup:=(o.perm.map _).nodup_iff.mpr o.nb;have rl:=o.rl;have pe:=o.perm.length_eq;obtain⟨U',S',e,⟨a2,a3,a4,a5,a6,rfl⟩,i⟩:=iJ (gg:=bo [ae 2,ae 3,ae 4,ae 5]) (body:=rC 0) (f:=gz X (aq h r x)) (U:=[some (.c 0),g1,none,none,none,none,none]) (S:=rS (av h) r y (inD L) (jz x.gone) C (.o (.aA (jx x.book))) (x.now+1) (.lst (dS T)) s)
  (λpre U S'=>(∃a2 a3 a4 a5 a6,U=[some (.c 0),g1,a2,a3,a4,a5,a6])/\EJ h r x y T s (pre.filter (nk X)) S') (ord h x.rows)
  ⟨⟨_,_,_,_,_,rfl⟩,L,C,by rw[show vV h r x (([]:List Row).filter (nk X))=x.gone from jW _],by rw[show([]:List Row).filter (nk X)=[] from rfl,Zx];exact st.rows,st.nd,st.at_⟩ (by
  rintro pre w post eq U S' ⟨⟨a2,a3,a4,a5,a6,rfl⟩,i⟩;have hw:w∈x.rows:=o.mem.mp (by rw[eq];simp)
  have np:w.bag∉(pre.filter (nk X)).map Row.bag:=λz=>by
   grind
  have Lv:(pre.filter (nk X)).length<=1000:=by
   grind
  cases hf:X.find? λp=>p.1 == w.bag with
  |some p=>
   have hb:=MB hf;have hX:=MA hf;obtain⟨ws,ew⟩:=wt p hX;have hk:nk X w=false:=by
    grind [nk]
   have hl:gz X (aq h r x) w=.tup [.str w.bag,pl w.b w.i,pl w.b w.i,.tup ws]:=by
    unfold gz;rw[hf,<-ew]
   obtain⟨g9,e⟩:=(Qh (g1:=g1) (a6:=a6) (was:=pl w.b w.i) g o hn hw np Lv i).1 ws;rw[hl];refine⟨_,_,_,rfl,.inl e,⟨_,_,_,_,_,rfl⟩,?_⟩
   simp_all
  |none=>
   have hk:nk X w=true:=by
    grind [nk]
   have hl:gz X (aq h r x) w=.tup [.str w.bag,pl w.b w.i,gD (aq h r x w),.aI]:=by
    unfold gz;rw[hf]
   obtain⟨g9,S2,e,i2⟩:=(Qh (g1:=g1) (a6:=a6) (was:=.aI) g o hn hw np Lv i).2;rw[hl];refine⟨_,_,_,rfl,.inl e,⟨_,_,_,_,_,rfl⟩,?_⟩
   simp_all)
 exact⟨a2,a3,a4,a5,a6,S',e,i⟩
def e9q(g:aJ h)(o:Ok h n x)(hn:n<1000)(t:m6 h r x X)(st:Ss m x L C T):∃L' C',FZ 0 [.c 0,.d (.lst ((ord h x.rows).map (gz X (aq h r x))))] (lS (av h) r x y L C T s)=some (.ok (rd .aI) (lS (av h) r (cW h r x X) y L' C' T s))/\Ss m (cW h r x X) L' C' T:=by
 obtain⟨a2,a3,a4,a5,a6,S',e,L',C',rfl,h1,h2,h3⟩:=Zy (y:=y) (s:=s) (g1:=some (.d (.lst ((ord h x.rows).map (gz X (aq h r x)))))) g o hn t st;refine⟨L',C',?_,h1,h2,h3,st.tl,st.tm,st.bv⟩;have l2:((kG (.int x.now) (.ref 8) (.lst (dS T)) (.ref 9) (.ref 10)).length<1000000)=True:=bu (by show 5<1000000;decide)
 have hg:jz (vV h r x (cO h x X))=jz (cW h r x X).gone:=rfl;rw[hg] at e;unfold lS stC lB;show _=some (Rs.ok (rd .aI) (rS (av h) r y (inD L') (jz (cW h r x X).gone) C' (.o (.aA (jx x.book))) (x.now+1) (.lst (dS T)) s));generalize jz (cW h r x X).gone=gg at *;generalize(ord h x.rows).map (gz X (aq h r x))=lg at *;generalize av h=hd at *;unfold FZ PU;simp only[↓ev,JI,l2,e7e,hR,iy,e,JV]
end
variable{h:az}{L:List Row}{w:Row}{a:Cell}{a5' a4':ai Val}
abbrev AV(h:az)(a b:Row):Prop:=G7 (jt h a) (jt h b)=true
theorem e7o{rows:List Row}(nd:(rows.map (jt h)).Nodup):(ord h rows).Pairwise (AV h):=by
 unfold ord;split
 .rename_i hl
  cases rows with
  |nil=>exact .nil
  |cons a l=>
   cases l with
   |nil=>exact List.pairwise_singleton _ _
   |cons b l=>simp at hl;lia
 .rename_i hl
  obtain⟨p,pw⟩:=BU nd (by rw[bq];lia)
  rw[bq] at p;rw[En];refine pw.imp_of_mem λ{i j} hi hj h=>?_
  have i1:=qp.mp (p.mem_iff.mp hi);have j1:=qp.mp (p.mem_iff.mp hj);unfold ltAt at h;simp only[zW,fL,g7 i1,g7 j1,Bd,Hs] at h ⊢;exact h
noncomputable def cP(L:List Row)(b:Str)(c:Int):List Row:=L.filter λw=>w.b == b&&w.i == c
def dN(L:List Row)(bt:ax):List Row:=(List.range bt.long.toNat).flatMap λ(c:Nat)=>cP L bt.name (c:Int)
def i8(h:az)(L:List Row):List Row:=h.af.flatMap (dN L)
def eX{c:Int}:w∈cP L b c↔w∈L/\w.b=b/\w.i=c:=by
 unfold cP;rw[qE,jU,beq_iff_eq,beq_iff_eq]
def gR:w∈dN L bt↔w∈L/\w.b=bt.name/\0<=w.i/\w.i<bt.long:=by
 unfold dN;rw[List.mem_flatMap];constructor
 .rintro⟨c,hc,hw⟩;obtain⟨h1,h2,h3⟩:=eX.mp hw
  simp_all
 .rintro⟨h1,h2,h3,h4⟩;exact⟨w.i.toNat,qp.mpr (by lia),eX.mpr ⟨h1,h2,by lia⟩⟩
def W4(h:az)(nd:(h.af.map ax.name).Nodup):h.af.Pairwise λa b=>rk h a.name<rk h b.name:=by
 rw[List.pairwise_iff_getElem];have key:∀(i:Nat) (hi:i<h.af.length),rk h (h.af[i]).name=(i:Int):=λi hi=>by
  unfold rk;obtain⟨j,hj⟩:=BQ (mP (f:=ax.name) (A' hi));rw[hj];obtain⟨e1,_⟩:=Ac hj;have e2:(h.af.map ax.name)[i]?=some (h.af[i]).name:=by rw[fL,g7 hi];rfl
  rw[ID nd e1 e2];rfl
 simp_all
theorem Q5:∀{bs:List ax},lz carts bs->(bs.map ax.name).Nodup
 |[],_=>.nil
 |b::bs,f=>qH.mpr ⟨f.2.1,Q5 f.2.2.2⟩
theorem W5(g:aJ h)(pw:L.Pairwise (AV h))(ho:∀w∈L,lC h w):i8 h L=L:=by
 have irr:∀a b:Row,AV h a b->AV h b a->a=b:=λa b h1 h2=>by
  have h1:=tD h1;have h2:=tD h2;lia
 have nn:∀{l:List Row},l.Pairwise (AV h)->l.Nodup:=λp=>p.imp λ{a b} h e=>by
  subst e;have h:=tD h;lia
 have pr:(i8 h L).Pairwise (AV h):=by
  unfold i8;rw[List.pairwise_flatMap];refine⟨λbt _=>?_,(W4 h (Q5 g.fwd)).imp λ{a b} RK x hx y hy=>?_⟩
  .unfold dN;rw[List.pairwise_flatMap];refine⟨λc _=>pw.filter _,List.pairwise_lt_range.imp λ{a b} RK x hx y hy=>?_⟩
   obtain⟨_,x1,x2⟩:=eX.mp hx;obtain⟨_,y1,y2⟩:=eX.mp hy;refine nK (.inr ⟨?_,?_⟩)
   .unfold jt;rw[x1,y1]
   .show x.i<y.i;lia
  .obtain⟨_,x1,_⟩:=gR.mp hx;obtain⟨_,y1,_⟩:=gR.mp hy;refine nK (.inl ?_);show rk h x.b<rk h y.b;rw[x1,y1];exact RK
 refine List.Perm.eq_of_pairwise (λa b _ _=>irr a b) pr pw ((List.perm_ext_iff_of_nodup (nn pr) (nn pw)).mpr λw=>?_)
 unfold i8;rw[List.mem_flatMap];constructor
 .rintro⟨bt,_,hw⟩;exact(gR.mp hw).1
 .intro hw;obtain⟨bt,hb,e,i0,i1,_⟩:=ho w hw;exact⟨bt,hb,gR.mpr ⟨hw,e.symm,i0,i1⟩⟩
def T3{M:List Row}(p:L.Perm M)(un:(L.map λw=>(w.b,w.i)).Nodup):i8 h L=i8 h M:=by
 have one:∀b c,cP L b c=cP M b c:=λb c=>by
  have pp:(cP L b c).Perm (cP M b c):=p.filter _;have nd:((cP L b c).map λw=>(w.b,w.i)).Nodup:=un.sublist (List.Sublist.map _ Be)
  match hL:cP L b c with
  |[]=>rw[hL] at pp;exact(List.Perm.eq_nil pp.symm).symm
  |[w]=>rw[hL] at pp;exact List.singleton_perm.mp pp
  |w::z::l=>
   have hw:=(eX.mp (show w∈cP L b c by rw[hL];simp)).2
   grind [cP]
 unfold i8 dN
 simp_all
section
variable{s C:List Cell}{h:az}{r:Int}{x y:Hl}{n q:Nat}{w:Row}{L:List (Row×Nat)}{T:List Str}{aU:List D}{bt:ax}{c:Int}{hd:D}
abbrev aS(hd:D)(r:Int)(x y:Hl)(L:List (Row×Nat))(C:List Cell)(T:List Str)(s:List Cell)(aU:List D):aT:=hS (lB x L C) hd r y (stC x T::(s++[.o (.lst aU)]))
abbrev rG(hd:D)(s:List Cell)(bt:ax)(a b:ai Val):Gm:=[ak hd,some (.c 0),some (.c (s.length+1)),ak (aw bt),a,b]
def Ar:(a::(s++C))[s.length+1]?=C[0]?:=by
 show(s++C)[s.length]?=_;exact fG
def Ik{c:Cell}:(a::(s++C)).set (s.length+1) c=a::(s++C.set 0 c):=by
 simp_all
def e7p(st:Ss n x L C T)(nb:(x.rows.map Row.bag).Nodup)(hw:w∈x.rows)(hl:aU.length<1000):BE 1 (rG hd s bt (bY c) (bh w.bag)) (aS hd r x y L C T s aU)=some (.nx (rG hd s bt (bY c) (bh w.bag)) (aS hd r x y L C T s (aU++if(w.b == bt.name&&w.i == c)=true then[.str w.bag] else[]))):=by
 obtain⟨p,mp,ep⟩:=fy.mp (show w∈L.map (·.1) by rw[st.rows];exact hw)
 have v:aO (inD L) (.inr w.bag)=some (.ref (p.2+11)):=by rw[<-ep];exact ip (by rw[st.l0];exact nb) mp
 have c0:=st.at_ p mp;rw[ep] at c0;unfold kE at c0;generalize aM w.fl=ff at *;have l1:(aU.length<1000000)=True:=bu (by lia)
 have hB:aw bt=.tup [.str bt.name,.int bt.long,.bl bt.ring,.lst (dS bt.outs)]:=rfl;unfold rG;rw[hB];unfold BE;cases hc:(w.b == bt.name&&w.i == c) with
 |true=>simp only[↓ev,iS,hR,lB,v,jG,c0,bX,bA,aF,DF,aG,AD,hc,Ar,l1,Ik]
 |false=>simp only[↓ev,iS,hR,lB,v,jG,c0,bX,bA,aF,DF,aG,AD,hc,jW]
def Zz(st:Ss n x L C T)(nb:(x.rows.map Row.bag).Nodup)(hl:aU.length+x.rows.length<900):∃b5,aN (ae 5) (BE 1) (dS (x.rows.map Row.bag)) (rG hd s bt (bY c) a5') (aS hd r x y L C T s aU)=some (.nx (rG hd s bt (bY c) b5) (aS hd r x y L C T s (aU++dS ((cP x.rows bt.name c).map Row.bag)))):=by
 rw[show dS (x.rows.map Row.bag)=x.rows.map λw=>.str w.bag by unfold dS;rw[dh];rfl]
 obtain⟨U',S',e,⟨b5,rfl⟩,rfl⟩:=iJ (gg:=ae 5) (body:=BE 1) (f:=λw:Row=>D.str w.bag) (U:=rG hd s bt (bY c) a5') (S:=aS hd r x y L C T s aU) (λpre U S'=>(∃b5,U=rG hd s bt (bY c) b5)/\S'=aS hd r x y L C T s (aU++dS ((cP pre bt.name c).map Row.bag))) x.rows ⟨⟨_,rfl⟩,by unfold cP;simp⟩ (by
  rintro d w post eq U S' ⟨⟨b5,rfl⟩,rfl⟩;have RM:(cP d bt.name c).length<=d.length:=tu _ _;have hd2:d.length<x.rows.length:=by rw[eq];simp
  refine⟨_,_,_,rfl,.inl (e7p st nb (by rw[eq];simp) (by simp;lia)),⟨_,rfl⟩,?_⟩
  unfold cP;rw[List.filter_append,A9,kP];cases(w.b == bt.name&&w.i == c) <;> simp)
 exact⟨b5,e⟩
def ZA(st:Ss n x L C T)(nb:(x.rows.map Row.bag).Nodup)(hl:aU.length+x.rows.length<900):∃b5,BF 0 (rG hd s bt (bY c) a5') (aS hd r x y L C T s aU)=some (.nx (rG hd s bt (bY c) b5) (aS hd r x y L C T s (aU++dS ((cP x.rows bt.name c).map Row.bag)))):=by
 obtain⟨b5,e⟩:=Zz (s:=s) (hd:=hd) (r:=r) (y:=y) (bt:=bt) (c:=c) (aU:=aU) (a5':=a5') st nb hl;refine⟨b5,?_⟩;have k:(inD L).map (·.1.d)=dS (x.rows.map Row.bag):=by unfold inD;rw[Ap,st.l0]
 unfold rG at *;generalize aw bt=B at *;unfold BF;simp only[↓ev,iS,hR,lB,k,ze,e]
def W6(st:Ss n x L C T)(nb:(x.rows.map Row.bag).Nodup)(hl:aU.length+(dN x.rows bt).length+x.rows.length<900):∃b4 b5,aN (ae 4) (BF 0) (gG 0 bt.long.toNat) (rG hd s bt a4' a5') (aS hd r x y L C T s aU)=some (.nx (rG hd s bt b4 b5) (aS hd r x y L C T s (aU++dS ((dN x.rows bt).map Row.bag)))):=by
 rw[nE];obtain⟨U',S',e,⟨b4,b5,rfl⟩,rfl⟩:=iJ (gg:=ae 4) (body:=BF 0) (f:=λi:Nat=>D.int (i:Int)) (U:=rG hd s bt a4' a5') (S:=aS hd r x y L C T s aU) (λpre U S'=>(∃b4 b5,U=rG hd s bt b4 b5)/\S'=aS hd r x y L C T s (aU++dS ((pre.flatMap λ(c:Nat)=>cP x.rows bt.name (c:Int)).map Row.bag))) (List.range bt.long.toNat) ⟨⟨_,_,rfl⟩,by simp⟩ (by
  rintro d i post eq U S' ⟨⟨b4,b5,rfl⟩,rfl⟩;have RM:(d.flatMap λ(c:Nat)=>cP x.rows bt.name (c:Int)).length<=(dN x.rows bt).length:=by unfold dN;rw[eq,List.flatMap_append,dZ];lia
  obtain⟨SW,e⟩:=ZA (s:=s) (hd:=hd) (r:=r) (y:=y) (bt:=bt) (c:=(i:Int)) (aU:=aU++dS ((d.flatMap λ(c:Nat)=>cP x.rows bt.name (c:Int)).map Row.bag)) (a5':=b5) st nb (by simp only[dZ,bq];lia)
  refine⟨_,_,_,rfl,.inl e,⟨_,_,rfl⟩,?_⟩
  simp_all)
 exact⟨b4,b5,e⟩
def ZC(st:Ss n x L C T)(nb:(x.rows.map Row.bag).Nodup)(hb:0<=bt.long/\bt.long<=1000)(hl:aU.length+(dN x.rows bt).length+x.rows.length<900):∃b4 b5,Fd 0 (rG hd s bt a4' a5') (aS hd r x y L C T s aU)=some (.nx (rG hd s bt b4 b5) (aS hd r x y L C T s (aU++dS ((dN x.rows bt).map Row.bag)))):=by
 obtain⟨b4,b5,e⟩:=W6 (s:=s) (hd:=hd) (r:=r) (y:=y) (bt:=bt) (aU:=aU) (a4':=a4') (a5':=a5') st nb hl;refine⟨b4,b5,?_⟩;have hB:aw bt=.tup [.str bt.name,.int bt.long,.bl bt.ring,.lst (dS bt.outs)]:=rfl;have hz:Nat.ble bt.long.natAbs 1000000000000=true:=by rw[MD];lia
 unfold rG at *;rw[hB] at e ⊢;unfold Fd;simp only[↓ev,bX,hz,iy,e]
def e7q(g:aJ h)(sl:∀b∈h.af,0<=b.long/\b.long<=1000)(o:Ok h q x)(st:Ss n x L C T):Fx 0 [.d (av h),.c 0] (lS (av h) r x y L C T s)=some (.ok (.o (.lst (dS ((ord h x.rows).map Row.bag)))) (lS (av h) r x y L C T s)):=by
 have nb:=o.nb;have rl:=o.rl;have er:i8 h x.rows=ord h x.rows:=(T3 o.perm.symm o.un).trans (W5 g (e7o o.nk) λw m=>(o.rw w (o.mem.mp m)).1)
 have key:=iJ (gg:=ae 3) (body:=Fd 0) (f:=aw) (U:=[ak (av h),some (.c 0),some (.c (s.length+1)),none,none,none]) (S:=aS (av h) r x y L C T s []) (λpre U S'=>(∃b3 b4 b5,U=[ak (av h),some (.c 0),some (.c (s.length+1)),b3,b4,b5])/\S'=aS (av h) r x y L C T s (dS ((pre.flatMap (dN x.rows)).map Row.bag))) h.af ⟨⟨_,_,_,rfl⟩,rfl⟩ (by
  rintro d bt post eq U S' ⟨⟨b3,b4,b5,rfl⟩,rfl⟩;have RM:(d.flatMap (dN x.rows)).length+(dN x.rows bt).length<=x.rows.length:=by
   have e:=congrArg List.length er;rw[o.perm.length_eq] at e
   grind [i8]
  have b1:=sl bt (by rw[eq];simp)
  obtain⟨b4',SW,e⟩:=ZC (s:=s) (hd:=av h) (r:=r) (y:=y) (bt:=bt) (aU:=dS ((d.flatMap (dN x.rows)).map Row.bag)) (a4':=b4) (a5':=b5) st nb b1 (by simp only[bq];lia)
  refine⟨_,_,_,rfl,.inl e,⟨_,_,_,rfl⟩,?_⟩
  simp_all)
 obtain⟨U',S',e,⟨b3,b4,b5,rfl⟩,rfl⟩:=key;rw[show h.af.flatMap (dN x.rows)=ord h x.rows from er] at e;have hD:av h=.tup [.lst (h.af.map aw),.lst (dS h.carts)]:=rfl;have c1:∀{a:Cell} {l R:List Cell},aT.cut ⟨a::(s++l),R⟩ (s.length+1)=⟨a::s,R⟩:=λ{a l R}=>by
  show(⟨a::(s++l).take s.length,R⟩:aT)=_
  simp_all
 rw[hD] at e ⊢;unfold Fx OA;simp only[↓ev,aF,aG,Hb,Ly,bA,iy,e,Ar]
 simp_all
end
section
variable{s C:List Cell}{h:az}{r:Int}{x y:Hl}{n q:Nat}{w:Row}{L:List (Row×Nat)}{T:List Str}{aU:List D}{hd:D}
def e7r(st:Ss n x L C T)(nb:(x.rows.map Row.bag).Nodup)(hw:w∈x.rows)(hl:aU.length<1000){a4:ai Val}:Fg 0 [ak hd,some (.c 0),some (.c (s.length+1)),bh w.bag,a4] (aS hd r x y L C T s aU)=some (.nx [ak hd,some (.c 0),some (.c (s.length+1)),bh w.bag,(aO (inD L) (.inr w.bag)).map .d] (aS hd r x y L C T s (aU++[bN w]))):=by
 obtain⟨p,mp,ep⟩:=fy.mp (show w∈L.map (·.1) by rw[st.rows];exact hw)
 have v:aO (inD L) (.inr w.bag)=some (.ref (p.2+11)):=by rw[<-ep];exact ip (by rw[st.l0];exact nb) mp
 have c0:=st.at_ p mp;rw[ep] at c0;unfold kE at c0;rw[v];unfold bN;generalize aM w.fl=ff at *;have l1:(aU.length<1000000)=True:=bu (by lia)
 unfold Fg;simp only[↓ev,iS,hR,lB,v,aF,Ar,jG,c0,bA,bX,eP,l1,Ik]
def ZD(g:aJ h)(sl:∀b∈h.af,0<=b.long/\b.long<=1000)(o:Ok h q x)(st:Ss n x L C T):Fy 0 [.d (av h),.c 0] (lS (av h) r x y L C T s)=some (.ok (.o (.lst ((ord h x.rows).map bN))) (lS (av h) r x y L C T s)):=by
 have rl:=o.rl;have pe:=o.perm.length_eq;have e1:=e7q (r:=r) (y:=y) (s:=s++[.o (.lst [])]) g sl o st;obtain⟨U',S',e,⟨b3,b4,rfl⟩,rfl⟩:=iJ (gg:=ae 3) (body:=Fg 0) (f:=λw:Row=>D.str w.bag) (U:=[ak (av h),some (.c 0),some (.c (s.length+1)),none,none]) (S:=aS (av h) r x y L C T s []) (λpre U S'=>(∃b3 b4,U=[ak (av h),some (.c 0),some (.c (s.length+1)),b3,b4])/\S'=aS (av h) r x y L C T s (pre.map bN)) (ord h x.rows) ⟨⟨_,_,rfl⟩,rfl⟩ (by
  rintro d w post eq U S' ⟨⟨b3,b4,rfl⟩,rfl⟩;have dl:=congrArg List.length eq;rw[dZ,pe] at dl;refine⟨_,_,_,rfl,.inl (e7r st o.nb (o.mem.mp (by rw[eq];simp)) (by rw[bq];lia)),⟨_,_,rfl⟩,?_⟩
  simp_all)
 rw[show(ord h x.rows).map (λw=>D.str w.bag)=dS ((ord h x.rows).map Row.bag) by unfold dS;rw[dh];rfl] at e
 have c1:∀{a:Cell} {l R:List Cell},aT.cut ⟨a::(s++l),R⟩ (s.length+1)=⟨a::s,R⟩:=λ{a l R}=>by
  show(⟨a::(s++l).take s.length,R⟩:aT)=_
  simp_all
 generalize(ord h x.rows).map bN=rl at *;generalize av h=hd at *;unfold Fy OC;simp only[↓ev,aF,aG,Hb,Ly,e1,iy,e,Ar]
 simp_all
end
variable{tt:Bool}{a2:ai Val}
noncomputable def sD:Nat->D->Bool
 |_,.aI=>true
 |_,.str _=>true
 |_,.int _=>true
 |n+1,.lst l=>l.all (sD n)&&decide (l.length<=1000)
 |n+1,.tup l=>l.all (sD n)&&decide (l.length<=1000)
 |_,_=>false
noncomputable abbrev s9:D:=.tup [.ty "tuple",.ty "list"]
section
variable{z:Str}{i:Int}{l:List D}
def j1:cM (.str z) s9=some (rd (.bl false)):=rfl
def j2:cM (.int i) s9=some (rd (.bl false)):=rfl
def j3:cM .aI s9=some (rd (.bl false)):=rfl
def j4:cM (.lst l) s9=some (rd (.bl true)):=rfl
def j5:cM (.tup l) s9=some (rd (.bl true)):=rfl
def j6:cM (.lst l) (.ty "tuple")=some (rd (.bl false)):=rfl
def j7:cM (.int i) (.ty "str")=some (rd (.bl false)):=rfl
def j8:cM (.int i) (.ty "int")=some (rd (.bl true)):=rfl
def j9:cM (.int i) (.ty "bool")=some (rd (.bl false)):=rfl
end
section
variable{rf:Nat->GM}{q:Nat}{v u:Val}{S:aT}{z:Str}{i:Int}{ds:List D}
def Q6(hv:jC S v=some .aI):oq rf q [some v,ak .aI,none,none] S=some (.rt (rd (.bl true)) S):=by
 unfold oq;simp only[↓ev,aF,j3,aG,hv]
def Q7(hv:jC S v=some (.str z)):oq rf q [some v,bh z,none,none] S=some (.rt (rd (.bl true)) S):=by
 unfold oq;simp only[↓ev,aF,j1,aG,AO,hv,dm,cT]
def Q8(hv:jC S v=some (.int i)):oq rf q [some v,bY i,none,none] S=some (.rt (rd (.bl true)) S):=by
 unfold oq;simp only[↓ev,aF,j2,aG,j7,hv,j8,j9,eV,cT]
noncomputable abbrev wO:Bool->List D->D
 |true,ds=>.tup ds
 |false,ds=>.lst ds
def e7s{d:D}(hv:jC S v=some (wO tt ds))(hu:jC S u=some (wO tt ds))(ha:d_ ds i=some d)(he:rf q [.d d,.d d] S=some (.ok (rd (.bl true)) S)):BJ rf q [some v,some u,a2,bY i] S=some (.nx [some v,some u,a2,bY i] S):=by
 unfold BJ;cases tt with
 |true=>simp only[↓ev,hv,ha,hu,he,aG]
 |false=>simp only[↓ev,hv,ha,hu,he,aG]
def ZE(hv:jC S v=some (wO tt ds))(hu:jC S u=some (wO tt ds))(he:∀d∈ds,rf q [.d d,.d d] S=some (.ok (rd (.bl true)) S)):∃a3,aN (ae 3) (BJ rf q) (gG 0 ds.length) [some v,some u,a2,none] S=some (.nx [some v,some u,a2,a3] S):=by
 rw[nE];obtain⟨U',S',e,⟨a3,rfl⟩,rfl⟩:=iJ (gg:=ae 3) (body:=BJ rf q) (f:=λi:Nat=>D.int (i:Int)) (U:=[some v,some u,a2,none]) (S:=S) (λpre U S'=>(∃a3,U=[some v,some u,a2,a3])/\S'=S) (List.range ds.length) ⟨⟨_,rfl⟩,rfl⟩ (by
  rintro d i post eq U S' ⟨⟨a3,rfl⟩,rfl⟩;obtain⟨_,hi⟩:=FG eq;exact⟨_,_,_,rfl,.inl (e7s hv hu (tL (g7 hi)) (he _ (A' hi))),⟨_,rfl⟩,rfl⟩)
 exact⟨a3,e⟩
def Q9(hv:jC S v=some (wO tt ds))(hu:jC S u=some (wO tt ds))(hl:ds.length<=1000)(he:∀q,∀d∈ds,rf q [.d d,.d d] S=some (.ok (rd (.bl true)) S)):oq rf q [some v,some u,none,none] S=some (.rt (rd (.bl true)) S):=by
 have e:=λq=>ZE (rf:=rf) (q:=q) (a2:=(ak (.bl true))) hv hu (he q)
 have hz:Nat.ble ((ds.length:Nat):Int).natAbs 1000000000000=true:=by rw[MD];lia
 have tn:((ds.length:Nat):Int).toNat=ds.length:=Mo _;unfold oq;cases tt with
 |true=>
  obtain⟨a3,e⟩:=e q;simp only[↓ev,aF,hu,j5,Dk,hv,aG,cT,e_,hz,tn,Nat.max_zero,e]
 |false=>
  obtain⟨a3,e⟩:=e q;simp only[↓ev,aF,hu,j4,j6,aG,hv,R7,cT,e_,hz,tn,Nat.max_zero,e]
def vO(e:oq rf q [some v,some u,none,none] S=some (.rt (rd (.bl true)) S)):aR 2 4 (oq rf) q [v,u] S=some (.ok (rd (.bl true)) S):=by
 unfold aR;generalize oq rf q=ml at *;simp only[↓ev,e,f6]
def Q_{d:D}(h:sD n d=true):jC S (.d d)=some d:=by
 cases d with
 |ref m=>cases n <;> cases h
 |_=>rfl
theorem O8(n:Nat):∀d,sD n d=true->∀j,n<j->∀q S v,jC S v=some d->y6 2 4 oq j q [v,.d d] S=some (.ok (rd (.bl true)) S):=by
 induction n with
 |zero=>
  intro d h j hj q S v hv;cases j with
  |zero=>lia
  |succ j=>
   cases d with
   |aI=>exact vO (Q6 hv)
   |str z=>exact vO (Q7 hv)
   |int z=>exact vO (Q8 hv)
   |_=>cases h
 |succ n ih=>
  intro d h j hj q S v hv;cases j with
  |zero=>lia
  |succ j=>
   have go:∀tt l,(l.all (sD n)&&decide (l.length<=1000))=true->jC S v=some (wO tt l)->y6 2 4 oq (j+1) q [v,.d (wO tt l)] S=some (.ok (rd (.bl true)) S):=λtt l h hv=>by
    obtain⟨h1,h2⟩:=Bc.mp h;exact vO (Q9 hv (by cases tt <;> rfl) (tD h2) λq d hd=>ih d (jX.mp h1 d hd) j (by lia) q S _ (Q_ (jX.mp h1 d hd)))
   cases d with
   |aI=>exact vO (Q6 hv)
   |str z=>exact vO (Q7 hv)
   |int z=>exact vO (Q8 hv)
   |lst l=>exact go false l h hv
   |tup l=>exact go true l h hv
   |_=>cases h
def JL{d:D}(h:sD 4 d=true)(hv:jC S v=some d):vF q [v,.d d] S=some (.ok (rd (.bl true)) S):=O8 4 d h 5 (by decide) q S v hv
def ZF{l:List D}(h:l.all (sD 3)=true)(hl:l.length<=1000)(hv:jC S v=some (.lst l))(hu:jC S u=some (.lst l)):vF q [v,u] S=some (.ok (rd (.bl true)) S):=
 vO (rf:=y6 2 4 oq 4) (Q9 (tt:=false) hv hu hl λq d hd=>O8 3 d (jX.mp h d hd) 4 (by decide) q S _ (Q_ (jX.mp h d hd)))
end
variable{l:List (Str×Str×Int)}{p:Str×Str×Int}{q:Nat}
def B4(l:List Str):(iw l).Perm l:=by
 refine(Classical.epsilon_spec (p:=λs:List Str=>s.Perm l/\PyProof.Rows.sortedS s=true) ⟨l.mergeSort λa b=>decide (a.cps.toList<=b.cps.toList),List.mergeSort_perm ..,PyProof.Rows.sortedS_of_pairwise _ ((List.pairwise_mergeSort (le:=λa b:Str=>decide (a.cps.toList<=b.cps.toList)) (λa b c h1 h2=>?_) (λa b=>?_) l).imp λh=>?_)⟩).1
 all_goals grind [PyProof.Rows.ltCps_eq]
noncomputable def gq(l:List (Str×Str×Int))(f:Str):Str×Str×Int:=(l.find? λp=>p.1 == f).getD ("","",0)
noncomputable def mG (l:List (Str×Str×Int)):List (Str×Str×Int):=(iw (l.map (·.1))).map (gq l)
def Jr(nd:(l.map (·.1)).Nodup)(hp:p∈l):gq l p.1=p:=by
 unfold gq;cases h:l.find? λq=>q.1 == p.1 with
 |none=>exact cR (List.find?_eq_none.mp h p hp) (by simp)
 |some q=>
  grind [nc]
def Vj(nd:(l.map (·.1)).Nodup):(mG l).Perm l:=by
 have e:(l.map (·.1)).map (gq l)=l:=by
  rw[dh];exact(mJ λp hp=>Jr nd hp).trans (List.map_id l)
 have p:=(B4 (l.map (·.1))).map (gq l)
 rw[e] at p;exact p
section
variable{s B:List Cell}{h:az}{r:Int}{x:Hl}{n:Nat}{w:Row}{hd:D}{q:Nat}
def W7:Ff q [cQ] (hS B hd r x s)=some (.ok (rd (.int x.now)) (hS B hd r x s)):=by
 unfold Ff Nu;simp only[↓ev,hR,aF,bL]
def Vk(o:Ok h n x)(hn:n<64):eF 0 [cQ] (hS B hd r x s)=some (.ok (.o (.lst ((mG x.book).map t3))) (hS B hd r x s)):=by
 have sz:=o.sz;have lp:=(B4 (x.book.map (·.1))).length_eq
 rw[bq] at lp;have e1:dY ((kc x.book).map (·.1.d))=some (x.book.map (·.1)):=by
  unfold kc;rw[Ap,FH]
 have l1:((x.book.map (·.1)).length<64)=True:=bu (by rw[bq];lia)
 have e2:aZ (ae 0) (fq true) (eK 0) ((iw (x.book.map (·.1))).map D.str) [none,cq] (hS B hd r x s) []=some (.ok ((mG x.book).map t3) (hS B hd r x s)):=by
  unfold mG;rw[ox (λf=>t3 (gq x.book f)) _ (by lia) λf hf=>by
   obtain⟨p,hp,e⟩:=fy.mp ((B4 _).mem_iff.mp hf);have v:aO (kc x.book) (.inr f)=some (t3 (gq x.book f)):=by
    rw[<-e,Jr o.bn hp];exact ip (k:=λp:Str×Str×Int=>p.1) o.bn hp
   refine⟨rd (t3 (gq x.book f)),?_,rfl⟩;unfold eK;simp only[↓ev,hR,aF,v],dh]
  rfl
 unfold eF jA;simp only[↓ev,hR,aF,e1,l1,iy,e2,bL]
def e9r(o:Ok h n x)(hw:w∈x.rows):xO q [cQ,c_ w.bag] (hS B hd r x s)=some (.ok (rd (pl w.b w.i)) (hS B hd r x s)):=by
 have hn:=(o.rw w hw).2.1;have i2:(aO (uF x.gone) (.inr w.bag)).isSome=_:=qa;rw[show(x.gone.map (·.1)).contains w.bag=false by rw[Es];exact λz=>(kQ.mp o.nd).2.2 _ (mP hw) _ (rA z) rfl] at i2
 have h1:aO (gY x.rows) (.inr w.bag)=_:=ip o.nb hw;have e:=λq=>P5 (B:=B) (s:=s) (hd:=hd) (r:=r) q hn hw o.nb
 unfold xO Iy;simp only[↓ev,hn,hR,aF,aG,i2,fB,e,h1,bL]
def e7t(o:Ok h n x)(hp:p∈x.gone)(hn:mO p.1):xO q [cQ,c_ p.1] (hS B hd r x s)=some (.ok (rd (.str p.2.1)) (hS B hd r x s)):=by
 have h1:aO (uF x.gone) (.inr p.1)=_:=ip (kQ.mp o.nd).2.1 hp;unfold xO Iy;simp only[↓ev,hn,hR,aF,aG,h1,vy,bL]
end
section
variable{s C:List Cell}{h:az}{r:Int}{x y:Hl}{n q m:Nat}{w:Row}{L:List (Row×Nat)}{T:List Str}{hd:D}
def e9s(bn:(x.book.map (·.1)).Nodup)(hl:x.book.length<64):aZ (ae 0) (fq true) (gm 0) ((iw (x.book.map (·.1))).map D.str) [none,some (.c 0)] (lS hd r x y L C T s) []=some (.ok ((mG x.book).map t3) (lS hd r x y L C T s)):=by
 have lp:=(B4 (x.book.map (·.1))).length_eq
 rw[bq] at lp;unfold mG;rw[ox (λf=>t3 (gq x.book f)) _ (by lia) λf hf=>by
  obtain⟨p,hp,e⟩:=fy.mp ((B4 _).mem_iff.mp hf);have eg:=Jr bn hp;rw[e] at eg;have v:aO (jx x.book) (.inr f)=some (.tup [.str p.2.1,.int p.2.2]):=by
   rw[<-e];exact ip (k:=λp:Str×Str×Int=>p.1) bn hp
  refine⟨rd (t3 (gq x.book f)),?_,rfl⟩;rw[eg];unfold t3;rw[e];unfold gm;simp only[↓ev,lD,hR,lB,v,bA,bX,aF],dh]
 rfl
theorem W8(st:Ss n x L C T)(bl:h.af.length<=1000):aZ (ae 0) (gH q) (gp q) (h.af.map aw) [none,some (.c 0)] (lS hd r x y L C T s) []=some (.ok (dS (cH h x)) (lS hd r x y L C T s)):=by
 rw[uD (λb=>if x.halts.contains b.name=true then some (.str b.name) else none) h.af (by lia) λb m=>by
  have tm:=st.tm b.name;unfold gH gp aw;cases hc:x.halts.contains b.name with
  |true=>
   rw[hc] at tm;exact .inr ⟨rd (.str b.name),.str b.name,rfl,by simp only[↓ev,bA,FK,fj,aG,eS,tm],by simp only[↓ev,bA],rfl⟩
  |false=>
   rw[hc] at tm;exact .inl ⟨rfl,by simp only[↓ev,bA,FK,fj,aG,eS,tm]⟩]
 congr 2
 unfold cH dS
 induction h.af with
 |nil=>rfl
 |cons b bs ih=>grind
end
section
variable{s C B:List Cell}{h:az}{r at_:Int}{x y:Hl}{n q m:Nat}{w:Row}{L:List (Row×Nat)}{T:List Str}{hd:D}
noncomputable def lJ (h:az) (x:Hl):Nat->List D
 |0=>(mG x.book).map t3
 |1=>dS (cH h x)
 |2=>(ord h x.rows).map bN
 |_=>jz x.gone
noncomputable def AA (h:az) (x:Hl):List D:=[.lst (lJ h x 0),.lst (lJ h x 1),.lst (lJ h x 2),.ref 10]
theorem e7u(g:aJ h)(o:Ok h n x)(hn:n<64):∀k:Nat,k<4->gd 0 [cQ,aQ (k:Int)] (hS B (av h) r x s)=some (.ok (.o (.lst (lJ h x k))) (hS B (av h) r x s)):=by
 intro k hk;have e0:=Vk (B:=B) (s:=s) (r:=r) (hd:=av h) o hn;have e1:=IB (B:=B) (s:=s) (r:=r) (q:=0) (x:=x) g;have e2:=Gk (B:=B) (s:=s) (r:=r) (q:=0) g o;have e3:=e5v (B:=B) (s:=s) (r:=r) (q:=0) (x:=x) (hd:=av h);unfold gd ny lJ;generalize av h=hd at *;rcases(show k=0\/k=1\/k=2\/k=3 by lia) with rfl|rfl|rfl|rfl
 .rw[show((0:Nat):Int)=0 from rfl];simp only[↓ev,aG,eV,cT,hR,fB,aF,e0,bL]
 .rw[show((1:Nat):Int)=1 from rfl];simp only[↓ev,aG,eV,aF,cT,hR,fB,e1,bL]
 .rw[show((2:Nat):Int)=2 from rfl];simp only[↓ev,aG,eV,aF,cT,hR,fB,e2,bL]
 .rw[show((3:Nat):Int)=3 from rfl];simp only[↓ev,aG,eV,aF,hR,fB,e3,bL]
theorem ZG{X:List D}{k kd:Int}{dv:D}{g4 g5 a8 a9:ai Val}(hk:(k+at_)%4=kd)(ht:gd 0 [cQ,aQ kd] (lS hd r x x L C T s)=some (.ok (.o (.lst X)) (lS hd r x x L C T s))){du:List D}(ha:d_ du kd=some dv)
  (hs:vF 0 [.c (s.length+1),.d dv] (lS hd r x x L C T (s++[.o (.lst X)]))=some (.ok (rd (.bl true)) (lS hd r x x L C T (s++[.o (.lst X)])))) :
  dA 0 [cq,ak hd,some (.c 0),bY at_,g4,g5,ak (.lst du),bY k,a8,a9] (lS hd r x x L C T s)=some (.nx [cq,ak hd,some (.c 0),bY at_,g4,g5,ak (.lst du),bY k,bY kd,some (.c (s.length+1))] (lS hd r x x L C T (s++[.o (.lst [])]))):=by
 have m4:((0:Int)<4)=True:=bu (by decide)
 unfold dA;simp only[↓ev,m4,decide_true,hk,aF,ht,Hb,Ly,ha,hs,aG,Ar,Ik]
theorem ZH(l:List Row):(l.map bN).all (sD 3)=true:=by
 rw[xa];refine jX.mpr λw _=>?_
 dsimp only[Function.comp,bN];cases w.fl <;> rfl
theorem Rt(l:List (Str×Str×Int)):(l.map t3).all (sD 3)=true:=by
 rw[xa];exact jX.mpr λw _=>rfl
theorem e7w(l:List Str):(dS l).all (sD 3)=true:=by
 unfold dS;rw[xa];exact jX.mpr λw _=>rfl
theorem e9t(o:Ok h n x)(hn:n<64)(bl:h.af.length<=900):∀k<4,(lJ h x k).all (sD 3)=true/\(lJ h x k).length<=1000:=by
 intro k hk;have sz:=o.sz;rcases(show k=0\/k=1\/k=2\/k=3 by lia) with rfl|rfl|rfl|rfl
 .refine⟨Rt _,?_⟩;show((mG x.book).map t3).length<=1000;rw[bq,(Vj o.bn).length_eq];lia
 .refine⟨e7w _,?_⟩;show(dS (cH h x)).length<=1000
  grind [cH]
 .refine⟨ZH _,?_⟩;show((ord h x.rows).map bN).length<=1000;rw[bq,o.perm.length_eq];lia
 .refine⟨Rt _,?_⟩;show(jz x.gone).length<=1000
  grind [jz]
theorem ZI(g:aJ h)(o:Ok h n x)(hn:n<64)(bl:h.af.length<=900)(a0:0<=at_){g4 g5:ai Val}:∃a7 a8 a9 s',aN (ae 7) (dA 0) (gG 0 4) [cq,ak (av h),some (.c 0),bY at_,g4,g5,ak (.lst (AA h x)),none,none,none] (lS (av h) r x x L C T s)=some (.nx [cq,ak (av h),some (.c 0),bY at_,g4,g5,ak (.lst (AA h x)),a7,a8,a9] (lS (av h) r x x L C T (s++s'))):=by
 rw[nE];obtain⟨U',S',e,⟨a7,a8,a9,rfl⟩,s',rfl⟩:=iJ (gg:=ae 7) (body:=dA 0) (f:=λi:Nat=>D.int (i:Int)) (U:=[cq,ak (av h),some (.c 0),bY at_,g4,g5,ak (.lst (AA h x)),none,none,none]) (S:=lS (av h) r x x L C T s) (λ_ U S'=>(∃a7 a8 a9,U=[cq,ak (av h),some (.c 0),bY at_,g4,g5,ak (.lst (AA h x)),a7,a8,a9])/\∃s',S'=lS (av h) r x x L C T (s++s')) (List.range 4) ⟨⟨_,_,_,rfl⟩,[],by rw[jW]⟩ (by
  rintro d i post eq U S' ⟨⟨a7,a8,a9,rfl⟩,s',rfl⟩;obtain⟨k,hk,ek⟩:∃k:Nat,k<4/\((i:Int)+at_)%4=(k:Int):=⟨(((i:Int)+at_)%4).toNat,by lia,by lia⟩
  obtain⟨t1,t2⟩:=e9t o hn bl k hk;have ha:∃dv,d_ (AA h x) (k:Int)=some dv/\jC (lS (av h) r x x L C T (s++s'++[.o (.lst (lJ h x k))])) (.d dv)=some (.lst (lJ h x k)):=by
   rcases(show k=0\/k=1\/k=2\/k=3 by lia) with rfl|rfl|rfl|rfl
   .exact⟨_,rfl,rfl⟩
   .exact⟨_,rfl,rfl⟩
   .exact⟨_,rfl,rfl⟩
   .exact⟨_,rfl,rfl⟩
  obtain⟨dv,h1,h2⟩:=ha;have hv:jC (lS (av h) r x x L C T (s++s'++[.o (.lst (lJ h x k))])) (.c ((s++s').length+1))=some (.lst (lJ h x k)):=by
   show((stC x T::(s++s'++[.o (.lst (lJ h x k))]))[(s++s').length+1]?).bind _=_;rw[Ar];rfl
  have b:=ZG (r:=r) (L:=L) (C:=C) (T:=T) (s:=s++s') (g4:=g4) (g5:=g5) (a8:=a8) (a9:=a9) ek (e7u g o hn k hk) h1 (ZF t1 t2 hv h2);exact⟨_,_,_,rfl,.inl b,⟨_,_,_,rfl⟩,s'++[.o (.lst [])],by rw[kP]⟩)
 exact⟨a7,a8,a9,s',e⟩
theorem ZJ(g:aJ h)(sl:∀b∈h.af,0<=b.long/\b.long<=1000)(o:Ok h n x)(hn:n<64)(st:Ss m x L C T)(a0:0<=at_):eR 0 [cQ,.d (av h),.c 0,aQ at_] (lS (av h) r x x L C T s)=some (.ok (rd (.bl true)) (lS (av h) r x x L C T s)):=by
 have bl:=g.sm.bl;have sz:=o.sz;have e1:=e9s (hd:=av h) (r:=r) (y:=x) (L:=L) (C:=C) (T:=T) (s:=s) o.bn (by lia)
 have k1:dY ((jx x.book).map (·.1.d))=some (x.book.map (·.1)):=by rw[Ap,FH]
 have l1:((x.book.map (·.1)).length<64)=True:=bu (by rw[bq];lia)
 have e2:=W8 (h:=h) (hd:=av h) (r:=r) (y:=x) (s:=s) (q:=0) st (by lia)
 have e3:=ZD (r:=r) (y:=x) (s:=s) g sl o st;obtain⟨a7,a8,a9,s',e4⟩:=ZI (r:=r) (L:=L) (C:=C) (T:=T) (s:=s) (g4:=some (.d (.lst (lJ h x 0)))) (g5:=some (.d (.lst (lJ h x 1)))) g o hn (by lia) a0
 have e5:=λs=>W7 (B:=lB x L C) (q:=0) (hd:=av h) (r:=r) (x:=x) (s:=stC x T::s)
 have e6:=λS=>JL (q:=0) (S:=S) (v:=.d (.int x.now)) (d:=.int x.now) rfl rfl
 have hz:Nat.ble (Int.natAbs 4) 1000000000000=true:=rfl;have c1:∀{a:Cell} {l R:List Cell},aT.cut ⟨a::(s++l),R⟩ (s.length+1)=⟨a::s,R⟩:=λ{a l R}=>by
  show(⟨a::(s++l).take s.length,R⟩:aT)=_
  simp_all
 unfold AA at e4;rw[show(mG x.book).map t3=lJ h x 0 from rfl] at e1;rw[show dS (cH h x)=lJ h x 1 from rfl] at e2;rw[show(ord h x.rows).map bN=lJ h x 2 from rfl] at e3;generalize lJ h x 0=t0 at *;generalize lJ h x 1=t1 at *;generalize lJ h x 2=t2 at *;have hD:av h=.tup [.lst (h.af.map aw),.lst (dS h.carts)]:=rfl;simp only[hD] at e1 e2 e3 e4 e5 ⊢;unfold eR lF;simp only[↓ev,lD,hR,lB,k1,l1,iy,e1,aF,bA,e2,e3,rH,aG,hz,e4,fB,e5,JI,e6]
 simp_all
end
theorem Le:(max 0 2:Nat)=2:=rfl
section
variable{s C B:List Cell}{h:az}{r:Int}{x y:Hl}{n q m:Nat}{w:Row}{L:List (Row×Nat)}{T:List Str}{hd:D}
theorem e7x(o:Ok h n x)(st:Ss m x L C T)(hw:w∈x.rows):E4 1 [cq,some (.c 0),bh w.bag] (lS hd r x x L C T s)=some (.nx [cq,some (.c 0),bh w.bag] (lS hd r x x L C T s)):=by
 obtain⟨p,mp,ep⟩:=fy.mp (show w∈L.map (·.1) by rw[st.rows];exact hw)
 have v:aO (inD L) (.inr w.bag)=some (.ref (p.2+11)):=by rw[<-ep];exact ip (by rw[st.l0];exact o.nb) mp
 have c0:=st.at_ p mp;rw[ep] at c0;unfold kE at c0;have e1:=e9r (B:=lB x L C) (q:=1) (hd:=hd) (r:=r) (s:=stC x T::s) o hw;have e2:=λS=>JL (q:=1) (S:=S) (v:=.d (pl w.b w.i)) (d:=pl w.b w.i) rfl rfl
 generalize aM w.fl=ff at *;unfold E4;simp only[↓ev,hR,lB,fB,aF,e1,iS,v,jG,c0,bX,e2,aG]
theorem W9(o:Ok h n x)(hn:n<1000)(st:Ss m x L C T):BK 0 [cQ,.c 0] (lS hd r x x L C T s)=some (.ok (rd (.bl true)) (lS hd r x x L C T s)):=by
 have sz:=o.sz;obtain⟨U',S',e,⟨a2,rfl⟩,rfl⟩:=iJ (gg:=ae 2) (body:=E4 1) (f:=λw:Row=>D.str w.bag) (U:=[cq,some (.c 0),none]) (S:=lS hd r x x L C T s) (λ_ U S'=>(∃a2,U=[cq,some (.c 0),a2])/\S'=lS hd r x x L C T s) x.rows ⟨⟨_,rfl⟩,rfl⟩ (by
  rintro d w post eq U S' ⟨⟨a2,rfl⟩,rfl⟩;exact⟨_,_,_,rfl,.inl (e7x o st (by rw[eq];simp)),⟨_,rfl⟩,rfl⟩)
 rw[show x.rows.map (λw=>D.str w.bag)=dS (x.rows.map Row.bag) by unfold dS;rw[dh];rfl] at e
 have k:(inD L).map (·.1.d)=dS (x.rows.map Row.bag):=by unfold inD;rw[Ap,st.l0]
 have e2:aZ (ae 0) (fq true) (HU 2) (jz x.gone) [none,cq] (lS hd r x x L C T s) []=some (.ok ((x.gone.map λ_=>true).map D.bl) (lS hd r x x L C T s)):=by
  unfold jz;rw[ox (λ_=>D.bl true) x.gone (by lia) λp mp=>⟨rd (.bl true),by
   have e1:=e7t (B:=lB x L C) (q:=2) (hd:=hd) (r:=r) (s:=stC x T::s) o mp (o.gi p mp);have e2:=λS=>JL (q:=2) (S:=S) (v:=.d (.str p.2.1)) (d:=.str p.2.1) rfl rfl
   unfold HU t3;simp only[↓ev,hR,fB,aF,bA,e1,bX,e2],rfl⟩,dh]
  rfl
 have al:(x.gone.map λ_=>true).all id=true:=by
  simp_all
 generalize(x.gone.map λ_=>true)=bs at *
 unfold BK Nx;simp only[↓ev,iS,hR,lB,k,ze,e,rH,Le,e2,BP,al,bL]
end
variable{c:ah}{v a b:Bool}
theorem e9u(h:Az c=true):(wd c == "")=false:=by
 have hm:c∈[44,68,92,104,116,128,140]:=lj.mp h;simp only[y09,y19,or_false] at hm;rcases hm with rfl|rfl|rfl|rfl|rfl|rfl|rfl
 all_goals decide +kernel
theorem e9v{c:Bool}(h:JO v a b c=0):v=true/\a=false:=by
 cases v <;> cases a <;> cases b <;> cases c <;> revert h <;> decide
theorem e9w(h:JN a b=0):a=true:=by
 cases a <;> cases b <;> revert h <;> decide
theorem e9x(h:JT a b=0):a=true:=by
 cases a <;> cases b <;> revert h <;> decide
theorem e9y{c d e:Bool}(h:JS v a b c d e=0):a=false:=by
 cases a with
 |false=>rfl
 |true=>cases v <;> exact cR (show(44:ah)=0 from h) (by decide)
section
variable{C:List Cell}{h:az}{r:Int}{x y:Hl}{n q:Nat}{w:Row}{L:List (Row×Nat)}{T:List Str}{d:D}{f bag:Str}{v:Bool}
theorem Ra(a:jJ f v)(b:mO f):v=true:=by
 have e:=(a 0 ⟨[],[]⟩).symm.trans (b 0 ⟨[],[]⟩)
 lia
theorem Gv(st:Ss n x L C T)(hv:jJ f v):(v&&cz x f)=cz x f:=by
 cases hc:cz x f with
 |false=>exact Mq v
 |true=>
  obtain⟨p,mp,e⟩:=fy.mp (rA hc);rw[Ra hv (e ▸ st.bv p mp)];rfl
theorem e9z(o:Ok h n x)(hv:jJ bag v):(v&&(x.rows.map Row.bag).contains bag)=(x.rows.map Row.bag).contains bag:=by
 cases hc:(x.rows.map Row.bag).contains bag with
 |false=>exact Mq v
 |true=>
  obtain⟨p,mp,e⟩:=fy.mp (rA hc);rw[Ra hv (e ▸ (o.rw p mp).2.1)];rfl
theorem e7y(st:Ss n x L C T){fl:ai Str}(hf:∀f,fl=some f->jJ f v):oz x v fl=oz x true fl:=by
 cases fl with
 |none=>rfl
 |some f=>exact Gv st (hf f rfl)
def MF(h:az)(r:Int)(n:Nat)(x:Hl)(L:List (Row×Nat))(C:List Cell)(T:List Str)(d:D):Prop:=∃c x',nQ 0 [.d (av h),.c 0,.d d] (lS (av h) r x x L C T [])=some (.ok (rd (.str (wd c))) (lS (av h) r x x L C T []))/\
 xP 0 [cQ,.d d] (lS (av h) r x x L C T [])=some (.ok (rd (.str (wd c))) (lS (av h) r x (if c=0 then x' else x) L C T []))/\((c=0/\Ok h (n+1) x'/\lM (av h) r n x x' x' L C T [] d)\/Az c=true)
theorem yl{x':Hl}(Zo:nQ 0 [.d (av h),.c 0,.d d] (lS (av h) r x x L C T [])=some (.ok (rd (.str (wd c))) (lS (av h) r x x L C T [])))(e:Dn h r n x [stC x T] (lB x L C) c x' (p_ 0 [cQ,.d d] (hS (lB x L C) (av h) r x [stC x T])))(J4:c=0->lM (av h) r n x x' x' L C T [] d):MF h r n x L C T d:=by
 refine⟨c,x',Zo,Zf e,?_⟩;rcases e with⟨h0,_,ok⟩|⟨hc,_⟩
 .exact .inl ⟨h0,ok,J4 h0⟩
 .exact .inr hc
theorem f0a(g:aJ h)(o:Ok h n x)(hn:n<900)(st:Ss n x L C T)(hd:iO d)(h8:∀ds,d=.tup (.str "put"::ds)->x.rows.length<8):MF h r n x L C T d:=by
 have bl:h.af.length<=1000:=by have:=g.sm.bl;lia
 have sz:=o.sz;have ll:L.length<=1000:=by
  have:=congrArg List.length st.rows
  grind
 have tl:=st.tl;cases hd with
 |@oA f ct cl v hv hl=>
  refine yl (JJ (.inl rfl) bl λq=>Vf hl) (yk.1 (WR g o (by lia) hv)) λc0=>?_
  obtain⟨rfl,h1⟩:=e9v c0;exact Vh st (by lia) h1 hv
 |@change f cl v hv=>
  have e:=WS (r:=r) (s:=[stC x T]) (B:=lB x L C) (cl:=cl) g o (by lia) hv
  rw[Gv st hv] at e;exact yl (JJ (.inr (.inl rfl)) bl λq=>Vg) (yk.2.1 e) λc0=>Vi st o.bn (by lia) (e9w c0)
 |@off f v hv=>
  have e:=e9o (r:=r) (s:=[stC x T]) (B:=lB x L C) g o hv;rw[Gv st hv] at e;refine yl (JJ (.inr (.inr rfl)) bl λq=>e7f) (yk.2.2.1 e) λc0=>e7l st o.bn ?_
  lia
 |@put bag b fl v v2 hv hl hf=>
  have e:=e9n (r:=r) (s:=[stC x T]) (B:=lB x L C) (b:=b) (fl:=fl) g o (by lia) hv hf (h8 _ rfl)
  rw[e7y st hf] at e;exact yl (e7h bl st (by lia) ll hl) (yk.2.2.2.1 e) λc0=>e7i st ll (e9y c0)
 |@read bag f v v2 hv nu=>
  have e:=e7b (r:=r) (s:=[stC x T]) (B:=lB x L C) g o (by lia) hv nu
  rw[Gv st nu,e9z o hv] at e;exact yl (Zk bl st) (yk.2.2.2.2.1 e) λc0=>Zt st o.nb (e9x c0)
 |@stop b=>exact yl (Zj bl) (yk.2.2.2.2.2.1 (e7a g o (by lia))) λ_=>Zs st (by lia)
 |@start b=>exact yl (WW bl) (yk.2.2.2.2.2.2 (WT g o)) λ_=>WZ st (by lia)
end
variable{m:Nat}{k:Str}{ds:List D}{hd:D}{ln:Int}{S:aT}
theorem e7z{d:D}(hd:iO d):∃k ds,d=.tup (.str k::ds)/\(k == "turn")=false/\((k == "put")=false\/k="put"):=by
 cases hd <;> exact⟨_,_,rfl,by decide +kernel,by first|exact .inr rfl|exact .inl (by decide +kernel)⟩
section
variable{C:List Cell}{h:az}{r:Int}{x y:Hl}{n q:Nat}{L:List (Row×Nat)}{T:List Str}{d:D}{g0 g4 a5 a6 a7:ai Val}{ns:List Int}
theorem Ok.mono(o:Ok h n x)(hm:n<=m):Ok h m x:=⟨o.rw,o.nd,o.un,o.bk,o.bn,o.gi,o.rl,ju o.sz hm⟩
theorem Ss.mono(o:Ss n x L C T)(hm:n<=m):Ss m x L C T:=⟨o.rows,o.nd,o.at_,ju o.tl hm,o.tm,o.bv⟩
def At(h:az)(r:Int)(n:Nat)(S:aT):Prop:=∃x L C T,S=lS (av h) r x x L C T []/\Ok h n x/\Ss n x L C T
theorem JM:dX (inD L)=true:=qC
theorem f0b{S':aT}{x':Hl}(hk:(k == "turn")=false)(hl:((inD L).length:Int)=ln)(hp:(k == "put")=false\/(k == "put")=true/\(ln<8)=True)(e1:nQ 0 [.d hd,.c 0,.d (.tup (.str k::ds))] (lS hd r x x L C T [])=some (.ok (rd (.str "")) (lS hd r x x L C T [])))(e2:xP 0 [cQ,.d (.tup (.str k::ds))] (lS hd r x x L C T [])=some (.ok (rd (.str "")) (lS hd r x x' L C T [])))(e3:rK 0 [.c 0,.d (.tup (.str k::ds))] (lS hd r x x' L C T [])=some (.ok (rd .aI) S')):
  cC 0 [g0,ak hd,cq,some (.c 0),g4,ak (.tup (.str k::ds)),a6,a7] (lS hd r x x L C T [])=some (.nx [g0,ak hd,cq,some (.c 0),g4,ak (.tup (.str k::ds)),a6,bh ""] S'):=by
 unfold cC;rcases hp with hp|⟨hp,h8⟩
 .simp only[↓ev,bA,aG,dm,hk,hp,ja,e1,aF,e2,cT,e_,e3]
 .simp only[↓ev,bA,aG,dm,hk,hp,e_,iS,hR,lB,JM,hl,h8,decide_true,e1,aF,e2,cT,e3]
theorem f0c{w:Str}(hk:(k == "turn")=false)(hl:((inD L).length:Int)=ln)(hp:(k == "put")=false\/(k == "put")=true/\(ln<8)=True)(hw:(w == "")=false)(e1:nQ 0 [.d hd,.c 0,.d (.tup (.str k::ds))] (lS hd r x x L C T [])=some (.ok (rd (.str w)) (lS hd r x x L C T [])))(e2:xP 0 [cQ,.d (.tup (.str k::ds))] (lS hd r x x L C T [])=some (.ok (rd (.str w)) (lS hd r x x L C T []))):
  cC 0 [g0,ak hd,cq,some (.c 0),g4,ak (.tup (.str k::ds)),a6,a7] (lS hd r x x L C T [])=some (.nx [g0,ak hd,cq,some (.c 0),g4,ak (.tup (.str k::ds)),a6,bh w] (lS hd r x x L C T [])):=by
 unfold cC;rcases hp with hp|⟨hp,h8⟩
 .simp only[↓ev,bA,aG,dm,hk,hp,ja,e1,aF,e2,cT,e_,hw]
 .simp only[↓ev,bA,aG,dm,hk,hp,e_,iS,hR,lB,JM,hl,h8,decide_true,e1,aF,e2,cT,hw]
theorem ZK(hl:((inD L).length:Int)=ln)(h8:(ln<8)=False):cC 0 [g0,ak hd,cq,some (.c 0),g4,ak (.tup (.str "put"::ds)),a6,a7] (lS hd r x x L C T [])=some (.nx [g0,ak hd,cq,some (.c 0),g4,ak (.tup (.str "put"::ds)),a6,a7] (lS hd r x x L C T [])):=by
 unfold cC;simp only[↓ev,bA,aG,dm,aF,cT,e_,iS,hR,lB,JM,hl,h8,decide_false]
theorem e8a(g:aJ h)(hn:n<900)(a:At h r n S)(hd:iO d):∃lZ S',cC 0 [g0,ak (av h),cq,some (.c 0),g4,ak d,a6,a7] S=some (.nx [g0,ak (av h),cq,some (.c 0),g4,ak d,a6,lZ] S')/\At h r (n+1) S':=by
 obtain⟨x,L,C,T,rfl,o,st⟩:=a;obtain⟨k,ds,rfl,hk,hp⟩:=e7z hd;have ll:((inD L).length:Int)=(x.rows.length:Int):=by
  unfold inD;rw[kX,<-st.rows,bq]
 have go:(∀Zn,D.tup (.str k::ds)=.tup (.str "put"::Zn)->x.rows.length<8)->((k == "put")=false\/(k == "put")=true/\((x.rows.length:Int)<8)=True)->∃lZ S',cC 0 [g0,ak (av h),cq,some (.c 0),g4,ak (.tup (.str k::ds)),a6,a7] (lS (av h) r x x L C T [])=some (.nx [g0,ak (av h),cq,some (.c 0),g4,ak (.tup (.str k::ds)),a6,lZ] S')/\At h r (n+1) S':=λh8 hp=>by
  obtain⟨c,x',e1,e2,e3⟩:=f0a (r:=r) g o hn st hd h8;rcases e3 with⟨rfl,ok,L',C',T',e3,s3⟩|hc
  .rw[bJ rfl] at e2;exact⟨_,_,f0b hk ll hp e1 e2 e3,x',L',C',T',rfl,ok,s3⟩
  .rw[br (λz=>by rw[z] at hc;cases hc)] at e2
   exact⟨_,_,f0c hk ll hp (e9u hc) e1 e2,x,L,C,T,rfl,o.up,st.mono (qG n)⟩
 rcases hp with hp|rfl
 .simp_all
 .by_cases h8:x.rows.length<8
  .exact go (λ_ _=>h8) (.inr ⟨cT _,bu (by lia)⟩)
  .exact⟨_,_,ZK ll (eq_false (by lia)),x,L,C,T,rfl,o.up,st.mono (qG n)⟩
theorem e8b(g:aJ h)(hn:n<900)(a:At h r n S){U:List (ai Val)}(hU:∃a5 a6 a7,U=[g0,ak (av h),cq,some (.c 0),g4,a5,a6,a7]):∃S',iT 0 U S=some (.nx U S')/\At h r n S':=by
 obtain⟨x,L,C,T,rfl,o,st⟩:=a;obtain⟨a5,a6,a7,rfl⟩:=hU;obtain⟨X,t,e1⟩:=e6x (B:=lB x L C) (s:=[stC x T]) (r:=r) g o (by lia)
 obtain⟨L',C',e2,s2⟩:=e9q (y:=cW h r x X) (s:=[]) g o (by lia) t st
 refine⟨lS (av h) r (cW h r x X) (cW h r x X) L' C' T [],?_,cW h r x X,L',C',T,rfl,o.turn g t,s2⟩;generalize(ord h x.rows).map (gz X (aq h r x))=lg at *;generalize cW h r x X=x2 at *;generalize av h=hd at *;unfold iT;simp only[↓ev,e1,e2]
end
section
variable{h:az}{r:Int}{n q:Nat}{d:D}{g0 g4 a5 a6 a7:ai Val}{ns:List Int}{S:aT}
theorem ZL(g:aJ h)(hn:n<900)(a:At h r n S)(m:Nat):∃g9 S',aN (ae 6) (iT 0) (gG 0 m) [g0,ak (av h),cq,some (.c 0),g4,a5,a6,a7] S=some (.nx [g0,ak (av h),cq,some (.c 0),g4,a5,g9,a7] S')/\At h r n S':=by
 rw[nE];obtain⟨U',S',e,⟨g9,rfl⟩,i⟩:=iJ (gg:=ae 6) (body:=iT 0) (f:=λi:Nat=>D.int (i:Int)) (U:=[g0,ak (av h),cq,some (.c 0),g4,a5,a6,a7]) (S:=S) (λ_ U S'=>(∃g9,U=[g0,ak (av h),cq,some (.c 0),g4,a5,g9,a7])/\At h r n S') (List.range m) ⟨⟨_,rfl⟩,a⟩ (by
  rintro d i post eq U S' ⟨⟨g9,rfl⟩,a⟩;obtain⟨S2,e,i2⟩:=e8b (g0:=g0) (g4:=g4) g hn a (U:=[g0,ak (av h),cq,some (.c 0),g4,a5,ak (.int (i:Int)),a7]) ⟨_,_,_,rfl⟩;exact⟨_,_,_,rfl,.inl e,⟨_,rfl⟩,i2⟩)
 exact⟨g9,S',e,i⟩
theorem ZM(g:aJ h)(hn:n<900)(a:At h r n S)(AI:iO d\/∃m:Int,1<=m/\m<=12/\d=kJ m):∃g9 lZ S',cC 0 [g0,ak (av h),cq,some (.c 0),g4,ak d,a6,a7] S=some (.nx [g0,ak (av h),cq,some (.c 0),g4,ak d,g9,lZ] S')/\At h r (n+1) S':=by
 rcases AI with hd|⟨m,m1,m12,rfl⟩
 .obtain⟨lZ,S',e,i⟩:=e8a (g0:=g0) (g4:=g4) (a6:=a6) (a7:=a7) g hn a hd;exact⟨_,_,_,e,i⟩
 .obtain⟨g9,S',e,i⟩:=ZL (g0:=g0) (g4:=g4) (a5:=ak (kJ m)) (a6:=a6) (a7:=a7) g hn a m.toNat;refine⟨g9,a7,S',?_,?_⟩
  .have hz:Nat.ble m.natAbs 1000000000000=true:=by rw[MD];lia
   generalize av h=hd at *;unfold kJ at e ⊢;unfold cC;simp only[↓ev,bA,aG,dm,cT,bX,hz,iy,e]
  .obtain⟨x,L,C,T,e1,o,st⟩:=i;exact⟨x,L,C,T,e1,o.up,st.mono (qG n)⟩
theorem W_(g:aJ h)(a:At h r n S)(ds:List D)(hl:n+ds.length<900)(AI:∀d∈ds,iO d\/∃m:Int,1<=m/\m<=12/\d=kJ m):∃a5' g9 lZ S',aN (ae 5) (cC 0) ds [g0,ak (av h),cq,some (.c 0),g4,a5,a6,a7] S=some (.nx [g0,ak (av h),cq,some (.c 0),g4,a5',g9,lZ] S')/\At h r (n+ds.length) S':=by
 obtain⟨U',S',e,⟨a5',g9,lZ,rfl⟩,i⟩:=iJ (gg:=ae 5) (body:=cC 0) (f:=λd:D=>d) (U:=[g0,ak (av h),cq,some (.c 0),g4,a5,a6,a7]) (S:=S) (λpre U S'=>(∃a5 a6 a7,U=[g0,ak (av h),cq,some (.c 0),g4,a5,a6,a7])/\At h r (n+pre.length) S') ds ⟨⟨_,_,_,rfl⟩,a⟩ (by
  rintro p d post eq U S' ⟨⟨a5,a6,a7,rfl⟩,a⟩;have Lv:p.length<ds.length:=by rw[eq];simp
  obtain⟨g9,lZ,S2,e,i⟩:=ZM (g0:=g0) (g4:=g4) (a6:=a6) (a7:=a7) g (by lia) a (AI d (by rw[eq];simp))
  refine⟨_,_,_,rfl,.inl e,⟨_,_,_,rfl⟩,?_⟩;rw[dZ];exact i)
 rw[List.map_id'] at e;exact⟨a5',g9,lZ,S',e,i⟩
theorem ZN{ki dg:Int}{S':aT}{a5' g9 lZ:ai Val}(ed:xQ 0 [.d (bj ns),aQ ki,.d hd] S=some (.ok (.o (.lst ds)) S))(e:aN (ae 5) (cC 0) ds [ak (bj ns),ak hd,cq,some (.c 0),bY ki,a5,a6,a7] S=some (.nx [ak (bj ns),ak hd,cq,some (.c 0),bY ki,a5',g9,lZ] S'))
  (eg:Pr ik [.d (bj ns),aQ ki,aQ 3,aQ 4] (rd (.int dg))) (e1:eR 0 [cQ,.d hd,.c 0,aQ dg] S'=some (.ok (rd (.bl true)) S')) (e2:BK 0 [cQ,.c 0] S'=some (.ok (rd (.bl true)) S')) :
  fH 0 [ak (bj ns),ak hd,cq,some (.c 0),bY ki,a5,a6,a7] S=some (.nx [ak (bj ns),ak hd,cq,some (.c 0),bY ki,a5',g9,lZ] S'):=by
 unfold fH;simp only[↓ev,ed,iy,e,eg,e1,aG,e2]
theorem Ld(g:aJ h)(sl:∀b∈h.af,0<=b.long/\b.long<=1000)(b0:0<h.af.length)(hn:n<60)(a:At h r n S)(k:Nat)(hk:k<900):∃a5' g9 lZ S',fH 0 [ak (bj ns),ak (av h),cq,some (.c 0),bY (k:Int),a5,a6,a7] S=some (.nx [ak (bj ns),ak (av h),cq,some (.c 0),bY (k:Int),a5',g9,lZ] S')/\At h r (n+2) S':=by
 obtain⟨ds,dk,ed⟩:=Zi (ns:=ns) g b0 k hk S;have dl:=dk.1;obtain⟨a5',g9,lZ,S',e,x,L,C,T,rfl,o,st⟩:=W_ (g0:=ak (bj ns)) (g4:=bY (k:Int)) (a5:=a5) (a6:=a6) (a7:=a7) g a ds (by lia) dk.2
 obtain⟨eg,d0,d1⟩:=il ns k 3 4 (by lia) (by decide) (by decide)
 have o2:=o.mono (show n+ds.length<=n+2 by lia)
 exact⟨a5',g9,lZ,_,ZN ed e eg (ZJ g sl o2 (by lia) st d0) (W9 o2 (by lia) st),x,L,C,T,rfl,o2,st.mono (by lia)⟩
theorem f0d(g:aJ h)(sl:∀b∈h.af,0<=b.long/\b.long<=1000)(b0:0<h.af.length)(a:At h r 0 S)(m:Nat)(hm:m<=25){a4:ai Val}:∃U' S',aN (ae 4) (fH 0) (mE 15 2 m) [ak (bj ns),ak (av h),cq,some (.c 0),a4,a5,a6,a7] S=some (.nx U' S'):=by
 have er:mE 15 2 m=(List.range m).map λi=>D.int ((15+2*i:Nat):Int):=by
  grind [mE]
 rw[er];obtain⟨U',S',e,_⟩:=iJ (gg:=ae 4) (body:=fH 0) (f:=λi:Nat=>D.int ((15+2*i:Nat):Int)) (U:=[ak (bj ns),ak (av h),cq,some (.c 0),a4,a5,a6,a7]) (S:=S) (λpre U S'=>(∃a4 a5 a6 a7,U=[ak (bj ns),ak (av h),cq,some (.c 0),a4,a5,a6,a7])/\At h r (2*pre.length) S') (List.range m) ⟨⟨_,_,_,_,rfl⟩,a⟩ (by
  rintro p i post eq U S' ⟨⟨a4,a5,a6,a7,rfl⟩,a⟩;obtain⟨hq,hi⟩:=FG eq;obtain⟨a5',g9,lZ,S2,e,i2⟩:=Ld (ns:=ns) (a5:=a5) (a6:=a6) (a7:=a7) g sl b0 (by lia) a (15+2*i) (by lia)
  refine⟨_,_,_,rfl,.inl e,⟨_,_,_,_,rfl⟩,?_⟩;rw[dZ,zP,Nat.mul_add];exact i2)
 exact⟨U',S',e⟩
noncomputable def x0:Hl:=⟨0,[],[],[],[]⟩
theorem Il(h:az)(r:Int):At h r 0 (lS (av h) r x0 x0 [] [] [] []):=⟨x0,[],[],[],rfl,⟨λw m=>(by cases m),EA,EA,λp m=>(by cases m),EA,λp m=>(by cases m),by decide,by decide⟩,⟨rfl,EA,λp m=>(by cases m),by decide,λ_=>rfl,λp m=>(by cases m)⟩⟩
theorem ZO{c0 c1 c2 c3 c4 c5 c6 c7:Cell}:Fm 0 [] ⟨[],[c0,c1,c2,c3,c4,c5,c6,c7]⟩=some (.ok (.o (.aA (kG (.int 0) (.ref 8) (.lst []) (.ref 9) (.ref 10)))) ⟨[],[c0,c1,c2,c3,c4,c5,c6,c7,.o (.aA []),.o (.aA []),.o (.lst [])]⟩):=by
 rfl
theorem e8c(e:nz 0 [ak (bj ns),none,none,none,none,none,none,none] ⟨[],[]⟩=some (.rt (rd (.bl true)) S2)):∃S,oQ 0 [.d (bj ns)] ⟨[],[]⟩=some (.ok (.v (.d (.bl true))) S):=by
 refine⟨S2.cut 0,?_⟩;unfold oQ aR;generalize nz 0=ml at *;simp only[↓ev,e]
theorem e8d{t:Int}{U':Gm}{S':aT}{st:List (TK×D)}{R R2:List Cell}(hh:P0 Ae [.d (bj ns)] (rd hd))(hr:Pr kW [.d (bj ns),aQ 14,aQ 3] (rd (.int r)))(hi:BZ 0 [cQ,.d hd,aQ r] ⟨[],[.ins cHall []]⟩=some (.ok (rd .aI) ⟨[],R⟩))(hs:Fm 0 [] ⟨[],R⟩=some (.ok (.o (.aA st)) ⟨[],R2⟩))(ho:Pr jQ [.d (bj ns),aQ 14,aQ 20] (rd (.int t)))(hm:(-2^64<(2:Int)/\(2:Int)<2^64 \/ -2^64<t/\t<2^64)=True)(hz:Nat.ble (23+2*t).natAbs 1000000=true)
  (hl:aN (ae 4) (fH 0) (mE 15 2 (gA 15 (23+2*t))) [ak (bj ns),ak hd,cq,some (.c 0),none,none,none,none] ⟨[.o (.aA st)],R2⟩=some (.nx U' S')):nz 0 [ak (bj ns),none,none,none,none,none,none,none] ⟨[],[]⟩=some (.rt (rd (.bl true)) S'):=by
 unfold nz;have z15:Nat.ble (15:Int).natAbs 1000000=true:=by decide
 simp only[↓ev,hh,aF,hr,hi,hs,ho,hm,z15,hz,and_self,iy,hl]
theorem Rb:∀{bs:List ax},(∀b∈bs,0<=b.long)->0<=jN bs/\∀b∈bs,b.long<=jN bs
 |[],_=>⟨by unfold jN;simp,λb m=>by cases m⟩
 |c::bs,h=>by
  obtain⟨i1,i2⟩:=Rb (bs:=bs) λb m=>h b (.tail _ m)
  have hc:=h c (.head _);have e:jN (c::bs)=c.long+jN bs:=by unfold jN;simp
  rw[e];refine⟨by lia,λb m=>?_⟩
  rcases y09.mp m with rfl|m
  .lia
  .have:=i2 b m;lia
theorem f0e:∀ns:List Int,ns.length<=63->∃S,oQ 0 [.d (.lst (ns.map D.int))] ⟨[],[]⟩=some (.ok (.v (.d (.bl true))) S):=by
 intro ns _;obtain⟨h,g,sl,b0,b5,c4,eh⟩:=YL ns;obtain⟨_,r0,r4⟩:=il ns 14 0 3 (by decide) (by decide) (by decide)
 have hr:Pr kW [.d (bj ns),aQ 14,aQ 3] _:=yi ns 14 3 (by decide) (by decide)
 obtain⟨_,t0,t21⟩:=il ns 14 1 20 (by decide) (by decide) (by decide)
 have ho:Pr jQ [.d (bj ns),aQ 14,aQ 20] _:=vH ns 14 20 (by decide) (by decide)
 have DU:∀b∈h.af,0<=b.long/\b.long<=1000:=λb hb=>by
  have nn:∀b∈h.af,0<=b.long:=λb hb=>by have:=(g.lg b hb).1;lia
  have:=(Rb nn).2 b hb;exact⟨nn b hb,by lia⟩
 generalize bC ns 14 0 3=r at *;generalize bC ns 14 1 20=t at *;obtain⟨U',S',hl⟩:=f0d (ns:=ns) (r:=r) (a4:=none) (a5:=none) (a6:=none) (a7:=none) g DU b0 (Il h r) (gA 15 (23+2*t)) (by unfold gA;lia)
 exact e8c (e8d eh hr (e5s (S:=⟨[],[]⟩) g) ZO ho (bu (.inl (by decide))) (by rw[MD];lia) hl)
end
variable{w:cI}{K:aL}{mg:Str->ai aj}{us:List aj}{h:b_}{l:PySem.W.OpenLaw}
def pF(K:aL):L2.Sp:=λvs H Q _=>∃(a:ah) (ns:List Int),vs=[.ref a]/\dr K H a (ns.map V.int)/\ns.length<=63/\∀H',Q (.bl true) H'
theorem e8e{P:dB}{base:b_}(T:Txt K mg):dC P w K mg base (lu P w) 8 (fA K none "law") (fF K (fA K none "law")) ["_law_script"] (pF K):=by
 exact YB (e5i T 0) f0e
theorem us_0(h:us.length=0):us=[]:=List.eq_nil_of_length_eq_zero h
theorem us_1(h:us.length=1):∃a0,us=[a0]:=by
 obtain _|⟨a0,us⟩:=us
 .cases h
 obtain _|⟨z,us⟩:=us
 .exact⟨a0,rfl⟩
 .simp at h
theorem us_2(h:us.length=2):∃a0 a1,us=[a0,a1]:=by
 obtain _|⟨a0,us⟩:=us
 .cases h
 obtain _|⟨a1,us⟩:=us
 .cases h
 obtain _|⟨z,us⟩:=us
 .exact⟨a0,a1,rfl⟩
 .simp at h
theorem us_3(h:us.length=3):∃a0 a1 a2,us=[a0,a1,a2]:=by
 obtain _|⟨a0,us⟩:=us
 .cases h
 obtain _|⟨a1,us⟩:=us
 .cases h
 obtain _|⟨a2,us⟩:=us
 .cases h
 obtain _|⟨z,us⟩:=us
 .exact⟨a0,a1,a2,rfl⟩
 .simp at h
theorem us_4(h:us.length=4):∃a0 a1 a2 a3,us=[a0,a1,a2,a3]:=by
 obtain _|⟨a0,us⟩:=us
 .cases h
 obtain _|⟨a1,us⟩:=us
 .cases h
 obtain _|⟨a2,us⟩:=us
 .cases h
 obtain _|⟨a3,us⟩:=us
 .cases h
 obtain _|⟨z,us⟩:=us
 .exact⟨a0,a1,a2,a3,rfl⟩
 .simp at h
abbrev iP(K:aL)(n:Str)(C:ah):Prop:=PySem.W.nsIn K mainGlobals n=some (some (.ref C))/\f_ K C (.ref 31::qc) none/\PySem.W.keepIn K (.ref C)=true
theorem errs_mk(X:K.In h)(G:h.Ns mainGlobals mg)(h0:iP K "NoName" 44)(h1:iP K "NoSize" 56)(h2:iP K "NoOut" 68)(h3:iP K "NoHand" 80)(h4:iP K "NoMoment" 92)(h5:iP K "NoFlight" 104)(h6:iP K "NoBelt" 116)(h7:iP K "NoRoom" 128)(h8:iP K "NoBag" 140)(GB:f_ K 31 qc none)(hB:PySem.W.nsIn K mainGlobals "CarryError"=some (some (.ref 31))):pK K mg rJ 31:=by
 refine⟨λp hp=>?_,GB,PySem.W.mg_of X G hB⟩
 simp only[rJ,y09,y19,or_false] at hp;rcases hp with rfl|rfl|rfl|rfl|rfl|rfl|rfl|rfl|rfl
 .exact⟨PySem.W.mg_of X G h0.1,h0.2⟩
 .exact⟨PySem.W.mg_of X G h1.1,h1.2⟩
 .exact⟨PySem.W.mg_of X G h2.1,h2.2⟩
 .exact⟨PySem.W.mg_of X G h3.1,h3.2⟩
 .exact⟨PySem.W.mg_of X G h4.1,h4.2⟩
 .exact⟨PySem.W.mg_of X G h5.1,h5.2⟩
 .exact⟨PySem.W.mg_of X G h6.1,h6.2⟩
 .exact⟨PySem.W.mg_of X G h7.1,h7.2⟩
 .exact⟨PySem.W.mg_of X G h8.1,h8.2⟩
theorem fin_mk{fa:ah}(X:K.In h)(G:h.Ns mainGlobals mg)(hfa:mg "law"=some (.ref fa))(T:Txt K mg)
  : ∃fd:lq,(∀s v,BindsTo s fd ⟨[v],[]⟩ [("_law_script",v)])/\∀base:b_,K.In base->base.Ns mainGlobals mg->dC l.prog w K mg base (lu l.prog w) 8 fa fd ["_law_script"] (pF K):=by
 have e:=hfa.symm.trans T.q_.mg;cases e;obtain⟨oc,od,kV,doc,pm,an,fI,ct,ph,e,_,_⟩:=T.q_.fn.ex;exact⟨_,λs v=>by rw[e];exact .of_eq rfl,λbase _ _=>e8e T⟩
theorem walk{q:dB}{loose:List Str}{XP:(Str->ai aj)->b_->Prop}{YP:cI->b_->Prop}{d:DefRec}{K:Params->aL}(hn:l.most=some 63)(CZ:d.params.defaults=[])
  (hY:∀w h,YP w h->(K w.params).In h)
  (F:∀w mg fa h,(K w.params).In h->h.Ns mainGlobals mg->mg d.name=some (.ref fa)-> ∃fd:lq,(∀s u,BindsTo s fd ⟨[u],[]⟩ [("_law_script",u)])/\∀base:b_,(K w.params).In base->base.Ns mainGlobals mg->dC l.prog w (K w.params) mg base (lu l.prog w) 8 fa fd ["_law_script"] (pF (K w.params))) :
  PySem.W.WalkO q loose XP YP l.row.toRowW d [] (λf vs=>PySem.call f vs):=
 L2.vt (n:=63) (k:=8) (x:="_law_script") (CX:=λw=>lu l.prog w) (sp:=λw=>pF (K w.params)) hn (by decide) CZ ⟨rfl,by decide,by decide⟩ hY F (λ_ _ a ns hl _ hS=>⟨a,ns,rfl,hS,hl,λ_=>rfl⟩) λ_ _ _ _ _ ⟨_,_,_,_,_,_,z⟩=>z
end Carry
end
open PySem PySem.W PyProof.Rows
set_option maxRecDepth 100000 in
set_option maxHeartbeats 0 in
theorem PySem.Challenge.cw_carry_k61_deeds_of_a_hall_holds : PySem.Challenge.rw_carry_k61_deeds_of_a_hall.Holds := by
 simp -failIfUnchanged only[Carry.Hd.hd0];w_on;o_law;(try simp only[Carry.Hd.hd]);k_head;(case hw=>w_witness2)
 k_fill
 refine Carry.walk (l:=PySem.Challenge.rw_carry_k61_deeds_of_a_hall) rfl rfl (λw h Y=>PySem.W.kIn_of Y) ?F
 case F=>
  intro w mg fa h KX G hmg;refine' Carry.fin_mk KX G hmg ?T;constructor
  case atr=>
   intro p hp;simp only[Carry.atrs,y09,y19,or_false] at hp;rcases hp with rfl|rfl|rfl|rfl|rfl|rfl|rfl|rfl|rfl|rfl <;> (dsimp only[Carry.cHall];exact⟨⟨by k_is,by k_is,by k_is,by k_is⟩,by show _=_;k_is⟩)
  case er=>
   refine' Carry.errs_mk KX G ?h0 ?h1 ?h2 ?h3 ?h4 ?h5 ?h6 ?h7 ?h8 ?GB ?hB
   all_goals first|(refine' ⟨?za,?zb,?zd⟩;(case zb=>refine' L2.errC_mk ?zl ?zm ?zs ?zi;(case zl=>k_is);(case zm=>k_is);(case zs=>kernel_rfl);(case zi=>kernel_rfl));(case za=>k_is);(case zd=>k_is))|(refine' L2.errC_mk ?zl ?zm ?zs ?zi;(case zl=>k_is);(case zm=>k_is);(case zs=>kernel_rfl);(case zi=>kernel_rfl))|k_is|(show _=_;k_is)
  all_goals first|refine' L2.dM KX G ?_ ?_ ?_|refine' L2.mM ?_ ?_ ?_ ?_|refine' L2.mK ?_ ?_ ?_ ?_|refine' L2.Cls.mk ?_ ?_ ?_ ?_|refine' L2.kM KX G ?_|refine' PySem.W.mg_of KX G ?_|refine' PySem.W.mg_none_of KX G ?_
  all_goals (try dsimp only[Carry.cHall])
  all_goals first|(refine' L2.fun_mk ?zl ?zc ?zk;(case zl=>k_is);(case zc=>k_is);(case zk=>k_is))|(intro _ _ _ _ _ _ us hl;obtain⟨rfl⟩:=Carry.us_0 hl;rfl)|(intro _ _ _ _ _ _ us hl;obtain⟨_,rfl⟩:=Carry.us_1 hl;rfl)|(intro _ _ _ _ _ _ us hl;obtain⟨_,_,rfl⟩:=Carry.us_2 hl;rfl)|(intro _ _ _ _ _ _ us hl;obtain⟨_,_,_,rfl⟩:=Carry.us_3 hl;rfl)|(intro _ _ _ _ _ _ us hl;obtain⟨_,_,_,_,rfl⟩:=Carry.us_4 hl;rfl)|k_is|(show _=_;k_is)|skip
  all_goals (try (refine' L2.fun_mk ?zl ?zc ?zk;(case zl=>k_is);(case zc=>k_is);(case zk=>k_is)))