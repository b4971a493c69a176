import PyProof.Rows.All
import Wide.All
import OpenK.AllK
import Wide.FinOn
import Lean
import PyProof.EqAt
import PyProof.EqKinds
import PyProof.TupleCall
import PyProof.StationsW
import PyProof.ExcClass3
import PyProof.ExcInit
import PyProof.ExcBaseAll.ValueError
import PyProof.ExcArgsOwn
import KE.KIsAll
import PyProof.ExcAttrAll.ValueError
import PyProof.InstStoreFacts
import KE.KTryMore
import PyProof.RulesAs
import PyProof.NsDelKeeps
import KE.KRevIter
import PyProof.SeqI3
import PyProof.DictWalks
import PyProof.EnumIter
import PyProof.EnumStmt
import PyProof.EnumMake
import PyProof.WalksEnum
import PyProof.FactsAll.NoneType_1
import PyProof.NeKinds
import KE.KDictList
import KE.KItemsList
import PyProof.Rows.SortShell
import PyProof.WalkInts
import PyProof.MeetsSeq
import PyProof.SeqRoads2
import KE.KDictOf
import PyProof.AttrMissHeap
import KE.KSortTup
import PyProof.Rows.SortWalk
import PyProof.Rows.SetFrom
import PyProof.Rows.SumAny
import PyProof.Rows.SortStr
import PySem.Challenge.RW_carry_k67_why_bags_stand
set_option linter.all false
set_option bootstrap.genMatcherCode false
set_option compiler.extract_closed false
set_option compiler.reuse false
set_option genSizeOf false
set_option genSizeOfSpec false
def bJ:=@List.length_map.{0,0}
def bU:=@Nat.le_refl
def cw:=@Option.bind_eq_some_iff.{0,0}
def cP:=@PySem.Heap.lt_size
def cR:=@List.map_cons.{0,0}
def cU:=@PySem.Heap.get?_push_of_some
def cW:=@Option.map_eq_some_iff.{0,0}
def dw:=@List.length_append.{0}
theorem dy:type_of% @Option.any_some.{0}:=rfl
def dH:=@List.size_toArray.{0}
def y0a:=@List.mem_cons.{0}
def eU:=@List.getElem?_eq_some_iff.{0}
def fy:=@Nat.lt_of_lt_of_le
def fB:=@Bool.not_true
def fQ:=@List.mem_map.{0,0}
def fR:=@List.map_map.{0,0,0}
def fW:=@List.getElem?_map.{0,0}
def gd:=@Nat.ne_of_lt
def gf:=@List.map_append.{0,0}
def gw:=@List.mem_append.{0}
def gz:=@List.getElem?_eq_getElem.{0}
def g9:=@Nat.max_self
def iI:=@PySem.Heap.get?_push_size
def iU:=@Nat.le_trans
def jy:=@Bool.and_eq_true
def jz:=@Nat.lt_irrefl
theorem j9:type_of% @List.length_cons.{0}:=rfl
def j_:=@Bool.not_false
def kg:=@Nat.zero_le
def kh:=@Bool.false_eq_true
def kj:=@List.all_eq_true.{0}
def kH:=@List.prefix_refl.{0}
def kT:=@List.append_nil.{0}
def lW:=@List.mem_singleton.{0}
def lX:=@List.append_assoc.{0}
def lY:=@List.nodup_append.{0}
def lU:=@List.mem_map_of_mem.{0,0}
def lV:=@List.contains_iff_mem.{0}
def mY:=@List.mem_cons_of_mem.{0}
def mZ:=@List.mem_append_right.{0}
def m6:=@List.map_congr_left.{0,0}
def nP:=@List.mem_filterMap.{0,0}
def nQ:=@PySem.Heap.get?_update_other
def oP:=@List.length_replicate.{0}
def pR:=@List.mem_range
def pS:=@Nat.lt_succ_self
def pT:=@List.mem_of_getElem?.{0}
def pU:=@PySem.Heap.get?_update_self
def qe:=@Array.getElem?_eq_getElem.{0}
def qf:=@List.all_cons.{0}
def r_:=@List.filterMap_cons.{0,0}
def sd:=@Bool.false_ne_true
def sf:=@List.nodup_cons.{0}
def sU:=@List.mem_filter.{0}
def sV:=@List.getElem?_append_right.{0}
def sW:=@List.length_singleton.{0}
def sX:=@Nat.lt_succ_of_lt
def uN:=@List.mem_cons_self.{0}
def uO:=@List.getElem?_set_self.{0}
def uP:=@Nat.le_succ
def uQ:=@List.getElem?_append_left.{0}
def uR:=@Array.getElem?_eq_some_iff.{0}
def uS:=@Array.getElem?_toList.{0}
def vZ:=@Nat.ne_of_gt
def v5:=@List.length_take.{0}
def v7:=@List.length_set.{0}
def v8:=@List.length_range
def v9:=@List.length_filter_le.{0}
theorem v_:type_of% @Option.isSome_some.{0}:=rfl
theorem yW:type_of% @Array.length_toList.{0}:=rfl
def yX:=@Bool.eq_iff_iff
def yY:=@List.mem_iff_getElem?.{0}
def yZ:=@Option.bind_some.{0,0}
def y0:=@List.getElem?_range
def y6:=@Nat.le_of_ble_eq_true
theorem y7:type_of% @Option.isSome_none.{0}:=rfl
def y8:=@List.getElem?_eq_none.{0}
def y9:=@List.getD_eq_getElem?_getD.{0}
def An:=@List.getElem_inj.{0}
def Ao:=@List.getElem?_set_ne.{0}
def Ap:=@List.length_drop.{0}
theorem Aq:type_of% @List.length_nil.{0}:=rfl
def Ar:=@Bool.and_eq_true_iff
def As:=@List.all_map.{0,0}
theorem Au:type_of% @Option.map_some.{0,0}:=λ_ _=>rfl
def Av:=@List.find?_cons.{0}
def Aw:=@List.filterMap_nil.{0,0}
def Ax:=@List.pairwise_map.{0,0}
def DE:=@Nat.le_of_lt
def DF:=@List.mem_append_left.{0}
def DG:=@Nat.le_of_eq
def DH:=@List.map_nil.{0,0}
def DI:=@List.filter_cons.{0}
def DJ:=@List.take_of_length_le.{0}
def y1w:=@List.not_mem_nil.{0}
def DK:=@List.filter_sublist.{0}
def DL:=@PySem.Heap.get?_push_ne
def DM:=@Nat.zero_add
def Dz:=@List.nil_append.{0}
def DA:=@List.find?_some.{0}
def DB:=@List.mem_of_find?_eq_some.{0}
theorem DC:type_of% @Option.getD_some.{0}:=rfl
def DD:=@List.length_filterMap_le.{0,0}
def Gr:=@Prod.ext.{0,0}
def Gs:=@List.getElem_mem.{0}
def Gu:=@List.drop_of_length_le.{0}
def Gv:=@Nat.le_add_right
def Gw:=@Bool.and_false
def Gy:=@Bool.and_true
def Gz:=@List.find?_eq_none.{0}
def GC:=@List.nodup_nil.{0}
def GD:=@PySem.Heap.get?_update_ne
theorem GF:type_of% @List.foldl_cons.{0,0}:=rfl
def GI:=@List.map_drop.{0,0}
def GK:=@List.set_set.{0}
def LA:=@Array.mem_toList_iff.{0}
def LB:=@List.getElem?_replicate.{0}
def LC:=@Nat.sub_self
def LD:=@Nat.lt_of_le_of_lt
def LF:=@List.drop_eq_getElem_cons.{0}
def LG:=@Array.forIn_toList.{0,0,0}
def LH:=@List.nodup_range
def LI:=@List.ext_getElem?.{0}
def LJ:=@Int.le_refl
def LK:=@List.foldl_append.{0,0}
def LL:=@PySem.Heap.size_update
def LM:=@Nat.le_succ_of_le
def LN:=@Nat.le_of_lt_succ
def LO:=@Nat.lt_succ_of_le
def LP:=@List.map_take.{0,0}
def LQ:=@Nat.ble_eq_true_of_le
def LR:=@Bool.or_true
def LS:=@List.map_filterMap.{0,0,0}
def LU:=@List.filterMap_append.{0,0}
def LV:=@List.set_getElem_self.{0}
def LW:=@Bool.eq_false_iff
def ax:=@PySem.wpAny_bind
def aP:=@PySem.wpAny_pure
def nU:=@if_true.{1}
def bL:=@if_pos.{1}
def br:=@if_neg.{1}
def fS:=@if_false.{1}
def qg:=@decide_eq_true
def pV:=@decide_eq_false
def dP:=@beq_self_eq_true.{0}
def i5:=@PySem.wpAny_holding
def y9a:=@decide_eq_true_iff
def wa:=@of_decide_eq_true
def m7:=@beq_eq_false_iff_ne.{0}
def LX:=@Classical.byContradiction
def bQ:=@absurd.{0}
def sg:=@True.intro
def bK:=@eq_true
namespace Carry.Hd
open Lean Meta PySem PySem.W
abbrev kC:=@mkConst
abbrev aM:=@mkAppM
abbrev nL:=mkRawNatLit
abbrev Ex:=Lean.Expr
def fit(ds:Array (Ex×Ex×Ex)):MetaM (Array (Ex×Ex×Ex)):=do
 let cs:Std.HashSet Ex:=ds.foldl (λz d=>if d.1.isConst then z.insert d.1 else z) {}
 ds.filterM λd=>do
  let ty:=Fast.bareType (<-inferType d.1)
  return (ty.find? λy=>cs.contains y || y.isConstOf ``PySem.W.Frag).isNone
def spots(ds:Array (Ex×Ex×Ex)):Std.HashMap Ex Nat:=ds.zipIdx.foldl (λz d=>z.insert d.1.1 d.2) {}
def parts(tw:Name->MetaM Unit)(v:Ex):MetaM (Array (Ex×Ex×Ex)):=do
 for x in Fast.constsOf v do
  if let .const c _:=x then
   if((<-getEnv).getModuleIdxFor? c).isNone || (`PySem.Challenge).isPrefixOf c then tw c
 fit (<-Fast.twinsIn v)
def twin:Nat->Name->MetaM Unit
 |0,_=>return
 |k+1,c=>do
  let (n,e) <-Fast.stemIn c true
  if(<-getEnv).contains e then return
  if let some none:=(<-Fast.primed.get).get? c then return
  let some (.defnInfo d):=(<-getEnv).find? c|return
  let ds <-parts (twin k) d.value
  if ds.isEmpty then
   Fast.primed.modify λz=>z.insert c none
   return
  let ix:=spots ds
  withOptions (Elab.async.set · false) do
   addDecl (.defnDecl { name:=n,levelParams:=[],type:=d.type,value:=Fast.putIn ix (λi=>ds[i]!.2.1) d.value,hints:=d.hints,safety:=.safe})
   addDecl (.thmDecl { name:=e,levelParams:=[],type:=<-mkEq (kC c) (kC n),value:=<-mkEqRefl (kC c)})
  Fast.primed.modify λz=>z.insert c (some (n,e))
def prep(v:Ex):MetaM (Array (Ex×Ex×Ex)):=parts (twin 9) v
def put(stem:Name)(ty v:Ex):MetaM Ex:=do
 let ds <-prep v
 let c <-defAt stem ty (Fast.putIn (spots ds) (λi=>ds[i]!.2.1) v)
 Fast.primed.modify λz=>z.insert c.constName! none
 return c
abbrev Objs:=Array (Obj×Obj×Ex)
def lay(old:Objs)(s t:Shared):MetaM Objs:=do
 let P:=kC ``Params
 unless s.heap.objs.size == t.heap.objs.size && s.toks == t.toks && toExpr s.drawn == toExpr t.drawn && toExpr s.heap.life == toExpr t.heap.life do throwError "the worlds part"
 let mut out:=#[]
 for i in [0:s.heap.objs.size] do
  let (a,b):=(s.heap.objs[i]!,t.heap.objs[i]!)
  if let some (a',b',e):=old[i]? then
   if sameObjNow a' a && sameObjNow b' b then
    out:=out.push (a',b',e)
    continue
  let v <-withLocalDeclD `P P λp=>do
   let e:=objE p a
   unless e == objE p b do throwError "an object is the world's"
   mkLambdaFVars #[p] e
  out:=out.push (a,b,<-put `o (<-mkArrow P (kC ``Obj)) v)
 return out
def state(l:Bool)(old:Objs)(s t:Shared):MetaM (Objs×W.State):=do
 let P:=kC ``Params
 let os <-lay old s t
 let life:=toExpr s.heap.life
 let S:W.State:={ heap:=default,gens:=<-gensE s t,drawn:=toExpr s.drawn,toks:=nL s.toks}
 if l then
  let v <-withLocalDeclD `P P λp=>mkLambdaFVars #[p] (mkApp2 (kC ``Heap.mk) (mkApp2 (kC ``Array.mk [0]) (kC ``Obj) (listE (kC ``Obj) (os.toList.map λx=>mkApp x.2.2 p))) life)
  return (os,{ S with heap:=<-put `h (<-mkArrow P (kC ``Heap)) v})
 let v <-withLocalDeclD `P P λp=>mkLambdaFVars #[p] (treeE p (os.map (·.2.2)) 1 0)
 return (os,{ S with tree:=some (<-put `t (<-mkArrow P (kC ``BT)) v,nL s.heap.objs.size,life)})
def aux(ty pf:Ex):MetaM Ex:=do return kC (<-withOptions (Elab.async.set · false) (mkAuxLemma [] ty pf (cache:=false)))
def look:Nat->Ex->Ex->MetaM Ex
 |k,l,r=>do
  let W:=kC ``World
  let O:=kC ``OsState
  let q <-withLocalDeclD `w W λw=>withLocalDeclD `os O λos=>do
   let un (e:Ex):MetaM Ex:=do
    let e:=(mkApp2 e w os).headBeta
    if e.isAppOf ``openSeen || e.isAppOf ``openGood then return (<-unfoldDefinition? e).getD e
    return e
   let (a,b):=(<-un l,<-un r)
   unless a.isAppOfArity ``Prod.mk 4 && b.isAppOfArity ``Prod.mk 4 do return none
   let sh (e:Ex) (i:Nat):MetaM Ex:=mkLambdaFVars #[w,os] (e.getArg! i)
   return some (<-sh a 2,<-sh b 2,<-sh a 3,<-sh b 3)
  match k,q with
  |n+1,some (a1,b1,a2,b2)=>
   let (x,y):=(<-look n a1 b1,<-look n a2 b2)
   let (ty,pf) <-withLocalDeclD `w W λw=>withLocalDeclD `os O λos=>do
    return (<-mkForallFVars #[w,os] (<-mkEq (mkApp2 l w os).headBeta (mkApp2 r w os).headBeta),<-mkLambdaFVars #[w,os] (<-aM ``looks_pair #[mkApp2 x w os,mkApp2 y w os]))
   aux ty pf
  |_,_=>
   let P <-withLocalDeclD `w W λw=>do mkLambdaFVars #[w] (<-mkEq (mkApp l w).headBeta (mkApp r w).headBeta)
   discard <| prep P
   let e <-byKernelQuick P []
   withLocalDeclD `w W λw=>withLocalDeclD `os O λos=>do mkLambdaFVars #[w,os] (<-aM ``congrFun #[mkApp e w,os])
def most:Nat:=3000
def left(g:MVarId)(pE:Ex)(p:Program)(_:List String):MetaM Unit:=g.withContext do
 let a:=(<-instantiateMVars (<-g.getType)).consumeMData.getAppArgs
 let some N <-(Meta.evalNat a[7]!).run|throwError "no number"
 let (.ok t,.ok t'):=(<-traceTop p N 1,<-traceTop p N 2)|throwError "no trace"
 let tb:=kC ``treeTable
 let (W,O):=(kC ``World,kC ``OsState)
 let m0:=nL t.s0.heap.objs.size
 let ann:=toExpr t.ann
 let main <-aM ``Program.main #[pE]
 let op <-aM ``opening #[pE]
 let e1 <-aux (<-mkEq op (mkApp (kC ``plainProg) (<-aM ``Scope.names #[<-aM ``Module.scope #[main]]))) (<-mkEqRefl op)
 let e2 <-withLocalDeclD `s (kC ``Shared) λs=>do
  let r <-aM ``some #[s]
  aux (<-mkForallFVars #[s] (<-mkEq (mkApp2 (kC ``fenceModules?) pE s) r)) (<-mkLambdaFVars #[s] (<-mkEqRefl r))
 let e3 <-mkDecideProof (<-mkEq (mkApp2 (kC ``Nat.ble) (nL 600) a[7]!) (kC ``Bool.true))
 let boot:=mkAppN (kC ``boot_open) #[pE,a[7]!,e1,e3,e2]
 let bE <-aM ``behindTheImports #[pE]
 let some cells <-cellsD? bE|throwError "no body"
 let env0 <-Elab.Term.TermElabM.run' do
  let s1 <-Elab.Term.exprToSyntax (<-aM ``Module.scope #[main])
  let s2 <-Elab.Term.exprToSyntax (toExpr t.code)
  let e <-Elab.Term.withSynthesize (Elab.Term.elabTermEnsuringType (<-`(({ scope:=$s1,locals:=mainNs,globals:=mainNs,cells:=[],code:=$s2,frame:=some $(quote t.frame)}:Env))) (kC ``Env))
  instantiateMVars e
 let env <-defAt `env (kC ``Env) env0
 let fp:=toExpr t.framePos
 let cE:=mkApp2 (kC ``Code.body) bE env
 let B:=listE (kC ``Frame) [mkApp (kC ``topFrame) fp]
 let go (f:Name) (more:Array Ex) (n:Nat) (w s th:Ex):Ex:=mkAppN (kC f) (#[tb,pE,w,m0,ann]++more++#[nL n,s,th])
 let one:=#[nL 1]
 let piece (rows:List String) (l r:Ex->Ex->MetaM Ex):MetaM Ex:=do
  for x in [pE,env] do discard <| prep x
  byPiece rows l r
 let ends (S:Ex) (pos:Pos):MetaM Ex:=do aM ``some #[<-aM ``Prod.mk #[kC ``Flow.next,<-aM ``Prod.mk #[S,<-aM ``Prod.mk #[cE,toExpr pos]]]]
 let rowsOf (x y:Snap):=(x.rows++y.rows).eraseDups
 let mut o:Objs:=#[]
 for i in [0:t.s0.heap.objs.size] do o:=o.push (t.s0.heap.objs[i]!,t'.s0.heap.objs[i]!,kC ((`PySem.W).str s!"boot_o_{i}"))
 let S0:PySem.W.State:={ heap:=kC ``boot_heap,gens:=mkApp2 (kC ``Array.mk [0]) (kC ``GenState) (mkApp (kC ``List.nil [0]) (kC ``GenState)),drawn:=kC ``boot_drawn,toks:=kC ``boot_toks}
 let (o1,Sa) <-state true o t.pre.s t'.pre.s
 let thA:=mkApp4 (kC ``Thread.mk) (mkApp2 (kC ``denote) tb cE) cE (toExpr t.pre.pos) B
 let stub:=mkApp (kC ``topStub) pE
 let pre <-piece (rowsOf t.pre t'.pre) (λw os=>pure (go ``topGo #[] t.pre.steps w (S0.at w os) stub)) λw os=>do aM ``some #[<-aM ``Prod.mk #[Sa.at w os,thA]]
 let (o2,Sb) <-state false o1 t.block.s t'.block.s
 let block <-piece (rowsOf t.block t'.block) (λw os=>pure (go ``segRun one t.block.steps.succ w (Sa.at w os) (mkAppN (kC ``blockOf) #[bE,env,cE,toExpr t.pre.pos,B]))) λw os=>ends (Sb.at w os) t.block.pos
 let mut gs:Array (List Ex×Nat×Snap×Snap×List String):=#[]
 for (st,x,x') in cells.zip (t.pieces.zip t'.pieces) do
  let k:=max x.steps x'.steps
  let rs:=rowsOf x x'
  match gs.back? with
  |some (l,n,_,_,r)=>
   if n+k<=most && (r++rs).eraseDups.length<=3 then gs:=gs.pop.push (l++[st],n+k,x,x',(r++rs).eraseDups) else gs:=gs.push ([st],k,x,x',rs)
  |none=>gs:=gs.push ([st],k,x,x',rs)
 let mut cur:=(o2,Sb,t.block.pos)
 let mut lems:=#[]
 for (sts,n,x,x',rs) in gs do
  let stE <-defAt `st (mkApp (kC ``List [0]) (kC ``Stmt)) (listE (kC ``Stmt) sts)
  discard <| prep stE
  let (o0,S1,p1):=cur
  let (o',S') <-state false o0 x.s x'.s
  let th:=mkAppN (kC ``piecesOf) #[stE,env,cE,toExpr p1,B]
  let h <-piece rs (λw os=>pure (go ``segRunT one n.succ w (S1.atT w os) th)) λw os=>ends (S'.atT w os) x.pos
  lems:=lems.push (stE,n.succ,S1,p1,S',x.pos,<-liftT h ``segRun_of)
  cur:=(o',S',x.pos)
  logInfo m!"PIECE {sts.length} {n} {x.s.heap.objs.size}"
 let (oN,SN,pN):=cur
 let (_,Sf) <-state true oN t.fin.s t'.fin.s
 let fin <-piece (rowsOf t.fin t'.fin) (λw os=>pure (go ``topRun #[] t.fin.steps.succ w (SN.at w os) (mkApp4 (kC ``Thread.mk) (mkApp (kC ``doneF) (kC ``Flow.next)) cE (toExpr pN) B))) λw os=>aM ``some #[Sf.at w os]
 let run <-withLocalDeclD `w W λw=>withLocalDeclD `os O λos=>do
  let w1 (l:Ex):MetaM Ex:=do aM ``congrFun #[mkApp l w,os]
  let r:=Sf.at w os
  let com:=#[tb,pE,w,m0,ann,env,fp]
  let mut k <-w1 fin
  let mut M:=nL t.fin.steps.succ
  let mut rest:=listE (kC ``Stmt) []
  for (stE,n,S1,p1,S',p2,h) in lems.toList.reverse do
   k:=mkAppN (kC ``piece_app) (com++#[nL n,M,S1.at w os,S'.at w os,r,stE,rest,cE,toExpr p1,toExpr p2,<-w1 h,k])
   M:=mkApp2 (kC ``Nat.add) (nL n) M
   rest <-aM ``HAppend.hAppend #[stE,rest]
  k:=mkAppN (kC ``piece_block) (com++#[nL t.block.steps.succ,M,Sa.at w os,Sb.at w os,r,bE,cE,toExpr t.pre.pos,toExpr t.block.pos,<-w1 block,k])
  M:=mkApp2 (kC ``Nat.add) (nL t.block.steps.succ) M
  k:=mkAppN (kC ``go_top) #[tb,pE,w,m0,ann,nL t.pre.steps,M,S0.at w os,Sa.at w os,r,stub,thA,<-w1 pre,k]
  M:=mkApp2 (kC ``Nat.add) (nL t.pre.steps) M
  let ty <-mkEq (mkAppN (kC ``topRun) #[tb,pE,w,m0,ann,M,S0.at w os,stub]) (<-aM ``some #[r])
  return (M,<-aux (<-mkForallFVars #[w,os] ty) (<-mkLambdaFVars #[w,os] k))
 let lem:=kC ``LeftO.of_pieces
 let (ms,_,_) <-forallMetaTelescope (<-inferType lem)
 let vs:=#[pE,a[1]!,a[2]!,a[3]!,a[4]!,a[5]!,a[6]!,a[7]!,a[8]!,S0.heap,Sf.heap,S0.gens,Sf.gens,S0.drawn,Sf.drawn,S0.toks,Sf.toks,m0,ann,run.1]
 for (m,v) in ms.zip vs do m.mvarId!.assign v
 let want (i:Nat):MetaM Ex:=do instantiateMVars (<-inferType ms[i]!)
 let .forallE n1 d1 b1 i1 <-want 21|throwError "size"
 let size <-byKernelQuick (.lam n1 d1 b1 i1) []
 let .forallE _ _ bl _ <-want 24|throwError "looks"
 let (l,r) <-withLocalDeclD `w W λw=>do
  let some (_,l,r):=(bl.instantiate1 w).eq?|throwError "looks"
  return (<-mkLambdaFVars #[w] l,<-mkLambdaFVars #[w] r)
 let h <-look 12 l r
 let looks <-withLocalDeclD `w W λw=>do
  let f <-withLocalDeclD `os O λos=>mkLambdaFVars #[os] (mkApp2 h w os)
  mkLambdaFVars #[w] (<-aM ``funext #[f])
 g.assign (mkAppN lem (vs++#[boot,size,run.2,<-mkDecideProof (<-want 23),looks]))
simproc_decl hd0 (PySem.W.OpenLaw.Holds _):=λe=>do
 if let .const (.str p s) _:=e.appArg! then twin 9 (p.str ("p"++(s.drop 1).toString))
 return .continue
simproc_decl hd (PySem.W.OpenRow.Holds _):=λ_=>do
 PySem.W.leftPieces.set (some left)
 return .continue
end Carry.Hd
noncomputable section
set_option Elab.async false
set_option maxRecDepth 100000
abbrev ah:=@PySem.Value
abbrev ao:=@PySem.Shared
abbrev ai:=@PySem.Addr
abbrev sY:=@PySem.SetTable
abbrev aj:=@Option.{0}
abbrev kI:=@PySem.FuncData
abbrev cK:=@PySem.Around
abbrev cX:=@PySem.Program
abbrev nR:=@PySem.NameKind
abbrev bS:=@PySem.Heap
abbrev cA:=@PySem.World
abbrev aI:=@PySem.W.Frag
abbrev fm:=@PySem.W.Frag
namespace L2
open PySem PySem.Spec PyProof.Rows
abbrev Key:=Sum Int Str
noncomputable def vD:Key->ah->Bool
 |.inl k,v=>Value.isInt k v
 |.inr x,v=>Value.isStrOf x v
noncomputable def Kf(w:cA):Key->Int
 |.inl k=>hashInt k
 |.inr x=>hashStr w x
theorem wC:∀{k:Key} {v:ah},vD k v=true->(∃i t,k=Sum.inl i/\v=Value.int i t)\/(∃x t,k=Sum.inr x/\v=Value.str x t)
 |.inl i,v,h=>by
  obtain⟨t,e⟩:=Value.isInt_shape (k:=i) (v:=v) h;exact .inl ⟨i,t,rfl,e⟩
 |.inr x,v,h=>by
  obtain⟨t,e⟩:=Value.isStrOf_shape (x:=x) (v:=v) h;exact .inr ⟨x,t,rfl,e⟩
def Yt(a b:Int):decide ((Sum.inl a:Key)=Sum.inl b)=(a == b):=by
 by_cases e:a=b
 .subst e;simp
 .have h:¬(Sum.inl a:Key)=Sum.inl b:=λq=>e (Sum.inl.inj q)
  rw[pV h];exact(m7.mpr e).symm
def Yu(a b:Str):decide ((Sum.inr a:Key)=Sum.inr b)=decide (a=b):=by
 by_cases e:a=b
 .subst e;simp
 .have h:¬(Sum.inr a:Key)=Sum.inr b:=λq=>e (Sum.inr.inj q)
  rw[pV h,pV e]
def Yv(a:Int)(b:Str):decide ((Sum.inl a:Key)=Sum.inr b)=false:=pV (λq=>nomatch q)
def Yw(a:Str)(b:Int):decide ((Sum.inr a:Key)=Sum.inl b)=false:=pV (λq=>nomatch q)
def Iu(prog:cX)(w:cA):PySem.KeyKind prog w Key where
 is:=vD
 hash:=Kf w
 inj:=λv a b ha hb=>by
  grind [wC]
 byValue:=λk v h=>by
  rcases wC h with⟨i,t,rfl,rfl⟩|⟨x,t,rfl,rfl⟩ <;> rfl
 pyHash:=λhv h=>by
  rcases wC hv with⟨i,t,rfl,rfl⟩|⟨x,t,rfl,rfl⟩
  .exact wpAny_pyHash_int h
  .exact wpAny_pyHash_str h
 eqBool:=λhu hv h=>by
  rcases wC hu with⟨i,t,rfl,rfl⟩|⟨x,t,rfl,rfl⟩
  .rcases wC hv with⟨j,u,rfl,rfl⟩|⟨y,u,rfl,rfl⟩
   .rw[Yt] at h;exact wpAny_eqBool_int h
   .rw[Yv] at h;exact SeqAt.EqAt.int_str i t y u _ _ _ _ h
  .rcases wC hv with⟨j,u,rfl,rfl⟩|⟨y,u,rfl,rfl⟩
   .rw[Yw] at h;exact SeqAt.EqAt.str_int x t j u _ _ _ _ h
   .rw[Yu] at h;exact wpAny_eqBool_str h
 «strs»:=λk x t v h=>by
  rcases wC h with⟨i,u,rfl,e⟩|⟨y,u,rfl,e⟩
  .exact nomatch e
  .injection e with e1 _;subst e1;cases v <;> rfl
inductive V where
 |aJ|bl (b:Bool)|int (i:Int)|str (x:Str)|vf (b:Array UInt8)|zZ (b:UInt64)|ref (a:ai)|ty (n:String)
 deriving DecidableEq
def RelV:V->ah->Prop
 |.aJ,u=>u=Value.none
 |.bl b,u=>u=Value.bool b
 |.int i,u=>∃t,u=Value.int i t
 |.str x,u=>∃t,u=Value.str x t
 |.vf b,u=>∃t,u=Value.bytes b t
 |.zZ b,u=>∃t,u=Value.float b t
 |.ref a,u=>u=Value.ref a
 |.ty n,u=>u=Value.type n
abbrev Vals:List V->List ah->Prop:=Paired RelV
theorem Vals.length{xs:List V}{us:List ah}(r:Vals xs us):xs.length=us.length:=Paired.length r
theorem Vals.get:∀{xs:List V} {us:List ah} {i:Nat} {x:V},Vals xs us->xs[i]?=some x->∃u,us[i]?=some u/\RelV x u
 |_,_,_,_,.nil,e=>by simp at e
 |_,_,0,_,.cons r _,e=>by simp at e;subst e;exact⟨_,rfl,r⟩
 |_,_,i+1,x,.cons _ t,e=>by
  obtain⟨u,h1,h2⟩:=Vals.get (i:=i) (x:=x) t (by simpa using e)
  exact⟨u,by simpa using h1,h2⟩
theorem Vals.set{x:V}{u:ah}(r:RelV x u):∀{xs:List V} {us:List ah} (i:Nat),Vals xs us->Vals (xs.set i x) (us.set i u)
 |_,_,_,.nil=>.nil
 |_,_,0,.cons _ t=>.cons r t
 |_,_,i+1,.cons q t=>.cons q (Vals.set r i t)
def Vals.append{xs ys:List V}{us ws:List ah}(h:Vals xs us)(s:Vals ys ws):Vals (xs++ys) (us++ws):=by
 induction h with
 |nil=>exact s
 |cons r t ih=>exact .cons r ih
theorem Vals.take:∀{xs:List V} {us:List ah} (n:Nat),Vals xs us->Vals (xs.take n) (us.take n)
 |_,_,0,_=>.nil
 |_,_,_+1,.nil=>.nil
 |_,_,n+1,.cons r t=>.cons r (Vals.take n t)
theorem Vals.drop:∀{xs:List V} {us:List ah} (n:Nat),Vals xs us->Vals (xs.drop n) (us.drop n)
 |_,_,0,r=>r
 |_,_,_+1,.nil=>.nil
 |_,_,n+1,.cons _ t=>Vals.drop n t
def ib:aj V->aj ah->Prop
 |some v,some u=>RelV v u
 |none,none=>True
 |_,_=>False
def KV{κ:Type}:List (κ×V)->List (κ×ah)->Prop:=Paired λ(p:κ×V) (q:κ×ah)=>p.1=q.1/\RelV p.2 q.2
noncomputable def kV:Key->V
 |.inl i=>.int i
 |.inr x=>.str x
inductive TK where
 |inl (i:Int)|inr (x:Str)|tp (l:List TK)|aJ
mutual
def TK.beq:TK->TK->Bool
 |.inl a,.inl b=>decide (a=b)
 |.inr a,.inr b=>decide (a=b)
 |.tp l,.tp m=>TK.tP l m
 |.aJ,.aJ=>true
 |_,_=>false
def TK.tP:List TK->List TK->Bool
 |[],[]=>true
 |a::l,b::m=>TK.beq a b&&TK.tP l m
 |_,_=>false
end
mutual
theorem TK.beq_iff:∀a b:TK,TK.beq a b=true↔a=b
 |.inl a,.inl b=>⟨λe=>by rw[wa (show decide (a=b)=true from e)],λe=>by cases e;exact qg rfl⟩
 |.inr a,.inr b=>⟨λe=>by rw[wa (show decide (a=b)=true from e)],λe=>by cases e;exact qg rfl⟩
 |.tp l,.tp m=>⟨λe=>by rw[(TK.jI l m).mp e],λe=>by cases e;exact(TK.jI l l).mpr rfl⟩
 |.inl _,.inr _=>⟨λe=>(nomatch (show false=true from e)),λe=>(nomatch e)⟩
 |.inl _,.tp _=>⟨λe=>(nomatch (show false=true from e)),λe=>(nomatch e)⟩
 |.inr _,.inl _=>⟨λe=>(nomatch (show false=true from e)),λe=>(nomatch e)⟩
 |.inr _,.tp _=>⟨λe=>(nomatch (show false=true from e)),λe=>(nomatch e)⟩
 |.tp _,.inl _=>⟨λe=>(nomatch (show false=true from e)),λe=>(nomatch e)⟩
 |.tp _,.inr _=>⟨λe=>(nomatch (show false=true from e)),λe=>(nomatch e)⟩
 |.aJ,.aJ=>⟨λ_=>rfl,λ_=>rfl⟩
 |.aJ,.inl _=>⟨λe=>(nomatch (show false=true from e)),λe=>(nomatch e)⟩
 |.aJ,.inr _=>⟨λe=>(nomatch (show false=true from e)),λe=>(nomatch e)⟩
 |.aJ,.tp _=>⟨λe=>(nomatch (show false=true from e)),λe=>(nomatch e)⟩
 |.inl _,.aJ=>⟨λe=>(nomatch (show false=true from e)),λe=>(nomatch e)⟩
 |.inr _,.aJ=>⟨λe=>(nomatch (show false=true from e)),λe=>(nomatch e)⟩
 |.tp _,.aJ=>⟨λe=>(nomatch (show false=true from e)),λe=>(nomatch e)⟩
theorem TK.jI:∀l m:List TK,TK.tP l m=true↔l=m
 |[],[]=>⟨λ_=>rfl,λ_=>rfl⟩
 |a::l,b::m=>by show(TK.beq a b&&TK.tP l m)=true↔_;rw[jy,TK.beq_iff a b,TK.jI l m];exact⟨λe=>by rw[e.1,e.2],λe=>by cases e;exact⟨rfl,rfl⟩⟩
 |[],_::_=>⟨λe=>(nomatch (show false=true from e)),λe=>(nomatch e)⟩
 |_::_,[]=>⟨λe=>(nomatch (show false=true from e)),λe=>(nomatch e)⟩
end
instance:DecidableEq TK:=λa b=>decidable_of_iff _ (TK.beq_iff a b)
mutual
def TK.hash(w:cA):TK->Int
 |.inl i=>hashInt i
 |.inr x=>hashStr w x
 |.tp l=>reduceHash (Builtin.Tuple.tupleHashOf (TK.dI w l))
 |.aJ=>4238894112
def TK.dI(w:cA):List TK->List Int
 |[]=>[]
 |a::l=>TK.hash w a::TK.dI w l
end
def TK.ok:Nat->TK->Bool
 |n+1,.tp l=>l.all (TK.ok n)
 |0,.tp _=>false
 |_,_=>true
def iJ(w:cA)(e:TK×V×V)(x:DictEntry):Prop:=x.hash=e.1.hash w/\RelV e.2.1 x.key/\RelV e.2.2 x.val/\e.1.ok 8=true
inductive HO where
  |lst (xs:List V)
  |tup (xs:List V)
  |dK (kvs:List (Key×V))|dT (kvs:List (List Key×V))
  |dG (es:List (TK×V×V)) (ep:Nat)
  |set (S:Int->Bool) (n:Nat)
  |ins (C dx:ai) (fs:List (Str×V))
  |own (x:ai)
  |xd (fs:List (Str×V))
  |met (f x:ai)
  |KS (lo hi:Int)
  |Y (o:Obj) (u:HO)
  |yT (ps:Array ah)
  |ext (φ:bS->Prop)
abbrev Hp:=ai->aj HO
noncomputable def upd(H:Hp)(a:ai)(o:HO):Hp:=λb=>if b=a then some o else H b
theorem aH{H:Hp}{a:ai}{o:HO}:upd H a o a=some o:=by unfold upd;rw[bL rfl]
theorem c_{H:Hp}{a b:ai}{o:HO}(h:b≠a):upd H a o b=H b:=by unfold upd;rw[br h]
def V2{H:Hp}{a:ai}{o u:HO}:upd (upd H a o) a u=upd H a u:=by
 funext b;unfold upd;split <;> rfl
def qH{H:Hp}{a b:ai}{o:HO}(h:H a=some o)(h':H b=none):a≠b:=by
 lia
section
variable(P:cX)(w:cA)
def bD(H:Hp)(h:bS)(a:ai):HO->Prop
 |.lst xs=>xs.length<=sizeLine/\∃(aA:List ah) (n:Nat),Vals xs aA/\h.get? a=some { cls:=.type "list",data:=.seq aA.toArray n}
 |.tup xs=>xs.length<=sizeLine/\∃aA:List ah,Vals xs aA/\IsTup h a aA.toArray
 |.dK kvs=>kvs.length<=sizeLine/\(a == sysModules)=false/\∃vs,KV kvs vs/\h.DictOf (Iu P w) a vs
 |.dT kvs=>kvs.length<=sizeLine/\(a == sysModules)=false/\∃xs:List (List Key×ai×ah),
   Paired (λ(p:List Key×V) (q:List Key×ai×ah)=>p.1=q.1/\H q.2.1=some (.tup (p.1.map kV))/\RelV p.2 q.2.2) kvs xs/\
   ∃o es ep,h.get? a=some o/\o.ExactDict/\o.data=.dict es ep/\es.toList=xs.map (entryOfKey (tupleKind (Iu P w)))/\(xs.map (·.1)).Nodup
 |.dG es ep=>es.length<=sizeLine/\(a == sysModules)=false/\∃o xs,h.get? a=some o/\o.ExactDict/\o.data=.dict xs ep/\Paired (iJ w) es xs.toList/\(es.map (·.1)).Nodup
 |.set S n=>h.SetOf (intKind P w) a S n
 |.ins C dx fs=>H dx=some (.own a)/\fs.length<=1000/\dx≠a/\h.get? a=some (PySem.W.instObj C dx)/\
   ∃mA,h.Ns1 dx mA/\(∀f,ib (fs.lookup f) (mA f))/\PySem.Within mA (fs.map (·.1))
 |.own _=>∃o,h.get? a=some o
 |.xd fs=>∃mA,h.Ns1 a mA/\∀f,ib (fs.lookup f) (mA f)
 |.KS lo hi=>∃t u v,h.get? a=some { cls:=.type "range",data:=.fields #[.int lo t,.int hi u,.int 1 v]}
 |.Y o u=>h.get? a=some o/\bD H h a u
 |.yT ps=>h.get? a=some { cls:=.none,data:=.fields ps}
 |.met f x=>h.get? a=some (PySem.W.methodObj (.ref f) (.ref x))
 |.ext φ=>φ h/\(∃o,h.get? a=some o)/\∀h1 h2:bS,φ h1->(∀o,h1.get? a=some o->h2.get? a=some o)->φ h2
def iO(H:Hp)(h:bS):Prop:=∀a o,H a=some o->bD P w H h a o
end
section
variable{P:cX}{w:cA}{H H':Hp}{h h':bS}{a:ai}{o:HO}
theorem bD.lt(x:bD P w H h a o):a<h.objs.size:=by
 cases o with
 |lst xs=>obtain⟨_,_,_,_,e⟩:=x;exact cP e
 |tup xs=>obtain⟨_,_,_,p⟩:=x;exact p.lt
 |dK kvs=>obtain⟨_,_,_,_,o,_,_,e,_⟩:=x;exact cP e
 |dT kvs=>obtain⟨_,_,_,_,o,_,_,e,_⟩:=x;exact cP e
 |dG es ep=>obtain⟨_,_,o,_,e,_⟩:=x;exact cP e
 |set S n=>obtain⟨o,_,_,_,e,_⟩:=x;exact cP e
 |ins C dx fs=>obtain⟨_,_,_,e,_⟩:=x;exact cP e
 |own y=>obtain⟨_,e⟩:=x;exact cP e
 |xd fs=>obtain⟨_,⟨_,_,_,e,_⟩,_⟩:=x;exact cP e
 |KS lo hi=>obtain⟨_,_,_,e⟩:=x;exact cP e
 |Y ob u=>obtain⟨e,_⟩:=x;exact cP e
 |yT ps=>exact cP (show h.get? a=some _ from x)
 |met f y=>exact cP (show h.get? a=some _ from x)
 |ext φ=>obtain⟨_,⟨_,e⟩,_⟩:=x;exact cP e
def Paired.Cv{α β:Type}{F G:α->β->Prop}{l₁:List α}{l₂:List β}(h:Paired F l₁ l₂)(f:∀a b,F a b->G a b):Paired G l₁ l₂:=by
 induction h with
 |nil=>exact .nil
 |cons r t ih=>exact .cons (f _ _ r) ih
def bD.lR(x:bD P w H h a o)(k:∀b u,(b=a\/H b=some (.own a))->h.get? b=some u->h'.get? b=some u)
  (ho:∀b,H b=some (.own a)->H' b=some (.own a)) (ht:∀b xs,H b=some (.tup xs)->H' b=some (.tup xs)):bD P w H' h' a o:=by
 induction o with
 |lst xs=>obtain⟨z,aA,n,r,e⟩:=x;exact⟨z,aA,n,r,k _ _ (.inl rfl) e⟩
 |tup xs=>obtain⟨z,aA,r,ob,e,c⟩:=x;exact⟨z,aA,r,ob,k _ _ (.inl rfl) e,c⟩
 |dK kvs=>obtain⟨z,y,vs,r,ob,es,ep,e,c⟩:=x;exact⟨z,y,vs,r,ob,es,ep,k _ _ (.inl rfl) e,c⟩
 |dT kvs=>
  obtain⟨z,y,xs,r,ob,es,ep,e,c⟩:=x;exact⟨z,y,xs,Paired.Cv r λp q z=>⟨z.1,ht _ _ z.2.1,z.2.2⟩,ob,es,ep,k _ _ (.inl rfl) e,c⟩
 |dG es ep=>obtain⟨z,y,ob,xs,e,c⟩:=x;exact⟨z,y,ob,xs,k _ _ (.inl rfl) e,c⟩
 |set S n=>obtain⟨ob,es,ep,t,e,c⟩:=x;exact⟨ob,es,ep,t,k _ _ (.inl rfl) e,c⟩
 |ins C dx fs=>
  obtain⟨d,z,ne,e,mA,⟨od,es,ep,e2,c⟩,r⟩:=x;exact⟨ho _ d,z,ne,k _ _ (.inl rfl) e,mA,⟨od,es,ep,k _ _ (.inr d) e2,c⟩,r⟩
 |own y=>obtain⟨ob,e⟩:=x;exact⟨ob,k _ _ (.inl rfl) e⟩
 |xd fs=>obtain⟨mA,⟨od,es,ep,e,c⟩,r⟩:=x;exact⟨mA,⟨od,es,ep,k _ _ (.inl rfl) e,c⟩,r⟩
 |KS lo hi=>obtain⟨t,u,v,e⟩:=x;exact⟨t,u,v,k _ _ (.inl rfl) e⟩
 |Y ob u ih=>obtain⟨e,q⟩:=x;exact⟨k _ _ (.inl rfl) e,ih q⟩
 |yT ps=>
  have e:h.get? a=some { cls:=.none,data:=.fields ps}:=x;show h'.get? a=some { cls:=.none,data:=.fields ps};exact k a _ (.inl rfl) e
 |met f y=>
  have e:h.get? a=some (PySem.W.methodObj (.ref f) (.ref y)):=x;show h'.get? a=some (PySem.W.methodObj (.ref f) (.ref y));exact k a _ (.inl rfl) e
 |ext φ=>obtain⟨p,⟨o,e⟩,st⟩:=x;exact⟨st _ _ p λo q=>k _ _ (.inl rfl) q,⟨o,k _ _ (.inl rfl) e⟩,st⟩
theorem iO.lt(x:iO P w H h)(e:H a=some o):a<h.objs.size:=(x a o e).lt
def iO.fresh(x:iO P w H h)(e:h.objs.size<=a):H a=none:=by
 cases q:H a with
 |none=>rfl
 |some u=>exact bQ (fy (x.lt q) e) (jz _)
def iO.kept(x:iO P w H h)(k:∀b u,h.get? b=some u->h'.get? b=some u):iO P w H h':=λa o e=>
 (x a o e).lR (λb u _ q=>k b u q) (λ_ q=>q) λ_ _ q=>q
def iO.laid(x:iO P w H h)(k:∀b u,h.get? b=some u->h'.get? b=some u)(hp:h.objs.size<=a)(new:bD P w (upd H a o) h' a o):iO P w (upd H a o) h':=λb u e=>by
 have hn:=x.fresh hp;by_cases hb:b=a
 .subst hb;rw[aH] at e;cases e;exact new
 .rw[c_ hb] at e;exact(x b u e).lR (λc v _ q=>k c v q) (λc q=>by rw[c_ (qH q hn)];exact q) λc xs q=>by rw[c_ (qH q hn)];exact q
end
def Rd(H:Hp)(a:ai)(u:HO):Prop:=H a=some u\/∃o,H a=some (.Y o u)
def Rd.ok{P:cX}{w:cA}{H:Hp}{h:bS}{a:ai}{u:HO}(r:Rd H a u)(x:iO P w H h):bD P w H h a u:=by
 rcases r with r|⟨o,r⟩
 .exact x a u r
 .obtain⟨_,q⟩:=x a _ r;exact q
def AF:aj HO->Prop
 |some (.lst _)=>True
 |some (.dK _)=>True
 |some (.dT _)=>True
 |some (.dG _ _)=>True
 |some (.set _ _)=>True
 |some (.ins _ _ _)=>True
 |some (.ext _)=>True
 |_=>False
section
variable{P:cX}{w:cA}{H:Hp}{h h':bS}{x e:ai}{o':HO}
def iO.write(ok:iO P w H h)(mu:AF (H x))(he:e=x\/H e=some (.own x))(k:∀b u,b≠e->h.get? b=some u->h'.get? b=some u)(z8:∃u,h'.get? e=some u)
  (new:bD P w (upd H x o') h' x o'):iO P w (upd H x o') h':=λb u q=>by
 have Ks:∀c y,H c=some (.own y)->c≠x:=λc y r z=>by subst z;rw[r] at mu;exact mu
 have Kt:∀c xs,H c=some (.tup xs)->c≠x:=λc xs r z=>by subst z;rw[r] at mu;exact mu
 by_cases hb:b=x
 .grind [aH]
 .rw[c_ hb] at q;by_cases z6:b=e
  .have q':H b=some (.own x):=by
    rcases he with z|z
    .exact bQ (z6.trans z) hb
    .rw[z6];exact z
   rw[q] at q';cases q';obtain⟨v,hv⟩:=z8;exact⟨v,by rw[z6];exact hv⟩
  .refine(ok b u q).lR (λc v hc r=>k c v ?_ r) (λc r=>by rw[c_ (Ks c b r)];exact r) λc xs r=>by rw[c_ (Kt c xs r)];exact r
   grind
end
structure Un (fs ex:List ai) (H H':Hp) (h h':bS):Prop where
 keep:∀b o,h.get? b=some o->H b=none->b∉fs->b∉ex->h'.get? b=some o
 slot:∀b o,h.get? b=some o->H b=none->b∈fs->b∉ex->∃sl,h'.get? b=some { o with slots:=sl}
 free:∀b o,h.get? b=some o->H b=none->b∉ex->H' b=none
 there:∀b o,h.get? b=some o->b∉ex->∃o',h'.get? b=some o'
 kG:∀b xs,H b=some (.tup xs)->H' b=some (.tup xs)
 jO:∀b o u,H b=some (.Y o u)->H' b=some (.Y o u)
 kF:∀b ps,H b=some (.yT ps)->∃more,H' b=some (.yT (ps++more))
section
variable{fs z0 ex ex':List ai}{H H1 H2:Hp}{h h1 h2 h':bS}{a x e:ai}{o:HO}
def Un.any(u:Un fs ex H H1 h h1){b:ai}{ob:Obj}(q:h.get? b=some ob)(n:H b=none)(hx:b∉ex):∃sl,h1.get? b=some { ob with slots:=sl}:=by
 by_cases hb:b∈fs
 .exact u.slot b ob q n hb hx
 .exact⟨ob.slots,u.keep b ob q n hb hx⟩
def Un.kept(k:∀b u,h.get? b=some u->h'.get? b=some u):Un fs ex H H h h':=
 ⟨λb ob q _ _ _=>k b ob q,λb ob q _ _ _=>⟨ob.slots,k b ob q⟩,λ_ _ _ n _=>n,λb ob q _=>⟨ob,k b ob q⟩,λ_ _ q=>q,λ_ _ _ q=>q,λ_ ps q=>⟨#[],by rw[q];simp⟩⟩
def Un.refl:Un fs ex H H h h:=Un.kept λ_ _ q=>q
def Un.laid(k:∀b u,h.get? b=some u->h'.get? b=some u)(hp:h.objs.size<=a)(hn:H a=none):Un fs ex H (upd H a o) h h' where
 keep:=λb u q _ _ _=>k b u q
 slot:=λb u q _ _ _=>⟨u.slots,k b u q⟩
 free:=λb u q n _=>by rw[c_ (gd (fy (cP q) hp))];exact n
 there:=λb u q _=>⟨u,k b u q⟩
 kG:=λb xs q=>by rw[c_ (qH q hn)];exact q
 jO:=λb u xs q=>by rw[c_ (qH q hn)];exact q
 kF:=λb ps q=>⟨#[],by rw[c_ (qH q hn),q];simp⟩
def Un.write(mu:AF (H x))(he:e=x\/H e=some (.own x))(k:∀b u,b≠e->h.get? b=some u->h'.get? b=some u)(z8:∃u,h'.get? e=some u):Un fs ex H (upd H x o) h h':=by
 have hx:∀b,H b=none->b≠x:=λb n z=>by subst z;rw[n] at mu;exact mu
 have hb:∀b,H b=none->b≠e:=λb n z=>by
  subst z;rcases he with r|r
  .exact hx b n r
  .rw[n] at r;cases r
 have hm:∀b u,H b=some u->¬AF (some u)->b≠x:=λb u q nm z=>by subst z;rw[q] at mu;exact nm mu
 refine⟨λb u q n _ _=>k b u (hb b n) q,λb u q n _ _=>⟨u.slots,k b u (hb b n) q⟩,λb u q n _=>by rw[c_ (hx b n)];exact n,λb u q _=>?_,
  λb xs q=>by rw[c_ (hm b _ q λz=>z)];exact q,λb u xs q=>by rw[c_ (hm b _ q λz=>z)];exact q,λb ps q=>⟨#[],by rw[c_ (hm b _ q λz=>z),q];simp⟩⟩
 by_cases z6:b=e
 .subst z6;exact z8
 .exact⟨u,k b u z6 q⟩
end
noncomputable def Gn(h:bS)(H:Hp):List ai:=(List.range h.objs.size).filter λa=>(H a).isSome
def lE(h:bS)(H:Hp):bS:=PySem.W.hideAll h (Gn h H)
def SW(h:bS)(H:Hp):(lE h H).objs.size=h.objs.size:=PySem.W.hideAll_size _ _
def Ur{h:bS}{H:Hp}{b:ai}{o:Obj}(e:h.get? b=some o)(n:H b=none):(lE h H).get? b=some o:=
 PySem.W.hideAll_get _ e λhm=>by
  have q:(H b).isSome=true:=(sU.mp hm).2;rw[n] at q;simp at q
def V3{h:bS}{H:Hp}{b:ai}{o:Obj}(e:(lE h H).get? b=some o):h.get? b=some o/\H b=none:=by
 have e':h.get? b=some o:=PySem.W.of_hideAll (Gn h H) e;refine⟨e',?_⟩;cases q:H b with
 |none=>rfl
 |some x=>
  have hm:b∈Gn h H:=sU.mpr ⟨pR.mpr (cP e'),by simp[q]⟩
  have z:(lE h H).get? b=none:=PySem.W.hideAll_none (Gn h H) hm;rw[z] at e;cases e
variable{t' i:Nat}{ch:List ai}{x:Str}{M:Model}{A:cK}{E:ah->ao->Prop}{v:V}{u:ah}{Q:Unit->ao->Prop}
structure Mod (K:aI) (mg:Str->aj ah) (base:bS):Prop where
 Ac:K.In base
 glob:base.Ns mainGlobals mg
 blt:∃mb,base.Ns builtinsNs mb/\∀x:Str,x≠"__name__"->mb x=bootBuiltins x
 nolimit:base.NoLimit
set_option genInjectivity false in
structure Cx where
 prog:cX
 w:cA
 K:aI
 mg:Str->aj ah
 base:bS
 A:cK
 N:List Str
 s₀:ao
 H₀:Hp
 env:Env
 outer:List Env
 stack:List Env
 ex:List ai
 fn:Str->Bool
 calm:Bool
 pn:List (ai×Obj)
 xe:ah->ao->Prop
noncomputable def jN(l:List Env):List ai:=l.filterMap (·.frame)
abbrev Cx.fs(X:Cx):List ai:=jN X.outer
def G3(sc:Scope)(x:Str):Prop:=sc.names.lookup x=some .local \/ sc.names.lookup x=some .cell\/sc.names.lookup x=some .free
def Loc(sc:Scope)(x:Str):Prop:=sc.names.lookup x=some .local \/ sc.names.lookup x=some .cell
def Look(env:Env)(h:bS)(m:Str->aj ah)(x:Str)(u:ah):Prop:=
 (env.kindOf x=some .local /\ m x=some u)\/((env.kindOf x=some .cell\/env.kindOf x=some .free)/\∃c,env.cells.lookup x=some c/\h.IsCell c (some u))
structure Cx.Ok (X:Cx):Prop where
 mod:Mod X.K X.mg X.base
 kind:X.env.scope.kind=.function
 glob:X.env.globals=mainGlobals
 blt:X.env.builtins=builtinsNs
 above:X.s₀.heap.objs.size<=X.env.locals
 inj:∀x y c,X.env.cells.lookup x=some c->X.env.cells.lookup y=some c->x=y
 has:∀x,(X.env.kindOf x=some .cell\/X.env.kindOf x=some .free)->∃c,X.env.cells.lookup x=some c
 xx:∀x c,X.fn x=true->X.env.cells.lookup x=some c->X.s₀.heap.objs.size<=c
 hd:X.calm=true->X.A.handled=none
 frames:X.A.frames=some X.stack
 Ai:X.stack=X.outer\/(X.stack=X.env::X.outer/\X.env.frame=some X.env.locals)
 FE:∀b∈X.ex,b≠X.env.locals/\∀x c,X.env.cells.lookup x=some c->c≠b
 bs:∀b o,X.base.get? b=some o->X.s₀.heap.get? b=some o/\X.H₀ b=none
 qN:X.base.objs.size<=X.s₀.heap.objs.size
 nK:∀b o,X.base.get? b=some o->b∉X.ex
 pk:∀b∈X.ex,b∉X.fs
 iq:X.s₀.heap.FunFrames X.base X.outer
 t4:∀b∈X.fs,X.H₀ b=none
structure Inv (X:Cx) (aa:List (ai×Obj)) (Z:List (aj V)) (H:Hp) (s:ao):Prop where
 ok:X.Ok
 os:s.os=X.s₀.os
 bare:AllBare s.gens
 base:Un X.fs X.ex X.H₀ H X.s₀.heap s.heap
 loc:∃m,s.heap.Ns X.env.locals m/\∀(i:Nat) (x:Str) (v:V),X.N[i]?=some x->Z[i]?=some (some v)->G3 X.env.scope x->∃u,RelV v u/\Look X.env s.heap m x u
 cell:∀x c,X.env.cells.lookup x=some c->∃v,s.heap.IsCell c v
 free:H X.env.locals=none
 eD:∀x c,X.env.cells.lookup x=some c->H c=none
 pin:∀p∈X.pn++aa,s.heap.get? p.1=some p.2/\H p.1=none/\p.1≠X.env.locals/\p.1∉X.fs/\∀v,p.2.data≠.cell v
 bw:iO X.prog X.w H s.heap
 len:Z.length=X.N.length
section
variable{X:Cx}{aa:List (ai×Obj)}{Z:List (aj V)}{H H':Hp}{s:ao}{h':bS}
def Cx.Ok.Kr(ok:X.Ok){b:ai}{o:Obj}(e:X.base.get? b=some o):b∉X.fs:=λhb=>by
 have:=(ok.iq.mem hb).1
 lia
theorem Inv.bs(I:Inv X aa Z H s):∀b o,X.base.get? b=some o->s.heap.get? b=some o/\H b=none:=λb o e=>
 ⟨I.base.keep b o (I.ok.bs b o e).1 (I.ok.bs b o e).2 (I.ok.Kr e) (I.ok.nK b o e),I.base.free b o (I.ok.bs b o e).1 (I.ok.bs b o e).2 (I.ok.nK b o e)⟩
def Inv.bk(I:Inv X aa Z H s):∀b o,X.base.get? b=some o->s.heap.get? b=some o:=λb o e=>(I.bs b o e).1
theorem Inv.mod(I:Inv X aa Z H s):Mod X.K X.mg X.base:=I.ok.mod
def Inv.jt(I:Inv X aa Z H s):X.K.In s.heap:=I.ok.mod.Ac.keeps I.bk
theorem Inv.lt(I:Inv X aa Z H s):X.env.locals<s.heap.objs.size:=let ⟨_,hn,_⟩:=I.loc;hn.lt
def Inv.sz(I:Inv X aa Z H s):X.s₀.heap.objs.size<=s.heap.objs.size:=iU I.ok.above (DE I.lt)
def Inv.yw(I:Inv X aa Z H s){a:ai}(h:s.heap.objs.size<=a):a∉X.fs:=λhb=>by
 obtain⟨_,o,ho,_⟩:=I.ok.iq.mem hb;exact bQ (fy (cP ho) (iU I.sz h)) (jz _)
def Inv.xA(I:Inv X aa Z H s):∀x c,X.env.cells.lookup x=some c->c≠X.env.locals:=λx c e z=>by
 obtain⟨v,o,ho,hd⟩:=I.cell x c e;obtain⟨m,⟨o',es,ep,vn,om,_⟩,_⟩:=I.loc
 lia
theorem Inv.iq(I:Inv X aa Z H s):s.heap.FunFrames X.base X.outer:=by
 have all:∀(l:List Env),(∀b∈jN l,b∈X.fs)->X.s₀.heap.FunFrames X.base l->s.heap.FunFrames X.base l:=by
  intro l
  induction l with
  |nil=>intro _ _;trivial
  |cons env r ih=>
   intro hs hl;obtain⟨hk,⟨L,o,hf,hn,ho,hd⟩,hr⟩:=hl;have hL:L∈X.fs:=hs L (by unfold jN;rw[r_,hf];exact uN)
   obtain⟨sl,e⟩:=I.base.slot L o ho (I.ok.t4 L hL) hL λz=>I.ok.pk L z hL
   exact⟨hk,⟨L,_,hf,hn,e,hd⟩,ih (λb hb=>hs b (by unfold jN;rw[r_,hf];exact mY _ hb)) hr⟩
 exact all X.outer (λ_ hb=>hb) I.ok.iq
def Inv.stack(I:Inv X aa Z H s):s.heap.FunFrames X.base X.stack:=by
 rcases I.ok.Ai with e|⟨e,hf⟩
 .rw[e];exact I.iq
 .rw[e];obtain⟨m,hn,_⟩:=I.loc;refine .cons (by rw[I.ok.kind];decide) hf hn ?_ I.iq
  exact Heap.get?_none_of_le (iU I.ok.qN I.ok.above)
def Inv.j7(I:Inv X aa Z H s):∀b∈jN X.stack,b∈X.env.locals::X.fs:=λb hb=>by
 rcases I.ok.Ai with e|⟨e,hf⟩
 .rw[e] at hb;exact mY _ hb
 .rw[e] at hb;unfold jN at hb;rw[r_,hf] at hb;exact hb
def Inv.jx(I:Inv X aa Z H s):∀b∈jN X.stack,H b=none:=λb hb=>by
 rcases y0a.mp (I.j7 b hb) with e|hb
 .rw[e];exact I.free
 .obtain⟨_,o,ho,_⟩:=I.ok.iq.mem hb;exact I.base.free b o ho (I.ok.t4 b hb) λz=>I.ok.pk b z hb
def Inv.step{g':Array GenState}{t':Nat}{d':Drawn}{ch:List ai}(I:Inv X aa Z H s)
  (kc:∀b∈ch,(b∈X.ex\/X.s₀.heap.objs.size<=b)/\b≠X.env.locals/\(∀x c,X.env.cells.lookup x=some c->c≠b)/\∀p∈X.pn++aa,p.1≠b)
  (keep:∀b o,b≠X.env.locals->b∉X.fs->b∉ch->s.heap.get? b=some o->H b=none->h'.get? b=some o)
  (slot:∀b o,b≠X.env.locals->b∈X.fs->b∉ch->s.heap.get? b=some o->H b=none->∃sl,h'.get? b=some { o with slots:=sl}) (free:∀b o,b∉ch->s.heap.get? b=some o->H b=none->H' b=none)
  (there:∀b o,b∉ch->s.heap.get? b=some o->∃o',h'.get? b=some o')
  (kG:∀b xs,H b=some (.tup xs)->H' b=some (.tup xs)) (jO:∀b o u,H b=some (.Y o u)->H' b=some (.Y o u)) (kF:∀b ps,H b=some (.yT ps)->∃more,H' b=some (.yT (ps++more)))
  (ns:∀m,s.heap.Ns X.env.locals m->h'.Ns X.env.locals m) (bw:iO X.prog X.w H' h') (hg:AllBare g') :
  Inv X aa Z H' { s with heap:=h',gens:=g',drawn:=d',toks:=t'}:=by
 have Rh:∀b o,X.s₀.heap.get? b=some o->b≠X.env.locals:=λb o e=>gd (fy (cP e) I.ok.above)
 have F9:∀b o,X.s₀.heap.get? b=some o->b∉X.ex->b∉ch:=λb o e hx hb=>by
  rcases(kc b hb).1 with z|z
  .exact hx z
  .exact bQ (fy (cP e) z) (jz _)
 have cellK:∀x c,X.env.cells.lookup x=some c->∀v,s.heap.IsCell c v->h'.IsCell c v:=λx c e v ⟨o,ho,hd⟩=>by
  have uh:c∉ch:=λz=>(kc c z).2.2.1 x c e rfl
  by_cases hc:c∈X.fs
  .obtain⟨sl,q⟩:=slot c o (I.xA x c e) hc uh ho (I.eD x c e);exact⟨_,q,hd⟩
  .exact⟨o,keep c o (I.xA x c e) hc uh ho (I.eD x c e),hd⟩
 refine⟨I.ok,I.os,hg,⟨λb o e n hb hx=>?_,λb o e n hb hx=>?_,λb o e n hx=>?_,λb o e hx=>?_,λb xs e=>kG b xs (I.base.kG b xs e),λb o xs e=>jO b o xs (I.base.jO b o xs e),λb ps e=>?_⟩,?_,λx c e=>?_,?_,λx c e=>?_,λp hp=>?_,bw,I.len⟩
 .exact keep b o (Rh b o e) hb (F9 b o e hx) (I.base.keep b o e n hb hx) (I.base.free b o e n hx)
 .obtain⟨sl,e1⟩:=I.base.slot b o e n hb hx;obtain⟨K3,e2⟩:=slot b _ (Rh b o e) hb (F9 b o e hx) e1 (I.base.free b o e n hx);exact⟨K3,e2⟩
 .obtain⟨o',e1⟩:=I.base.there b o e hx;exact free b o' (F9 b o e hx) e1 (I.base.free b o e n hx)
 .obtain⟨o',e1⟩:=I.base.there b o e hx;exact there b o' (F9 b o e hx) e1
 .obtain⟨m1,e1⟩:=I.base.kF b ps e;obtain⟨m2,e2⟩:=kF b _ e1;exact⟨m1++m2,by rw[e2,Array.append_assoc]⟩
 .obtain⟨m,hn,hl⟩:=I.loc;refine⟨m,ns m hn,λi x v e1 e2 e3=>?_⟩
  obtain⟨u,r,l⟩:=hl i x v e1 e2 e3;refine⟨u,r,?_⟩;rcases l with l|⟨k,c,e,z⟩
  .exact .inl l
  .exact .inr ⟨k,c,e,cellK x c e _ z⟩
 .obtain⟨v,z⟩:=I.cell x c e;exact⟨v,cellK x c e v z⟩
 .obtain⟨m,⟨o,_,_,ho,_⟩,_⟩:=I.loc;exact free _ o (λz=>(kc _ z).2.1 rfl) ho I.free
 .obtain⟨v,o,ho,hd⟩:=I.cell x c e;exact free c o (λz=>(kc c z).2.2.1 x c e rfl) ho (I.eD x c e)
 .obtain⟨e,n,ne,nf,d⟩:=I.pin p hp;have uh:p.1∉ch:=λz=>(kc p.1 z).2.2.2 p hp rfl
  exact⟨keep p.1 p.2 ne nf uh e n,free p.1 p.2 uh e n,ne,nf,d⟩
def Inv.un(I:Inv X aa Z H s)(u:Un X.fs [] H H' s.heap h')(bw:iO X.prog X.w H' h'):Inv X aa Z H' { s with heap:=h',toks:=t'}:=by
 obtain⟨m,⟨o,es,ep,ho,r⟩,_⟩:=id I.loc;obtain⟨sl,hL⟩:=u.any ho I.free (by simp)
 exact I.step (g':=s.gens) (d':=s.drawn) (ch:=[]) (λ_ z=>nomatch z) (λb o _ hb _ e n=>u.keep b o e n hb (by simp)) (λb o _ hb _ e n=>u.slot b o e n hb (by simp)) (λb o _ e n=>u.free b o e n (by simp)) (λb o _ e=>u.there b o e (by simp)) u.kG u.jO u.kF (λm' hm=>by
  obtain⟨o',es',kP,vn,r'⟩:=hm;rw[ho] at vn;cases vn;exact⟨_,es',kP,hL,r'⟩) bw I.bare
def Inv.call{g':Array GenState}{d':Drawn}(I:Inv X aa Z H s)(u:Un (jN X.stack) ch H H' s.heap h')(bw:iO X.prog X.w H' h')(hg:AllBare g')
  (kc:∀b∈ch,(b∈X.ex\/X.s₀.heap.objs.size<=b)/\b≠X.env.locals/\(∀x c,X.env.cells.lookup x=some c->c≠b)/\∀p∈X.pn++aa,p.1≠b) :
  Inv X aa Z H' { s with heap:=h',gens:=g',drawn:=d',toks:=t'}:=by
 obtain⟨m,⟨o,es,ep,ho,r⟩,_⟩:=id I.loc;obtain⟨sl,hL⟩:=u.any ho I.free λz=>(kc _ z).2.1 rfl
 exact I.step (ch:=ch) kc (λb o hL hb hc e n=>u.keep b o e n (λz=>(y0a.mp (I.j7 b z)).elim hL hb) hc) (λb o _ _ hc e n=>u.any e n hc) (λb o hc e n=>u.free b o e n hc) (λb o hc e=>u.there b o e hc) u.kG u.jO u.kF (λm' hm=>by
  obtain⟨o',es',kP,vn,r'⟩:=hm;rw[ho] at vn;cases vn;exact⟨_,es',kP,hL,r'⟩) bw hg
def Inv.turned{it:ai}(I:Inv X aa Z H s)(k:∀b o,b≠it->s.heap.get? b=some o->h'.get? b=some o)(hn:H it=none)(hL:it≠X.env.locals)
  (h1:it∈X.ex\/X.s₀.heap.objs.size<=it) (h2:∀x c,X.env.cells.lookup x=some c->c≠it) (h3:∀p∈X.pn++aa,p.1≠it):Inv X aa Z H { s with heap:=h',toks:=t'}:=by
 have Rj:∀b u,H b=some u->b≠it:=λb u e z=>by rw[z,hn] at e;cases e
 refine I.step (g':=s.gens) (d':=s.drawn) (ch:=[it]) (λb hb=>?_) (λb o _ _ hc e _=>k b o (λz=>hc (by simp[z])) e) (λb o _ _ hc e _=>⟨o.slots,k b o (λz=>hc (by simp[z])) e⟩) (λ_ _ _ _ n=>n)
  (λb o hc e=>⟨o,k b o (λz=>hc (by simp[z])) e⟩) (λ_ _ e=>e) (λ_ _ _ e=>e) (λb ps e=>⟨#[],by rw[e];simp⟩) (λm hm=>?_) (λb u e=>?_) I.bare
 .have e:b=it:=by simpa using hb
  subst e;exact⟨h1,hL,h2,h3⟩
 .obtain⟨o,es,ep,ho,r⟩:=hm;exact⟨o,es,ep,k _ o (Ne.symm hL) ho,r⟩
 .refine(I.bw b u e).lR (λc v hc q=>k c v ?_ q) (λ_ q=>q) λ_ _ q=>q
  rcases hc with z|z
  .rw[z];exact Rj b u e
  .exact Rj c _ z
def Inv.tok(I:Inv X aa Z H s)(t:Nat):Inv X aa Z H { s with toks:=t}:=I.un (h':=s.heap) (t':=t) Un.refl I.bw
theorem Inv.kept{t':Nat}(I:Inv X aa Z H s)(k:∀b u,s.heap.get? b=some u->h'.get? b=some u):Inv X aa Z H { s with heap:=h',toks:=t'}:=I.un (Un.kept k) (I.bw.kept k)
theorem Inv.laid{a:ai}{o:HO}{t':Nat}(I:Inv X aa Z H s)(k:∀b u,s.heap.get? b=some u->h'.get? b=some u)(hp:s.heap.objs.size<=a)(new:bD X.prog X.w (upd H a o) h' a o):
  Inv X aa Z (upd H a o) { s with heap:=h',toks:=t'}:=I.un (Un.laid k hp (I.bw.fresh hp)) (I.bw.laid k hp new)
theorem Inv.write{x e:ai}{o:HO}{t':Nat}(I:Inv X aa Z H s)(mu:AF (H x))(he:e=x\/H e=some (.own x))(k:∀b u,b≠e->s.heap.get? b=some u->h'.get? b=some u)(z8:∃u,h'.get? e=some u)
  (new:bD X.prog X.w (upd H x o) h' x o):Inv X aa Z (upd H x o) { s with heap:=h',toks:=t'}:=I.un (Un.write mu he k z8) (I.bw.write mu he k z8 new)
def Inv.ju{mG:List (ai×Obj)}(I:Inv X aa Z H s)(h:∀p∈mG,s.heap.get? p.1=some p.2/\H p.1=none/\p.1≠X.env.locals/\p.1∉X.fs/\∀v,p.2.data≠.cell v):Inv X mG Z H s:=
 ⟨I.ok,I.os,I.bare,I.base,I.loc,I.cell,I.free,I.eD,λp hp=>(gw.mp hp).elim (λz=>I.pin p (DF _ z)) (h p),I.bw,I.len⟩
def NA{N:List Str}(hN:N.Nodup){j:Nat}(a:N[i]?=some x)(b:N[j]?=some x):i=j:=by
 obtain⟨h1,e1⟩:=eU.mp a;obtain⟨h2,e2⟩:=eU.mp b;exact(An hN).mp (e1.trans e2.symm)
def MY(I:Inv X aa Z H s)(hN:X.N.Nodup)(hi:X.N[i]?=some x)(hx:Loc X.env.scope x)(r:RelV v u)
  (h:∀s',Inv X aa (Z.set i (some v)) H s'->(∃a,Heap.SameBut a s.heap s'.heap/\(a=X.env.locals\/X.env.cells.lookup x=some a))->Q () s') (hf:X.fn x=true\/X.env.scope.names.lookup x=some .local := by first|exact .inl rfl|exact .inr rfl|assumption):wpAny M A (storeName X.env x u) Q E s:=by
 obtain⟨m,hn,hl⟩:=id I.loc;have JP:(X.env.scope.kind == .class || (X.env.scope.kind == .module&&X.env.locals != X.env.globals))=false:=by rw[I.ok.kind];rfl
 have Q0:i<Z.length:=by rw[I.len];exact(eU.mp hi).1
 have xA:=I.xA;have tracked:∀{a:ai} {h':bS},(∃o,s.heap.get? a=some o/\H a=none)->Heap.SameBut a s.heap h'->iO X.prog X.w H h':=λ{a h'} ha hs b ob e=>by
  obtain⟨_,_,hfree⟩:=ha;refine(I.bw b ob e).lR (λc w' hc q=>(hs.2 c ?_).trans q) (λ_ q=>q) λ_ _ q=>q
  lia
 rcases hx with hk|hk
 .refine wpAny_storeName_local hk hn (λh' FY hs=>?_) JP
  obtain⟨oL,_,_,gZ,_⟩:=id hn;refine h _ ⟨I.ok,I.os,I.bare,⟨λb o e n hb hx=>?_,λb o e n hb hx=>?_,I.base.free,λb o e hx=>?_,I.base.kG,I.base.jO,I.base.kF⟩,⟨_,FY,λj y v' e1 e2 e3=>?_⟩,λy c e=>?_,I.free,I.eD,λp hp=>?_,tracked ⟨oL,gZ,I.free⟩ hs,by simpa using I.len⟩ ⟨_,hs,.inl rfl⟩
  .exact(hs.2 b (gd (fy (cP e) I.ok.above))).trans (I.base.keep b o e n hb hx)
  .obtain⟨sl,e1⟩:=I.base.slot b o e n hb hx;exact⟨sl,(hs.2 b (gd (fy (cP e) I.ok.above))).trans e1⟩
  .obtain⟨o',e1⟩:=I.base.there b o e hx;exact⟨o',(hs.2 b (gd (fy (cP e) I.ok.above))).trans e1⟩
  .by_cases hj:j=i
   .subst hj;rw[hi] at e1;cases e1;rw[uO Q0] at e2;cases e2;exact⟨u,r,.inl ⟨hk,by simp⟩⟩
   .rw[Ao (Ne.symm hj)] at e2;obtain⟨u',r',q⟩:=hl j y v' e1 e2 e3;refine⟨u',r',?_⟩;rcases q with⟨k,e⟩|⟨k,c,e,z⟩
    .refine .inl ⟨k,?_⟩;have:y≠x:=λe=>hj (NA hN e1 (e ▸ hi))
     simp[this,e]
    .exact .inr ⟨k,c,e,z.sameBut hs (xA y c e)⟩
  .obtain⟨w',z⟩:=I.cell y c e;exact⟨w',z.sameBut hs (xA y c e)⟩
  .obtain⟨e,n,ne,nf,d⟩:=I.pin p hp;exact⟨(hs.2 p.1 ne).trans e,n,ne,nf,d⟩
 .have B5:X.fn x=true:=by
   rcases hf with z|z
   .exact z
   .rw[z] at hk;cases hk
  obtain⟨c,hc⟩:=I.ok.has x (.inl hk);obtain⟨w',z⟩:=I.cell x c hc;refine wpAny_storeName_cell I.ok.kind hk hc z (λh' mU hs=>?_)
  obtain⟨oc,t_,J0⟩:=id z;refine h { s with heap:=h'} ⟨I.ok,I.os,I.bare,⟨λb o e n hb hx=>?_,λb o e n hb hx=>?_,I.base.free,λb o e hx=>?_,I.base.kG,I.base.jO,I.base.kF⟩,⟨m,hn.sameBut hs (Ne.symm (xA x c hc)),λj y v' e1 e2 e3=>?_⟩,λy c' e=>?_,I.free,I.eD,λp hp=>?_,tracked ⟨oc,t_,I.eD x c hc⟩ hs,by simpa using I.len⟩ ⟨c,hs,.inr hc⟩
  .exact(hs.2 b (gd (fy (cP e) (I.ok.xx x c B5 hc)))).trans (I.base.keep b o e n hb hx)
  .obtain⟨sl,e1⟩:=I.base.slot b o e n hb hx;exact⟨sl,(hs.2 b (gd (fy (cP e) (I.ok.xx x c B5 hc)))).trans e1⟩
  .obtain⟨o',e1⟩:=I.base.there b o e hx;exact⟨o',(hs.2 b (gd (fy (cP e) (I.ok.xx x c B5 hc)))).trans e1⟩
  .by_cases hj:j=i
   .subst hj;rw[hi] at e1;cases e1;rw[uO Q0] at e2;cases e2;exact⟨u,r,.inr ⟨.inl hk,c,hc,mU⟩⟩
   .rw[Ao (Ne.symm hj)] at e2;obtain⟨u',r',q⟩:=hl j y v' e1 e2 e3;refine⟨u',r',?_⟩;rcases q with q|⟨k,c',e,z'⟩
    .exact .inl q
    .refine .inr ⟨k,c',e,z'.sameBut hs ?_⟩;rintro rfl;exact hj (NA hN e1 (I.ok.inj _ _ _ e hc ▸ hi))
  .by_cases QW:c'=c
   .subst QW;exact⟨_,mU⟩
   .obtain⟨w2,z2⟩:=I.cell y c' e;exact⟨w2,z2.sameBut hs QW⟩
  .obtain⟨e,n,ne,nf,d⟩:=I.pin p hp;refine⟨(hs.2 p.1 ?_).trans e,n,ne,nf,d⟩;intro q;rw[q,t_] at e;have q':oc=p.2:=Option.some.inj e;exact d w' (by rw[<-q'];exact J0)
def NB(I:Inv X aa Z H s)(hN:X.N.Nodup)(hi:X.N[i]?=some x)(hx:Loc X.env.scope x)(r:RelV v u)
  (h:∀s',Inv X aa (Z.set i (some v)) H s'->Q () s') (hf:X.fn x=true\/X.env.scope.names.lookup x=some .local := by first|exact .inl rfl|exact .inr rfl|assumption):wpAny M A (storeName X.env x u) Q E s:=
 MY I hN hi hx r (λs' I' _=>h s' I') hf
def Inv.vg{s':ao}(I:Inv X aa Z H s)(ho:s'.os=s.os)(u:Un (jN X.stack) ch H H' s.heap s'.heap)(bw:iO X.prog X.w H' s'.heap)(hg:AllBare s'.gens)
  (kc:∀b∈ch,(b∈X.ex\/X.s₀.heap.objs.size<=b)/\b≠X.env.locals/\(∀x c,X.env.cells.lookup x=some c->c≠b)/\∀p∈X.pn++aa,p.1≠b):Inv X aa Z H' s':=by
 obtain⟨h',g',d',t',o'⟩:=s';have e:o'=s.os:=ho;subst e;exact I.call (g':=g') (t':=t') (d':=d') u bw hg kc
end
abbrev XK:=ah->aj ai->Hp->Prop
abbrev St:=List (aj V)
abbrev VK:=V->Hp->Prop
abbrev TE:=St->Hp->VK->Prop
abbrev TT:=St->Hp->(Bool->Hp->Prop)->Prop
abbrev TA:=St->Hp->(List V->Hp->Prop)->Prop
set_option genInjectivity false in
structure Ends where
 nx:St->Hp->Prop
 rt:VK
 bk:St->Hp->Prop:=λ_ _=>False
 ct:St->Hp->Prop:=λ_ _=>False
abbrev TS:=Ends->St->Hp->Prop
def EP(X:Cx)(aa:List (ai×Obj))(Z:St)(Q:VK)(u:ah)(s':ao):Prop:=∃v H',Inv X aa Z H' s'/\RelV v u/\Q v H'
def TP(X:Cx)(aa:List (ai×Obj))(Z:St)(Q:Bool->Hp->Prop)(b:Bool)(s':ao):Prop:=∃H',Inv X aa Z H' s'/\Q b H'
def AP(X:Cx)(aa:List (ai×Obj))(Z:St)(Q:List V->Hp->Prop)(us:List ah)(s':ao):Prop:=∃vs H',Inv X aa Z H' s'/\Vals vs us/\Q vs H'
def SP(X:Cx)(aa:List (ai×Obj))(D:Ends)(f:Flow)(s':ao):Prop:=
 match f with
 |.next=>∃Z' H',Inv X aa Z' H' s'/\D.nx Z' H'
 |.brk=>∃Z' H',Inv X aa Z' H' s'/\D.bk Z' H'
 |.cont=>∃Z' H',Inv X aa Z' H' s'/\D.ct Z' H'
 |.ret u=>∃v Z' H',Inv X aa Z' H' s'/\RelV v u/\D.rt v H'
def PE(X:Cx)(e:Expr)(t:TE):Prop:=
 ∀(aa:List (ai×Obj)) (s:ao) (Z:St) (H:Hp) (Q:VK),Inv X aa Z H s->t Z H Q->wpAny (model X.prog X.w) X.A (eval e X.env) (EP X aa Z Q) X.xe s
def PT(X:Cx)(e:Expr)(t:TT):Prop:=
 ∀(aa:List (ai×Obj)) (s:ao) (Z:St) (H:Hp) (Q:Bool->Hp->Prop),Inv X aa Z H s->t Z H Q->wpAny (model X.prog X.w) X.A (isTrue e X.env (eval e X.env)) (TP X aa Z Q) X.xe s
def PW(X:Cx)(e:Expr)(t:TT):Prop:=
 ∀(whole:Sem ah) (aa:List (ai×Obj)) (s:ao) (Z:St) (H:Hp) (Q:Bool->Hp->Prop),Inv X aa Z H s->t Z H Q->wpAny (model X.prog X.w) X.A (isTrue e X.env whole) (TP X aa Z Q) X.xe s
def PW.pt{X:Cx}{e:Expr}{t:TT}(h:PW X e t):PT X e t:=h _
def PA(X:Cx)(es:List Expr)(t:TA):Prop:=
 ∀(pos:Pos) (aa:List (ai×Obj)) (s:ao) (Z:St) (H:Hp) (Q:List V->Hp->Prop),Inv X aa Z H s->t Z H Q->wpAny (model X.prog X.w) X.A (spliced (backTo pos (starEach es X.env))) (AP X aa Z Q) X.xe s
def PS(X:Cx)(st:Stmt)(t:TS):Prop:=
 ∀(aa:List (ai×Obj)) (s:ao) (Z:St) (H:Hp) (D:Ends),Inv X aa Z H s->t D Z H->wpAny (model X.prog X.w) X.A (exec st X.env) (SP X aa D) X.xe s
def iP(X:Cx)(st:List Stmt)(t:TS):Prop:=
 ∀(aa:List (ai×Obj)) (s:ao) (Z:St) (H:Hp) (D:Ends),Inv X aa Z H s->t D Z H->wpAny (model X.prog X.w) X.A (execs st X.env) (SP X aa D) X.xe s
def bM{α:Type}{t:Sem α}{Q Q':α->ao->Prop}{s:ao}(h:wpAny M A t Q E s)(hQ:∀a s,Q a s->Q' a s):wpAny M A t Q' E s:=wpAny_mono h hQ λ_ _ x=>x
section
variable{X:Cx}
def Dm(i:Nat):TE:=λZ H Q=>∃v,Z[i]?=some (some v)/\Q v H
def tC(v:V):TE:=λ_ H Q=>Q v H
def Yx{i:Nat}{x:Str}{pos:Pos}(hN:X.N[i]?=some x)(hv:G3 X.env.scope x)(hd:(x == ("__debug__":Str))=false:=by decide)(q_:(x == ("__classdict__":Str))=false:=by decide):PE X (.Name x pos) (Dm i):=by
 intro aa s Z H Q I h;obtain⟨v,e,h⟩:=h;obtain⟨m,hn,hl⟩:=I.loc;obtain⟨u,r,l⟩:=hl i x v hN e hv;have fin:EP X aa Z Q u s:=⟨v,H,I,r,h⟩;rcases l with⟨hk,hm⟩|⟨hk,c,hc,oi⟩
 .exact wpAny_Name (wpAny_loadName_local I.ok.kind hk hn hm fin) hd
 .rcases hk with hk|hk
  .exact wpAny_Name (wpAny_loadName_cell I.ok.kind hk hc oi fin) hd
  .exact wpAny_Name (wpAny_loadName_free I.ok.kind hk hc oi fin q_) hd
def Yy{i j pos}:PE X (.Constant (.int i) j pos) (tC (.int i)):=λ_ _ _ H _ I h=>wpAny_Constant_int ⟨.int i,H,I.tok _,⟨_,rfl⟩,h⟩
def e5v{b j pos}:PE X (.Constant (.bool b) j pos) (tC (.bl b)):=λ_ _ _ H _ I h=>Constant_bool ⟨.bl b,H,I,rfl,h⟩
def Yz{j pos}:PE X (.Constant .none j pos) (tC .aJ):=λ_ _ _ H _ I h=>Constant_none ⟨.aJ,H,I,rfl,h⟩
def YA{x j pos}:PE X (.Constant (.str x) j pos) (tC (.str x)):=λ_ _ _ H _ I h=>Calls.Constant_str ⟨.str x,H,I.tok _,⟨_,rfl⟩,h⟩
def Gl(X:Cx)(x:Str):Prop:=X.env.kindOf x=some .globalImplicit
def zH{E:ah->ao->Prop}{aa:List (ai×Obj)}{s:ao}{Z:St}{H:Hp}{x:Str}{u:ah}{pos:Pos}{Q:ah->ao->Prop}(I:Inv X aa Z H s)(hg:Gl X x)(hm:X.mg x=some u)(h:Q u s)
  (hd:(x == ("__debug__":Str))=false:=by decide):wpAny (model X.prog X.w) X.A (eval (.Name x pos) X.env) Q E s:=
 Calls.Name_function_global I.ok.kind hg (Calls.loadGlobal_global (by rw[I.ok.glob];exact I.mod.glob.keeps I.bk) hm h) hd
def sC{E:ah->ao->Prop}{aa:List (ai×Obj)}{s:ao}{Z:St}{H:Hp}{x:Str}{u:ah}{pos:Pos}{Q:ah->ao->Prop}(I:Inv X aa Z H s)(hg:Gl X x)(hm:X.mg x=none)(hv:bootBuiltins x=some u)(h:Q u s)
  (hn:x≠"__name__":=by decide) (hd:(x == ("__debug__":Str))=false:=by decide):wpAny (model X.prog X.w) X.A (eval (.Name x pos) X.env) Q E s:=by
 obtain⟨mb,h1,h2⟩:=I.mod.blt;exact Calls.Name_function_global I.ok.kind hg (Calls.loadGlobal_builtin (by rw[I.ok.glob];exact I.mod.glob.keeps I.bk) hm (by rw[I.ok.blt];exact h1.keeps I.bk) ((h2 x hn).trans hv) h) hd
def V4{x:Str}{v:V}{u:ah}{pos:Pos}(hg:Gl X x)(hm:X.mg x=none)(hv:bootBuiltins x=some u)(r:RelV v u)(hn:x≠"__name__":=by decide)(hd:(x == ("__debug__":Str))=false:=by decide):PE X (.Name x pos) (tC v):=
 λ_ _ _ H _ I h=>sC I hg hm hv ⟨v,H,I,r,h⟩ hn hd
variable{a b:Expr}{ta tb:TE}{pos:Pos}
variable{tA Gh:TT}{rest:List Expr}
def K'(t u:TT):TT:=λZ H Q=>t Z H λc H1=>if c=true then u Z H1 Q else Q false H1
def tOr(t u:TT):TT:=λZ H Q=>t Z H λc H1=>if c=true then Q true H1 else u Z H1 Q
def Lg(t:TT):TT:=λZ H Q=>t Z H λc H1=>Q (!c) H1
def V5(ha:PT X a tA):PW X (.BoolOp .And [a] pos) tA:=by
 intro wh aa s Z H Q I h;refine isTrue_and (bM (ha aa s Z H Q I h) λc s1 e=>?_)
 cases c with
 |true=>exact isTrue_and_nil e
 |false=>exact e
def YB(ha:PT X a tA):PW X (.BoolOp .Or [a] pos) tA:=by
 intro wh aa s Z H Q I h;refine isTrue_or (bM (ha aa s Z H Q I h) λc s1 e=>?_)
 cases c with
 |false=>exact isTrue_or_nil e
 |true=>exact e
def YC(ha:PT X a tA)(hb:PW X (.BoolOp .And (b::rest) pos) Gh):PW X (.BoolOp .And (a::b::rest) pos) (K' tA Gh):=by
 intro wh aa s Z H Q I h;refine isTrue_and (bM (ha aa s Z H _ I h) λc s1 hh=>?_)
 obtain⟨H1,I1,q1⟩:=hh;cases c with
 |true=>exact hb wh aa s1 Z H1 Q I1 q1
 |false=>exact⟨H1,I1,q1⟩
def e5w(ha:PT X a tA)(hb:PW X (.BoolOp .Or (b::rest) pos) Gh):PW X (.BoolOp .Or (a::b::rest) pos) (tOr tA Gh):=by
 intro wh aa s Z H Q I h;refine isTrue_or (bM (ha aa s Z H _ I h) λc s1 hh=>?_)
 obtain⟨H1,I1,q1⟩:=hh;cases c with
 |true=>exact⟨H1,I1,q1⟩
 |false=>exact hb wh aa s1 Z H1 Q I1 q1
def YD(ha:PT X a tA):PT X (.UnaryOp .Not a pos) (Lg tA):=by
 intro aa s Z H Q I h;exact isTrue_not (ha aa s Z H (λc H1=>Q (!c) H1) I h)
def Dd(ta tb:TE):TE:=λZ H Q=>ta Z H λx H1=>∃c,x=.bl c/\if c=true then tb Z H1 Q else Q (.bl false) H1
def yD{op}{t:TE}(h:PE X a t):PE X (.BoolOp op [a] pos) t:=λaa s Z H Q I hw=>BoolOp_one (h aa s Z H Q I hw)
def YE(ha:PE X a ta)(hb:PE X (.BoolOp .And (b::rest) pos) tb):PE X (.BoolOp .And (a::b::rest) pos) (Dd ta tb):=by
 intro aa s Z H Q I h;refine BoolOp_and (bM (ha aa s Z H _ I h) λv s1 hh=>?_)
 obtain⟨x,H1,I1,r1,q1⟩:=hh;obtain⟨c,rfl,q1⟩:=q1;cases r1;refine wpAny_truthy_bool ?_;cases c with
 |true=>exact hb aa s1 Z H1 Q I1 q1
 |false=>exact⟨.bl false,H1,I1,rfl,q1⟩
def tIf(t:TT)(ta tb:TE):TE:=λZ H Q=>t Z H λc H1=>if c=true then ta Z H1 Q else tb Z H1 Q
def Us{c:Expr}(hc:PT X c tA)(ha:PE X a ta)(hb:PE X b tb):PE X (.IfExp c a b pos) (tIf tA ta tb):=by
 intro aa s Z H Q I h;refine wpAny_IfExp (bM (hc aa s Z H _ I h) λd s1 hh=>?_)
 obtain⟨H1,I1,q1⟩:=hh;cases d with
 |true=>exact ha aa s1 Z H1 Q I1 q1
 |false=>exact hb aa s1 Z H1 Q I1 q1
end
variable{x:Str}{u:ah}{aa:List (ai×Obj)}{Z:St}{H:Hp}{s:ao}{c i e o tg:Expr}{tc:TT}{es:List Expr}{to ti te:TE}{P:cX}{w:cA}{K:aI}
def cT(K:aI)(H:Hp)(a:ai)(xs:List V):Prop:=
 Rd H a (.lst xs)\/
  ∃(o:Obj) (aA:Array ah) (n:Nat),K.lookup a=some o/\o.cls=.type "list"/\o.dict=none/\o.data=.seq aA n/\aA.size<=sizeLine/\Vals xs aA.toList
def ie(K:aI)(H:Hp)(a:ai)(xs:List V):Prop:=
 Rd H a (.tup xs)\/
  ∃(o:Obj) (aA:Array ah) (n:Nat),K.lookup a=some o/\o.cls=.type "tuple"/\o.data=.seq aA n/\aA.size<=sizeLine/\Vals xs aA.toList
noncomputable def HK:ah->aj V
 |.none=>some .aJ
 |.bool b=>some (.bl b)
 |.int i _=>some (.int i)
 |.str x _=>some (.str x)
 |.bytes b _=>some (.vf b)
 |.float b _=>some (.zZ b)
 |.ref a=>some (.ref a)
 |.type n=>some (.ty n)
 |_=>none
def RelV.abs{x:V}(r:RelV x u):HK u=some x:=by
 cases x with
 |aJ=>cases r;rfl
 |bl _=>cases r;rfl
 |int _=>obtain⟨t,rfl⟩:=r;rfl
 |str _=>obtain⟨t,rfl⟩:=r;rfl
 |vf _=>obtain⟨t,rfl⟩:=r;rfl
 |zZ _=>obtain⟨t,rfl⟩:=r;rfl
 |ref _=>cases r;rfl
 |ty _=>cases r;rfl
theorem RelV.inj{x y:V}{u:ah}(r:RelV x u)(q:RelV y u):x=y:=Option.some.inj (r.abs.symm.trans q.abs)
theorem Vals.inj{xs ys:List V}{us:List ah}(h:Vals xs us)(h':Vals ys us):xs=ys:=by
 induction h generalizing ys with
 |nil=>cases h';rfl
 |cons r t ih=>
  cases h' with
  |cons r' t'=>rw[r.inj r',ih t']
section
variable{X:Cx}{aa:List (ai×Obj)}{Z:St}{H:Hp}{s:ao}{a:ai}{xs ys:List V}
def Inv.list(I:Inv X aa Z H s)(h:cT X.K H a xs):∃aA:List ah,Vals xs aA/\PlainL s.heap a aA.toArray/\xs.length<=sizeLine:=by
 rcases h with h|⟨o,aA,n,hk,hc,hd,hs,hz,r⟩
 .obtain⟨z,aA,n,r,e⟩:=h.ok I.bw;exact⟨aA,r,⟨_,n,e,rfl,rfl,rfl⟩,z⟩
 .refine⟨aA.toList,r,⟨o,n,I.jt a o hk,hc,hd,by simpa using hs⟩,?_⟩
  have e:=r.length
  simp_all
def Inv.tuple(I:Inv X aa Z H s)(h:ie X.K H a xs):∃aA:List ah,Vals xs aA/\IsTup s.heap a aA.toArray/\xs.length<=sizeLine:=by
 rcases h with h|⟨o,aA,n,hk,hc,hs,hz,r⟩
 .obtain⟨z,aA,r,p⟩:=h.ok I.bw;exact⟨aA,r,p,z⟩
 .refine⟨aA.toList,r,⟨o,I.jt a o hk,hc,n,by simpa using hs⟩,?_⟩
  have e:=r.length;simp only[yW] at e;lia
def Inv.jW(I:Inv X aa Z H s)(h:cT X.K H a xs)(h':cT X.K H a ys):xs=ys:=by
 obtain⟨aA,r,⟨o,n,e,_,_,d⟩,_⟩:=I.list h;obtain⟨its',r',⟨o',n',e',_,_,d'⟩,_⟩:=I.list h';rw[e] at e';cases e';rw[d] at d';injection d' with d1 _;have:aA=its':=by simpa using congrArg Array.toList d1
 subst this;exact r.inj r'
def Inv.kS(I:Inv X aa Z H s)(h:ie X.K H a xs)(h':ie X.K H a ys):xs=ys:=by
 obtain⟨aA,r,⟨o,e,_,n,d⟩,_⟩:=I.tuple h;obtain⟨its',r',⟨o',e',_,n',d'⟩,_⟩:=I.tuple h';rw[e] at e';cases e';rw[d] at d';injection d' with d1 _;have:aA=its':=by simpa using congrArg Array.toList d1
 subst this;exact r.inj r'
end
section
variable{X:Cx}{aa:List (ai×Obj)}{Z:St}{H:Hp}{s:ao}{E:ah->ao->Prop}
end
section
variable{X:Cx}{st:Stmt}{rest:List Stmt}{t u:TS}{e:Expr}{te:TE}{pos:Pos}
def Dk:TS:=λD Z H=>D.nx Z H
def Li(t u:TS):TS:=λD Z H=>t { D with nx:=u D} Z H
def oG:iP X [] Dk:=λ_ _ Z H _ I h=>wpAny_execs_nil ⟨Z,H,I,h⟩
def Ut(h1:PS X st t)(h2:iP X rest u):iP X (st::rest) (Li t u):=by
 intro aa s Z H D I h;refine wpAny_execs_cons (bM (h1 aa s Z H { D with nx:=u D} I h) λf s1 q=>?_)
 cases f with
 |next=>
  obtain⟨Z',H',I',q⟩:=q;exact h2 aa s1 Z' H' D I' q
 |ret v=>exact q
 |brk=>exact q
 |cont=>exact q
def Inv.quiet(I:Inv X aa Z H s):interactive X.env=false:=by simp[interactive,I.ok.kind]
def Dj(te:TE):TS:=λD Z H=>te Z H λ_ H1=>D.nx Z H1
def V6(he:PE X e te)(hs:swapsWith e none pos.line X.env=pure false:=by rfl):PS X (.Expr e pos) (Dj te):=by
 intro aa s Z H D I h;exact wpAny_Expr_any (bM (he aa s Z H _ I h) λv s1 ⟨x,H1,I1,r1,q1⟩=>⟨Z,H1,I1,q1⟩) I.quiet hs
def Lh(te:TE):TS:=λD Z H=>te Z H D.rt
def YF(he:PE X e te):PS X (.Return (some e) pos) (Lh te):=by
 intro aa s Z H D I h;exact wpAny_Return_some (bM (he aa s Z H _ I h) λv s1 ⟨x,H1,I1,r1,q1⟩=>⟨x,Z,H1,I1,r1,q1⟩)
def Le(c:TT)(t u:TS):TS:=λD Z H=>c Z H λb H1=>if b=true then t D Z H1 else u D Z H1
def e5x{a b:List Stmt}(hc:PT X c tc)(ha:iP X a t)(hb:iP X b u):PS X (.If c a b pos) (Le tc t u):=by
 intro aa s Z H D I h;refine wpAny_If (bM (hc aa s Z H _ I h) λd s1 hh=>?_)
 obtain⟨H1,I1,q1⟩:=hh;cases d with
 |true=>exact ha aa s1 Z H1 D I1 q1
 |false=>exact hb aa s1 Z H1 D I1 q1
end
abbrev TG:=V->St->Hp->(St->Hp->Prop)->Prop
abbrev sv:=List V->St->Hp->(St->Hp->Prop)->Prop
def PG(X:Cx)(target:Expr)(t:TG):Prop:=
 ∀(aa:List (ai×Obj)) (s:ao) (Z:St) (H:Hp) (v:V) (u:ah) (Q:St->Hp->Prop),Inv X aa Z H s->RelV v u->t v Z H Q->
  wpAny (model X.prog X.w) X.A (assign target X.env u) (λ_ s'=>∃Z' H',Inv X aa Z' H' s'/\Q Z' H') X.xe s
def AH(X:Cx)(ts:List Expr)(t:sv):Prop:=
 ∀(aa:List (ai×Obj)) (s:ao) (Z:St) (H:Hp) (vs:List V) (us:List ah) (Q:St->Hp->Prop),Inv X aa Z H s->Vals vs us->t vs Z H Q->
  wpAny (model X.prog X.w) X.A (assignInOrder ((assignEach ts X.env).map (·.2)) us) (λ_ s'=>∃Z' H',Inv X aa Z' H' s'/\Q Z' H') X.xe s
abbrev o7:=V->V->V->Hp->(Hp->Prop)->Prop
def tq(X:Cx)(t:o7):Prop:=
 ∀(aa:List (ai×Obj)) (s:ao) (Z:St) (H:Hp) (o i v:V) (ov iv u:ah) (Q:Hp->Prop),Inv X aa Z H s->RelV o ov->RelV i iv->RelV v u->t o i v H Q->
  wpAny (model X.prog X.w) X.A (setItem ov iv u) (λ_ s'=>∃H',Inv X aa Z H' s'/\Q H') X.xe s
abbrev DT:=V->V->Hp->VK->Prop
def DR(X:Cx)(op:Operator)(t:DT):Prop:=
 ∀(aa:List (ai×Obj)) (s:ao) (Z:St) (H:Hp) (x y:V) (v u:ah) (Q:VK),Inv X aa Z H s->RelV x v->RelV y u->t x y H Q->
  wpAny (model X.prog X.w) X.A (inplaceOp op v u) (EP X aa Z Q) X.xe s
section
variable{X:Cx}{pos:Pos}
def n_(i:Nat):TG:=λv Z H Q=>Q (Z.set i (some v)) H
def V7{i:Nat}(hN:X.N.Nodup)(hi:X.N[i]?=some x)(hx:Loc X.env.scope x)(hf:X.fn x=true\/X.env.scope.names.lookup x=some .local := by first|exact .inl rfl|exact .inr rfl|assumption):PG X (.Name x pos) (n_ i):=by
 intro aa s Z H v u Q I r h;exact wpAny_assign_Name (NB I hN hi hx r (λs' I'=>⟨_,H,I',h⟩) hf)
def BU:sv:=λvs Z H Q=>vs=[]/\Q Z H
def vj(t:TG)(u:sv):sv:=λvs Z H Q=>∃v r,vs=v::r/\t v Z H λZ' H'=>u r Z' H' Q
def ur:AH X [] BU:=by
 intro aa s Z H vs us Q I r h;obtain⟨e,h⟩:=h;subst e;cases r;exact assignInOrder_nil ⟨Z,H,I,h⟩
def rP{t:TG}{u:sv}(h1:PG X e t)(h2:AH X es u)
  (hs:(assignEach (e::es) X.env).map (·.2)=assign e X.env::(assignEach es X.env).map (·.2):=by rfl):AH X (e::es) (vj t u):=by
 intro aa s Z H vs us Q I r h;obtain⟨v,vr,e1,h⟩:=h;subst e1;cases r with
 |cons r rr=>
  rw[hs];refine assignInOrder_cons (bM (h1 aa s Z H _ _ _ I r h) λ_ s1 hh=>?_)
  obtain⟨Z1,H1,I1,q1⟩:=hh;exact h2 aa s1 Z1 H1 _ _ Q I1 rr q1
def xV(K:aI)(n:Nat)(t:sv):TG:=λv Z H Q=>∃a xs,v=.ref a/\ie K H a xs/\xs.length=n/\t xs Z H Q
def YG{k:Nat}{t:sv}{n:Nat}(hc:X.calm=true)(h:AH X es t)
  (hn:(assignEach es X.env).length=n:=by rfl) (jT:(assignEach es X.env).findIdx? (·.1)=none:=by rfl):PG X (.Tuple es k pos) (xV X.K n t):=by
 intro aa s Z H v u Q I r hw;obtain⟨a,xs,e1,hq,hl,hw⟩:=hw;subst e1;cases r;obtain⟨aA,rv,ht,hz⟩:=I.tuple hq;refine assign_Tuple_tuple (I.ok.hd hc) ht (by simp[hn,<-hl,rv.length]) jT λh' hx=>?_
 have I1:Inv X aa Z H { s with heap:=h'}:=I.kept (t':=s.toks) λb o e=>hx b o (gd (cP e)) e
 exact h aa _ Z H xs _ Q I1 (by simpa using rv) hw
def JC(to ti:TE)(t:o7):TG:=λv Z H Q=>to Z H λo H1=>ti Z H1 λi H2=>t o i v H2 λH3=>Q Z H3
def YH{t:o7}(ho:PE X o to)(hi:PE X i ti)(hs:tq X t)
  (ha:∀v,assign (.Subscript o i pos) X.env v=(do
   let ov <-holding [v] (eval o X.env)
   let iv <-holding [v,ov] (eval i X.env)
   standAt pos
   holding [v,ov,iv] (setItem ov iv v)
   release [v,ov,iv] []):=by intro _;rfl):PG X (.Subscript o i pos) (JC to ti t):=by
 intro aa s Z H v u Q I r h;rw[ha];refine ax (i5 (bM (ho aa s Z H _ I h) λov s1 hh=>?_))
 obtain⟨x,H1,I1,r1,q1⟩:=hh;refine ax (i5 (bM (hi aa s1 Z H1 _ I1 q1) λiv s2 hh=>?_))
 obtain⟨y,H2,I2,r2,q2⟩:=hh;refine ax (wpAny_standAt (ax (i5 (bM (hs aa s2 Z H2 x y v ov iv u _ I2 r1 r2 r q2) λ_ s3 hh=>?_))))
 obtain⟨H3,I3,q3⟩:=hh;exact wpAny_release ⟨Z,H3,I3,q3⟩
def Dg(te:TE)(g:TG):TS:=λD Z H=>te Z H λx H1=>g x Z H1 D.nx
def YI{g:TG}(he:PE X e te)(hg:PG X tg g)(hs:swapsWithSole [tg] e pos.line X.env=pure false:=by rfl)(hw:swappedStores [tg] e X.env=pure none:=by rfl)
  (h1:(assignEach [tg] X.env).map (·.2)=[assign tg X.env]:=by rfl):PS X (.Assign [tg] e pos) (Dg te g):=by
 intro aa s Z H D I h;refine wpAny_Assign_stores (bM (he aa s Z H _ I h) λv s1 hh=>?_) hs hw
 obtain⟨x,H1,I1,r1,q1⟩:=hh;rw[h1];exact bM (hg aa s1 Z H1 x v _ I1 r1 q1) λ_ s2 q=>q
def YN{i:Nat}{pos':Pos}(hN:X.N.Nodup)(hi:X.N[i]?=some x)(hx:Loc X.env.scope x)(he:PE X e te)(hs:swapsWith e (some (.Name x pos')) pos.line X.env=pure false:=by rfl)(hf:X.fn x=true\/X.env.scope.names.lookup x=some .local := by first|exact .inl rfl|exact .inr rfl|assumption):
  PS X (.Assign [.Name x pos'] e pos) (Dg te (n_ i)):=by
 intro aa s Z H D I h;refine wpAny_Assign_Name (bM (he aa s Z H _ I h) λv s1 hh=>?_) hs
 obtain⟨y,H1,I1,r1,q1⟩:=hh;exact NB I1 hN hi hx r1 (λs2 I2=>⟨_,H1,I2,q1⟩) hf
def Dh(to ti te:TE)(uC:V->V->Hp->VK->Prop)(Gj:DT)(uG:o7):TS:=λD Z H=>to Z H λo H1=>ti Z H1 λi H2=>uC o i H2 λx H3=>te Z H3 λy H4=>Gj x y H4 λz H5=>uG o i z H5 λH6=>D.nx Z H6
def AG(X:Cx)(t:V->V->Hp->VK->Prop):Prop:=
 ∀(aa:List (ai×Obj)) (s:ao) (Z:St) (H:Hp) (o i:V) (ov iv:ah) (Q:VK),Inv X aa Z H s->RelV o ov->RelV i iv->t o i H Q->
  wpAny (model X.prog X.w) X.A (getItem ov iv) (EP X aa Z Q) X.xe s
def V8{uC:V->V->Hp->VK->Prop}{Gj:DT}{uG:o7}{op:Operator}{e_:Pos}(ho:PE X o to)(hi:PE X i ti)(hg:AG X uC)(he:PE X e te)(hp:DR X op Gj)(hs:tq X uG)
  (ha:∀ov iv new,augStore i ov iv new=(do holding [new,ov,iv] (setItem ov iv new);release [new,ov,iv] [];pure .next):=by intros;rfl):PS X (.AugAssign (.Subscript o i e_) op e pos) (Dh to ti te uC Gj uG):=by
 intro aa s Z H D I h;refine wpAny_AugAssign_SubscriptAny (bM (ho aa s Z H _ I h) λov s1 hh=>?_) ha
 obtain⟨x1,H1,I1,r1,q1⟩:=hh;refine bM (hi aa s1 Z H1 _ I1 q1) λiv s2 hh=>?_
 obtain⟨x2,H2,I2,r2,q2⟩:=hh;refine bM (hg aa s2 Z H2 x1 x2 ov iv _ I2 r1 r2 q2) λold s3 hh=>?_
 obtain⟨x3,H3,I3,r3,q3⟩:=hh;refine bM (he aa s3 Z H3 _ I3 q3) λv s4 hh=>?_
 obtain⟨x4,H4,I4,r4,q4⟩:=hh;refine bM (hp aa s4 Z H4 x3 x4 old v _ I4 r3 r4 q4) λnew s5 hh=>?_
 obtain⟨x5,H5,I5,r5,q5⟩:=hh;exact bM (hs aa s5 Z H5 x1 x2 x5 ov iv new _ I5 r1 r2 r5 q5) λ_ s6 ⟨H6,I6,q6⟩=>⟨Z,H6,I6,q6⟩
def J_(f:Int->Int->Int):DT:=λx y H Q=>∃i j,x=.int i/\y=.int j/\Q (.int (f i j)) H
def yh:DR X .Add (J_ λi j=>i+j):=by
 intro aa s Z H x y v u Q I r1 r2 h;obtain⟨i,j,e1,e2,q⟩:=h;subst e1;subst e2;obtain⟨t,rfl⟩:=r1;obtain⟨t',rfl⟩:=r2;exact iadd_int ⟨.int _,H,I.tok _,⟨_,rfl⟩,q⟩
end
section
variable{X:Cx}{pos:Pos}
def YO(c:TT)(tb:TS):TS:=λD Z H=>∃W:Nat->St->Hp->Prop,(∃m,W m Z H)/\∀m Z H,W m Z H->
 c Z H λb H1=>if b=true then ∃N:St->Hp->Prop,(∀Z' H',N Z' H'->∃m',m'<m/\W m' Z' H')/\tb { D with nx:=N,ct:=N,bk:=D.nx} Z H1 else D.nx Z H1
def Uu{body:List Stmt}{tb:TS}(hp:PassesOwn (model X.prog X.w) X.A X.env X.xe)(hc:PT X c tc)(hb:iP X body tb):PS X (.While c body [] pos) (YO tc tb):=by
 intro aa s Z H D I h;obtain⟨W,⟨m0,w0⟩,turn⟩:=h;refine wpAny_While (codeAny_whileLoop (λn s'=>∃Z' H',Inv X aa Z' H' s'/\W n Z' H') ?_ m0 ⟨Z,H,I,w0⟩)
 rintro n s1 ⟨Z1,H1,I1,w1⟩;refine wpAny_passesOwn hp (bM (hc aa s1 Z1 H1 _ I1 (turn n Z1 H1 w1)) λb s2 hh=>?_)
 obtain⟨H2,I2,q2⟩:=hh;cases b with
 |true=>
  obtain⟨N,hN,q2⟩:=q2;rw[bL rfl];refine wpAny_passesOwn hp (bM (hb aa s2 Z1 H2 _ I2 q2) λf s3 q3=>?_)
  cases f with
  |next=>
   obtain⟨Z3,H3,I3,n3⟩:=q3;obtain⟨m',hm,w3⟩:=hN Z3 H3 n3;exact⟨m',hm,Z3,H3,I3,w3⟩
  |cont=>
   obtain⟨Z3,H3,I3,n3⟩:=q3;obtain⟨m',hm,w3⟩:=hN Z3 H3 n3;exact⟨m',hm,Z3,H3,I3,w3⟩
  |brk=>exact q3
  |ret v=>exact q3
 |false=>
  rw[br sd];exact wpAny_execs_nil ⟨Z1,H2,I2,q2⟩
end
set_option genInjectivity false in
structure It where
 go:Nat->Hp->Prop
 m8:Nat->Hp->V->Hp->Prop
 stop:Nat->Hp->Prop
def iN(X:Cx)(aa:List (ai×Obj))(H:Hp)(b:ai):Prop:=
 H b=none/\b≠X.env.locals/\b∉X.fs/\(b∈X.ex\/X.s₀.heap.objs.size<=b)/\(∀x c,X.env.cells.lookup x=some c->c≠b)/\∀p∈X.pn++aa,p.1≠b
def Inv.kA{X:Cx}{H':Hp}{b:ai}(I:Inv X aa Z H s)(hb:s.heap.objs.size<=b)(hn:H' b=none):iN X aa H' b:=by
 refine⟨hn,vZ (fy I.lt hb),I.yw hb,.inr (iU I.sz hb),λx c e z=>?_,λp hp z=>?_⟩
 .obtain⟨v,q⟩:=I.cell x c e;exact bQ (fy q.lt (by rw[z];exact hb)) (jz _)
 .exact bQ (fy (cP (I.pin p hp).1) (by rw[z];exact hb)) (jz _)
structure Turn (P:cX) (w:cA) (K:aI) (tg:Expr) (J:It) (fp:List ai) (it:ai) (tn:Nat->bS->Prop):Prop where
 mem:it∈fp
 obj:∀i h,tn i h->∀b∈fp,∃o,h.get? b=some o/\∀v,o.data≠.cell v
 keep:∀i h h',tn i h->(∀b∈fp,∀o,h.get? b=some o->h'.get? b=some o)->tn i h'
 item:∀(X:Cx),X.prog=P->X.w=w->X.K=K->X.calm=true->∀(i:Nat) (aa:List (ai×Obj)) (s:ao) (Z:St) (H:Hp) (E:ah->ao->Prop),Inv X aa Z H s->(∀b∈fp,iN X aa H b)->tn i s.heap->J.go i H->
  wpAny (model P w) X.A (pyNext (.ref it)) (λr s1=>∃u,r=some u/\ wpAny (model P w) X.A (letOwnedTupleGo tg (.ref it) u) (λ_ s2=>∃x H',Inv X aa Z H' s2/\RelV x u/\J.m8 i H x H'/\tn (i+1) s2.heap/\∀b∈fp,H' b=none) E s1) E s
 done:∀(X:Cx),X.prog=P->X.w=w->X.K=K->X.calm=true->∀(i:Nat) (aa:List (ai×Obj)) (s:ao) (Z:St) (H:Hp) (E:ah->ao->Prop),Inv X aa Z H s->(∀b∈fp,iN X aa H b)->tn i s.heap->J.stop i H->
  wpAny (model P w) X.A (pyNext (.ref it)) (λr s1=>r=none/\Inv X aa Z H s1) E s
 self:∀(A:cK) (i:Nat) (s:ao) (Q:ah->ao->Prop) (E:ah->ao->Prop),tn i s.heap->Q (.ref it) s->wpAny (model P w) A (pyIter (.ref it)) Q E s
abbrev TI:=St->Hp->(It->Hp->Prop)->Prop
def GZ(X:Cx)(aa:List (ai×Obj))(Z:St)(tg:Expr)(R:It->Hp->Prop)(F6:ah)(s2:ao):Prop:=
 ∃(it:ai) (fp:List ai) (tn:Nat->bS->Prop) (J:It) (H':Hp),F6=.ref it/\Inv X aa Z H' s2/\Turn X.prog X.w X.K tg J fp it tn/\tn 0 s2.heap/\(∀b∈fp,iN X aa H' b)/\R J H'
def PI(X:Cx)(tg iter:Expr)(wi:TI):Prop:=
 ∀(aa:List (ai×Obj)) (s:ao) (Z:St) (H:Hp) (R:It->Hp->Prop),Inv X aa Z H s->wi Z H R->
  wpAny (model X.prog X.w) X.A (eval iter X.env) (λv s1=>wpAny (model X.prog X.w) X.A (pyIter v) (GZ X aa Z tg R) X.xe s1) X.xe s
def xt{M:Model}{A:cK}{E:ah->ao->Prop}{it:ai}{o:Obj}{n:String}{vs:Array ah}{Q:Unit->ao->Prop}(ho:s.heap.get? it=some o)(hc:o.cls=.type n)(hd:o.data=.fields vs)
  (hn:["enumerate","zip","dict_itemiterator","dict_reverseitemiterator","odict_iterator","itertools.zip_longest","itertools.pairwise"].contains n=false) (hQ:Q () s):wpAny M A (letOwnedTupleGo tg (.ref it) u) Q E s:=by
 unfold letOwnedTupleGo;cases tg <;> first
  |exact aP hQ
  |(cases u <;> first
    |exact aP hQ
    |(refine ax (wpAny_load ho ?_)
      rw[hc,hd];show wpAny M A (if(["enumerate","zip","dict_itemiterator","dict_reverseitemiterator","odict_iterator","itertools.zip_longest","itertools.pairwise"].contains n&&vs[0]? == some (rawInt _))=true then _ else _) Q E s
      rw[br (by intro h;rw[hn,Bool.false_and] at h;cases h)]
      exact aP hQ))
def GR(K:aI)(a:ai):It:=
 ⟨λi H=>∃xs x,cT K H a xs/\xs[i]?=some x,λi H x H'=>H'=H/\∀xs,cT K H a xs->xs[i]?=some x,λi H=>∃xs,cT K H a xs/\xs.length<=i⟩
def GU(K:aI)(a:ai):It:=
 ⟨λi H=>∃xs x,ie K H a xs/\xs[i]?=some x,λi H x H'=>H'=H/\∀xs,ie K H a xs->xs[i]?=some x,λi H=>∃xs,ie K H a xs/\xs.length<=i⟩
def DP(lo:Int)(n:Nat):It:=⟨λi _=>i<n,λi H x H'=>H'=H/\x=.int (lo+i),λi _=>n<=i⟩
def SX(a it:ai):Turn P w K tg (GR K a) [it] it (λi h=>h.IsListIter it a i) where
 mem:=by simp
 obj:=λi h st b hb=>by
  have e:b=it:=by simpa using hb
  subst e;obtain⟨o,e,c,d⟩:=st;exact⟨o,e,λv z=>by rw[d] at z;cases z⟩
 keep:=λi h h' st k=>st.at λo e=>k it (by simp) o e
 item:=by
  intro X hP hw hK hc i aa s Z H E I hf st hg;subst hP hw hK;obtain⟨xs,x,hq,hx⟩:=hg;obtain⟨aA,rv,p,hz⟩:=I.list hq;obtain⟨u,hu,ru⟩:=rv.get hx;obtain⟨f0,f1,f2,f3,f4,f5⟩:=hf it (by simp)
  refine wpAny_pyNext_list_item st p.isList (x:=u) (by simpa using hu) λh' jw sb=>?_
  have I1:Inv X aa Z H { s with heap:=h'}:=I.turned (t':=s.toks) (λb o hb e=>(sb.2 b hb).trans e) f0 f1 f3 f4 f5
  obtain⟨o,e,c,d⟩:=id jw;exact⟨u,rfl,xt (s:={ s with heap:=h'}) e c d (by decide) ⟨x,H,I1,ru,⟨rfl,λys hy=>by rw[I.jW hy hq];exact hx⟩,jw,λb hb=>(hf b hb).1⟩⟩
 done:=by
  intro X hP hw hK hc i aa s Z H E I hf st hg;subst hP hw hK;obtain⟨xs,hq,hx⟩:=hg;obtain⟨aA,rv,p,hz⟩:=I.list hq;obtain⟨f0,f1,f2,f3,f4,f5⟩:=hf it (by simp)
  have hl:=rv.length;exact wpAny_pyNext_list_end (I.ok.hd hc) st p.isList (by simp;lia) λh' eb=>⟨rfl,I.turned (t':=s.toks) (λb o hb e=>eb b o hb e) f0 f1 f3 f4 f5⟩
 self:=λ_ _ _ _ _ st h=>wpAny_pyIter_listiter st h
def Sk(a it:ai):Turn P w K tg (GU K a) [it] it (λi h=>h.IsTupleIter it a i) where
 mem:=by simp
 obj:=λi h st b hb=>by
  have e:b=it:=by simpa using hb
  subst e;obtain⟨o,e,c,d⟩:=st;exact⟨o,e,λv z=>by rw[d] at z;cases z⟩
 keep:=λi h h' st k=>st.at λo e=>k it (by simp) o e
 item:=by
  intro X hP hw hK hc i aa s Z H E I hf st hg;subst hP hw hK;obtain⟨xs,x,hq,hx⟩:=hg;obtain⟨aA,rv,p,hz⟩:=I.tuple hq;obtain⟨u,hu,ru⟩:=rv.get hx;obtain⟨f0,f1,f2,f3,f4,f5⟩:=hf it (by simp)
  refine wpAny_pyNext_tuple_item st (show s.heap.IsTuple a aA.toArray from p) (x:=u) (by simpa using hu) λh' jw sb=>?_
  have I1:Inv X aa Z H { s with heap:=h'}:=I.turned (t':=s.toks) (λb o hb e=>(sb.2 b hb).trans e) f0 f1 f3 f4 f5
  obtain⟨o,e,c,d⟩:=id jw;exact⟨u,rfl,xt (s:={ s with heap:=h'}) e c d (by decide) ⟨x,H,I1,ru,⟨rfl,λys hy=>by rw[I.kS hy hq];exact hx⟩,jw,λb hb=>(hf b hb).1⟩⟩
 done:=by
  intro X hP hw hK hc i aa s Z H E I hf st hg;subst hP hw hK;obtain⟨xs,hq,hx⟩:=hg;obtain⟨aA,rv,p,hz⟩:=I.tuple hq;obtain⟨f0,f1,f2,f3,f4,f5⟩:=hf it (by simp)
  have hl:=rv.length;exact wpAny_pyNext_tuple_end (I.ok.hd hc) st (show s.heap.IsTuple a aA.toArray from p) (by simp;lia) λh' eb=>⟨rfl,I.turned (t':=s.toks) (λb o hb e=>eb b o hb e) f0 f1 f3 f4 f5⟩
 self:=λ_ _ _ _ _ st h=>wpAny_pyIter_tupleiter st h
def Sl(it:ai)(lo:Int)(n:Nat):Turn P w K tg (DP lo n) [it] it (λi h=>IsRangeIter h it (lo+(i:Nat)*1) ((n:Int) - (i:Nat)) 1) where
 mem:=by simp
 obj:=λi h st b hb=>by
  have e:b=it:=by simpa using hb
  subst e;exact⟨_,st,λv z=>by
   have z':Data.fields _=Data.cell v:=z;cases z'⟩
 keep:=λi h h' st k=>k it (by simp) _ st
 item:=by
  intro X hP hw hK hc i aa s Z H E I hf st hg;subst hP hw hK;obtain⟨f0,f1,f2,f3,f4,f5⟩:=hf it (by simp)
  have W:=Walks.range (prog:=X.prog) (w:=X.w) (I.ok.hd hc) it lo 1 n;refine W.item i s _ _ hg st λv h' tk hv jw kk=>?_
  obtain⟨t,rfl⟩:=hv;have I1:Inv X aa Z H { s with heap:=h',toks:=tk}:=I.turned (λb o hb e=>kk b o (by simpa using hb) e) f0 f1 f3 f4 f5
  refine⟨_,rfl,xt (s:={ s with heap:=h',toks:=tk}) (n:="range_iterator") jw rfl rfl (by decide) ⟨.int (lo+i),H,I1,⟨t,?_⟩,⟨rfl,rfl⟩,jw,λb hb=>(hf b hb).1⟩⟩
  rw[Int.mul_one]
 done:=by
  intro X hP hw hK hc i aa s Z H E I hf st hg;subst hP hw hK;obtain⟨f0,f1,f2,f3,f4,f5⟩:=hf it (by simp)
  exact wpAny_pyNext_range_end (I.ok.hd hc) st (by have:n<=i:=hg;lia) λh' eb=>⟨rfl,I.turned (t':=s.toks) (λb o hb e=>eb b o hb e) f0 f1 f3 f4 f5⟩
 self:=λ_ _ _ _ _ st h=>wpAny_pyIter_rangeiter st h
section
variable{X:Cx}{tg:Expr}
def vv(K:aI)(tl:TE):TI:=λZ H R=>tl Z H λx H1=>∃a,x=.ref a/\(∃xs,cT K H1 a xs)/\R (GR K a) H1
def Ck(K:aI)(tl:TE):TI:=λZ H R=>tl Z H λx H1=>∃a,x=.ref a/\(∃xs,ie K H1 a xs)/\R (GU K a) H1
def V9{l:Expr}{tl:TE}(hl:PE X l tl):PI X tg l (vv X.K tl):=by
 intro aa s Z H R I h;refine bM (hl aa s Z H _ I h) λv s1 hh=>?_
 obtain⟨x,H1,I1,r1,q1⟩:=hh;obtain⟨a,e,⟨xs,hq⟩,q⟩:=q1;subst e;cases r1;obtain⟨aA,rv,p,hz⟩:=I1.list hq;refine wpAny_pyIter_list p.isList ?_;refine⟨s1.heap.objs.size,[s1.heap.objs.size],_,_,H1,rfl,I1.kept (t':=s1.toks) λb o e=>cU _ e,SX a _,⟨_,iI _ rfl,rfl,rfl⟩,λb hb=>?_,q⟩
 have e:b=s1.heap.objs.size:=by simpa using hb
 subst e;exact I1.kA (bU _) (I1.bw.fresh (bU _))
def YQ{l:Expr}{tl:TE}(hl:PE X l tl):PI X tg l (Ck X.K tl):=by
 intro aa s Z H R I h;refine bM (hl aa s Z H _ I h) λv s1 hh=>?_
 obtain⟨x,H1,I1,r1,q1⟩:=hh;obtain⟨a,e,⟨xs,hq⟩,q⟩:=q1;subst e;cases r1;obtain⟨aA,rv,p,hz⟩:=I1.tuple hq;refine wpAny_pyIter_tuple (show s1.heap.IsTuple a aA.toArray from p) ?_;refine⟨s1.heap.objs.size,[s1.heap.objs.size],_,_,H1,rfl,I1.kept (t':=s1.toks) λb o e=>cU _ e,Sk a _,⟨_,iI _ rfl,rfl,rfl⟩,λb hb=>?_,q⟩
 have e:b=s1.heap.objs.size:=by simpa using hb
 subst e;exact I1.kA (bU _) (I1.bw.fresh (bU _))
def Uv{aa:List (ai×Obj)}{Z:St}{H:Hp}{s:ao}{R:It->Hp->Prop}{E:ah->ao->Prop}{lo hi:Int}{t u v:Tok}{tk:Nat}(I:Inv X aa Z H s)(h1:-(2^62)<=lo)(h2:lo<2^62)(h3:-(2^62)<=hi)(h4:hi<2^62)
  (q:R (DP lo (hi - lo).toNat) H):wpAny (model X.prog X.w) X.A (pyIter (.ref s.heap.objs.size)) (GZ X aa Z tg R) E { s with heap:=s.heap.push { cls:=.type "range",data:=.fields #[.int lo t,.int hi u,.int 1 v]},toks:=tk}:=by
 refine wpAny_pyIter_range (IsRange.new ..) (small_one h1 h2 h3 h4) ?_;have I1:Inv X aa Z H { s with heap:=s.heap.push { cls:=.type "range",data:=.fields #[.int lo t,.int hi u,.int 1 v]},toks:=tk}:=I.kept λb o e=>cU _ e
 refine⟨(s.heap.push { cls:=.type "range",data:=.fields #[.int lo t,.int hi u,.int 1 v]}).objs.size,[(s.heap.push { cls:=.type "range",data:=.fields #[.int lo t,.int hi u,.int 1 v]}).objs.size],_,_,H,rfl,I1.kept (t':=tk) λb o e=>cU _ e,Sl _ lo (hi - lo).toNat,?_,λb hb=>?_,q⟩
 .have e1:lo+((0:Nat):Int)*1=lo:=by simp
  have e2:(((hi - lo).toNat:Nat):Int) - ((0:Nat):Int)=Builtin.Range.rangeSize lo hi 1:=by rw[rangeSize_one];split <;> lia
  show IsRangeIter _ _ (lo+((0:Nat):Int)*1) ((((hi - lo).toNat:Nat):Int) - ((0:Nat):Int)) 1;rw[e1,e2];exact iI _ rfl
 .have e:b=(s.heap.push { cls:=.type "range",data:=.fields #[.int lo t,.int hi u,.int 1 v]}).objs.size:=by simpa using hb
  subst e;exact I1.kA (bU _) (I1.bw.fresh (bU _))
def vw(ta:TA):TI:=λZ H R=>ta Z H λvs H1=>∃j:Int,vs=[.int j] /\ -(2^62)<=j/\j<2^62/\R (DP 0 j.toNat) H1
def SY{a:Expr}{ta:TA}{p pos:Pos}(hg:Gl X "range")(hm:X.mg "range"=none)(ha:PA X [a] ta)(hs:starEach [a] X.env=[(false,eval a X.env)]:=by rfl):PI X tg (.Call (.Name "range" p) [a] [] pos) (vw ta):=by
 intro aa s Z H R I h;refine Call_ (sC I hg hm boot_range (PyProof.Rows.callWith_type1 (bM (ha pos aa s Z H _ I h) λus s1 hh=>?_) hs rfl))
 obtain⟨vs,H1,I1,r1,q1⟩:=hh;obtain⟨j,e,q1,q2,q⟩:=q1;subst e;cases r1 with
 |cons r rr=>
  cases rr;obtain⟨t,rfl⟩:=r;exact call_range_1 (Uv I1 (by lia) (by lia) q1 q2 (by simpa using q))
def Ld(wi:TI)(g:TG)(tb:TS):TS:=λD Z H=>wi Z H λJ H1=>∃W:Nat->Nat->St->Hp->Prop,(∃m,W 0 m Z H1)/\∀i m Z H,W i m Z H->
 (J.stop i H/\D.nx Z H)\/(J.go i H/\∃N:St->Hp->Prop,(∀Z' H',N Z' H'->∃m',m'<m/\W (i+1) m' Z' H')/\∀x H',J.m8 i H x H'->g x Z H' λZ2 H2=>tb { D with nx:=N,ct:=N,bk:=D.nx} Z2 H2)
noncomputable def Bq(fp:List ai)(h:bS):List (ai×Obj):=fp.filterMap λb=>(h.get? b).map λo=>(b,o)
def AW{fp:List ai}{h:bS}{b:ai}{o:Obj}(hb:b∈fp)(e:h.get? b=some o):(b,o)∈Bq fp h:=nP.mpr ⟨b,hb,by rw[e];rfl⟩
def S6{fp:List ai}{h:bS}{p:ai×Obj}(hp:p∈Bq fp h):p.1∈fp/\h.get? p.1=some p.2:=by
 obtain⟨b,hb,e⟩:=nP.mp hp;cases q:h.get? b with
 |none=>rw[q] at e;cases e
 |some o=>
  rw[q] at e;have e':(b,o)=p:=Option.some.inj e;subst e';exact⟨hb,q⟩
def Inv.pinned{aa:List (ai×Obj)}{Z:St}{H:Hp}{s:ao}{fp:List ai}(I:Inv X aa Z H s)(hf:∀b∈fp,iN X aa H b)(ho:∀b∈fp,∃o,s.heap.get? b=some o/\∀v,o.data≠.cell v):Inv X (aa++Bq fp s.heap) Z H s:=
 I.ju λp hp=>(gw.mp hp).elim (λz=>I.pin p (mZ _ z)) λz=>by
  obtain⟨hb,e⟩:=S6 z;obtain⟨f0,f1,f2,_⟩:=hf p.1 hb;obtain⟨o,e',d⟩:=ho p.1 hb;rw[e] at e';cases e';exact⟨e,f0,f1,f2,d⟩
def Inv.eI{aa pl:List (ai×Obj)}{Z:St}{H:Hp}{s:ao}(I:Inv X (aa++pl) Z H s):Inv X aa Z H s:=I.ju λp hp=>I.pin p (mZ _ (DF _ hp))
def PF{iter:Expr}{body:List Stmt}{wi:TI}{g:TG}{tb:TS}{pos:Pos}(hp:PassesOwn (model X.prog X.w) X.A X.env X.xe)(hc:X.calm=true)(hi:PI X tg iter wi)(hg:PG X tg g)(hb:iP X body tb)
  (hs:∀x,foldedSetIterable iter X.env x=pure x:=by intro _;rfl):PS X (.For tg iter body [] pos) (Ld wi g tb):=by
 intro aa s Z H D I h;refine wpAny_For (bM (hi aa s Z H _ I h) λv s1 h1=>bM h1 λF6 s2 h2=>?_) hs
 obtain⟨it,fp,tn,J,H2,e,I2,T,qd,f2,W,⟨m0,w0⟩,turn⟩:=h2;subst e;have nO:∀{H':Hp},(∀b∈fp,H' b=none)->∀b∈fp,iN X aa H' b:=λhn b hb=>⟨hn b hb,(f2 b hb).2⟩
 refine codeAny_forLoop_any (λn s'=>∃i Z' H',Inv X aa Z' H' s'/\tn i s'.heap/\(∀b∈fp,H' b=none)/\W i n Z' H') ?_ m0 ⟨0,Z,H2,I2,qd,λb hb=>(f2 b hb).1,w0⟩
 rintro n s3 ⟨i,Z3,H3,I3,Rz,QP,w3⟩;rcases turn i n Z3 H3 w3 with⟨stop,qn⟩|⟨go,N,hN,step⟩
 .refine wpAny_passesOwn hp (bM (T.done X rfl rfl rfl hc i aa s3 Z3 H3 X.xe I3 (nO QP) Rz stop) λr s4 ⟨hr,I4⟩=>?_)
  subst hr;exact wpAny_execs_nil ⟨Z3,H3,I4,qn⟩
 .refine wpAny_passesOwn hp (bM (T.item X rfl rfl rfl hc i aa s3 Z3 H3 X.xe I3 (nO QP) Rz go) λr s4 ⟨u,hr,h4⟩=>?_)
  subst hr;refine wpAny_passesOwn hp (bM h4 λ_ s5 hh=>?_)
  obtain⟨x,H5,I5,r5,y5,yR,Jz⟩:=hh;have GN:=I5.pinned (nO Jz) (T.obj _ _ yR);refine wpAny_passesOwn hp (bM (hg _ s5 Z3 H5 x u _ GN r5 (step x H5 y5)) λ_ s6 hh=>?_)
  obtain⟨Z6,H6,I6,q6⟩:=hh;refine wpAny_passesOwn hp (bM (hb _ s6 Z6 H6 _ I6 q6) λf s7 q7=>?_)
  have again:∀{Z7:St} {H7:Hp},Inv X (aa++Bq fp s5.heap) Z7 H7 s7->N Z7 H7->∃m,m<n/\∃i Z' H',Inv X aa Z' H' s7/\tn i s7.heap/\(∀b∈fp,H' b=none)/\W i m Z' H':=λ{Z7 H7} I7 n7=>by
   obtain⟨m',hm,w7⟩:=hN Z7 H7 n7;refine⟨m',hm,i+1,Z7,H7,I7.eI,T.keep _ _ _ yR λb hb o e=>(I7.pin (b,o) (mZ _ (mZ _ (AW hb e)))).1,λb hb=>?_,w7⟩
   obtain⟨o,e,d⟩:=T.obj _ _ yR b hb;exact(I7.pin (b,o) (mZ _ (mZ _ (AW hb e)))).2.1
  cases f with
  |next=>obtain⟨Z7,H7,I7,n7⟩:=q7;exact again I7 n7
  |cont=>obtain⟨Z7,H7,I7,n7⟩:=q7;exact again I7 n7
  |brk=>obtain⟨Z7,H7,I7,q7⟩:=q7;exact⟨Z7,H7,I7.eI,q7⟩
  |ret v=>obtain⟨x7,Z7,H7,I7,r7,q7⟩:=q7;exact⟨x7,Z7,H7,I7.eI,r7,q7⟩
end
variable{aa:List (ai×Obj)}{s:ao}{Z:St}{H:Hp}{f:ah->ah->Sem ah}{op:CmpOp}{g:Int->Int->Int}{x:V}{us:List ah}
abbrev R2:=V->V->Hp->VK->Prop
variable{r r':R2}
def dB(X:Cx)(f:ah->ah->Sem ah)(r:R2):Prop:=
 ∀(aa:List (ai×Obj)) (s:ao) (Z:St) (H:Hp) (x y:V) (v u:ah) (Q:VK),Inv X aa Z H s->RelV x v->RelV y u->r x y H Q->
  wpAny (model X.prog X.w) X.A (f v u) (EP X aa Z Q) X.xe s
def DU(X:Cx)(f:ah->Sem ah)(r:V->Hp->VK->Prop):Prop:=
 ∀(aa:List (ai×Obj)) (s:ao) (Z:St) (H:Hp) (x:V) (v:ah) (Q:VK),Inv X aa Z H s->RelV x v->r x H Q->
  wpAny (model X.prog X.w) X.A (f v) (EP X aa Z Q) X.xe s
def bX(X:Cx)(f:ah)(r:List V->Hp->VK->Prop):Prop:=
 ∀(aa:List (ai×Obj)) (s:ao) (Z:St) (H:Hp) (xs:List V) (us:List ah) (Q:VK),Inv X aa Z H s->Vals xs us->r xs H Q->
  wpAny (model X.prog X.w) X.A (call f us) (EP X aa Z Q) X.xe s
def G2(X:Cx)(r:V->Hp->(Bool->Hp->Prop)->Prop):Prop:=
 ∀(aa:List (ai×Obj)) (s:ao) (Z:St) (H:Hp) (x:V) (v:ah) (Q:Bool->Hp->Prop),Inv X aa Z H s->RelV x v->r x H Q->
  wpAny (model X.prog X.w) X.A (truthy v) (TP X aa Z Q) X.xe s
def Gi(r:R2)(ta tb:TE):TE:=λZ H Q=>ta Z H λx H1=>tb Z H1 λy H2=>r x y H2 Q
def tUn(r:V->Hp->VK->Prop)(ta:TE):TE:=λZ H Q=>ta Z H λx H1=>r x H1 Q
def rI(C:Int->Int->Prop)(g:Int->Int->V):R2:=λx y H Q=>∃i j,x=.int i/\y=.int j/\C i j/\Q (g i j) H
def oH(g:Int->Int->V):R2:=λx y H Q=>∃i j,x=.int i/\y=.int j/\Q (g i j) H
def rU(g:Int->V):V->Hp->VK->Prop:=λx H Q=>∃i,x=.int i/\Q (g i) H
section
variable{X:Cx}{a b c:Expr}{ta tb tc:TE}{pos:Pos}
def xu(ha:PE X a ta)(hb:PE X b tb){R:V->V->Hp->Prop}(I:Inv X aa Z H s)
  (h:ta Z H λx H1=>tb Z H1 λy H2=>R x y H2) {Q:ah->ao->Prop} 
  (hf:∀v u s2 x y H2,Inv X aa Z H2 s2->RelV x v->RelV y u->R x y H2->wpAny (model X.prog X.w) X.A (f v u) Q X.xe s2) :
  wpAny (model X.prog X.w) X.A (eval a X.env) (λv s₁=>wpAny (model X.prog X.w) X.A (eval b X.env) (λu s₂=>wpAny (model X.prog X.w) X.A (f v u) Q X.xe s₂) X.xe s₁) X.xe s:=by
 refine bM (ha aa s Z H _ I h) λv s1 hh=>?_
 obtain⟨x,H1,I1,r1,q1⟩:=hh;refine bM (hb aa s1 Z H1 _ I1 q1) λu s2 hh=>?_
 obtain⟨y,H2,I2,r2,q2⟩:=hh;exact hf v u s2 x y H2 I2 r1 r2 q2
def e5y{op:Operator}(ho:dB X (binaryOp op) r)(ha:PE X a ta)(hb:PE X b tb):PE X (.BinOp a op b pos) (Gi r ta tb):=by
 intro aa s Z H Q I h;exact wpAny_BinOp (xu ha hb I h λv u s2 x y H2 I2 rx ry q=>ho aa s2 Z H2 x y v u Q I2 rx ry q)
def e5z{op:UnaryOp}{r:V->Hp->VK->Prop}(ho:DU X (unaryOp op) r)(ha:PE X a ta):PE X (.UnaryOp op a pos) (tUn r ta):=by
 intro aa s Z H Q I h;exact UnaryOp_ (bM (ha aa s Z H _ I h) λv s1 ⟨x,H1,I1,r1,q1⟩=>ho aa s1 Z H1 x v Q I1 r1 q1)
def Gb{C:Int->Int->Prop}
  (rule:∀(i j:Int) (t u:Tok) (s:ao) (Q:ah->ao->Prop) (E:ah->ao->Prop),C i j->Q (.int (g i j) s.toks) { s with toks:=s.toks+1}->wpAny (model X.prog X.w) X.A (f (.int i t) (.int j u)) Q E s) :
  dB X f (rI C λi j=>.int (g i j)):=by
 intro aa s Z H x y v u Q I rx ry h;obtain⟨i,j,rfl,rfl,hc,q⟩:=h;obtain⟨t,rfl⟩:=rx;obtain⟨t',rfl⟩:=ry;exact rule i j t t' s _ _ hc ⟨.int (g i j),H,I.tok _,⟨_,rfl⟩,q⟩
def CH
  (rule:∀(i j:Int) (t u:Tok) (s:ao) (Q:ah->ao->Prop) (E:ah->ao->Prop),Q (.int (g i j) s.toks) { s with toks:=s.toks+1}->wpAny (model X.prog X.w) X.A (f (.int i t) (.int j u)) Q E s) :
  dB X f (oH λi j=>.int (g i j)):=by
 intro aa s Z H x y v u Q I rx ry h;obtain⟨i,j,rfl,rfl,q⟩:=h;obtain⟨t,rfl⟩:=rx;obtain⟨t',rfl⟩:=ry;exact rule i j t t' s _ _ ⟨.int (g i j),H,I.tok _,⟨_,rfl⟩,q⟩
def yy{g:Int->Int->Bool}
  (rule:∀(i j:Int) (t u:Tok) (s:ao) (Q:ah->ao->Prop) (E:ah->ao->Prop),Q (.bool (g i j)) s->wpAny (model X.prog X.w) X.A (f (.int i t) (.int j u)) Q E s) :
  dB X f (oH λi j=>.bl (g i j)):=by
 intro aa s Z H x y v u Q I rx ry h;obtain⟨i,j,rfl,rfl,q⟩:=h;obtain⟨t,rfl⟩:=rx;obtain⟨t',rfl⟩:=ry;exact rule i j t t' s _ _ ⟨.bl (g i j),H,I,rfl,q⟩
def wb(i j:Int):Prop:=0<j/\j<1073741824
def wc(i j:Int):Prop:=0<=j/\j<=1000000/\i.natAbs<2^64
def sZ(i j:Int):Prop:=(-(2^64)<i/\i<2^64)\/(-(2^64)<j/\j<2^64)
def sZ.ok{i j:Int}(h:sZ i j):IntMulOk i j:=by
 rcases h with⟨h1,h2⟩|⟨h1,h2⟩
 .exact .of_left (intBits_le_64 h1 h2)
 .exact .of_right (intBits_le_64 h1 h2)
def yz:dB X (binaryOp .Add) (oH λi j=>.int (i+j)):=CH λ_ _ _ _ _ _ _ q=>add_int q
def YR:dB X (binaryOp .Sub) (oH λi j=>.int (i - j)):=CH λ_ _ _ _ _ _ _ q=>sub_int q
def yB:dB X (binaryOp .Mult) (rI sZ λi j=>.int (i*j)):=Gb λ_ _ _ _ _ _ _ hc q=>mul_int q hc.ok
def V_:dB X (binaryOp .FloorDiv) (rI wb λi j=>.int (i / j)):=Gb λi j _ _ _ _ _ hc q=>by
 have h1:(0:Int)<j:=hc.1;have h2:j<1073741824:=hc.2;exact floordiv_int (by lia) (by rw[Int.fdiv_eq_ediv_of_nonneg i (by lia)];exact q) (.inl (PyProof.noPylong_small (by lia)))
def YS:dB X (binaryOp .Mod) (rI (λ_ j=>0<j) λi j=>.int (i%j)):=Gb λi j _ _ _ _ _ hc q=>by
 have h1:(0:Int)<j:=hc;exact mod_int' (by lia) (by rw[Int.fmod_eq_emod_of_nonneg i (by lia)];exact q)
def YT:dB X (binaryOp .Pow) (rI wc λi j=>.int (i^j.toNat)):=Gb λ_ _ _ _ _ _ _ hc q=>pow_int_small hc.1 hc.2.1 hc.2.2 q
def unI{f:ah->Sem ah}{g:Int->Int}
  (rule:∀(i:Int) (t:Tok) (s:ao) (Q:ah->ao->Prop) (E:ah->ao->Prop),Q (.int (g i) s.toks) { s with toks:=s.toks+1}->wpAny (model X.prog X.w) X.A (f (.int i t)) Q E s) :
  DU X f (rU λi=>.int (g i)):=by
 intro aa s Z H x v Q I rx h;obtain⟨i,rfl,q⟩:=h;obtain⟨t,rfl⟩:=rx;exact rule i t s _ _ ⟨.int (g i),H,I.tok _,⟨_,rfl⟩,q⟩
def YU:DU X (unaryOp .USub) (rU λi=>.int (-i)):=unI λ_ _ _ _ _ q=>neg_int q
end
section
variable{X:Cx}{a b c:Expr}{ta tb tc:TE}{pos:Pos}
def tN{Q:VK}{k k':Bool}(I:Inv X aa Z H s)(q:Q (.bl k) H)(e:k=k'):EP X aa Z Q (.bool k') s:=by
 subst e;exact⟨.bl k,H,I,rfl,q⟩
def vJ:dB X (compareOp .Lt) (oH λi j=>.bl (decide (i<j))):=yy λ_ _ _ _ _ _ _ q=>lt_int q
def vI:dB X (compareOp .LtE) (oH λi j=>.bl (decide (i<=j))):=yy λ_ _ _ _ _ _ _ q=>le_int q
def e6a:dB X (compareOp .Gt) (oH λi j=>.bl (decide (j<i))):=yy λ_ _ _ _ _ _ _ q=>gt_int q
def S7:dB X (compareOp .In) (λx y H Q=>∃i j,x=.str i/\y=.str j/\Q (.bl (!(Builtin.Str.occurrences j i 0 j.length 1).isEmpty)) H):=by
 intro aa s Z H x y v u Q I rx ry h;obtain⟨i,j,rfl,rfl,q⟩:=h;obtain⟨t,rfl⟩:=rx;obtain⟨t',rfl⟩:=ry;exact in_str (tN I q rfl)
def yA:dB X (compareOp .Is) (λx y H Q=>y=.aJ/\Q (.bl (decide (x=.aJ))) H):=by
 intro aa s Z H x y v u Q I rx ry h;obtain⟨rfl,q⟩:=h;cases ry;refine is_none_gen (tN I q ?_);cases x <;> first
  |(cases rx;rfl)
  |(obtain⟨t,rfl⟩:=rx;rfl)
def um:dB X (compareOp .IsNot) (λx y H Q=>y=.aJ/\Q (.bl (!decide (x=.aJ))) H):=by
 intro aa s Z H x y v u Q I rx ry h;obtain⟨rfl,q⟩:=h;cases ry;refine isnot_none_gen (tN I q ?_);cases x <;> first
  |(cases rx;rfl)
  |(obtain⟨t,rfl⟩:=rx;rfl)
def R3:dB X (compareOp .NotIn) (λx y H Q=>∃i j,x=.str i/\y=.str j/\Q (.bl (!(!(Builtin.Str.occurrences j i 0 j.length 1).isEmpty))) H):=by
 intro aa s Z H x y v u Q I rx ry h;obtain⟨i,j,rfl,rfl,q⟩:=h;obtain⟨t,rfl⟩:=rx;obtain⟨t',rfl⟩:=ry;exact notIn_str (tN I q rfl)
def dB.or(h:dB X f r)(h':dB X f r'):dB X f (λx y H Q=>r x y H Q\/r' x y H Q):=by
 intro aa s Z H x y v u Q I rx ry q;rcases q with q|q
 .exact h aa s Z H x y v u Q I rx ry q
 .exact h' aa s Z H x y v u Q I rx ry q
def V'(ho:dB X (compareOp op) r)(ha:PE X a ta)(hb:PE X b tb)(hm:behindInMarks op b=false):PE X (.Compare a [op] [b] pos) (Gi r ta tb):=by
 intro aa s Z H Q I h;exact wpAny_Compare1 (xu ha hb I h λv u s2 x y H2 I2 rx ry q=>ho aa s2 Z H2 x y v u Q I2 rx ry q) hm
def rZ(t:TE):TT:=λZ H Q=>t Z H λx H'=>∃k,x=.bl k/\Q k H'
def Wa(ho:dB X (compareOp op) r)(ha:PE X a ta)(hb:PE X b tb)(hm:behindInMarks op b=false):PT X (.Compare a [op] [b] pos) (rZ (Gi r ta tb)):=by
 intro aa s Z H Q I h;refine wpAny_isTrue_Compare1 (bM (ha aa s Z H _ I h) λv s1 h1=>?_) hm
 obtain⟨x,H1,I1,r1,q1⟩:=h1;refine bM (hb aa s1 Z H1 _ I1 q1) λu s2 h2=>?_
 obtain⟨y,H2,I2,r2,q2⟩:=h2;refine bM (ho aa s2 Z H2 x y v u _ I2 r1 r2 q2) λc s3 h3=>?_
 obtain⟨z,H3,I3,r3,k,rfl,q3⟩:=h3;cases r3;exact wpAny_truthy_bool ⟨H3,I3,q3⟩
def PH(r r':R2)(ta tb tc:TE):TE:=λZ H Q=>ta Z H λx H1=>tb Z H1 λy H2=>r x y H2 λz H3=>∃k,z=.bl k/\
 (if k=true then tc Z H3 λw' H4=>r' y w' H4 Q else Q (.bl false) H3)
def Uw{yx:CmpOp}(ho:dB X (compareOp op) r)(vn:dB X (compareOp yx) r')(ha:PE X a ta)(hb:PE X b tb)(hc:PE X c tc)
  (hm:lastMarks [op,yx] [b,c]=false:=by with_unfolding_all rfl):PT X (.Compare a [op,yx] [b,c] pos) (rZ (PH r r' ta tb tc)):=by
 intro aa s Z H Q I h;refine isTrue_chain (bM (ha aa s Z H _ I h) λv s1 h1=>?_) hm
 obtain⟨x,H1,I1,r1,q1⟩:=h1;refine test_link (bM (hb aa s1 Z H1 _ I1 q1) λu s2 h2=>?_)
 obtain⟨y,H2,I2,r2,q2⟩:=h2;refine bM (ho aa s2 Z H2 x y v u _ I2 r1 r2 q2) λd s3 h3=>?_
 obtain⟨z,H3,I3,r3,k,rfl,q3⟩:=h3;cases r3;refine wpAny_truthy_bool ?_;cases k with
 |false=>
  obtain⟨k',e',q'⟩:=q3;cases e';exact ite_ff ⟨H3,I3,q'⟩
 |true=>
  refine ite_tt (test_last (bM (hc aa s3 Z H3 _ I3 q3) λw' s4 h4=>?_))
  obtain⟨z',H4,I4,r4,q4⟩:=h4;refine bM (vn aa s4 Z H4 y z' u w' _ I4 r2 r4 q4) λd' s5 h5=>?_
  obtain⟨z2,H5,I5,r5,k2,rfl,q5⟩:=h5;cases r5;exact wpAny_truthy_bool ⟨H5,I5,q5⟩
def wq(K:aI)(x:V)(H:Hp)(k:Bool):Prop:=
 match x with
 |.aJ=>k=false
 |.bl b=>k=b
 |.int i=>k=(i != 0)
 |.str y=>y.length<=sizeLine/\k=((y.length:Int) != 0)
 |.vf y=>y.size<=sizeLine/\k=((y.size:Int) != 0)
 |.ref p=>(∃xs,cT K H p xs/\k = !xs.isEmpty)\/(∃xs,ie K H p xs/\k = !xs.isEmpty)\/∃kvs,H p=some (.dK kvs)/\k = !kvs.isEmpty
 |_=>False
def Sm{κ:Type}{kvs:List (κ×V)}{vs:List (κ×ah)}(r:KV kvs vs):(!vs.isEmpty) = !kvs.isEmpty:=by
 cases r <;> rfl
def ME{xs:List V}{aA:List ah}(r:Vals xs aA):(!aA.toArray.isEmpty) = !xs.isEmpty:=by
 cases r <;> simp
def w_:(sizeLine:Nat)<2^63:=by rw[sizeLine_eq];decide
def YV:G2 X (λx H Q=>∃k,wq X.K x H k/\Q k H):=by
 intro aa s Z H x v Q I rx h;obtain⟨k,e,q⟩:=h;have hl:=w_;have hs:sizeLine=16777216:=sizeLine_eq;cases x with
 |aJ=>
  cases rx;have e':k=false:=e;subst e';exact truthy_none ⟨H,I,q⟩
 |bl b=>
  cases rx;have e':k=b:=e;subst e';exact wpAny_truthy_bool ⟨H,I,q⟩
 |int i=>
  obtain⟨t,rfl⟩:=rx;have e':k=(i != 0):=e;subst e';exact PySem.P.truthy_int ⟨H,I,q⟩
 |str y=>
  obtain⟨t,rfl⟩:=rx;obtain⟨hy,e'⟩:y.length<=sizeLine/\k=((y.length:Int) != 0):=e;subst e';exact PySem.P.truthy_str (by lia) ⟨H,I.tok _,q⟩
 |vf y=>
  obtain⟨t,rfl⟩:=rx;obtain⟨hy,e'⟩:y.size<=sizeLine/\k=((y.size:Int) != 0):=e;subst e';exact PySem.W.truthy_bytes (by lia) ⟨H,I.tok _,q⟩
 |ref p=>
  cases rx;have e':(∃xs,cT X.K H p xs/\k = !xs.isEmpty)\/(∃xs,ie X.K H p xs/\k = !xs.isEmpty)\/∃kvs,H p=some (.dK kvs)/\k = !kvs.isEmpty:=e;rcases e' with⟨xs,hx,e'⟩|⟨xs,hx,e'⟩|⟨kvs,hx,e'⟩
  .subst e';obtain⟨aA,r,pl,hz⟩:=I.list hx;have hlen:=r.length;exact wpAny_truthy_list pl.isList (by simp only[dH];lia) ⟨H,I.tok _,by rw[ME r];exact q⟩
  .subst e';obtain⟨aA,r,pl,hz⟩:=I.tuple hx;have hlen:=r.length;exact truthy_tuple pl (by simp only[dH];lia) ⟨H,I.tok _,by rw[ME r];exact q⟩
  .subst e';obtain⟨hz,hS,vs,r,m⟩:kvs.length<=sizeLine/\(p == sysModules)=false/\∃vs,KV kvs vs/\s.heap.DictOf (Iu X.prog X.w) p vs:=I.bw p _ hx;have hlen:kvs.length=vs.length:=Paired.length r;exact wpAny_truthy_dict hS m (by lia) ⟨H,I.tok _,by rw[Sm r];exact q⟩
 |_=>exact(show False from e).elim
def Ux(ha:PE X a ta)(he:∀whole,isTrue a X.env whole=(do let v <-whole;standAt a.pos;holding [v] (truthy v))):
  PT X a (λZ H Q=>ta Z H λx H'=>∃k,wq X.K x H' k/\Q k H'):=by
 intro aa s Z H Q I h;exact isTrue_plain (bM (ha aa s Z H _ I h) λv s1 ⟨x,H1,I1,r1,q1⟩=>YV aa s1 Z H1 x v Q I1 r1 q1) (he _)
def nN:dB X (binaryOp .Add) (λx y H Q=>∃i j,x=.str i/\y=.str j/\i.length+j.length<=sizeLine/\Q (.str (i++j)) H):=by
 intro aa s Z H x y v u Q I rx ry h;obtain⟨i,j,rfl,rfl,hz,q⟩:=h;obtain⟨t,rfl⟩:=rx;obtain⟨t',rfl⟩:=ry;exact add_str (λt' tk=>⟨.str (i++j),H,I.tok _,⟨_,rfl⟩,q⟩) hz
def vals1(r:Vals [x] us):∃u,us=[u]/\RelV x u:=by
 cases r with
 |cons r1 r2=>cases r2;exact⟨_,rfl,r1⟩
def vals2{y:V}(r:Vals [x,y] us):∃u w',us=[u,w']/\RelV x u/\RelV y w':=by
 cases r with
 |cons r1 r2=>
  cases r2 with
  |cons r3 r4=>cases r4;exact⟨_,_,rfl,r1,r3⟩
end
variable{h:bS}{dx C:ai}{mA:Str->aj ah}{Q:ah->ao->Prop}{v:V}{o:aj ah}{u:ah}{K:aI}{f:Str}
structure nv (h:bS) (x dx C:ai) (mA:Str->aj ah):Prop where
 obj:h.get? x=some (PySem.W.instObj C dx)
 ns:h.Ns1 dx mA
 ne:dx≠x
def S8(n:h.Ns1 dx mA):∃od,h.get? dx=some od/\∀name,PySem.W.lookIn name od=some (mA name):=by
 obtain⟨o,es,ep,ho,hd,hk,_,hm⟩:=n;refine⟨o,ho,λname=>?_⟩
 have e:=hm name;unfold nsFind findBy at e;rw[<-Array.find?_toList] at e;unfold PySem.W.lookIn;rw[hd];dsimp only;split
 .rename_i y q
  rw[q] at e;exact congrArg some e
 .rename_i q
  rw[q] at e;have a:es.toList.any (·.refKey)=false:=by
   rw[List.any_eq_false];intro y hy;obtain⟨z,t,JW⟩:=hk y (LA.mp hy);simp[DictEntry.refKey,JW]
  have a':¬es.toList.any (·.refKey)=true:=by rw[a];exact sd
  rw[br a'];exact congrArg some e
theorem nv.look{x:ai}(I:nv h x dx C mA):∃od,PySem.W.InstAt h x (PySem.W.instObj C dx) C (some od)/\∀name,PySem.W.lookIn name od=some (mA name):=
 let ⟨od,ho,hl⟩:=S8 I.ns
 ⟨od,⟨I.obj,rfl,rfl,ho⟩,hl⟩
section
variable{prog:cX}{w:cA}{A:cK}{E:ah->ao->Prop}{s:ao}{K:aI}{x dx C f:ai}{mA:Str->aj ah}{name:Str}{v:ah}
def Wb{expr:Bool}(X:K.In s.heap)(I:nv s.heap x dx C mA)(hg:PySem.W.plainGet K C name=true)(hh:PySem.W.hasDictIn K C=true)
  (ha:PySem.W.findIn K (.ref C) name=some none) (hv:mA name=some v) (J7:PySem.W.handedIn v=true) (h:Q v { s with toks:=s.toks+1}) :
  wpAny (model prog w) A (getAttr (.ref x) name expr) Q E s:=by
 obtain⟨od,J,hl⟩:=I.look;exact PySem.W.get_value X J (PySem.W.plainGet_of hg).1 (PySem.W.findObj_own hh ha rfl (by rw[hl,hv])) J7 h
def Uy{pl:Sem Bool}{Q:ah×List ah->ao->Prop}(X:K.In s.heap)(I:nv s.heap x dx C mA)(hg:PySem.W.plainGet K C name=true)
  (hf:PySem.W.findIn K (.ref C) name=some (some (.ref f))) (ht:PySem.W.isFn K (.ref f)=true) (hv:mA name=none) (h:Q (.ref f,[.ref x]) s) :
  wpAny (model prog w) A (getMethod (.ref x) name pl) Q E s:=by
 obtain⟨od,J,hl⟩:=I.look;exact PySem.W.method_fn X J (PySem.W.plainGet_of hg).1 (PySem.W.plainGet_of hg).2 hf (beq_iff_eq.mp ht) (by show(PySem.W.lookIn name od).map (·.isSome)=some false;rw[hl,hv];rfl) h
def Wc{ns:List Str}{Q:Unit->ao->Prop}(X:K.In s.heap)(I:nv s.heap x dx C mA)
  (hs:PySem.W.findIn K (.ref C) "__setattr__"=some (some (.builtin "object.__setattr__"))) (hp:PySem.W.plainOver K C=true) (ht:PySem.W.takerIn K C name=some none) (hh:PySem.W.hasDictIn K C=true)
  (hw:PySem.Within mA ns) (hsz:ns.length<=sizeLine)
  (h:∀h',nv h' x dx C (λy=>if y=name then some v else mA y)->Heap.SameBut dx s.heap h'->Q () { s with heap:=h',toks:=s.toks+2}) :
  wpAny (model prog w) A (setAttr (.ref x) name v) Q E s:=by
 obtain⟨od,J,hl⟩:=I.look;refine PySem.W.set_plain X J hs (PySem.W.osa_open (s:={ s with toks:=s.toks+1}) (r:=none) X J hp ht λb=>?_)
 obtain⟨cd,hc,om⟩:=PySem.W.any_some hh;have hx:s.heap.get? x=some ⟨.ref C,some dx,.plain,#[]⟩:=I.obj;refine ax (aP (ax (ax (wpAny_loadPart hx (ax (PySem.W.Looks.here (s:={ s with toks:=s.toks+1}) (PySem.W.looks_clsIn X hc) ?_))))));rw[om];refine aP (a:=some dx) (ax (aP (ax ?_)));refine wpAny_nsSet1 (s:={ s with toks:=s.toks+1}) I.ns λh' x_ qa=>?_
 obtain⟨oD,esD,epD,JZ,JQ,hcD⟩:=x_.count (PySem.Within.cons name v hw);refine ax (wpAny_lookBehind JZ (by rw[JQ];exact pastItsLine_dict (iU hcD (by rw[j9];lia))) ?_)
 exact aP (h _ ⟨(qa.2 _ (Ne.symm I.ne)).trans I.obj,x_,I.ne⟩ qa)
def Uz{R:Result->ao->Prop}{vs:List ah}{kw:List (Str×ah)}(X:K.In s.heap)(hm:PySem.W.makesIn K C=true)
  (hi:PySem.W.findIn K (.ref C) "__init__"=some (some (.ref f))) (hf:PySem.W.typeIn K (.ref f)=some (.type "function"))
  (h:codeAny (model prog w) (A.under (.builtin "type.__call__" ⟨.ref C::vs,kw⟩)) (.call (.ref f) ⟨.ref (s.heap.objs.size+1)::vs,kw⟩) (PySem.W.InitBack (s.heap.objs.size+1) R) {s with heap:=(s.heap.push PySem.W.emptyDict).push (PySem.W.instObj C s.heap.objs.size)}) :
  codeAny (model prog w) A (.call (.ref C) ⟨vs,kw⟩) R s:=by
 obtain⟨hh,g,d,t,os⟩:=s;exact PySem.W.make_core (PySem.W.makes_of X hm) (PySem.W.looks_findIn X hi) (λself=>PySem.W.bind_fn X self hf) (.inl rfl) h
end
noncomputable def dF(f:Str)(v:V):List (Str×V)->List (Str×V)
 |[]=>[(f,v)]
 |(g,x)::r=>if g=f then(g,v)::r else(g,x)::dF f v r
theorem Mt(f g:Str)(v:V):∀fs:List (Str×V),(dF f v fs).lookup g=if g=f then some v else fs.lookup g
 |[]=>by
  show List.lookup g [(f,v)]=_;by_cases h:g=f
  .have hb:(g == f)=true:=beq_iff_eq.mpr h;simp only[List.lookup,hb,bL h]
  .have hb:(g == f)=false:=m7.mpr h;simp only[List.lookup,hb,br h]
 |(k,x)::r=>by
  have ih:=Mt f g v r;rw[show dF f v ((k,x)::r)=(if k=f then(k,v)::r else(k,x)::dF f v r) from rfl]
  by_cases hk:k=f
  .rw[bL hk];by_cases h:g=k
   .have hb:(g == k)=true:=beq_iff_eq.mpr h;simp only[List.lookup,hb,bL (h.trans hk)]
   .have hb:(g == k)=false:=m7.mpr h;simp only[List.lookup,hb,br (λe:g=f=>h (e.trans hk.symm))]
  .rw[br hk];by_cases h:g=k
   .have hb:(g == k)=true:=beq_iff_eq.mpr h;simp only[List.lookup,hb,br (λe:g=f=>hk (h.symm.trans e))]
   .have hb:(g == k)=false:=m7.mpr h;simp only[List.lookup,hb];exact ih
theorem HL(f:Str)(v:V):∀fs:List (Str×V),f∈(dF f v fs).map (·.1)/\∀g,g∈fs.map (·.1)->g∈(dF f v fs).map (·.1)
 |[]=>⟨by simp[dF],λg h=>by simp at h⟩
 |(k,x)::r=>by
  obtain⟨i1,i2⟩:=HL f v r;rw[show dF f v ((k,x)::r)=(if k=f then(k,v)::r else(k,x)::dF f v r) from rfl]
  by_cases hk:k=f
  .rw[bL hk];subst hk;exact⟨by simp,λg h=>by simpa using h⟩
  .rw[br hk];refine⟨?_,λg h=>?_⟩
   .rw[cR];exact mY _ i1
   .rw[cR] at h ⊢;rcases y0a.mp h with e|e
    .exact y0a.mpr (.inl e)
    .exact mY _ (i2 g e)
theorem Mu(f:Str)(v:V):∀fs:List (Str×V),(dF f v fs).length<=fs.length+1
 |[]=>by simp[dF]
 |(k,x)::r=>by
  have ih:=Mu f v r;rw[show dF f v ((k,x)::r)=(if k=f then(k,v)::r else(k,x)::dF f v r) from rfl]
  by_cases hk:k=f
  .rw[bL hk,j9,j9];lia
  .rw[br hk,j9,j9];lia
def ib.some_of(r:ib (some v) o):∃u,o=some u/\RelV v u:=by
 cases o with
 |none=>exact(show False from r).elim
 |some u=>exact⟨u,rfl,r⟩
def ib.none_of(r:ib none o):o=none:=by
 cases o with
 |none=>rfl
 |some u=>exact(show False from r).elim
def S9(r:RelV v u):PySem.W.handedIn u=true:=by
 cases v with
 |aJ=>cases(show u=Value.none from r);rfl
 |bl b=>cases(show u=Value.bool b from r);rfl
 |int i=>obtain⟨t,e⟩:=(show ∃t,u=Value.int i t from r);cases e;rfl
 |str x=>obtain⟨t,e⟩:=(show ∃t,u=Value.str x t from r);cases e;rfl
 |vf b=>obtain⟨t,e⟩:=(show ∃t,u=Value.bytes b t from r);cases e;rfl
 |zZ b=>obtain⟨t,e⟩:=(show ∃t,u=Value.float b t from r);cases e;rfl
 |ref a=>cases(show u=Value.ref a from r);rfl
 |ty n=>cases(show u=Value.type n from r);rfl
section
variable{P:cX}{w:cA}{H H':Hp}{h h':bS}{a C dx:ai}{fs z0:List (Str×V)}
def Iv(bw:iO P w H h)(e:H a=some (.ins C dx fs)):∃mA,nv h a dx C mA/\(∀f,ib (fs.lookup f) (mA f))/\PySem.Within mA (fs.map (·.1))/\fs.length<=1000/\H dx=some (.own a):=by
 obtain⟨d,z,ne,ob,mA,n,r,q⟩:=(show bD P w H h a (.ins C dx fs) from bw a _ e);exact⟨mA,⟨ob,n,ne⟩,r,q,z,d⟩
end
structure Cls (K:aI) (C:ai):Prop where
 pg:PySem.W.plainGet K C Str.empty=true
 hd:PySem.W.hasDictIn K C=true
 po:PySem.W.plainOver K C=true
 sa:PySem.W.findIn K (.ref C) "__setattr__"=some (some (.builtin "object.__setattr__"))
def Cls.get(c:Cls K C)(f:Str):PySem.W.plainGet K C f=true:=c.pg
def fG(K:aI)(C:ai)(f:Str):Prop:=PySem.W.findIn K (.ref C) f=some none
def fG.Dp(n:fG K C f):PySem.W.takerIn K C f=some none:=by
 unfold PySem.W.takerIn;rw[show PySem.W.findIn K (.ref C) f=some none from n];rfl
structure Meth (K:aI) (C:ai) (m:Str) (f:ai):Prop where
 at_:PySem.W.findIn K (.ref C) m=some (some (.ref f))
 fn:PySem.W.isFn K (.ref f)=true
 kp:PySem.W.keepIn K (.ref f)=true
section
variable{X:Cx}{aa:List (ai×Obj)}{Z:St}{H:Hp}{s:ao}{a C dx:ai}{fs:List (Str×V)}{f:Str}{v:V}{A:cK}{E:ah->ao->Prop}
def MF{b:Bool}(I:Inv X aa Z H s)(e:H a=some (.ins C dx fs))(c:Cls X.K C)(n:fG X.K C f)(l:fs.lookup f=some v)
  (h:∀u s',Inv X aa Z H s'->RelV v u->Q u s'):wpAny (model X.prog X.w) A (getAttr (.ref a) f b) Q E s:=by
 obtain⟨mA,O,r,_,_,_⟩:=Iv I.bw e;obtain⟨u,hu,ru⟩:=ib.some_of (v:=v) (o:=mA f) (by rw[<-l];exact r f)
 exact Wb I.jt O (c.get f) c.hd n hu (S9 ru) (h u _ (I.tok _) ru)
def MG{m:Str}{g:ai}{pl:Sem Bool}{Q:ah×List ah->ao->Prop}(I:Inv X aa Z H s)(e:H a=some (.ins C dx fs))(c:Cls X.K C)(k:Meth X.K C m g)(l:fs.lookup m=none)
  (h:Q (.ref g,[.ref a]) s):wpAny (model X.prog X.w) A (getMethod (.ref a) m pl) Q E s:=by
 obtain⟨mA,O,r,_,_,_⟩:=Iv I.bw e;have hn:mA m=none:=ib.none_of (by rw[<-l];exact r m)
 exact Uy I.jt O (c.get m) k.at_ k.fn hn h
def MH{y:V}{Q:Unit->ao->Prop}(I:Inv X aa Z H s)(e:H a=some (.ins C dx fs))(c:Cls X.K C)(n:fG X.K C f)(hl:fs.length<1000)(ry:RelV y u)
  (h:∀s',Inv X aa Z (upd H a (.ins C dx (dF f y fs))) s'->Q () s'):wpAny (model X.prog X.w) A (setAttr (.ref a) f u) Q E s:=by
 obtain⟨mA,O,r,wi,_,ho⟩:=Iv I.bw e;have hz:(fs.map (·.1)).length<=sizeLine:=by rw[bJ,sizeLine_eq];lia
 refine Wc I.jt O c.sa c.po n.Dp c.hd wi hz λh' O' sb=>h _ ?_
 have hd:∃o,h'.get? dx=some o:=let ⟨o,_,_,e',_⟩:=O'.ns;⟨o,e'⟩
 refine I.write (x:=a) (e:=dx) (by rw[e];exact sg) (.inr ho) (λb q hb z=>(sb.2 b hb).trans z) hd ?_
 refine⟨by rw[c_ O.ne];exact ho,?_,O.ne,O'.obj,_,O'.ns,λg=>?_,λg hg=>?_⟩
 .have:=Mu f y fs;lia
 .show ib ((dF f y fs).lookup g) (if g=f then some u else mA g)
  rw[Mt];by_cases q:g=f
  .rw[bL q,bL q];exact ry
  .rw[br q,br q];exact r g
 .by_cases q:g=f
  .rw[q];exact(HL f y fs).1
  .refine(HL f y fs).2 g (wi g λz=>hg ?_)
   show(if g=f then some u else mA g)=none
   rw[br q];exact z
def Inv.made(I:Inv X aa Z H s):Inv X aa Z (upd (upd H s.heap.objs.size (.own (s.heap.objs.size+1))) (s.heap.objs.size+1) (.ins C s.heap.objs.size []))
  {s with heap:=(s.heap.push PySem.W.emptyDict).push (PySem.W.instObj C s.heap.objs.size)}:=by
 have e1:(s.heap.push PySem.W.emptyDict).get? s.heap.objs.size=some PySem.W.emptyDict:=iI s.heap rfl;have e2:((s.heap.push PySem.W.emptyDict).push (PySem.W.instObj C s.heap.objs.size)).get? (s.heap.objs.size+1)=some (PySem.W.instObj C s.heap.objs.size):=by
  have:=iI (s.heap.push PySem.W.emptyDict) (o:=PySem.W.instObj C s.heap.objs.size) rfl
  rwa[Heap.size_push] at this
 have e3:(s.heap.push PySem.W.emptyDict).Ns s.heap.objs.size (λ_=>none):=⟨PySem.W.emptyDict,#[],_,e1,rfl,(λe he=>bQ he (by simp)),λ_=>rfl⟩
 have I1:=I.laid (a:=s.heap.objs.size) (o:=.own (s.heap.objs.size+1)) (h':=s.heap.push PySem.W.emptyDict) (t':=s.toks) (λb u q=>cU _ q) (bU _) ⟨_,e1⟩
 refine I1.laid (a:=s.heap.objs.size+1) (o:=.ins C s.heap.objs.size []) (t':=s.toks) (λb u q=>cU _ q) (DG (Heap.size_push _ _)) ?_
 have ne:s.heap.objs.size≠s.heap.objs.size+1:=gd (pS _);refine⟨by rw[c_ ne,aH],kg _,ne,e2,λ_=>none,(Heap.Ns1.of_empty e3).at λo q=>cU _ q,λ_=>sg,λy hy=>bQ rfl hy⟩
def Wd{prog:cX}{w:cA}{env:Env}{e:Expr}{pos:Pos}{s:ao}(hb:attributeBase e f env (eval e env)=eval e env)
  (h:wpAny (model prog w) A (eval e env) (λo s₁=>wpAny (model prog w) A (getAttr o f true) Q E s₁) E s):wpAny (model prog w) A (eval (.Attribute e f pos) env) Q E s:=
 Attribute_any_ h (by rw[arm_eval_Attribute,hb])
end
def Lc(K:aI)(ta:TE)(f:Str):TE:=λZ H Q=>ta Z H λx H1=>∃a C dx fs v,x=.ref a/\H1 a=some (.ins C dx fs)/\Cls K C/\fG K C f/\fs.lookup f=some v/\Q v H1
def KY(K:aI)(ta tv:TE)(f:Str):TS:=λD Z H=>tv Z H λy H1=>ta Z H1 λx H2=>∃a C dx fs,x=.ref a/\H2 a=some (.ins C dx fs)/\Cls K C/\fG K C f/\fs.length<1000/\
 D.nx Z (upd H2 a (.ins C dx (dF f y fs)))
def wg(X:Cx)(op:Operator)(rd:V->V->Hp->VK->Prop):Prop:=
 ∀(aa:List (ai×Obj)) (s:ao) (Z:St) (H:Hp) (x y:V) (u v:ah) (Q:VK),Inv X aa Z H s->RelV x u->RelV y v->rd x y H Q->wpAny (model X.prog X.w) X.A (inplaceOp op u v) (EP X aa Z Q) X.xe s
def We(K:aI)(ta tv:TE)(rd:V->V->Hp->VK->Prop)(f:Str):TS:=λD Z H=>ta Z H λx H1=>∃a C dx fs v,x=.ref a/\H1 a=some (.ins C dx fs)/\Cls K C/\fG K C f/\fs.lookup f=some v/\
 tv Z H1 λy H2=>rd v y H2 λz H3=>∃Jo z0,H3 a=some (.ins C Jo z0)/\z0.length<1000/\D.nx Z (upd H3 a (.ins C Jo (dF f z z0)))
section
variable{X:Cx}{o e value:Expr}{f:Str}{pos pos' e_:Pos}{ta tv:TE}
def YW(he:PE X e ta)(hb:attributeBase e f X.env (eval e X.env)=eval e X.env):PE X (.Attribute e f pos) (Lc X.K ta f):=by
 intro aa s Z H Q I h;refine Wd hb (bM (he aa s Z H _ I h) λu s1 hh=>?_)
 obtain⟨x,H1,I1,rx,a,C,dx,fs,v,ex,ea,c,n,l,q⟩:=hh;subst ex;obtain rfl:u=Value.ref a:=rx;exact MF I1 ea c n l λu' s2 I2 ru=>⟨v,H1,I2,ru,q⟩
def YX(ha:PE X o ta)(hv:PE X value tv)(hs:swapsWith value (some (.Attribute o f pos')) pos.line X.env=pure false):PS X (.Assign [.Attribute o f pos'] value pos) (KY X.K ta tv f):=by
 intro aa s Z H D I h;refine plainObj_wpAny_Assign_Attribute (bM (hv aa s Z H _ I h) λu s1 h1=>?_) hs
 obtain⟨y,H1,I1,ry,q⟩:=h1;refine bM (ha aa s1 Z H1 _ I1 q) λov s2 h2=>?_
 obtain⟨x,H2,I2,rx,a,C,dx,fs,rfl,ea,c,n,l,q2⟩:=h2;obtain rfl:ov=Value.ref a:=rx;exact MH I2 ea c n l ry λs3 I3=>⟨Z,_,I3,q2⟩
def S_{op:Operator}{rd:V->V->Hp->VK->Prop}(ha:PE X o ta)(hv:PE X value tv)(yf:wg X op rd):PS X (.AugAssign (.Attribute o f e_) op value pos) (We X.K ta tv rd f):=by
 intro aa s Z H D I h;refine wpAny_AugAssign_AttributeAny (bM (ha aa s Z H _ I h) λov s1 hh=>?_)
 obtain⟨x,H1,I1,rx,a,C,dx,fs,v,ex,ea,c,n,l,q⟩:=hh;subst ex;obtain rfl:ov=Value.ref a:=rx;refine MF I1 ea c n l λu s2 I2 ru=>bM (hv aa s2 Z H1 _ I2 q) λw3 s3 h3=>?_
 obtain⟨y,H2,I3,ry,q3⟩:=h3;refine bM (yf aa s3 Z H2 v y u w3 _ I3 ru ry q3) λw4 s4 h4=>?_
 obtain⟨z,H3,I4,rz,Jo,z0,ea',l',q4⟩:=h4;exact MH I4 ea' c n l' rz λs5 I5=>⟨Z,_,I5,q4⟩
def KP:V->V->Hp->VK->Prop:=λx y H Q=>∃i j,x=.int i/\y=.int j/\Q (.int (i+j)) H
def YY:wg X .Add KP:=by
 rintro aa s Z H x y u v Q I rx ry ⟨i,j,rfl,rfl,q⟩;obtain⟨t,rfl⟩:=(show ∃t,u=Value.int i t from rx);obtain⟨t',rfl⟩:=(show ∃t',v=Value.int j t' from ry);exact PyProof.Rows.iadd_int ⟨.int (i+j),H,I.tok _,⟨_,rfl⟩,q⟩
end
section
variable{X:Cx}{aa:List (ai×Obj)}{Z:St}{H:Hp}{s:ao}{A:cK}{E:ah->ao->Prop}{Q:ah->ao->Prop}{c:ah}{b:Bool}
end
variable{k:Nat}{A:cK}{C f:ai}{us:List ah}{kw:List (Str×ah)}{P:cX}{w:cA}{K:aI}{mg:Str->aj ah}{base:bS}{outer:List Env}{s:ao}{H:Hp}{Q:VK}{ps N:List Str}{aa:List (ai×Obj)}{Z:St}{vs:List V}{qual:Str}{scope:Scope}
structure cx (k:Nat) (A:cK):Prop where
 hd:A.handled=none
 dp:A.depth+3*k+5<recursionLimit
 un:A.units+16*k+200<cLine
def cx.mono{j:Nat}(r:cx k A)(h:j<=k):cx j A:=⟨r.hd,by have:=r.dp;lia,by have:=r.un;lia⟩
def cx.deeper{k:Nat}{A:cK}(r:cx (k+1) A)(env:Env):cx k (A.deeper env):=
 ⟨r.hd,by have:=r.dp;show A.depth+1+3*k+5<_;lia,by have:=r.un;show A.units+3+16*k+200<_;lia⟩
def Sn:(A.under (.builtin "type.__call__" ⟨.ref C::us,kw⟩)).depth=A.depth+1:=by
 rfl
def So:(A.under (.builtin "type.__call__" ⟨.ref C::us,kw⟩)).units=A.units+1:=by
 rfl
def cx.make(r:cx (k+1) A)(C:ai)(us:List ah)(kw:List (Str×ah)):cx k (A.under (.builtin "type.__call__" ⟨.ref C::us,kw⟩)):=
 ⟨r.hd,by have:=r.dp;rw[Sn];lia,by have:=r.un;rw[So];lia⟩
def cx.depth{k:Nat}{A:cK}(r:cx k A):A.depth<recursionLimit:=by have:=r.dp;lia
def cx.units{k:Nat}{A:cK}(r:cx k A):A.units+64<cLine:=by have:=r.un;lia
def uA:TA:=λ_ H Q=>Q [] H
def rX(ta:TE)(tr:TA):TA:=λZ H Q=>ta Z H λx H1=>tr Z H1 λxs H2=>Q (x::xs) H2
section
variable{X:Cx}{e:Expr}{es:List Expr}{te:TE}{t:TA}{pos:Pos}
def lK:PA X [] uA:=λ_ _ _ _ H Q I h=>Calls.spliced_nil ⟨[],H,I,.nil,h⟩
def EX(ha:PE X e te)(hr:PA X es t)(hs:starEach (e::es) X.env=(false,eval e X.env)::starEach es X.env:=by rfl):PA X (e::es) (rX te t):=by
 intro pos aa s Z H Q I h;rw[hs];show wpAny _ _ (spliced ((false,eval e X.env)::backTo pos (starEach es X.env))) _ _ s;refine Calls.spliced_cons (bM (ha aa s Z H _ I h) λu s1 hh=>?_)
 obtain⟨x,H1,I1,r1,q1⟩:=hh;exact bM (hr pos aa s1 Z H1 _ I1 q1) λus s2 ⟨xs,H2,I2,r2,q2⟩=>⟨x::xs,H2,I2,.cons r1 r2,q2⟩
def Lj(t:TA):TE:=λZ H Q=>t Z H λxs H1=>xs.length<=sizeLine/\∀p,H1 p=none->Q (.ref p) (upd H1 p (.tup xs))
def Lf(t:TA):TE:=λZ H Q=>t Z H λxs H1=>xs.length<=sizeLine/\∀p,H1 p=none->Q (.ref p) (upd H1 p (.lst xs))
def YZ{x1}(h:PA X es t):PE X (.Tuple es x1 pos) (Lj t):=by
 intro aa s Z H Q I hq;refine wpAny_Tuple_spliced (bM (h pos aa s Z H _ I hq) λus s1 ⟨xs,H1,I1,r,z,q⟩=>⟨by rw[<-r.length];exact z,?_⟩)
 have hf:H1 s1.heap.objs.size=none:=I1.bw.fresh (bU _);refine⟨.ref s1.heap.objs.size,upd H1 s1.heap.objs.size (.tup xs),I1.laid (t':=s1.toks) (λb u e=>cU _ e) (bU _) ?_,rfl,q _ hf⟩
 exact⟨z,us,r,⟨_,iI _ rfl,rfl,_,rfl⟩⟩
def Y0(h:PA X es t):PE X (.List es pos) (Lf t):=by
 intro aa s Z H Q I hq;refine wpAny_List_spliced (bM (h pos aa s Z H _ I hq) λus s1 ⟨xs,H1,I1,r,z,q⟩=>⟨by rw[<-r.length];exact z,?_⟩)
 have hf:H1 s1.heap.objs.size=none:=I1.bw.fresh (bU _);refine⟨.ref s1.heap.objs.size,upd H1 s1.heap.objs.size (.lst xs),I1.laid (t':=s1.toks) (λb u e=>cU _ e) (bU _) ?_,rfl,q _ hf⟩
 exact⟨z,us,0,r,iI _ rfl⟩
end
abbrev Sp:=List V->Hp->VK->XK->Prop
abbrev si:=List Env->Hp->ao->XK->ah->ao->Prop
variable{CX:si}
structure m_ (P:cX) (w:cA) (K:aI) (mg:Str->aj ah) (base:bS) (A:cK) (outer:List Env) (s:ao) (H:Hp):Prop where
 frames:A.frames=some outer
 mod:Mod K mg base
 bs:∀b o,base.get? b=some o->s.heap.get? b=some o/\H b=none
 qN:base.objs.size<=s.heap.objs.size
 iq:s.heap.FunFrames base outer
 t4:∀b∈jN outer,H b=none
 bw:iO P w H s.heap
 bare:AllBare s.gens
def CE(outer:List Env)(P:cX)(w:cA)(H:Hp)(s:ao)(Q:VK)(u:ah)(s':ao):Prop:=
 ∃v H',s'.os=s.os/\AllBare s'.gens/\Un (jN outer) [] H H' s.heap s'.heap/\iO P w H' s'.heap/\RelV v u/\Q v H'
def CR(CX:si)(outer:List Env)(P:cX)(w:cA)(H:Hp)(s:ao)(Q:VK)(E:XK)(r:Result)(s':ao):Prop:=
 match r with
 |.ok (.ret u)=>CE outer P w H s Q u s'
 |.ok _=>False
 |.error e=>CX outer H s E e s'
structure dA (P:cX) (w:cA) (K:aI) (mg:Str->aj ah) (base:bS) (CX:si) (k:Nat) (f:ai) (fd:kI) (ps:List Str) (sp:Sp):Prop where
 len:∀vs H Q E,sp vs H Q E->vs.length=ps.length
 run:∀(A:cK) (outer:List Env) (s:ao) (H:Hp) (args:Args) (us:List ah) (vs:List V) (Q:VK) (E:XK),cx k A->m_ P w K mg base A outer s H->BindsTo s fd args (ps.zip us)->Vals vs us->sp vs H Q E->
  codeAny (model P w) A (.call (.ref f) args) (CR CX outer P w H s Q E) s
def m_.make(e:m_ P w K mg base A outer s H)(C:ai)(us:List ah)(kw:List (Str×ah)):
  m_ P w K mg base (A.under (.builtin "type.__call__" ⟨.ref C::us,kw⟩)) outer s H:=⟨by first|exact e.frames|(simpa[Around.under,Code.envs,Code.isFrame,pushEnvs] using e.frames),e.mod,e.bs,e.qN,e.iq,e.t4,e.bw,e.bare⟩
section
variable{X:Cx}{aa:List (ai×Obj)}{Z:St}{H:Hp}{s s':ao}
def Inv.BQ(I:Inv X aa Z H s):m_ X.prog X.w X.K X.mg X.base X.A X.stack s H:=
 ⟨I.ok.frames,I.ok.mod,I.bs,iU I.ok.qN I.sz,I.stack,I.jx,I.bw,I.bare⟩
def Inv.after{u:ah}(I:Inv X aa Z H s)(h:CE X.stack X.prog X.w H s Q u s'):EP X aa Z Q u s':=by
 obtain⟨v,H',os,bare,un,bw,r,q⟩:=h;obtain⟨hh,g,d,t,os'⟩:=s';obtain rfl:os'=s.os:=os;exact⟨v,H',I.call (h':=hh) (g':=g) (d':=d) (t':=t) (ch:=[]) un bw bare (λb z=>bQ z (by simp)),r,q⟩
end
def Di(sp:Sp)(kz:List V)(E:St->XK)(t:TA):TE:=λZ H Q=>t Z H λvs H1=>sp (vs++kz) H1 Q (E Z)
def rY(C:ai)(m:Str)(sp:Sp)(kz:List V)(E:St->XK)(ta:TE)(t:TA):TE:=λZ H Q=>ta Z H λx H1=>∃a dx fs,x=.ref a/\H1 a=some (.ins C dx fs)/\fs.lookup m=none/\
 t Z H1 λvs H2=>sp (x::(vs++kz)) H2 Q (E Z)
def vW(C:ai)(sp:Sp)(kz:List V)(E:St->XK)(t:TA):TE:=λZ H Q=>t Z H λvs H1=>∀x dx,H1 x=none->H1 dx=none->dx≠x->
 sp (.ref x::(vs++kz)) (upd (upd H1 dx (.own x)) x (.ins C dx [])) (λv H2=>v=.aJ/\Q (.ref x) H2) (E Z)
def Binds(K:aI)(fd:kI)(ps:List Str)(ds:List ah):Prop:=
 ∀(s:ao) (us:List ah),K.In s.heap->(us++ds).length=ps.length->BindsTo s fd ⟨us,[]⟩ (ps.zip (us++ds))
def Binds.all{fd:kI}(h:∀us:List ah,us.length=ps.length->bindArgs fd ⟨us,[]⟩=pure (ps.zip us)):Binds K fd ps []:=λs us _ hl=>by
 rw[kT] at hl ⊢;exact .of_eq (h us hl)
def xa(CX:si)(X:Cx)(E:St->XK):Prop:=∀(aa:List (ai×Obj)) (Z:St) (H:Hp) (s:ao) (e:ah) (s':ao),Inv X aa Z H s->CX X.stack H s (E Z) e s'->X.xe e s'
section
variable{X:Cx}{CX:si}{k:Nat}{f C:ai}{fd:kI}{ps:List Str}{sp:Sp}{kz:List V}{ds:List ah}{E:St->XK}{x m:Str}{p pos apos:Pos}{e o:Expr}{es:List Expr}{ta:TE}{t:TA}
def IM(F:dA X.prog X.w X.K X.mg X.base CX k f fd ps sp)(hr:cx k X.A)(hb:Binds X.K fd ps ds)(hd:Vals kz ds)(hx:xa CX X E)
  (I:Inv X aa Z H s) (r:Vals vs us) (h:sp (vs++kz) H Q (E Z)):wpAny (model X.prog X.w) X.A (call (.ref f) us) (EP X aa Z Q) X.xe s:=by
 have r2:Vals (vs++kz) (us++ds):=r.append hd;have hl:(us++ds).length=ps.length:=by rw[<-r2.length];exact F.len _ _ _ _ h
 refine wpAny_call (codeAny_mono (F.run X.A X.stack s H ⟨us,[]⟩ (us++ds) (vs++kz) Q (E Z) hr I.BQ (hb s us I.jt hl) r2 h) λr s' hq=>?_)
 cases r with
 |error e=>exact hx aa Z H s e s' I hq
 |ok fl=>
  cases fl with
  |ret u=>exact I.after hq
  |next=>exact False.elim hq
  |brk=>exact False.elim hq
  |cont=>exact False.elim hq
def Wf(F:dA X.prog X.w X.K X.mg X.base CX k f fd ps sp)(hr:cx k X.A)(hg:Gl X x)(hm:X.mg x=some (.ref f))(hk:PySem.W.keepIn X.K (.ref f)=true)(hb:Binds X.K fd ps ds)(hd:Vals kz ds)(hx:xa CX X E)
  (ha:PA X (e::es) t) (kB:(x == ("__debug__":Str))=false:=by decide) (he:starEach (e::es) X.env=(false,eval e X.env)::starEach es X.env:=by rfl) (jr:(backTo pos (starEach es X.env)).any (·.1)=false:=by rfl) :
  PE X (.Call (.Name x p) (e::es) [] pos) (Di sp kz E t):=by
 intro aa s Z H Q I h;refine wpAny_Call_Name_kw (zH I hg hm ?_ kB);refine PySem.W.callWith_K (h₀:=X.base) I.ok.mod.Ac hk (bM (ha pos aa s Z H _ I h) λus s1 ⟨vs,H1,I1,r,q⟩=>⟨I1.jt,?_⟩) he jr
 exact IM F hr hb hd hx I1 r q
def Wg{pl:Sem Bool}(he:PE X o ta)(c:Cls X.K C)(hm:Meth X.K C m f)(F:dA X.prog X.w X.K X.mg X.base CX k f fd ps sp)(hr:cx k X.A)(hb:Binds X.K fd ps ds)(hd:Vals kz ds)(hx:xa CX X E)(ha:PA X (e::es) t)
  (jT:starEach (e::es) X.env=(false,eval e X.env)::starEach es X.env:=by rfl) (jr:(backTo pos (starEach es X.env)).any (·.1)=false:=by rfl)
  (ht:eval (.Call (.Attribute o m apos) (e::es) [] pos) X.env=(do
   let ov <-eval o X.env
   standAt apos.atName
   let (f,first) <-holding [ov] (getMethod ov m pl)
   callWith pos f first (backTo pos (starEach (e::es) X.env)) (backToKw pos (keywordEach [] X.env))):=by rfl) :
  PE X (.Call (.Attribute o m apos) (e::es) [] pos) (rY C m sp kz E ta t):=by
 intro aa s Z H Q I h;refine PySem.W.methodCall_KW (pl:=pl) (bM (he aa s Z H _ I h) λu s1 hh=>?_) ht
 obtain⟨x,H1,I1,rx,a,dx,fs,ex,ea,l,q⟩:=hh;subst ex;obtain rfl:u=Value.ref a:=rx;refine MG I1 ea c hm l ?_;refine PySem.W.callWith_K (first:=[.ref a]) (h₀:=X.base) I.ok.mod.Ac hm.kp (bM (ha pos aa s1 Z H1 _ I1 q) λus s2 ⟨vs,H2,I2,r,q2⟩=>⟨I2.jt,?_⟩) jT jr
 exact IM (us:=.ref a::us) (vs:=.ref a::vs) F hr hb hd hx I2 (.cons rfl r) q2
def UA{pl:Sem Bool}(he:PE X o ta)(c:Cls X.K C)(hm:Meth X.K C m f)(F:dA X.prog X.w X.K X.mg X.base CX k f fd ps sp)(hr:cx k X.A)(hb:Binds X.K fd ps ds)(hd:Vals kz ds)(hx:xa CX X E)
  (ht:eval (.Call (.Attribute o m apos) [] [] pos) X.env=(do
   let ov <-eval o X.env
   standAt apos.atName
   let (f,first) <-holding [ov] (getMethod ov m pl)
   callWith pos f first (backTo pos (starEach [] X.env)) (backToKw pos (keywordEach [] X.env))):=by rfl) :
  PE X (.Call (.Attribute o m apos) [] [] pos) (rY C m sp kz E ta uA):=by
 intro aa s Z H Q I h;refine PySem.W.methodCall_KW (pl:=pl) (bM (he aa s Z H _ I h) λu s1 hh=>?_) ht
 obtain⟨x,H1,I1,rx,a,dx,fs,ex,ea,l,q⟩:=hh;subst ex;obtain rfl:u=Value.ref a:=rx;refine MG I1 ea c hm l ?_;exact PySem.W.callWith_K0 (first:=[.ref a]) I1.jt hm.kp (IM (us:=[.ref a]) (vs:=[.ref a]) F hr hb hd hx I1 (.cons rfl .nil) q)
structure Mk (K:aI) (C f:ai):Prop where
 makes:PySem.W.makesIn K C=true
 init:PySem.W.findIn K (.ref C) "__init__"=some (some (.ref f))
 fn:PySem.W.isFn K (.ref f)=true
 kp:PySem.W.keepIn K (.ref C)=true
def UB(M:Mk X.K C f)(F:dA X.prog X.w X.K X.mg X.base CX k f fd ps sp)(hr:cx (k+1) X.A)(hb:Binds X.K fd ps ds)(hd:Vals kz ds)
  (hx:xa CX X E) (I:Inv X aa Z H s) (r:Vals vs us)
  (h:∀x dx,H x=none->H dx=none->dx≠x->sp (.ref x::(vs++kz)) (upd (upd H dx (.own x)) x (.ins C dx [])) (λv H2=>v=.aJ/\Q (.ref x) H2) (E Z)) :
  wpAny (model X.prog X.w) X.A (call (.ref C) us) (EP X aa Z Q) X.xe s:=by
 have hq:=h (s.heap.objs.size+1) s.heap.objs.size (I.bw.fresh (uP _)) (I.bw.fresh (bU _)) (gd (pS _));have I2:=Inv.made (C:=C) I;have r2:Vals (V.ref (s.heap.objs.size+1)::(vs++kz)) (Value.ref (s.heap.objs.size+1)::(us++ds)):=.cons rfl (r.append hd);have hl:(Value.ref (s.heap.objs.size+1)::us++ds).length=ps.length:=by
  have e:=r2.length;rw[F.len _ _ _ _ hq] at e;exact e.symm
 refine wpAny_call (Uz (f:=f) I.jt M.makes M.init (beq_iff_eq.mp M.fn) (codeAny_mono (F.run _ X.stack _ _ ⟨Value.ref (s.heap.objs.size+1)::us,[]⟩ (Value.ref (s.heap.objs.size+1)::(us++ds)) _ _ (E Z) (hr.make C us []) (I2.BQ.make C us []) (hb _ (Value.ref (s.heap.objs.size+1)::us) I2.jt hl) r2 hq) λr s' Cb=>?_))
 cases r with
 |error e=>exact hx aa Z _ _ e s' I2 Cb
 |ok fl=>
  cases fl with
  |ret u=>
   obtain⟨v,H',I3,rv,ev,q3⟩:=I2.after Cb;subst ev;exact⟨rv,⟨V.ref (s.heap.objs.size+1),H',I3,rfl,q3⟩⟩
  |next=>exact False.elim Cb
  |brk=>exact False.elim Cb
  |cont=>exact False.elim Cb
def Wh(M:Mk X.K C f)(F:dA X.prog X.w X.K X.mg X.base CX k f fd ps sp)(hr:cx (k+1) X.A)(hg:Gl X x)(hm:X.mg x=some (.ref C))(hb:Binds X.K fd ps ds)(hd:Vals kz ds)(hx:xa CX X E)
  (ha:PA X (e::es) t) (kB:(x == ("__debug__":Str))=false:=by decide) (he:starEach (e::es) X.env=(false,eval e X.env)::starEach es X.env:=by rfl) (jr:(backTo pos (starEach es X.env)).any (·.1)=false:=by rfl) :
  PE X (.Call (.Name x p) (e::es) [] pos) (vW C sp kz E t):=by
 intro aa s Z H Q I h;refine wpAny_Call_Name_kw (zH I hg hm ?_ kB);refine PySem.W.callWith_K (h₀:=X.base) I.ok.mod.Ac M.kp (bM (ha pos aa s Z H _ I h) λus s1 ⟨vs,H1,I1,r,q⟩=>⟨I1.jt,?_⟩) he jr
 exact UB M F hr hb hd hx I1 r q
end
section
variable{X:Cx}{CX:si}{k:Nat}{f C:ai}{fd:kI}{ps ks:List Str}{sp:Sp}{E:St->XK}{x m:Str}{p pos apos kpos:Pos}{e o:Expr}{es:List Expr}{kws:List Keyword}{te ta:TE}{t tk:TA}{nm:aj Str}
variable{g:List ah->List ah->List ah}{gV:List V->List V->List V}
end
structure ia (N P:List Str) (sc:Scope):Prop where
 kind:sc.kind=.function
 co:sc.isCoroutine=false
 gen:sc.isGenerator=false
 nd:N.Nodup
 pre:N.take P.length=P
 par:∀x∈P,sc.names.lookup x=some .local \/ sc.names.lookup x=some .cell
 yv:∀y∈sc.names,y.2≠.free
theorem MZ{kindOf:Str->aj nR}{x:Str}:∀{binds:List (Str×ah)} {m:Str->aj ah},(∀v,(x,v)∉binds)->bindL kindOf binds m x=m x
 |[],_,_=>rfl
 |(n,v)::r,m,h=>by
  unfold bindL;rw[MZ λw hw=>h w (mY _ hw)]
  split
  .have:x≠n:=by rintro rfl;exact h v uN
   simp[this]
  .rfl
theorem M0{kindOf:Str->aj nR}{x:Str}:∀{binds:List (Str×ah)} {m:Str->aj ah},(∀v,(x,v)∉binds)->bindC kindOf binds m x=m x
 |[],_,_=>rfl
 |(n,v)::r,m,h=>by
  unfold bindC;rw[M0 λw hw=>h w (mY _ hw)]
  split
  .rfl
  .have:x≠n:=by rintro rfl;exact h v uN
   simp[this]
theorem M1{kindOf:Str->aj nR}{x:Str}{v:ah}:∀{P:List Str} {vs:List ah} {i:Nat} {m:Str->aj ah},P.Nodup->P[i]?=some x->vs[i]?=some v->kindOf x=some .local ->
  bindL kindOf (P.zip vs) m x=some v
 |[],_,_,_,_,h,_,_=>by simp at h
 |_::_,[],_,_,_,_,h,_=>by simp at h
 |p::P,w::vs,0,m,nd,h1,h2,hk=>by
  simp at h1 h2;subst h1;subst h2;show bindL kindOf ((p,w)::P.zip vs) m p=_;unfold bindL;rw[MZ λv hv=>(sf.mp nd).1 (List.of_mem_zip hv).1,bL hk]
  simp
 |p::P,w::vs,i+1,m,nd,h1,h2,hk=>by
  show bindL kindOf ((p,w)::P.zip vs) m x=_;unfold bindL;exact M1 (i:=i) (sf.mp nd).2 (by simpa using h1) (by simpa using h2) hk
theorem M3{kindOf:Str->aj nR}{x:Str}{v:ah}:∀{P:List Str} {vs:List ah} {i:Nat} {m:Str->aj ah},P.Nodup->P[i]?=some x->vs[i]?=some v->kindOf x≠some .local ->
  bindC kindOf (P.zip vs) m x=some v
 |[],_,_,_,_,h,_,_=>by simp at h
 |_::_,[],_,_,_,_,h,_=>by simp at h
 |p::P,w::vs,0,m,nd,h1,h2,hk=>by
  simp at h1 h2;subst h1;subst h2;show bindC kindOf ((p,w)::P.zip vs) m p=_;unfold bindC;rw[M0 λv hv=>(sf.mp nd).1 (List.of_mem_zip hv).1,br hk]
  simp
 |p::P,w::vs,i+1,m,nd,h1,h2,hk=>by
  show bindC kindOf ((p,w)::P.zip vs) m x=_;unfold bindC;exact M3 (i:=i) (sf.mp nd).2 (by simpa using h1) (by simpa using h2) hk
noncomputable def start(N:List Str)(vs:List V):St:=vs.map some++List.replicate (N.length - vs.length) none
noncomputable def lz(CX:si)(P:cX)(w:cA)(K:aI)(mg:Str->aj ah)(base:bS)(N:List Str)(qual:Str)(scope:Scope)(f:ai)(cd:ah)(A:cK)(outer:List Env)(s:ao)(H:Hp)(E:XK):Cx where
 prog:=P
 w:=w
 K:=K
 mg:=mg
 base:=base
 A:=A.deeper (envOfC qual scope s.heap.objs.size f cd)
 N:=N
 s₀:=s
 H₀:=H
 env:=envOfC qual scope s.heap.objs.size f cd
 outer:=outer
 stack:=envOfC qual scope s.heap.objs.size f cd::outer
 ex:=[]
 calm:=true
 fn:=λ_=>true
 pn:=[]
 xe:=λe s'=>wpAny (model P w) (A.deeper (envOfC qual scope s.heap.objs.size f cd)) (leaving (envOfC qual scope s.heap.objs.size f cd) e) (λ_ rV=>CX outer H s E e rV) (λe' rV=>CX outer H s E e' rV) s'
def NC{sc:Scope}{n:Nat}{x:Str}(h:sc.names.lookup x=some .cell):∃c,(cellsFrom n sc.names []).lookup x=some c:=by
 have q:=PySem.W.cellsFrom_some sc.names n [] (.inl h);exact Option.isSome_iff_exists.mp q
def Ta{cd:ah}{s1:ao}{E:XK}
  (S:ia N ps scope) (hd:A.handled=none) (e0:m_ P w K mg base A outer s H) (hl:vs.length=ps.length) (r:Vals vs us)
  (x:InCallC s s.heap.objs.size (bindL (envOfC qual scope s.heap.objs.size f cd).kindOf (ps.zip us) λ_=>none) (cellsFrom (s.heap.objs.size+1) scope.names []) (bindC (envOfC qual scope s.heap.objs.size f cd).kindOf (ps.zip us) λ_=>none) s1) :
  Inv (lz CX P w K mg base N qual scope f cd A outer s H E) [] (start N vs) H s1:=by
 have jr:ps.length<=N.length:=by have:=congrArg List.length S.pre;rw[v5] at this;lia
 obtain⟨h1,tk,rfl,hk⟩:=x.done;have CC:∀b:ai,b∉(lz CX P w K mg base N qual scope f cd A outer s H E).ex:=λb z=>bQ (show b∈([]:List ai) from z) (by simp)
 refine⟨⟨e0.mod,S.kind,rfl,rfl,bU _,λy z c h1 h2=>?_,λy hy=>?_,λy c _ h=>?_,λ_=>hd,Around.frames_deeper e0.frames,.inr ⟨rfl,rfl⟩,λb z=>bQ z (CC b),e0.bs,e0.qN,λb _ _=>CC b,λb z=>bQ z (CC b),e0.iq,e0.t4⟩,rfl,e0.bare,Un.kept hk,⟨_,x.toInCall.ns,λi y v h1 h2 h3=>?_⟩,λy c h=>⟨_,x.cell y c h⟩,e0.bw.fresh (bU _),λy c h=>?_,λp hp=>bQ (show p∈([]:List (ai×Obj)) from hp) (by simp),e0.bw.kept hk,?_⟩
 .exact name_of_addr x.apart (PySem.mem_of_lookup h1) (PySem.mem_of_lookup h2)
 .have hy:scope.names.lookup y=some .cell\/scope.names.lookup y=some .free:=hy;rcases hy with hy|hy
  .exact NC hy
  .exact bQ rfl (S.yv _ (PySem.mem_of_lookup hy))
 .exact DE (x.above y c (PySem.mem_of_lookup h))
 .have hi:i<vs.length:=by
   unfold start at h2;by_cases hi:i<vs.length
   .exact hi
   .rw[sV (by simpa using hi)] at h2
    rw[LB] at h2;split at h2 <;> cases h2
  have ha:vs[i]?=some v:=by
   unfold start at h2;rw[uQ (by simpa using hi),fW] at h2
   cases e:vs[i]? with
   |none=>rw[e] at h2;cases h2
   |some a=>rw[e] at h2;cases h2;rfl
  obtain⟨u,hu,rv⟩:=r.get ha;have hp:ps[i]?=some y:=by
   rw[<-S.pre,List.getElem?_take_of_lt (by lia)];exact h1
  have Rg:ps.Nodup:=by rw[<-S.pre];exact S.nd.sublist (List.take_sublist _ _)
  refine⟨u,rv,?_⟩;rcases S.par y (pT hp) with k|k
  .exact .inl ⟨k,M1 Rg hp hu k⟩
  .obtain⟨c,e⟩:=NC (n:=s.heap.objs.size+1) k;refine .inr ⟨.inl k,c,e,?_⟩;have q:=x.cell y c e;rw[M3 Rg hp hu (by show scope.names.lookup y≠_;rw[k];decide)] at q
   exact q
 .exact e0.bw.fresh (DE (x.above y c (PySem.mem_of_lookup h)))
 .unfold start;show _=N.length
  simp_all
def e6b{name:Str}{params:Arguments}{body:List Stmt}{dV kV doc pm f6 ct oc:ah}{an od:aj ai}
  {oB:Array (aj ah)}  {sp:Sp} (lk:K.lookup f=some ⟨oc,od,.func (PySem.W.fnOf name qual params body scope dV kV doc pm an f6 ct),oB⟩) (q_:PySem.W.codeIn K f6 qual=true) (S:ia N ps scope)
  (len:∀vs H Q E,sp vs H Q E->vs.length=ps.length)
  (q8:∀(A:cK) (outer:List Env) (s:ao) (H:Hp) (vs:List V) (Q:VK) (E:XK),cx k (A.deeper (envOfC qual scope s.heap.objs.size f f6))->sp vs H Q E-> ∃t,iP (lz CX P w K mg base N qual scope f f6 A outer s H E) body t/\t { nx:=λ_ H'=>Q .aJ H',rt:=Q} (start N vs) H) :
  dA P w K mg base CX (k+1) f (PySem.W.fnOf name qual params body scope dV kV doc pm an f6 ct) ps sp:=by
 refine⟨len,λA outer s H args us vs Q E hr e0 hb r vp=>?_⟩
 have hl:=len _ _ _ _ vp;have KX:K.In s.heap:=e0.mod.Ac.keeps λb o e=>(e0.bs b o e).1
 have lim:s.heap.NoLimit:=e0.mod.nolimit.keeps λb o e=>(e0.bs b o e).1
 have B8:∀y∈ps.zip us,scope.names.lookup y.1=some .local \/ (scope.names.lookup y.1=some .cell/\((cellsFrom (s.heap.objs.size+1) scope.names []).lookup y.1).isSome=true):=λ⟨n,v⟩ hy=>by
  rcases S.par n (List.of_mem_zip hy).1 with q|q
  .exact .inl q
  .exact .inr ⟨q,PySem.W.cellsFrom_some _ _ _ (.inl q)⟩
 refine codeAny_call_function hr.depth (KX _ _ lk) rfl S.co S.gen rfl (PySem.W.codeRec_of KX q_) (hb _ _ _ _ ?_);refine wpAny_newFunctionEnv_cells S.kind B8 λenv he s1 x=>?_
 subst he;refine⟨lim.keeps x.toInCall.keep,codeAny_func ?_⟩;obtain⟨t,ht,hq⟩:=q8 A outer s H vs Q E (hr.deeper _) vp;have I:Inv (lz CX P w K mg base N qual scope f f6 A outer s H E) [] (start N vs) H s1:=Ta S hr.hd e0 hl r x;refine wpAny_mono (ht [] s1 (start N vs) H _ I hq) (λfl s' hs=>?_) λe s' hs=>hs
 have fin:∀{Z':St} {H':Hp} {v:V} {u:ah},Inv (lz CX P w K mg base N qual scope f f6 A outer s H E) [] Z' H' s'->RelV v u->Q v H'->CE outer P w H s Q u s':=
  λ{Z' H' v u} J rv q=>⟨v,H',J.os,J.bare,J.base,J.bw,rv,q⟩
 cases fl with
 |ret u=>
  obtain⟨v,Z',H',J,rv,q⟩:=hs;exact fin J rv q
 |next=>
  obtain⟨Z',H',J,q⟩:=hs;exact fin (v:=V.aJ) (u:=Value.none) J rfl q
 |brk=>
  obtain⟨_,_,_,q⟩:=hs;exact False.elim q
 |cont=>
  obtain⟨_,_,_,q⟩:=hs;exact False.elim q
section
variable{X:Cx}{x:Str}{p pos:Pos}{e:Expr}{es:List Expr}{t:TA}{id T:String}{r:List V->Hp->VK->Prop}
def Lb(r:List V->Hp->VK->Prop)(t:TA):TE:=λZ H Q=>t Z H λvs H1=>r vs H1 Q
def UC(hc:bX X (.builtin id) r)(hg:Gl X x)(hm:X.mg x=none)(hv:bootBuiltins x=some (.builtin id))(ha:PA X (e::es) t)(hn:x≠"__name__":=by decide)(kB:(x == ("__debug__":Str))=false:=by decide)
  (he:starEach (e::es) X.env=(false,eval e X.env)::starEach es X.env:=by rfl) (jr:(backTo pos (starEach es X.env)).any (·.1)=false:=by rfl):PE X (.Call (.Name x p) (e::es) [] pos) (Lb r t):=by
 intro aa s Z H Q I h;refine wpAny_Call_Name_kw (sC I hg hm hv ?_ hn kB);exact PyProof.Rows.callWith_builtin1 (bM (ha pos aa s Z H _ I h) λus s1 ⟨vs,H1,I1,r1,q1⟩=>hc aa s1 Z H1 vs us Q I1 r1 q1) he jr
def Tb(hc:bX X (.type T) r)(hg:Gl X x)(hm:X.mg x=none)(hv:bootBuiltins x=some (.type T))(ha:PA X (e::es) t)(hn:x≠"__name__":=by decide)(kB:(x == ("__debug__":Str))=false:=by decide)
  (he:starEach (e::es) X.env=(false,eval e X.env)::starEach es X.env:=by rfl) (jr:(backTo pos (starEach es X.env)).any (·.1)=false:=by rfl):PE X (.Call (.Name x p) (e::es) [] pos) (Lb r t):=by
 intro aa s Z H Q I h;refine wpAny_Call_Name_kw (sC I hg hm hv ?_ hn kB);exact PyProof.Rows.callWith_type1 (bM (ha pos aa s Z H _ I h) λus s1 ⟨vs,H1,I1,r1,q1⟩=>hc aa s1 Z H1 vs us Q I1 r1 q1) he jr
end
end L2
namespace HT
open PySem PyProof.Rows
section
open PySem.SeqAt
open PySem.AutoSeq1 (wpAny_loadPart')
open PySem.MeetsSeq PySem.MeetsSeq2 PySem.MeetsSeq3
end
variable{sl:ai}{vl vu:ah}{lo hi:aj Int}
section
variable{prog:cX}{w:cA}{A:cK}{E:ah->ao->Prop}{s:ao}
def cG(n d:Nat):aj Int->Nat
 |none=>d
 |some v=>if v<0 then(v+(n:Int)).toNat else min v.toNat n
def Y1(n d:Nat)(hd:d<=n)(o:aj Int):cG n d o<=n:=by
 cases o with
 |none=>exact hd
 |some v=>
  show(if v<0 then(v+(n:Int)).toNat else min v.toNat n)<=n
  by_cases hv:v<0
  .rw[bL hv];lia
  .rw[br hv];exact Nat.min_le_right _ _
def Ox(v:Int)(n d:Nat):(if v<0 then max (v+(n:Int)) 0 else min v (n:Int))=((cG n d (some v):Nat):Int):=by
 show(if v<0 then max (v+(n:Int)) 0 else min v (n:Int))=(((if v<0 then(v+(n:Int)).toNat else min v.toNat n):Nat):Int)
 by_cases hv:v<0
 .simp only[bL hv];lia
 .simp only[br hv];lia
def Sq(lo hi:aj Int)(n:Nat):Builtin.Slice.sliceAdjust lo hi 1 (n:Int)=(((cG n 0 lo:Nat):Int),((cG n n hi:Nat):Int)):=by
 have h1:¬((1:Int)<0):=by lia
 unfold Builtin.Slice.sliceAdjust;simp only[h1,fS];refine Gr ?_ ?_
 .cases lo with
  |none=>rfl
  |some v=>exact Ox v n 0
 .cases hi with
  |none=>rfl
  |some v=>exact Ox v n n
def Sr(i j:Nat):Builtin.Slice.slicePlaces (i:Int) (j:Int) 1=j - i:=by
 unfold Builtin.Slice.slicePlaces;have h1:(1:Int) > 0:=by lia
 simp only[h1,nU,Int.ediv_one];split <;> lia
def MI{v:ah}{o:aj Int}{Q:aj Int->ao->Prop}(p:IsPart v o)(h:Q o s):wpAny (model prog w) A (Builtin.Slice.slicePartIndex v) Q E s:=by
 cases p with
 |none=>exact slicePart_none h
 |int i t=>exact slicePart_int h
def RO{n:Nat}{Q:Int×Int×Nat->ao->Prop}(hs:s.heap.IsSliceOf sl vl vu .none)(pl:IsPart vl lo)(pu:IsPart vu hi)
  (h:Q (((cG n 0 lo:Nat):Int),1,cG n n hi - cG n 0 lo) s):wpAny (model prog w) A (Builtin.Slice.sliceApplied (.ref sl) (pure (n:Int))) Q E s:=by
 obtain⟨os,Ca,FQ,FR⟩:=id hs;unfold Builtin.Slice.sliceApplied Builtin.Slice.sliceFields;refine ax (ax (wpAny_field Ca FR (x:=vl) rfl (ax (wpAny_field Ca FR (x:=vu) rfl (ax (wpAny_field Ca FR (x:=.none) rfl (aP ?_)))))));refine ax (slicePart_none ?_);show wpAny _ _ (if((1:Int) == 0)=true then _ else _) _ _ s
 rw[br (by decide)]
 refine ax (MI pl (ax (MI pu (ax (aP ?_)))));show wpAny _ _ (match Builtin.Slice.sliceAdjust lo hi 1 (n:Int) with|(lo,hi)=>pure (lo,(1:Int),Builtin.Slice.slicePlaces lo hi 1)) _ _ s
 rw[Sq lo hi n];show wpAny _ _ (pure (((cG n 0 lo:Nat):Int),(1:Int),Builtin.Slice.slicePlaces ((cG n 0 lo:Nat):Int) ((cG n n hi:Nat):Int) 1)) _ _ s;rw[Sr];exact aP h
def UD(xs:Array ah)(i k:Nat):((List.range k).filterMap λ(m:Nat)=>xs[((i:Int)+(m:Int)*1).toNat]?).toArray=((xs.toList.drop i).take k).toArray:=by
 have e:(λ(m:Nat)=>xs[((i:Int)+(m:Int)*1).toNat]?)=λm=>xs[i+m]?:=by
  funext m;have:((i:Int)+(m:Int)*1).toNat=i+m:=by lia
  rw[this]
 rw[e];have:=pick_run xs i k;rw[List.filterMap_map] at this;have e2:((λx=>xs[x]?)∘λx=>i+x)=λm=>xs[i+m]?:=rfl
 rw[e2] at this;rw[this]
def ir{t:ai}{items:Array ah}{Q:ah->ao->Prop}(ht:IsTup s.heap t items)(hs:s.heap.IsSliceOf sl vl vu .none)(pl:IsPart vl lo)(pu:IsPart vu hi)
  (hw:¬(cG items.size 0 lo=0/\cG items.size items.size hi=items.size))
  (h:Q (.ref s.heap.objs.size) { s with heap:=s.heap.push { cls:=.type "tuple",data:=.seq ((items.toList.drop (cG items.size 0 lo)).take (cG items.size items.size hi - cG items.size 0 lo)).toArray}})
  (hsz:items.size<=sizeLine):wpAny (model prog w) A (getItem (.ref t) (.ref sl)) Q E s:=by
 have oq:sizeOk (.seq ((items.toList.drop (cG items.size 0 lo)).take (cG items.size items.size hi - cG items.size 0 lo)).toArray):=by
  show((items.toList.drop (cG items.size 0 lo)).take (cG items.size items.size hi - cG items.size 0 lo)).toArray.size<=sizeLine;rw[dH,v5,Ap,yW];lia
 have hj:cG items.size items.size hi<=items.size:=Y1 _ _ (bU _) hi;obtain⟨os,Ca,FQ,FR⟩:=id hs;have hTs:s.TypeIs (.ref sl) "slice":=⟨os,Ca,FQ⟩;unfold getItem;try with_reducible refine i5 ?_
 first|refine ax (aP ?_)|skip
 refine ax (wpAny_sequenceKey ht.typeIs (by decide) ?_)
 refine ax (wpAny_callSpecial?_slot (name:=Str.ofString "__getitem__") ht.typeIs PyProof.Rows.slot_tuple_getitem (wpAny_call_entry PyProof.Rows.slot_tuple_getitem ht.typeIs entry_tuple_getitem ?_ (args_tuple_getitem _ _)))
 show wpAny _ _ (Builtin.Tuple.tupleItemsOf (.ref t) >>= _) _ _ s;refine ax (tupleItemsOf_ ht ?_);refine ax (wpAny_typeOf hTs ?_);rw[bL (by decide)]
 refine ax (RO hs pl pu ?_);have sN:¬((((cG items.size 0 lo:Nat):Int) == 0&&(1:Int) == 1&&(cG items.size items.size hi - cG items.size 0 lo) == items.size)=true):=by
  lia
 show wpAny _ _ (if(((cG items.size 0 lo:Nat):Int) == 0&&(1:Int) == 1&&(cG items.size items.size hi - cG items.size 0 lo) == items.size)=true then _ else _) _ _ s
 rw[br sN,UD];first
  |exact ax (m:=Builtin.Tuple.tupleExact _) (wpAny_newObj_type (aP ⟨_,rfl,aP h⟩) oq)
  |exact ax (m:=Builtin.Tuple.tupleExact _) (wpAny_newObj_type (ax (aP (aP ⟨_,rfl,aP h⟩))) oq)
  |exact ax (ax (m:=Builtin.Tuple.tupleExact _) (wpAny_newObj_type (aP (aP ⟨_,rfl,aP h⟩)) oq))
  |exact ax (ax (m:=Builtin.Tuple.tupleExact _) (wpAny_newObj_type (aP ⟨_,rfl,aP h⟩) oq))
end
end HT
namespace L2
open PySem PySem.Spec PyProof.Rows
variable{r:V->aj Int->aj Int->Hp->VK->Prop}
abbrev TO:=St->Hp->(aj Int->Hp->Prop)->Prop
def PO(X:Cx)(e:aj Expr)(t:TO):Prop:=
 ∀(aa:List (ai×Obj)) (s:ao) (Z:St) (H:Hp) (Q:aj Int->Hp->Prop),Inv X aa Z H s->t Z H Q->
  wpAny (model X.prog X.w) X.A (evalPart e X.env) (λu s'=>∃o H',Inv X aa Z H' s'/\IsPart u o/\Q o H') X.xe s
def Wi:TO:=λ_ H Q=>Q none H
def Dl(t:TE):TO:=λZ H Q=>t Z H λx H1=>∃i,x=.int i/\Q (some i) H1
section
variable{X:Cx}{e:Expr}{te:TE}{lo hi:aj Expr}{tl th:TO}{pos p2:Pos}
def Wj:PO X none Wi:=by
 intro aa s Z H Q I h;rw[evalPart_none];exact aP ⟨none,H,I,.none,h⟩
def Wk(h:PE X e te):PO X (some e) (Dl te):=by
 intro aa s Z H Q I hw;rw[evalPart_some];refine bM (h aa s Z H _ I hw) λu s1 hh=>?_
 obtain⟨x,H1,I1,r1,q1⟩:=hh;obtain⟨i,rfl,q⟩:=q1;obtain⟨t,rfl⟩:=r1;exact⟨some i,H1,I1,.int i t,q⟩
def qF(X:Cx)(r:V->aj Int->aj Int->Hp->VK->Prop):Prop:=
 ∀(aa:List (ai×Obj)) (s:ao) (Z:St) (H:Hp) (x:V) (v vl vu:ah) (lo hi:aj Int) (sl:ai) (Q:VK),Inv X aa Z H s->RelV x v->s.heap.IsSliceOf sl vl vu .none->IsPart vl lo->IsPart vu hi->r x lo hi H Q->
  ∃T id,typeLookup (.type T) "__getitem__"=pure (some (.builtin id))/\s.TypeIs v T/\wpAny (model X.prog X.w) X.A (getItem v (.ref sl)) (EP X aa Z Q) X.xe s
def qF.or{r':V->aj Int->aj Int->Hp->VK->Prop}(h:qF X r)(h':qF X r'):qF X (λx lo hi H Q=>r x lo hi H Q\/r' x lo hi H Q):=by
 intro aa s Z H x v vl vu lo hi sl Q I rx hs pl pu q;rcases q with q|q
 .exact h aa s Z H x v vl vu lo hi sl Q I rx hs pl pu q
 .exact h' aa s Z H x v vl vu lo hi sl Q I rx hs pl pu q
def tSl(r:V->aj Int->aj Int->Hp->VK->Prop)(te:TE)(tl th:TO):TE:=λZ H Q=>te Z H λx H1=>tl Z H1 λl H2=>th Z H2 λu H3=>r x l u H3 Q
def UE(hr:qF X r)(he:PE X e te)(hl:PO X lo tl)(hu:PO X hi th):PE X (.Subscript e (.Slice lo hi none p2) pos) (tSl r te tl th):=by
 intro aa s Z H Q I h;refine Subscript_ (bM (he aa s Z H _ I h) λv s1 hh=>?_)
 obtain⟨x,H1,I1,r1,q1⟩:=hh;refine wpAny_Slice (bM (hl aa s1 Z H1 _ I1 q1) λvl s2 ⟨l,H2,I2,pl,q2⟩=>bM (hu aa s2 Z H2 _ I2 q2) λvu s3 ⟨u,H3,I3,pu,q3⟩=>?_)
 rw[evalPart_none];refine aP ?_;have I4:Inv X aa Z H3 { s3 with heap:=s3.heap.push { cls:=.type "slice",data:=.fields #[vl,vu,.none]}}:=I3.kept (t':=s3.toks) λb ob q=>cU _ q
 obtain⟨T,id,hT,ht,hg⟩:=hr aa { s3 with heap:=s3.heap.push { cls:=.type "slice",data:=.fields #[vl,vu,.none]}} Z H3 x v vl vu l u s3.heap.objs.size Q I4 r1 (Heap.IsSliceOf.new ..) pl pu q3;show wpAny (model X.prog X.w) X.A (subscriptTail e (.Slice lo hi none p2) v (.ref s3.heap.objs.size)) (EP X aa Z Q) X.xe { s3 with heap:=s3.heap.push { cls:=.type "slice",data:=.fields #[vl,vu,.none]}};exact tail_any (ops:=[.ref s3.heap.objs.size,v]) ht hT hg (by with_unfolding_all rfl)
noncomputable def mr(xs:List V)(lo hi:aj Int):List V:=(xs.drop (HT.cG xs.length 0 lo)).take (HT.cG xs.length xs.length hi - HT.cG xs.length 0 lo)
def Mv(xs:List V)(lo hi:aj Int):(mr xs lo hi).length<=xs.length:=by
 unfold mr;rw[v5,Ap];lia
def yL(K:aI):V->aj Int->aj Int->Hp->VK->Prop:=λx lo hi H Q=>∃a xs,x=.ref a/\ie K H a xs/\
 ¬(HT.cG xs.length 0 lo=0/\HT.cG xs.length xs.length hi=xs.length)/\∀p,H p=none->Q (.ref p) (upd H p (.tup (mr xs lo hi)))
def Y2:qF X (yL X.K):=by
 intro aa s Z H x v vl vu lo hi sl Q I rx hs pl pu h;obtain⟨a,xs,rfl,hx,hw,q⟩:=h;cases rx;obtain⟨aA,r,ht,hz⟩:=I.tuple hx;have hlen:aA.toArray.size=xs.length:=by rw[dH];exact r.length.symm
 refine⟨"tuple",_,PyProof.Rows.slot_tuple_getitem.lookup,ht.typeIs,?_⟩;refine HT.ir ht hs pl pu (by rw[hlen];exact hw) ?_ (by rw[hlen];exact hz)
 rw[hlen];refine⟨.ref s.heap.objs.size,_,I.laid (t':=s.toks) (o:=.tup (mr xs lo hi)) (λb ob q=>cU _ q) (bU _) ?_,rfl,q _ (I.bw.fresh (bU _))⟩
 exact⟨iU (Mv xs lo hi) hz,_,(r.drop (HT.cG xs.length 0 lo)).take (HT.cG xs.length xs.length hi - HT.cG xs.length 0 lo),IsTup.new _ _⟩
end
variable{n j:Nat}{i:Int}{r:R2}{aa:List (ai×Obj)}{Z:St}{H:Hp}{s:ao}
def ue(n:Nat)(i:Int):aj Nat:=if 0<=i then(if i<n then some i.toNat else none) else if -(n:Int)<=i then some (i+n).toNat else none
def dR{α:Type}(xs:List α)(i:Int):aj α:=(ue xs.length i).bind λj=>xs[j]?
def Oy(h:ue n i=some j):seqIndex? i n=some j/\j<n /\ -(n:Int)<=i/\i<n:=by
 unfold ue at h;by_cases h0:0<=i
 .rw[bL h0] at h;by_cases h1:i<n
  .rw[bL h1] at h;have e:i.toNat=j:=Option.some.inj h;exact⟨by rw[seqIndex_of h0 h1,e],by lia,by lia,h1⟩
  .rw[br h1] at h;cases h
 .rw[br h0] at h;by_cases h1:-(n:Int)<=i
  .rw[bL h1] at h;have e:(i+n).toNat=j:=Option.some.inj h;exact⟨by rw[seqIndex_neg (by lia) h1,e],by lia,h1,by lia⟩
  .rw[br h1] at h;cases h
def Iw{α:Type}{xs:List α}{v:α}(h:dR xs i=some v):∃j,seqIndex? i xs.length=some j/\xs[j]?=some v/\j<xs.length /\ -(xs.length:Int)<=i/\i<xs.length:=by
 unfold dR at h;cases e:ue xs.length i with
 |none=>rw[e] at h;cases h
 |some j=>
  rw[e] at h;obtain⟨h1,h2,h3,h4⟩:=Oy e;exact⟨j,h1,h,h2,h3,h4⟩
def tH{α:Type}{xs:List α}{v:α}(h:xs[j]?=some v):dR xs (j:Int)=some v:=by
 have hj:j<xs.length:=(eU.mp h).1;have e:ue xs.length (j:Int)=some j:=by
  unfold ue;rw[bL (by lia),bL (by lia)];simp
 unfold dR;rw[e];exact h
def Iy(b:Expr):Prop:=∀o i,subscripted b false o i=operate [o,i] (getItem o i)
def o6(X:Cx)(r:R2):Prop:=
 ∀(value slice:Expr) (aa:List (ai×Obj)) (s:ao) (Z:St) (H:Hp) (x y:V) (v u:ah) (Q:VK),Inv X aa Z H s->RelV x v->RelV y u->r x y H Q->
  subscripted slice false v u=operate [v,u] (getItem v u)->wpAny (model X.prog X.w) X.A (subscriptTail value slice v u) (EP X aa Z Q) X.xe s
def GX(X:Cx)(id:String)(r:V->List V->Hp->VK->Prop):Prop:=
 ∀(aa:List (ai×Obj)) (s:ao) (Z:St) (H:Hp) (x:V) (xs:List V) (v:ah) (us:List ah) (Q:VK),Inv X aa Z H s->RelV x v->Vals xs us->r x xs H Q->
  wpAny (model X.prog X.w) X.A (call (.builtin id) (v::us)) (EP X aa Z Q) X.xe s
section
variable{X:Cx}{a b:Expr}{ta tb:TE}{pos:Pos}
def o6.or{r':R2}(h:o6 X r)(h':o6 X r'):o6 X (λx y H Q=>r x y H Q\/r' x y H Q):=by
 intro value slice aa s Z H x y v u Q I rx ry q hs;rcases q with q|q
 .exact h value slice aa s Z H x y v u Q I rx ry q hs
 .exact h' value slice aa s Z H x y v u Q I rx ry q hs
def e6c(hr:o6 X r)(ha:PE X a ta)(hb:PE X b tb)(hs:Iy b):PE X (.Subscript a b pos) (Gi r ta tb):=by
 intro aa s Z H Q I h;exact Subscript_ (xu ha hb I h λv u s2 x y H2 I2 rx ry q=>hr a b aa s2 Z H2 x y v u Q I2 rx ry q (hs _ _))
def yI(K:aI):R2:=λx y H Q=>∃p xs i v,x=.ref p/\y=.int i/\cT K H p xs/\dR xs i=some v/\Q v H
def yJ(K:aI):R2:=λx y H Q=>∃p xs i v,x=.ref p/\y=.int i/\ie K H p xs/\dR xs i=some v/\Q v H
def CN:R2:=λx y H Q=>∃z i c,x=.str z/\y=.int i/\z.length<=sizeLine/\dR z.cps.toList i=some c/\Q (.str ⟨#[c]⟩) H
def Wl:o6 X (yI X.K):=by
 intro value slice aa s Z H x y v u Q I rx ry h hs;obtain⟨p,xs,i,z,rfl,rfl,hq,he,q⟩:=h;cases rx;obtain⟨t,rfl⟩:=ry;obtain⟨aA,r,pl,hz⟩:=I.list hq;obtain⟨j,h1,h2,h3,h4,h5⟩:=Iw he;obtain⟨w,ew,lQ⟩:=r.get h2;have hl:=r.length;have hn:=w_;have fin:EP X aa Z Q w s:=⟨z,H,I,lQ,q⟩;by_cases h0:0<=i
 .have hj:i.toNat=j:=by
   rw[seqIndex_of h0 h5] at h1;exact Option.some.inj h1
  exact item_listR pl.isList h0 (by lia) (by rw[hj];simpa using ew) fin hs
 .have hj:(i+(aA.toArray.size:Int)).toNat=j:=by
   rw[seqIndex_neg (by lia) h4] at h1
   rw[dH,<-hl];exact Option.some.inj h1
  exact subscriptTail_builtinR (x:=w) pl.isList.typeIs slot_list_getitem.lookup
   (wpAny_getItem_list_neg (Q:=λr s'=>r=w/\EP X aa Z Q r s') pl.isList (by lia) (by rw[dH] <;> lia) (by lia) (by rw[hj];simpa using ew) ⟨rfl,fin⟩) hs
def Y3:o6 X (yJ X.K):=by
 intro value slice aa s Z H x y v u Q I rx ry h hs;obtain⟨p,xs,i,z,rfl,rfl,hq,he,q⟩:=h;cases rx;obtain⟨t,rfl⟩:=ry;obtain⟨aA,r,pl,hz⟩:=I.tuple hq;obtain⟨j,h1,h2,h3,h4,h5⟩:=Iw he;obtain⟨w,ew,lQ⟩:=r.get h2;have hl:=r.length;have hn:=w_;have fin:EP X aa Z Q w s:=⟨z,H,I,lQ,q⟩;exact subscriptTail_builtinR (x:=w) pl.typeIs slot_tuple_getitem.lookup
  (getItem_tuple (j:=j) (Q:=λr s'=>r=w/\EP X aa Z Q r s') pl (by lia) (by lia) (by rw[dH,<-hl];exact h1) (by simpa using ew) ⟨rfl,fin⟩) hs
def yj:o6 X CN:=by
 intro value slice aa s Z H x y v u Q I rx ry h hs;obtain⟨z,i,c,rfl,rfl,hz,he,q⟩:=h;obtain⟨t,rfl⟩:=rx;obtain⟨t',rfl⟩:=ry;obtain⟨j,h1,h2,h3,h4,h5⟩:=Iw he;have hl:z.cps.toList.length=z.length:=by simp[Str.length]
 rw[hl] at h1 h4 h5;have hn:=w_;exact tail_any (typeIs_str s z t) slot_str_getitem.lookup (getItem_str (c:=c) (by
  lia) (by rw[h1];simpa using h2) ⟨.str ⟨#[c]⟩,H,I.tok _,⟨_,rfl⟩,q⟩) hs
def Ss(aA:List ah)(n j:Nat)(u:ah):Obj.mapSeq (·.setIfInBounds j u) { cls:=.type "list",data:=.seq aA.toArray n}={ cls:=.type "list",data:=.seq (aA.set j u).toArray n}:=by
 simp[Obj.mapSeq]
def Inv.lst{aa:List (ai×Obj)}{Z:St}{H:Hp}{s:ao}{p:ai}{xs:List V}(I:Inv X aa Z H s)(h:H p=some (.lst xs)):
  ∃(aA:List ah) (n:Nat),Vals xs aA/\s.heap.get? p=some { cls:=.type "list",data:=.seq aA.toArray n}/\xs.length<=sizeLine:=by
 obtain⟨z,aA,n,r,e⟩:=I.bw p _ h;exact⟨aA,n,r,e,z⟩
def Inv.yp{p:ai}{xs ys:List V}{aA its':List ah}{n':Nat}{f:Obj->Obj}(I:Inv X aa Z H s)(h:H p=some (.lst xs))
  (ho:s.heap.get? p=some { cls:=.type "list",data:=.seq aA.toArray n}) (hf:f { cls:=.type "list",data:=.seq aA.toArray n}={ cls:=.type "list",data:=.seq its'.toArray n'}) (r:Vals ys its') (hz:ys.length<=sizeLine) (t:Nat) :
  Inv X aa Z (upd H p (.lst ys)) { s with heap:=s.heap.update p f,toks:=t}:=by
 have e:(s.heap.update p f).get? p=some { cls:=.type "list",data:=.seq its'.toArray n'}:=by
  rw[pU f ho (by rw[hf] <;> rfl),hf]
 refine I.write (x:=p) (e:=p) (by rw[h];trivial) (.inl rfl) (λb u hb q=>(nQ _ _ (Ne.symm hb)).trans q) ⟨_,e⟩ ?_
 exact⟨hz,its',n',r,e⟩
def vR:V->V->V->Hp->(Hp->Prop)->Prop:=λo i v H Q=>∃p xs k j,o=.ref p/\i=.int k/\H p=some (.lst xs)/\ue xs.length k=some j/\Q (upd H p (.lst (xs.set j v)))
def UG:tq X vR:=by
 intro aa s Z H o i v ov iv u Q I ro ri rv h;obtain⟨p,xs,k,j,rfl,rfl,hp,hj,q⟩:=h;cases ro;obtain⟨t,rfl⟩:=ri;obtain⟨aA,n,r,ho,hz⟩:=I.lst hp;obtain⟨h1,h2,h3,h4⟩:=Oy hj;have hl:=r.length;have hn:=w_;have I':Inv X aa Z (upd H p (.lst (xs.set j v))) { s with heap:=s.heap.update p (Obj.mapSeq (·.setIfInBounds j u))}:=
  I.yp hp ho (Ss aA n j u) (r.set rv j) (by rw[v7];exact hz) s.toks
 by_cases h0:0<=k
 .have hk:k.toNat=j:=by
   rw[seqIndex_of h0 h4] at h1;exact Option.some.inj h1
  exact PySem.W.ki_setAt ho h0 (by lia) (by rw[dH,<-hl];exact h4) (by rw[hk];exact⟨_,I',q⟩)
 .have hk:(k+(aA.toArray.size:Int)).toNat=j:=by
   rw[seqIndex_neg (by lia) h3] at h1
   rw[dH,<-hl];exact Option.some.inj h1
  exact PySem.W.ki_setBack ho (by lia) (by rw[dH,<-hl];exact h3) (by lia) (by rw[hk];exact⟨_,I',q⟩)
def R4(lo hi:aj Int)(n:Nat):(sliceBounds lo hi none n).1=((HT.cG n 0 lo:Nat):Int)/\(sliceBounds lo hi none n).2.1=((HT.cG n n hi:Nat):Int)/\(sliceBounds lo hi none n).2.2=1:=by
 refine⟨?_,?_,rfl⟩
 .cases lo with
  |none=>simp[sliceBounds,HT.cG]
  |some i=>
   simp only[sliceBounds,HT.cG,Option.getD_none,show(1:Int) > 0 by decide,nU]
   by_cases h:i<0
   .simp only[h,nU] <;> lia
   .simp only[h,fS] <;> lia
 .cases hi with
  |none=>simp[sliceBounds,HT.cG]
  |some i=>
   simp only[sliceBounds,HT.cG,Option.getD_none,show(1:Int) > 0 by decide,nU]
   by_cases h:i<0
   .simp only[h,nU] <;> lia
   .simp only[h,fS] <;> lia
def RX(aA:List ah)(lo hi:aj Int):slicePick aA.toArray lo hi none=((aA.drop (HT.cG aA.length 0 lo)).take (HT.cG aA.length aA.length hi - HT.cG aA.length 0 lo)).toArray:=by
 obtain⟨h1,h2,h3⟩:=R4 lo hi aA.toArray.size;unfold slicePick;rw[h1,h2,h3];simp only[sliceRange_one,pick_run,dH] <;> rfl
def yK(K:aI):V->aj Int->aj Int->Hp->VK->Prop:=λx lo hi H Q=>∃a xs,x=.ref a/\cT K H a xs/\∀p,H p=none->Q (.ref p) (upd H p (.lst (mr xs lo hi)))
def Wm:qF X (yK X.K):=by
 intro aa s Z H x v vl vu lo hi sl Q I rx hs pl pu h;obtain⟨a,xs,rfl,hx,q⟩:=h;cases rx;obtain⟨aA,r,ht,hz⟩:=I.list hx;have hlen:=r.length;refine⟨"list",_,slot_list_getitem.lookup,ht.isList.typeIs,?_⟩;refine wpAny_getItem_list_slice ht.isList hs pl pu .none (by simp) ?_ (by rw[dH] <;> lia)
 rw[RX,<-hlen];refine⟨.ref s.heap.objs.size,_,I.laid (t':=s.toks) (o:=.lst (mr xs lo hi)) (λb ob q=>cU _ q) (bU _) ?_,rfl,q _ (I.bw.fresh (bU _))⟩
 exact⟨iU (Mv xs lo hi) hz,_,0,(r.drop (HT.cG xs.length 0 lo)).take (HT.cG xs.length xs.length hi - HT.cG xs.length 0 lo),iI _ rfl⟩
def R5:bX X (.builtin "len") (λxs H Q=>∃p ys,xs=[.ref p]/\(cT X.K H p ys\/ie X.K H p ys)/\Q (.int ys.length) H):=by
 intro aa s Z H xs us Q I r h;obtain⟨p,ys,rfl,hq,q⟩:=h;obtain⟨u,rfl,rx⟩:=vals1 r;cases rx;have hn:=w_;rcases hq with hq|hq
 .obtain⟨aA,r',pl,hz⟩:=I.list hq;have hlen:=r'.length;exact Calls.call_len_list pl.isList (by simp only[dH] <;> lia) ⟨.int ys.length,H,I.tok _,⟨s.toks+1,by rw[dH,hlen]⟩,q⟩
 .obtain⟨aA,r',pl,hz⟩:=I.tuple hq;have hlen:=r'.length;exact len_tuple pl (by simp only[dH] <;> lia) ⟨.int ys.length,H,I.tok _,⟨s.toks+1,by rw[dH,hlen]⟩,q⟩
def lu:bX X (.builtin "len") (λxs H Q=>∃z,xs=[.str z]/\z.length<=sizeLine/\Q (.int z.length) H):=by
 intro aa s Z H xs us Q I r h;obtain⟨z,rfl,hz,q⟩:=h;obtain⟨u,rfl,t,rfl⟩:=vals1 r;have hn:=w_;exact len_str (by lia) ⟨.int z.length,H,I.tok _,⟨_,rfl⟩,q⟩
def bX.or{f:ah}{r r':List V->Hp->VK->Prop}(h:bX X f r)(h':bX X f r'):bX X f (λxs H Q=>r xs H Q\/r' xs H Q):=by
 intro aa s Z H xs us Q I rs q;rcases q with q|q
 .exact h aa s Z H xs us Q I rs q
 .exact h' aa s Z H xs us Q I rs q
def R6:bX X (.type "list") (λxs H Q=>∃p ys,xs=[.ref p]/\(cT X.K H p ys\/ie X.K H p ys)/\∀l,H l=none->Q (.ref l) (upd H l (.lst ys))):=by
 intro aa s Z H xs us Q I r h;obtain⟨p,ys,rfl,hq,q⟩:=h;obtain⟨u,rfl,rx⟩:=vals1 r;cases rx;have fin:∀(aA:List ah),Vals ys aA->ys.length<=sizeLine->∀(h':bS) (c':Nat),(∀b o',s.heap.get? b=some o'->h'.get? b=some o')->
   h'.get? s.heap.objs.size=some { cls:=.type "list",dict:=none,data:=.seq aA.toArray c',slots:=#[]}->EP X aa Z Q (.ref s.heap.objs.size) { s with heap:=h'}:=λaA r' hz h' c' kp e=>
  ⟨.ref s.heap.objs.size,_,I.laid (t':=s.toks) kp (bU _) (show bD X.prog X.w _ h' _ (.lst ys) from⟨hz,aA,c',r',e⟩),rfl,q _ (I.bw.fresh (bU _))⟩
 rcases hq with hq|hq
 .obtain⟨aA,r',pl,hz⟩:=I.list hq;have hlen:=r'.length;obtain⟨o,ho,hc,n,hd⟩:=pl.isList;exact call_list_seq p (.inl rfl) ho hc hd (λh' c' kp e=>fin aA r' hz h' c' kp e) (by simp only[dH] <;> lia)
 .obtain⟨aA,r',pl,hz⟩:=I.tuple hq;have hlen:=r'.length;obtain⟨o,ho,hc,n,hd⟩:=pl;exact call_list_seq p (.inr rfl) ho hc hd (λh' c' kp e=>fin aA r' hz h' c' kp e) (by simp only[dH] <;> lia)
def Gp(K:aI)(T:String)(x:V)(H:Hp):Prop:=match x with
 |.str _=>T="str"
 |.int _=>T="int"
 |.ref p=>(T="list"/\∃xs,cT K H p xs)\/(T="tuple"/\∃o,K.lookup p=some o/\o.cls=.type "tuple"/\o.dict=none)\/
   (T="dict"/\((∃kvs,H p=some (.dK kvs))\/(∃kvs,H p=some (.dT kvs))\/∃es ep,H p=some (.dG es ep)))\/(T="set"/\∃S n,H p=some (.set S n))
 |_=>False
def PK{T:String}{x:V}{v:ah}(I:Inv X aa Z H s)(r:RelV x v)(ty:Gp X.K T x H):
  s.TypeIs v T/\∀a,v=.ref a->∃ob,s.heap.get? a=some ob/\ob.dict=none:=by
 cases x with
 |str z=>
  obtain⟨t,rfl⟩:=r;cases(show T="str" from ty);exact⟨typeIs_str s z t,λ_ e=>nomatch e⟩
 |int i=>
  obtain⟨t,rfl⟩:=r;cases(show T="int" from ty);exact⟨typeIs_int s i t,λ_ e=>nomatch e⟩
 |ref p=>
  cases r;rcases ty with⟨rfl,xs,hq⟩|⟨rfl,o,hk,hc,hd⟩|⟨rfl,hk⟩|⟨rfl,S,n,hk⟩
  .obtain⟨aA,_,pl,_⟩:=I.list hq;refine⟨pl.isList.typeIs,λa e=>?_⟩
   cases e;obtain⟨o,n,e,c,hd,_⟩:=pl;exact⟨o,e,hd⟩
  .refine⟨⟨o,I.jt p o hk,hc⟩,λa e=>?_⟩
   cases e;exact⟨o,I.jt _ o hk,hd⟩
  .have z:∃o,s.heap.get? p=some o/\o.ExactDict:=by
    rcases hk with⟨kvs,hk⟩|⟨kvs,hk⟩|⟨es,ep,hk⟩
    .obtain⟨_,_,_,_,o,_,_,e,ex,_⟩:=I.bw p _ hk;exact⟨o,e,ex⟩
    .obtain⟨_,_,_,_,o,_,_,e,ex,_⟩:=I.bw p _ hk;exact⟨o,e,ex⟩
    .obtain⟨_,_,o,_,e,ex,_⟩:=I.bw p _ hk;exact⟨o,e,ex⟩
   obtain⟨o,e,ex⟩:=z;refine⟨⟨o,e,ex.1⟩,λa e2=>?_⟩
   cases e2;exact⟨o,e,ex.2.1⟩
  .obtain⟨o,_,_,_,e,ex,_⟩:=I.bw p _ hk;refine⟨⟨o,e,ex.1⟩,λa e2=>?_⟩
   cases e2;exact⟨o,e,ex.2.1⟩
 |_=>exact False.elim ty
def La(K:aI)(T:String)(r:V->List V->Hp->VK->Prop)(to:TE)(t:TA):TE:=λZ H Q=>to Z H λx H1=>Gp K T x H1/\t Z H1 λxs H2=>r x xs H2 Q
variable{o e:Expr}{es:List Expr}{to:TE}{t:TA}{name:Str}{apos cy:Pos}{T id:String}{r:V->List V->Hp->VK->Prop}
def Qw(pa:PlainAttrs T)(slot:Slot T name id)(ub:typeOf (.builtin id)=pure (.type "method_descriptor"))(hm:GX X id r)(ho:PE X o to)(ha:PA X (e::es) t)
  (eE:attributeBase o name X.env (eval o X.env)=eval o X.env:=by rfl)
  (rh:((backTo cy (starEach (e::es) X.env)).all (λx => !x.1)&&(backToKw cy (keywordEach [] X.env)).all (λx=>x.1.isSome) && decide ((e::es).length+([]:List Keyword).length+(if([]:List Keyword).isEmpty then 0 else 1)<30))=true:=by rfl)
  (eF:(apos.endLine == cy.line)=true:=by rfl) (hs:starEach (e::es) X.env=(false,eval e X.env)::starEach es X.env:=by rfl) (jS:(backTo cy (starEach es X.env)).any (·.1)=false:=by rfl) :
  PE X (.Call (.Attribute o name apos) (e::es) [] cy) (La X.K T r to t):=by
 intro aa s Z H Q I h;refine wpAny_Call_method_late eE rh eF rfl (bM (ho aa s Z H _ I h) λv s1 hh=>?_)
 obtain⟨x,H1,I1,r1,ty,q1⟩:=hh;obtain⟨h1,h2⟩:=PK I1 r1 ty;refine⟨T,id,pa,slot,ub,h1,h2,?_⟩;have hA:=ha cy aa s1 Z H1 _ I1 q1;rw[hs] at hA ⊢;refine Calls.callWith_builtin (by show(false || (backTo cy (starEach es X.env)).any (·.1))=false;rw[jS] <;> rfl) (Calls.evalArgs_plain ?_)
 exact bM hA λus s2 ⟨vs,H2,I2,r2,q2⟩=>hm aa s2 Z H2 x vs v us Q I2 r1 r2 q2
end
variable{x:V}{us aA:List ah}{t':Nat}
def zf(X:Cx)(id:String)(r:V->List V->Hp->VK->Prop):Prop:=
 ∀(aa:List (ai×Obj)) (s:ao) (Z:St) (H:Hp) (x:V) (xs:List V) (v:ah) (us:List ah) (Q:VK),Inv X aa Z H s->RelV x v->Vals xs us->r x xs H Q->
  wpAny (model X.prog X.w) X.A (call (.builtin id) (v::us)) (EP X aa Z Q) X.xe s
def Vals.one(h:Vals [x] us):∃u,us=[u]/\RelV x u:=by
 cases h with
 |cons r t=>
  cases t;exact⟨_,rfl,r⟩
def Vals.two{y:V}(h:Vals [x,y] us):∃u v,us=[u,v]/\RelV x u/\RelV y v:=by
 cases h with
 |cons r t=>
  obtain⟨v,rfl,q⟩:=Vals.one t;exact⟨_,_,rfl,r,q⟩
section
variable{X:Cx}{aa:List (ai×Obj)}{Z:St}{H:Hp}{s:ao}{l b:ai}{xs ys zs:List V}
def Inv.ym{its':List ah}{n:Nat}{f:Array ah->Array ah}(I:Inv X aa Z H s)(hH:H l=some (.lst xs))
  (e:s.heap.get? l=some { cls:=.type "list",data:=.seq aA.toArray n}) (hf:f aA.toArray=its'.toArray) (hv:Vals ys its') (hz:ys.length<=sizeLine) :
  Inv X aa Z (upd H l (.lst ys)) { s with heap:=s.heap.update l (Obj.mapSeq f),toks:=t'}:=by
 have q:=PySem.IsL.update e f;rw[hf] at q;refine I.write (x:=l) (e:=l) (by rw[hH];exact trivial) (.inl rfl) (λb' u hb hu=>(nQ s.heap (Obj.mapSeq f) (Ne.symm hb)).trans hu) ⟨_,q⟩ ?_
 exact⟨hz,its',_,hv,q⟩
def Inv.Kl(I:Inv X aa Z H s)(hv:Vals ys aA)(hz:ys.length<=sizeLine):
  Inv X aa Z (upd H s.heap.objs.size (.lst ys)) { s with heap:=s.heap.push { cls:=.type "list",data:=.seq aA.toArray},toks:=t'}:=
 I.laid (λ_ _ q=>cU _ q) (bU _) ⟨hz,aA,0,hv,iI _ rfl⟩
theorem Inv.fresh(I:Inv X aa Z H s):H s.heap.objs.size=none:=I.bw.fresh (bU _)
def Inv.yo(I:Inv X aa Z H s)(hH:H l=some (.lst xs)):xs.length<=sizeLine/\∃(aA:List ah) (n:Nat),Vals xs aA/\xs.length=aA.length/\s.heap.get? l=some { cls:=.type "list",data:=.seq aA.toArray n}:=by
 obtain⟨z,aA,n,r,e⟩:=I.bw l _ hH;exact⟨z,aA,n,r,r.length,e⟩
end
section
variable{X:Cx}
def Oz:V->List V->Hp->VK->Prop:=λx vs H Q=>∃l xs y,x=.ref l/\vs=[y]/\H l=some (.lst xs)/\xs.length<sizeLine/\Q .aJ (upd H l (.lst (xs++[y])))
theorem Tc:zf X "list.append" Oz:=by
 intro aa s Z H x vs v us Q I rx rv h;obtain⟨l,xs,y,rfl,rfl,hH,hz,q⟩:=h;cases rx;obtain⟨u,rfl,ru⟩:=rv.one;obtain⟨z,aA,n,r,hl,e⟩:=I.yo hH;refine call_meets F.slot_list_append ⟨_,e,rfl⟩ F.entry_list_append (F.args_list_append_2 _ _) (PySem.list_append l aA.toArray n u (by rw[dH];lia)) ⟨e,?_⟩
 refine⟨.aJ,_,I.ym (its':=aA++[u]) hH e (by simp) (r.append (.cons ru .nil)) ?_,rfl,q⟩
 rw[dw,sW];lia
end
section
variable{prog:cX}{w:cA}{A:cK}{E:ah->ao->Prop}{s:ao}
end
section
variable{X:Cx}
end
section
variable{κ:Type}[DecidableEq κ]
def ib.pH{o:aj V}{u:aj ah}(r:ib o u):o.isSome=u.isSome:=by
 cases o with
 |none=>cases u with
  |none=>rfl
  |some _=>exact(show False from r).elim
 |some _=>cases u with
  |none=>exact(show False from r).elim
  |some _=>rfl
end
variable{X:Cx}{pos:Pos}
section
variable{P:cX}{w:cA}{H:Hp}{h:bS}{a:ai}
end
section
variable{X:Cx}{aa:List (ai×Obj)}{Z:St}{H:Hp}{s:ao}{a:ai}{y v:V}{u r:ah}{o:aj V}{A:cK}{E:ah->ao->Prop}
def Inv.big(I:Inv X aa Z H s):sysModules<s.heap.objs.size:=by
 have h:mainGlobals<s.heap.objs.size:=(I.mod.glob.keeps I.bk).lt;exact Nat.lt_trans (by decide) h
def Iz{h':bS}{t':Nat}{ob:HO}(I:Inv X aa Z H s)(mu:AF (H a))(hs:Heap.SameBut a s.heap h')(he:∃q,h'.get? a=some q)(new:bD X.prog X.w (upd H a ob) h' a ob):
  Inv X aa Z (upd H a ob) { s with heap:=h',toks:=t'}:=
 I.write (x:=a) (e:=a) mu (.inl rfl) (λb q hb z=>(hs.2 b hb).trans z) he new
end
section
variable{X:Cx}{aa:List (ai×Obj)}{Z:St}{H:Hp}{s:ao}{a:ai}{kvs:List (Key×V)}{k:Key}{u:ah}{A:cK}{E:ah->ao->Prop}
end
section
variable{X:Cx}{o i e value:Expr}{pos pos' e_:Pos}{td ty tv:TE}
end
section
variable{X:Cx}{pos:Pos}
end
def Fe:List (TE×TE)->St->Hp->(List (V×V)->Hp->Prop)->Prop
 |[],_,H,Q=>Q [] H
 |(tk,tv)::r,Z,H,Q=>tk Z H λx H1=>tv Z H1 λy H2=>Fe r Z H2 λps H3=>Q ((x,y)::ps) H3
abbrev VV:List (V×V)->List (ah×ah)->Prop:=Paired λp q=>RelV p.1 q.1/\RelV p.2 q.2
def zg(X:Cx)(pos:Pos)(keys:List (aj Expr))(values:List Expr)(uE:List (TE×TE)):Prop:=
 ∀(aa:List (ai×Obj)) (s:ao) (Z:St) (H:Hp) (Q:List (V×V)->Hp->Prop),Inv X aa Z H s->Fe uE Z H Q->
  wpAny (model X.prog X.w) X.A (evalPairs (pairTrees keys values X.env pos)) (λvs s'=>∃ps H',Inv X aa Z H' s'/\VV ps vs/\Q ps H') X.xe s
def uv:zg X pos [] [] []:=λaa s Z H Q I h=>pairTrees_nil_walk ⟨[],H,I,.nil,h⟩
def rR{k v:Expr}{ks:List (aj Expr)}{vs:List Expr}{tk tv:TE}{uE:List (TE×TE)}(hk:PE X k tk)(hv:PE X v tv)(hr:zg X pos ks vs uE):
  zg X pos (some k::ks) (v::vs) ((tk,tv)::uE):=λaa s Z H Q I h=>
 pairTrees_cons_walk (bM (hk aa s Z H _ I h) λu s1 ⟨x,H1,I1,rx,q1⟩=>bM (hv aa s1 Z H1 _ I1 q1) λw2 s2 ⟨y,H2,I2,ry,q2⟩=> bM (hr aa s2 Z H2 _ I2 q2) λws s3 ⟨ps,H3,I3,rel,q3⟩=>⟨(x,y)::ps,H3,I3,.cons ⟨rx,ry⟩ rel,q3⟩)
section
variable{X:Cx}{aa:List (ai×Obj)}{Z:St}{H:Hp}{s:ao}{a:ai}{y d:V}{u r:ah}{o:aj V}{A:cK}{E:ah->ao->Prop}
end
section
variable{X:Cx}{o e f:Expr}{apos cy:Pos}{td ty tx:TE}
end
section
variable{X:Cx}{aa:List (ai×Obj)}{Z:St}{H:Hp}{s:ao}{a:ai}{kvs:List (Key×V)}{A:cK}{E:ah->ao->Prop}
end
section
variable{X:Cx}{aa:List (ai×Obj)}{Z:St}{H:Hp}{s:ao}{a:ai}{y:V}{u:ah}{A:cK}{E:ah->ao->Prop}
end
end L2
namespace LY
open PySem PySem.W PySem.Calls PyProof.Rows
variable{P:Params}{h:bS}{l:OpenLaw}{n:Nat}
def RT:∀(ns:List Int) (vs:List ah),WellAll P h vs (ns.map WData.int)->IntsAre vs ns:=by
 intro ns
 induction ns with
 |nil=>
  intro vs w;rw[DH] at w;cases w;exact .nil
 |cons n ns ih=>
  intro vs w;rw[cR] at w;cases w with
  |cons a b=>
   cases a;exact .cons _ _ (ih _ b)
def Td(hn:l.most=some n){args:List WData}{vals:List ah}
  (ua:l.row.toRowW.claim.pre args=true) (F0:WellAll P h vals args) :
  ∃a vs ns,vals=[Value.ref a]/\args=[WData.list (ns.map WData.int)]/\h.get? a=some { cls:=.type "list",data:=.seq vs.toArray}/\IntsAre vs ns/\ns.length<=n:=by
 have hsh:WShape.hasAll [] args [.list .int]=true:=(pre_splitW ua).1;have hc:l.pre.holds [] { args:=args}=true:=(pre_splitW ua).2;obtain⟨d,r,rfl,h1,h2⟩:=hasAllW_cons hsh;obtain rfl:=hasAllW_nil h2;obtain⟨xs,rfl,h3⟩:=hasW_list h1;obtain⟨ns,rfl⟩:=items_int h3;have hlen:ns.length<=n:=by
  unfold OpenLaw.pre at hc;have h4:(WTm.not (.lt (.lit (.int (n:Int))) (.len (.arg 0)))).holds [] { args:=[.list (ns.map .int)]}=true:=by
   have h4:=(holds_andW hc).1;rw[hn] at h4;exact h4
  have h5:=condW_of h4 (w_not (w_lt w_lit (w_len_list (w_arg rfl))))
  simp_all
 cases F0 with
 |cons w1 w2=>
  cases w2;cases w1 with
  |list ho je=>exact⟨_,_,ns,rfl,rfl,ho,RT ns _ je,hlen⟩
def Te(l:OpenLaw)(args:List WData):l.row.toRowW.claim.post args (.bool true) args=true:=
 postW_of (r:=l.row.toRowW) (X:=(true == true))
  (show WShape.has [] (.bool true) .bool=true by first|rfl|decide|simp[WShape.has,WShape.arms,WShape.armsAll])
  (show(WTm.eq .res (.lit (.bool true))).value [] { args:=args,res:=some (.bool true),after:=args}=some (.bool (true == true)) from w_eq_bool (w_res rfl) w_lit) rfl
def mq{q:cX}{loose:List Str}{XP:(Str->aj ah)->bS->Prop}{YP:cA->bS->Prop}{d:DefRec}
  (hn:l.most=some n) (B4:d.params.defaults=[])
  (call:∀(w:cA) (s₀ s₁:ao) (mg mb:Str->aj ah) (fa:ai) (o:Obj) (pm cd doc:ah) (a:ai) (vs:List ah) (ns:List Int),Ground q loose [] XP w s₀ mg mb s₁.heap->YP w s₁.heap-> s₁.heap.get? fa=some o->o.data=.func (docDef d.name d.params d.body d.scope pm cd doc)->s₁.heap.CodeRec cd d.name->mg d.name=some (.ref fa)-> s₁.heap.get? a=some { cls:=.type "list",data:=.seq vs.toArray}->IntsAre vs ns->ns.length<=n->s₁.gens=#[]-> codeAny (model l.prog w) callerA (.call (.ref fa) ⟨[.ref a],[]⟩) (λr s'=>r=.ok (.ret (.bool true))/\OldK s₁.heap s'.heap/\s'.os=s₁.os/\AllBare s'.gens) s₁) :
  WalkO q loose XP YP l.row.toRowW d [] (λf vs=>PySem.call f vs):=by
 intro w s₀ s₁ mg mb G Y fa o pm cd doc dV kV ho hd q_ hD hmg hg args vals as ua hlay hrd F0 hlo;obtain rfl:dV=.none:=Dflts.none hD B4;obtain rfl:kV=.none:=Dflts.noKw hD;obtain⟨a,vs,ns,rfl,rfl,ye,hints,hlen⟩:=Td hn ua F0;refine enter_call (codeAny_mono (call w s₀ s₁ mg mb fa o pm cd doc a vs ns G Y ho (fd_plain hd) q_ hmg ye hints hlen hg) λr s' hq=>?_)
 obtain⟨rfl,h2,h3,h4⟩:=hq;exact⟨.inl ⟨.bool true,.bool true,[],rfl,λ_=>rfl,.bool true,Te l _,λ_=>⟨List.Pairwise.nil,λ_ hm=>(nomatch hm)⟩⟩,h2,h3,h4⟩
section
variable{prog:cX}{w:cA}{A:cK}{E:ah->ao->Prop}{s:ao}{K:fm}
end
end LY
namespace L2
open PySem PySem.Spec PyProof.Rows
theorem M4:∀{vs:List ah} {ns:List Int},IntsAre vs ns->Vals (ns.map V.int) vs
 |_,_,.nil=>.nil
 |_,_,.cons n t h=>.cons ⟨t,rfl⟩ (M4 h)
def wj(H:Hp):Prop:=∀b,H b=none\/∃o xs,H b=some (.Y o (.lst xs))
def UH{P:cX}{w:cA}{K:aI}{mg mb:Str->aj ah}{CX:si}{k:Nat}{fa a:ai}{fd:kI}{x:Str}{sp:Sp}{s₁:ao}{vs:List ah}{ns:List Int}
  (KX:K.In s₁.heap) (Q3:s₁.heap.Ns mainGlobals mg) (hb:s₁.heap.Ns builtinsNs mb) (hbb:∀x:Str,x≠"__name__"->mb x=bootBuiltins x) (JX:s₁.heap.NoLimit) (hg:s₁.gens=#[])
  (ha:s₁.heap.get? a=some { cls:=.type "list",data:=.seq vs.toArray}) (hi:IntsAre vs ns) (hl:ns.length<=sizeLine) (hr:cx k callerA)
  (F:∀base:bS,K.In base->base.Ns mainGlobals mg->dA P w K mg base CX k fa fd [x] sp) (B1:∀(s:ao) (u:ah),BindsTo s fd ⟨[u],[]⟩ [(x,u)])
  (vp:∀H:Hp,wj H->cT K H a (ns.map V.int)->sp [.ref a] H (λv _=>v=.bl true) λ_ _ _=>False)
  (JE:∀H e s',CX [] H s₁ (λ_ _ _=>False) e s'->False) :
  codeAny (model P w) callerA (.call (.ref fa) ⟨[.ref a],[]⟩) (λr s'=>r=.ok (.ret (.bool true))/\OldK s₁.heap s'.heap/\s'.os=s₁.os/\AllBare s'.gens) s₁:=by
 have rv:=M4 hi;have Kk:=hi.length;have core:∀H:Hp,wj H->cT K H a (ns.map V.int)->iO P w H s₁.heap->(∀b,H b≠none->b=a)->(H a≠none->K.lookup a=none)->
   codeAny (model P w) callerA (.call (.ref fa) ⟨[.ref a],[]⟩) (λr s'=>r=.ok (.ret (.bool true))/\OldK s₁.heap s'.heap/\s'.os=s₁.os/\AllBare s'.gens) s₁:=by
  intro H hO hS bw hA hK;have n5:∀{b:ai} {o:Obj},s₁.heap.get? b=some o->H b=none->(lE s₁.heap H).get? b=some o:=λe n=>Ur e n
  have CC:∀{b:ai} {o:Obj} {es:Array DictEntry} {ep:Nat},s₁.heap.get? b=some o->o.data=.dict es ep->H b=none:=λ{b o es ep} e d=>by
   grind
  have F_:∀{b:ai} {m:Str->aj ah},s₁.heap.Ns b m->(lE s₁.heap H).Ns b m:=λ{b m} ⟨o,es,ep,e,d,r⟩=>⟨o,es,ep,n5 e (CC e d),d,r⟩
  have QS:K.In (lE s₁.heap H):=λb o e=>n5 (KX b o e) (by
   grind)
  have hM:Mod K mg (lE s₁.heap H):=⟨QS,F_ Q3,⟨mb,F_ hb,hbb⟩,let ⟨mc,h1,h2⟩:=JX;⟨mc,F_ h1,h2⟩⟩
  have e0:m_ P w K mg (lE s₁.heap H) callerA [] s₁ H:=⟨rfl,hM,λb o e=>V3 e,DG (SW _ _),trivial,λb hb=>bQ (show b∈([]:List ai) from hb) (by simp),bw,.of_eq hg⟩
  refine codeAny_mono ((F _ QS (F_ Q3)).run callerA [] s₁ H ⟨[.ref a],[]⟩ [.ref a] [.ref a] _ _ hr e0 (B1 s₁ (.ref a)) (.cons rfl .nil) (vp H hO hS)) λr s' h=>?_
  cases r with
  |error e=>exact(JE H e s' h).elim
  |ok fl=>
   cases fl with
   |next=>exact False.elim h
   |brk=>exact False.elim h
   |cont=>exact False.elim h
   |ret u=>
    obtain⟨v,H',os,bare,un,J3,r',q⟩:=h;have q':v=.bl true:=q;subst q';obtain rfl:u=Value.bool true:=r';refine⟨rfl,OldK.of_keep λb o e=>?_,os,bare⟩
    cases q:H b with
    |none=>exact un.keep b o e q (by intro z;exact bQ (show b∈([]:List ai) from z) (by simp)) (by simp)
    |some u=>
     rcases hO b with z|⟨ob,xs,z⟩
     .rw[q] at z;cases z
     .have z2:=un.jO b ob _ z;obtain⟨e1,_⟩:=bw b _ z;obtain⟨e2,_⟩:=J3 b _ z2
      lia
 cases hk:K.lookup a with
 |some o=>
  have e:=KX a o hk;rw[ha] at e;cases e;refine core (λ_=>none) (λ_=>.inl rfl) (.inr ⟨_,vs.toArray,_,hk,rfl,rfl,rfl,by rw[dH,Kk];exact hl,by simpa using rv⟩) (λb u z=>by have z':(none:aj HO)=some u:=z;cases z') (λb z=>bQ rfl z) λz=>bQ rfl z
 |none=>
  refine core (λb=>if b=a then some (.Y { cls:=.type "list",data:=.seq vs.toArray} (.lst (ns.map V.int))) else none) (λb=>?_) (.inl (.inr ⟨{ cls:=.type "list",data:=.seq vs.toArray},bL rfl⟩)) (λb u z=>?_) (λb z=>?_) λ_=>hk
  .by_cases hb:b=a
   .exact .inr ⟨_,_,bL hb⟩
   .exact .inl (br hb)
  .by_cases hb:b=a
   .have z':=(bL hb).symm.trans z;cases z';subst hb;exact⟨ha,by rw[bJ];exact hl,vs,_,rv,ha⟩
   .have z':=(br hb).symm.trans z;cases z'
  .by_cases hb:b=a
   .exact hb
   .exact bQ (br hb) z
def uL{l:PySem.W.OpenLaw}{n k:Nat}{q:cX}{loose:List Str}{XP:(Str->aj ah)->bS->Prop}{YP:cA->bS->Prop}{d:DefRec}{K:Params->aI}{CX:cA->si}{sp:cA->Sp}{x:Str}
  (hn:l.most=some n) (x_:n<=sizeLine) (B4:d.params.defaults=[]) (hr:cx k callerA)
  (hY:∀(w:cA) (h:bS),YP w h->(K w.params).In h)
  (F:∀(w:cA) (mg:Str->aj ah) (fa:ai) (h:bS),(K w.params).In h->h.Ns mainGlobals mg->mg d.name=some (.ref fa)-> ∃fd:kI,(∀(s:ao) (u:ah),BindsTo s fd ⟨[u],[]⟩ [(x,u)])/\ ∀base:bS,(K w.params).In base->base.Ns mainGlobals mg->dA l.prog w (K w.params) mg base (CX w) k fa fd [x] (sp w))
  (vp:∀(w:cA) (H:Hp) (a:ai) (ns:List Int),ns.length<=n->wj H->cT (K w.params) H a (ns.map V.int)->sp w [.ref a] H (λv _=>v=.bl true) λ_ _ _=>False)
  (JE:∀(w:cA) (H:Hp) (s:ao) (e:ah) (s':ao),CX w [] H s (λ_ _ _=>False) e s'->False) :
  PySem.W.WalkO q loose XP YP l.row.toRowW d [] (λf vs=>PySem.call f vs):=by
 refine LY.mq hn B4 λw s₀ s₁ mg mb fa o pm cd doc a vs ns G Y ho hd q_ hmg ye hints hlen hg=>?_
 have KX:=hY w _ Y;obtain⟨fd,hb,hF⟩:=F w mg fa _ KX G.T.g hmg;exact UH KX G.T.g G.T.b G.T.builtins G.T.nolimit hg ye hints (iU hlen x_) hr hF hb (λH hO hS=>vp w H a ns hlen hO hS) λH e s'=>JE w H s₁ e s'
variable{x qual:Str}{st:Stmt}{f:ai}{H H':Hp}
noncomputable def j'(s:Stmt)(j:Nat):Stmt:=match s with
 |.ClassDef _ _ _ body _ _ _ _ _ _ _=>body.getD j (.Pass ⟨0,0,0,0⟩)
 |_=>.Pass ⟨0,0,0,0⟩
noncomputable def zI(s:Stmt):Arguments:=match s with
 |.FunctionDef _ a _ _ _ _ _ _ _ _=>a
 |_=>{ posonlyargs:=[],args:=[],vararg:=none,kwonlyargs:=[],kw_defaults:=[],kwarg:=none,defaults:=[]}
def wM(s:Stmt):List Stmt:=match s with
 |.FunctionDef _ _ b _ _ _ _ _ _ _=>b
 |_=>[]
noncomputable def o_(s:Stmt):Scope:=match s with
 |.FunctionDef _ _ _ _ _ _ sc _ _ _=>sc
 |_=>{ kind:=.function,names:=[],isGenerator:=false,isCoroutine:=false}
structure sk (K:aI) (x qual:Str) (st:Stmt) (f:ai) (fd:kI):Prop where
 ex:∃(oc:ah) (od:aj ai) (kV doc pm:ah) (an:aj ai) (f6 ct:ah) (oB:Array (aj ah)),
  fd=PySem.W.fnOf x qual (zI st) (wM st) (o_ st) .none kV doc pm an f6 ct/\K.lookup f=some ⟨oc,od,.func fd,oB⟩/\PySem.W.codeIn K f6 qual=true
 kp:PySem.W.keepIn K (.ref f)=true
section
variable{P:cX}{w:cA}{K:aI}{mg:Str->aj ah}{base:bS}
def sk.binds{fd:kI}{ps:List Str}(F:sk K x qual st f fd)
  (h:∀(kV doc pm:ah) (an:aj ai) (f6 ct:ah) (us:List ah),us.length=ps.length->bindArgs (PySem.W.fnOf x qual (zI st) (wM st) (o_ st) .none kV doc pm an f6 ct) ⟨us,[]⟩=pure (ps.zip us)):Binds K fd ps []:=by
 obtain⟨oc,od,kV,doc,pm,an,f6,ct,oB,rfl,lk,q_⟩:=F.ex;exact .all (h kV doc pm an f6 ct)
def fun_mk{oc:ah}{od an:aj ai}{oB:Array (aj ah)}{kV doc pm f6 ct:ah}(l:K.lookup f=some ⟨oc,od,.func (PySem.W.fnOf x qual (zI st) (wM st) (o_ st) .none kV doc pm an f6 ct),oB⟩)
  (c:PySem.W.codeIn K f6 qual=true) (k:PySem.W.keepIn K (.ref f)=true):sk K x qual st f (PySem.W.fnOf x qual (zI st) (wM st) (o_ st) .none kV doc pm an f6 ct):=⟨⟨oc,od,kV,doc,pm,an,f6,ct,oB,rfl,l,c⟩,k⟩
end
section
variable{X:Cx}
end
def rB{A B:Prop}(h:B):if false=true then A else B:=by
 rw[br sd];exact h
def rC{A B:Prop}(h:A):if true=true then A else B:=by
 rw[bL rfl];exact h
def az(H H':Hp):Prop:=∀b o,H b=some o->H' b=some o
def az.refl(H:Hp):az H H:=λ_ _ h=>h
def az.trans{H1 H2:Hp}(a:az H H1)(b:az H1 H2):az H H2:=λc o h=>b c o (a c o h)
def az.free(e:az H H'){l:ai}(h:H' l=Option.none):H l=Option.none:=by
 cases q:H l with
 |none=>rfl
 |some o=>
  rw[e l o q] at h;cases h
def az.seq{K:aI}{a:ai}{xs:List V}(e:az H H')(h:cT K H a xs):cT K H' a xs:=by
 rcases h with(h|⟨o,h⟩)|h
 .exact .inl (.inl (e _ _ h))
 .exact .inl (.inr ⟨o,e _ _ h⟩)
 .exact .inr h
section
variable{κ:Type}[DecidableEq κ]
end
end L2
set_option maxHeartbeats 4000000
namespace L2
open PySem PySem.Spec PyProof.Rows
variable{env:Env}{names:List (Str×nR)}{x:Str}{c:ai}{scope:Scope}{X:Cx}
noncomputable def jL(env:Env)(names:List (Str×nR)):List (Str×ai):=((names.filter λy=>y.2 == .free).reverse).map λy=>(y.1,(env.cells.lookup y.1).getD 0)
theorem Mw{g:Str->ai}{x:Str}:∀{l:List (Str×nR)},(∃k,(x,k)∈l)->(l.map λy=>(y.1,g y.1)).lookup x=some (g x)
 |[],h=>by obtain⟨k,h⟩:=h;cases h
 |(n,k)::r,h=>by
  show List.lookup x ((n,g n)::_)=_;cases hx:x == n with
  |true=>
   simp_all
  |false=>
   simp only[List.lookup_cons,hx];refine Mw (l:=r) ?_
   simp_all
theorem L7{g:Str->ai}{x:Str}{c:ai}:∀{l:List (Str×nR)},(l.map λy=>(y.1,g y.1)).lookup x=some c->c=g x/\∃k,(x,k)∈l
 |[],h=>by cases h
 |(n,k)::r,h=>by
  have h:List.lookup x ((n,g n)::(r.map λy=>(y.1,g y.1)))=some c:=h
  cases hx:x == n with
  |true=>
   simp_all
  |false=>
   simp only[List.lookup_cons,hx] at h;obtain⟨e,k',hk⟩:=L7 h;exact⟨e,k',mY _ hk⟩
def ND(h:(x,NameKind.free)∈names)(hc:env.cells.lookup x=some c):(jL env names).lookup x=some c:=by
 have:=Mw (g:=λn=>(env.cells.lookup n).getD 0) (x:=x) (l:=(names.filter λy=>y.2 == .free).reverse) ⟨.free,by simp[h]⟩
 unfold jL;rw[this,hc];rfl
def IA(hf:∀y∈names,y.2=.free->∃c,env.cells.lookup y.1=some c)(h:(jL env names).lookup x=some c):env.cells.lookup x=some c:=by
 obtain⟨e,k,hk⟩:=L7 (g:=λn=>(env.cells.lookup n).getD 0) h
 grind
theorem Hw{env:Env}:∀(names:List (Str×nR)) (cs:List (Str×ai)),(∀y∈names,y.2=.free->∃c,env.cells.lookup y.1=some c)->
  (forIn names cs (λ(x:Str×nR) (r:List (Str×ai))=>if(x.2 == NameKind.free)=true then(do let a <-cellOf env x.1;pure (ForInStep.yield ((x.1,a)::r))) else(pure (ForInStep.yield r):Sem (ForInStep (List (Str×ai)))))) =
   pure (jL env names++cs)
 |[],cs,_=>by rw[List.forIn_nil];rfl
 |(n,k)::r,cs,h=>by
  rw[List.forIn_cons];cases hk:k == NameKind.free with
  |true=>
   obtain⟨c,hc⟩:=h (n,k) uN (by simpa using hk)
   have mU:env.cells.lookup n=some c:=hc;have e:cellOf env n=pure c:=by unfold cellOf;rw[mU]
   simp only[hk,nU,e,pure_bind];rw[Hw r _ λy hy=>h y (mY _ hy)]
   congr 1
   unfold jL
   simp_all
  |false=>
   simp only[hk,kh,fS,pure_bind];rw[Hw r _ λy hy=>h y (mY _ hy)]
   congr 1
   unfold jL;rw[DI];simp[hk]
def L3(h:∀y∈scope.names,y.2=.free->∃c,env.cells.lookup y.1=some c):closureFor scope env=pure (jL env scope.names):=by
 have:=Hw (env:=env) scope.names [] h;rw[kT] at this;unfold closureFor;show(forIn scope.names [] _ >>= λr=>pure r)=_
 rw[bind_pure];exact this
theorem Mi{env:Env}:∀{names:List (Str×nR)} {x:Str},names.lookup x=some .free->
  (names.map λ(n,k)=>if(k == NameKind.free&&env.scope.kind == .function&&env.kindOf n == some .cell) then(n,NameKind.cell) else(n,k)).lookup x=some .cell\/
  (names.map λ(n,k)=>if(k == NameKind.free&&env.scope.kind == .function&&env.kindOf n == some .cell) then(n,NameKind.cell) else(n,k)).lookup x=some .free
 |[],_,h=>by simp at h
 |(n,k)::r,x,h=>by
  have ih:=@Mi env r x
  grind
theorem Hx{env:Env}:∀{names:List (Str×nR)} {x:Str} {q:nR},(q=.cell\/q=.free)->(∀y∈names,y.2≠.cell)->
  (names.map λ(n,k)=>if(k == NameKind.free&&env.scope.kind == .function&&env.kindOf n == some .cell) then(n,NameKind.cell) else(n,k)).lookup x=some q->(x,NameKind.free)∈names
 |[],_,_,_,_,h=>by simp at h
 |(n,k)::r,x,q,hq,hn,h=>by
  have ih:=@Hx env r x q hq λy hy=>hn y (mY _ hy)
  grind
def eY(X:Cx)(scope:Scope)(M:List Str)(C:ai)(s:ao)(H:Hp)(fp:List ai):Cx:=
 {X with N:=M,s₀:=s,H₀:=H,env:=compEnvC scope (jL X.env scope.names) C X.env,outer:=X.stack,ex:=fp,fn:=λ_=>false,pn:=[],xe:=λ_ _=>False}
noncomputable def jK(k:Nat)(cY:List Nat)(Z:St):St:=List.replicate k none++cY.map λi=>(Z[i]?).join
def qD(X:Cx)(ifs:List Expr)(t:TT):Prop:=
 ∀(aa:List (ai×Obj)) (s:ao) (Z:St) (H:Hp) (Q:Bool->Hp->Prop),Inv X aa Z H s->t Z H Q->
  wpAny (model X.prog X.w) X.A (forIn ifs true λc r=>if r=true then do let ok <-isTrue c X.env (eval c X.env);pure (ForInStep.yield ok) else pure (ForInStep.yield r)) (TP X aa Z Q) X.xe s
def Ll:TT:=λ_ H Q=>Q true H
def Wn:qD X [] Ll:=λ_ _ Z H _ I h=>wpAny_tests_nil ⟨H,I,h⟩
def Wo{c:Expr}{t:TT}(hc:PT X c t):qD X [c] t:=λaa s Z H Q I h=>wpAny_tests_one (hc aa s Z H Q I h)
def RN{prog:cX}{w:cA}{A:cK}{R:Result->ao->Prop}{s:ao}{elt target iter:Expr}{ifs:List Expr}{pos:Pos}{it aW:ah}(I:Nat->ao->Prop)
  (turn:∀n s,I n s->wpAny (model prog w) A (pyNext it) (λr s₁=>match r with
   |none=>R (.ok .next) s₁
   |some v=>wpAny (model prog w) A (letOwnedTupleGo target it v) (λ_ s₀=>wpAny (model prog w) A (assign target env v) (λ_ s₂=>
     wpAny (model prog w) A (forIn ifs true λc r=>if r=true then do let ok <-isTrue c env (eval c env);pure (ForInStep.yield ok) else pure (ForInStep.yield r)) (λok s₃=>
      if ok=true then wpAny (model prog w) A (eval elt env) (λx s₄=>
       wpAny (model prog w) A (call (.builtin "list.append") [aW,x]) (λ_ s₅=>∃m,m<n/\I m s₅) (λ_ _=>False) s₄) (λ_ _=>False) s₃
      else ∃m,m<n/\I m s₃) (λ_ _=>False) s₂) (λ_ _=>False) s₀) (λ_ _=>False) s₁) (λ_ _=>False) s)
  (n:Nat) (h:I n s) :
  codeAny (model prog w) A (.compLoop (.ListComp elt [⟨target,iter,ifs,0⟩] scope pos) 0 it aW env) R s:=by
 refine codeAny_loop rfl I (λn s hI=>?_) n h
 show wpAny _ A ((compTurn (.ListComp elt [⟨target,iter,ifs,0⟩] scope pos) 0 it aW env).onRaise (λx=>do noteFrame x env;theTreesLotGoes x)) _ _ s
 refine wpAny_noted ?_;rw[compTurn_list];refine ax (wpAny_standAt (ax (wpAny_mono (turn n s hI) (λr s₁ h₁=>?_) λ_ _ h'=>h'.elim)))
 cases r with
 |none=>exact aP h₁
 |some v=>
  refine ax (wpAny_mono h₁ (λ_ s₀ h₀=>?_) λ_ _ h'=>h'.elim)
  refine ax (wpAny_mono h₀ (λ_ s₂ h₂=>ax (wpAny_mono h₂ (λok s₃ h₃=>?_) λ_ _ h'=>h'.elim)) λ_ _ h'=>h'.elim)
  cases ok with
  |false=>exact aP ⟨rfl,h₃⟩
  |true=>
   exact ax (ax (wpAny_mono h₃ (λx s₄ h₄=>ax (wpAny_mono h₄ (λ_ s₅ h₅=>aP (aP ⟨rfl,h₅⟩)) λ_ _ h'=>h'.elim)) λ_ _ h'=>h'.elim))
variable{H:Hp}{s:ao}{fp:List ai}{wi:TI}
def Inv.Dr{X:Cx}{aa:List (ai×Obj)}{Z:St}{a:ai}{o:HO}(I:Inv X aa Z H s)(hn:H a=none)(hy:X.s₀.heap.objs.size<=a)(hL:a≠X.env.locals)(hC:∀x c,X.env.cells.lookup x=some c->c≠a)
  (hP:∀p∈X.pn++aa,p.1≠a) (new:bD X.prog X.w (upd H a o) s.heap a o):Inv X aa Z (upd H a o) s:=by
 refine⟨I.ok,I.os,I.bare,⟨I.base.keep,I.base.slot,λb ob e n hx=>?_,I.base.there,λb xs e=>?_,λb ob u e=>?_,λb ps e=>?_⟩,I.loc,I.cell,?_,λx c e=>?_,λp hp=>?_,λb u e=>?_,I.len⟩
 .rw[c_ (gd (fy (cP e) hy))];exact I.base.free b ob e n hx
 .have z:=I.base.kG b xs e;rw[c_ (qH z hn)];exact z
 .have z:=I.base.jO b ob u e;rw[c_ (qH z hn)];exact z
 .obtain⟨m,z⟩:=I.base.kF b ps e;exact⟨m,by rw[c_ (qH z hn)];exact z⟩
 .rw[c_ (Ne.symm hL)];exact I.free
 .rw[c_ (hC x c e)];exact I.eD x c e
 .obtain⟨e,n,r⟩:=I.pin p hp;exact⟨e,by rw[c_ (hP p hp)];exact n,r⟩
 .by_cases hb:b=a
  .grind [aH]
  .rw[c_ hb] at e;exact(I.bw b u e).lR (λc v _ q=>q) (λc q=>by rw[c_ (qH q hn)];exact q) λc xs q=>by rw[c_ (qH q hn)];exact q
def nV(J:It)(g:TG)(tt:TT)(te:TE)(τ₀:St)(H1:Hp)(Fin:List V->Hp->Prop):Prop:=
 ∃(n:Nat) (W:Nat->St->List V->Hp->Prop),W 0 τ₀ [] H1/\∀i τ aW H,i<=n->W i τ aW H->
  (J.stop i H/\Fin aW H)\/(i<n/\J.go i H/\∀x H',J.m8 i H x H'->g x τ H' λτ2 H2=>tt τ2 H2 λb H3=>if b=true then te τ2 H3 λv H4=>aW.length<sizeLine/\W (i+1) τ2 (aW++[v]) H4 else W (i+1) τ2 aW H3)
structure dQ (X:Cx) (scope:Scope) (M:List Str) (k:Nat) (cY:List Nat):Prop where
 kind:scope.kind=.function
 cell:∀y∈scope.names,y.2≠.cell
 free:∀y∈scope.names,y.2=.free->X.env.kindOf y.1=some .cell\/X.env.kindOf y.1=some .free
 names:∀y∈scope.names,y.2=.local -> scope.names.lookup y.1=some .local
 len:M.length=k+cY.length
 Jg:∀(j i:Nat) (x:Str),cY[j]?=some i->M[k+j]?=some x->X.N[i]?=some x/\scope.names.lookup x=some .free
section
variable{X:Cx}{aa:List (ai×Obj)}{Z:St}{tg elt iter:Expr}{ifs:List Expr}{scope:Scope}{pos:Pos}{M:List Str}{k:Nat}{cY:List Nat}{g:TG}{tt:TT}{te:TE}
def Inv.iw(I:Inv X aa Z H s)(ok:dQ X scope M k cY):∀y∈scope.names,y.2=.free->∃c,X.env.cells.lookup y.1=some c:=λy hy e=>I.ok.has y.1 (ok.free y hy e)
def Inv.block{s4:ao}{C D:ai}{oD:Obj}{m:Str->aj ah}(I:Inv X aa Z H s)(ok:dQ X scope M k cY)(f2:∀b∈fp,iN X aa H b)(FU:∀b∈fp,∃o,s.heap.get? b=some o/\∀v,o.data≠.cell v)
  (hC:s.heap.objs.size<=C) (BY:D≠C) (hD:s.heap.objs.size<=D) (old:∀b o,s.heap.get? b=some o->s4.heap.get? b=some o) (os:s4.os=s.os) (gens:s4.gens=s.gens)
  (ns:s4.heap.Ns C m) (JZ:s4.heap.get? D=some oD) (JQ:∀v,oD.data≠.cell v):Inv (eY X scope M C s H fp) [(D,oD)] (jK k cY Z) H s4:=by
 have hf:=I.iw ok;have fr:∀a,s.heap.objs.size<=a->H a=none:=λa ha=>I.bw.fresh ha
 have nfs:∀b∈jN X.stack,b<s.heap.objs.size:=λb hb=>by
  rcases y0a.mp (I.j7 b hb) with e|e
  .rw[e];exact I.lt
  .exact Nat.lt_of_not_le λz=>I.yw z e
 have cl:∀x c,(jL X.env scope.names).lookup x=some c->X.env.cells.lookup x=some c:=λx c e=>IA hf e
 refine⟨⟨I.ok.mod,ok.kind,I.ok.glob,I.ok.blt,hC,λx y c e1 e2=>I.ok.inj x y c (cl x c e1) (cl y c e2),λx hx=>?_,λx c e _=>?_,I.ok.hd,I.ok.frames,.inl rfl,λb hb=>?_,I.bs,iU I.ok.qN I.sz,λb o e hb=>?_,λb hb z=>?_,I.stack,I.jx⟩,os,by rw[gens];exact I.bare,Un.kept old,⟨m,ns,λi x v h1 h2 h3=>?_⟩,λx c e=>?_,fr C hC,λx c e=>I.eD x c (cl x c e),λp hp=>?_,I.bw.kept old,?_⟩
 .have hx:(relabel scope X.env).names.lookup x=some .cell\/(relabel scope X.env).names.lookup x=some .free:=hx;have hm:(x,NameKind.free)∈scope.names:=by
   rcases hx with h|h
   .exact Hx (env:=X.env) (.inl rfl) ok.cell h
   .exact Hx (env:=X.env) (.inr rfl) ok.cell h
  obtain⟨c,hc⟩:=hf _ hm rfl;exact⟨c,ND hm hc⟩
 .cases e
 .obtain⟨f0,f1,f2,f3,f4,f5⟩:=f2 b hb;obtain⟨ob,eb,_⟩:=FU b hb;exact⟨gd (fy (cP eb) hC),λx c e=>f4 x c (cl x c e)⟩
 .obtain⟨f0,f1,f2,f3,f4,f5⟩:=f2 b hb;rcases f3 with q|q
  .exact I.ok.nK b o e q
  .exact bQ (fy (cP e) (iU I.ok.qN q)) (jz _)
 .obtain⟨f0,f1,f2,f3,f4,f5⟩:=f2 b hb;rcases y0a.mp (I.j7 b z) with q|q
  .exact f1 q
  .exact f2 q
 .unfold jK at h2;have hk:¬i<k:=λq=>by
   rw[uQ (by simpa using q),LB] at h2
   split at h2 <;> cases h2
  rw[sV (by simpa using hk),oP,fW] at h2
  cases e:cY[i - k]? with
  |none=>rw[e] at h2;cases h2
  |some j=>
   rw[e] at h2;have BX:(Z[j]?).join=some v:=Option.some.inj h2;have hj:Z[j]?=some (some v):=by
    cases q:Z[j]? with
    |none=>rw[q] at BX;cases BX
    |some z=>rw[q] at BX;simp at BX;rw[BX]
   have x8:k+(i - k)=i:=by lia
   obtain⟨hN,rj⟩:=ok.Jg (i - k) j x e (by rw[x8];exact h1)
   have hm:(x,NameKind.free)∈scope.names:=PySem.mem_of_lookup rj;have hkx:=ok.free _ hm rfl;obtain⟨mX,hnX,hlX⟩:=I.loc;obtain⟨u,ru,lk⟩:=hlX j x v hN hj (by rcases hkx with q|q;exact .inr (.inl q);exact .inr (.inr q))
   refine⟨u,ru,.inr ⟨Mi (env:=X.env) rj,?_⟩⟩;rcases lk with⟨q,_⟩|⟨_,c,hc,oi⟩
   .lia
   .exact⟨c,ND hm hc,oi.keeps old⟩
 .obtain⟨v,z⟩:=I.cell x c (cl x c e);exact⟨v,z.keeps old⟩
 .have e:p=(D,oD):=by simpa[eY] using hp
  subst e;exact⟨JZ,fr D hD,BY,λz=>bQ (fy (nfs D z) hD) (jz _),JQ⟩
 .unfold jK;rw[dw,oP,bJ];exact ok.len.symm
def M5{H2:Hp}{s2:ao}{J:It}{it:ai}{tn:Nat->bS->Prop}{RR:ah->ai->Result->ao->Prop}{E:ah->ao->Prop}{Fin:List V->Hp->Prop}(I2:Inv X aa Z H2 s2)(hc:X.calm=true)(ok:dQ X scope M k cY)
  (T:Turn X.prog X.w X.K tg J fp it tn) (qd:tn 0 s2.heap) (f2:∀b∈fp,iN X aa H2 b)
  (hg:∀C s H fp,PG (eY X scope M C s H fp) tg g) (ht:∀C s H fp,qD (eY X scope M C s H fp) ifs tt) (he:∀C s H fp,PE (eY X scope M C s H fp) elt te)
  (hW:nV J g tt te (jK k cY Z) H2 Fin)
  (hRR:∀D C s' H' aW,Inv X aa Z (upd H' D (.lst aW)) s'->iN X aa (upd H' D (.lst aW)) C->(∃m,s'.heap.Ns C m)->H' D=none->Fin aW H'->RR (.ref D) C (.ok .next) s') :
  wpAny (model X.prog X.w) X.A (newList []) (λaW s₃=>wpAny (model X.prog X.w) X.A (newFunctionEnv scope X.env.globals (jL X.env scope.names) [] X.env.qual none .none (some X.env)) (λBH s₄=> codeAny (model X.prog X.w) X.A (.compStart (.ListComp elt [⟨tg,iter,ifs,0⟩] scope pos) 0 (.ref it) aW { BH with scope:=relabel scope X.env}) (RR aW BH.locals) s₄) E s₃) E s2:=by
 refine wpAny_newObj_type (wpAny_newFunctionEnv ok.cell (by intro y hy;simp at hy) (λh₁ hns₁ hsb₁=>?_) ok.kind)
 dsimp only at hns₁ hsb₁ ⊢;generalize JG:s2.heap.push { cls:=.type "list",dict:=none,data:=.seq ([]:List ah).toArray}=H3 at hns₁ hsb₁ ⊢;have JF:H3.objs.size=s2.heap.objs.size+1:=by rw[<-JG,Heap.size_push]
 have BY:s2.heap.objs.size≠H3.objs.size:=by rw[JF];exact gd (pS _)
 have below:∀b,b<s2.heap.objs.size->b≠H3.objs.size/\b≠s2.heap.objs.size:=λb hb=>⟨by rw[JF];exact gd (sX hb),gd hb⟩
 have old:∀b o,s2.heap.get? b=some o->h₁.get? b=some o:=λb o e=>hsb₁.extBut b o (below b (cP e)).1 (cU _ (JG ▸ cU _ e))
 have t6:h₁.get? s2.heap.objs.size=some { cls:=.type "list",data:=.seq ([]:List ah).toArray 0}:=hsb₁.extBut _ _ BY (cU _ (JG ▸ iI _ rfl));have FU:=T.obj 0 _ qd;have t5:s2.heap.objs.size<=H3.objs.size:=by rw[JF];exact uP _
 obtain⟨N,W,w0,turn⟩:=hW;have Ry:tn 0 h₁:=T.keep _ _ _ qd λb _ o e=>old b o e
 have loop:∀s₃:ao,s₃={ s2 with heap:=h₁,toks:=s2.toks+([]:List (Str×ah)).length}->
   codeAny (model X.prog X.w) X.A (.compLoop (.ListComp elt [⟨tg,iter,ifs,0⟩] scope pos) 0 (.ref it) (.ref s2.heap.objs.size) (compEnvC scope (jL X.env scope.names) H3.objs.size X.env))
    (RR (.ref s2.heap.objs.size) H3.objs.size) s₃:=by
  rintro s₃ rfl;have I3:Inv (eY X scope M H3.objs.size s2 H2 fp) [(s2.heap.objs.size,{ cls:=.type "list",data:=.seq ([]:List ah).toArray 0})] (jK k cY Z) H2 { s2 with heap:=h₁,toks:=s2.toks+([]:List (Str×ah)).length}:=
   I2.block ok f2 FU t5 BY (bU _) old rfl rfl hns₁ t6 (λv z=>by cases z)
  have Jx:∀b∈fp,b≠H3.objs.size/\b≠s2.heap.objs.size:=λb hb=>let ⟨o,e,_⟩:=FU b hb;below b (cP e)
  have nO:∀{H':Hp} {oD:Obj},(∀b∈fp,H' b=none)->∀b∈fp,iN (eY X scope M H3.objs.size s2 H2 fp) [(s2.heap.objs.size,oD)] H' b:=λ{H' oD} hn b hb=>by
   obtain⟨f0,f1,f2,f3,f4,f5⟩:=f2 b hb;refine⟨hn b hb,(Jx b hb).1,λz=>?_,.inl hb,λx c e=>f4 x c (IA (I2.iw ok) e),λp hp z=>?_⟩
   .rcases y0a.mp (I2.j7 b z) with q|q
    .exact f1 q
    .exact f2 q
   .have e:p=(s2.heap.objs.size,oD):=by simpa[eY] using hp
    subst e;exact(Jx b hb).2 z.symm
  refine RN (λn s'=>∃(i:Nat) (τ:St) (aW:List V) (us:List ah) (c:Nat) (H':Hp),Vals aW us/\aW.length<=sizeLine/\ Inv (eY X scope M H3.objs.size s2 H2 fp) [(s2.heap.objs.size,{ cls:=.type "list",data:=.seq us.toArray c})] τ H' s'/\tn i s'.heap/\(∀b∈fp,H' b=none)/\n=N - i/\i<=N/\W i τ aW H') ?_ N
   ⟨0,jK k cY Z,[],[],0,H2,.nil,kg _,I3,Ry,λb hb=>(f2 b hb).1,rfl,kg _,w0⟩
  rintro n s3 ⟨i,τ,aW,us,c,H',rv,hlen,I,st,fr,rfl,hiN,w⟩;have pinD:=(I.pin (s2.heap.objs.size,{ cls:=.type "list",data:=.seq us.toArray c}) (by simp[eY]))
  rcases turn i τ aW H' hiN w with⟨stop,qn⟩|⟨lF,go,step⟩
  .refine bM (T.done (eY X scope M H3.objs.size s2 H2 fp) rfl rfl rfl hc i _ s3 τ H' (λ_ _=>False) I (nO fr) st stop) λr s4 ⟨hr,I4⟩=>?_
   subst hr;have rQ:=(I4.pin (s2.heap.objs.size,{ cls:=.type "list",data:=.seq us.toArray c}) (by simp[eY]))
   have kc:∀b∈fp,(b∈X.ex\/X.s₀.heap.objs.size<=b)/\b≠X.env.locals/\(∀x c,X.env.cells.lookup x=some c->c≠b)/\∀p∈X.pn++aa,p.1≠b:=λb hb=>by
    obtain⟨f0,f1,f2,f3,f4,f5⟩:=f2 b hb;exact⟨f3,f1,f4,f5⟩
   have J1:Inv X aa Z H' s4:=I2.vg (ch:=fp) I4.os I4.base I4.bw I4.bare kc;have young:X.s₀.heap.objs.size<=s2.heap.objs.size:=I2.sz;have apart:∀a,s2.heap.objs.size<=a->a≠X.env.locals/\(∀x c,X.env.cells.lookup x=some c->c≠a)/\∀p∈X.pn++aa,p.1≠a:=λa ha=>
    ⟨vZ (fy I2.lt ha),λx c e z=>by
     obtain⟨v,q⟩:=I2.cell x c e;exact bQ (fy q.lt (by rw[z];exact ha)) (jz _),λp hp z=>bQ (fy (cP (I2.pin p hp).1) (by rw[z];exact ha)) (jz _)⟩
   have aD:=apart _ (bU _);have aC:=apart _ t5;have J2:Inv X aa Z (upd H' s2.heap.objs.size (.lst aW)) s4:=J1.Dr rQ.2.1 young aD.1 aD.2.1 aD.2.2 ⟨hlen,us,c,rv,rQ.1⟩;obtain⟨m,hn,_⟩:=I4.loc;have hCn:H' H3.objs.size=none:=I4.free;refine hRR _ _ s4 H' aW J2 ⟨?_,aC.1,I2.yw t5,.inr (iU young t5),aC.2.1,aC.2.2⟩ ⟨m,hn⟩ rQ.2.1 qn;rw[c_ (Ne.symm BY)];exact hCn
  .refine bM (T.item (eY X scope M H3.objs.size s2 H2 fp) rfl rfl rfl hc i _ s3 τ H' (λ_ _=>False) I (nO fr) st go) λr s4 ⟨u,hr,h4⟩=>?_
   subst hr;refine bM h4 λ_ s5 hh=>?_
   obtain⟨x,H5,I5,r5,y5,yR,Jz⟩:=hh;have GN:=I5.pinned (nO Jz) (T.obj _ _ yR);refine bM (hg _ _ _ _ _ s5 τ H5 x u _ GN r5 (step x H5 y5)) λ_ s6 hh=>?_
   obtain⟨τ6,H6,I6,q6⟩:=hh;refine bM (ht _ _ _ _ _ s6 τ6 H6 _ I6 q6) λb s7 hh=>?_
   obtain⟨H7,I7,q7⟩:=hh;have rD:∀{s':ao} {τ':St} {Hn:Hp},Inv (eY X scope M H3.objs.size s2 H2 fp) ([(s2.heap.objs.size,{ cls:=.type "list",data:=.seq us.toArray c})]++Bq fp s5.heap) τ' Hn s'->tn (i+1) s'.heap/\∀b∈fp,Hn b=none:=λ{s' τ' Hn} I'=>by
    refine⟨T.keep _ _ _ yR λb hb o e=>(I'.pin (b,o) (mZ _ (mZ _ (AW hb e)))).1,λb hb=>?_⟩
    obtain⟨o,e,d⟩:=T.obj _ _ yR b hb;exact(I'.pin (b,o) (mZ _ (mZ _ (AW hb e)))).2.1
   cases b with
   |false=>
    rw[br sd] at q7;show ∃m,m<N - i/\_;obtain⟨st7,fr7⟩:=rD I7;exact⟨N - (i+1),by lia,i+1,τ6,aW,us,c,H7,rv,hlen,I7.eI,st7,fr7,rfl,lF,q7⟩
   |true=>
    rw[bL rfl] at q7;show wpAny _ _ (eval elt _) _ _ s7;refine bM (he _ _ _ _ _ s7 τ6 H7 _ I7 q7) λv s8 hh=>?_
    obtain⟨y,H8,I8,r8,hl8,w8⟩:=hh;obtain⟨st8,fr8⟩:=rD I8;have oF:=(I8.pin (s2.heap.objs.size,{ cls:=.type "list",data:=.seq us.toArray c}) (by simp[eY]))
    have hul:=rv.length;refine append_at (hsz:=by show us.toArray.size<=sizeLine;rw[dH,<-hul];exact hlen) oF.1 λh9 Ro e9=>?_
    have e9':h9.get? s2.heap.objs.size=some { cls:=.type "list",data:=.seq (us++[v]).toArray (c+1)}:=by rw[e9,List.push_toArray]
    have RL:=I8.eI;have JH:s2.heap.objs.size≠(eY X scope M H3.objs.size s2 H2 fp).env.locals:=oF.2.2.1;have nx:∀(b:ai),H8 b≠none->b≠s2.heap.objs.size:=λb hb z=>hb (by rw[z];exact oF.2.1)
    refine⟨N - (i+1),by lia,i+1,τ6,aW++[y],us++[v],c+1,H8,rv.append (.cons r8 .nil),by rw[dw,sW];exact hl8,?_,?_,fr8,rfl,lF,w8⟩
    .have I9:Inv (eY X scope M H3.objs.size s2 H2 fp) [] τ6 H8 s8:=RL.ju (λp hp=>bQ hp (by simp))
     have RK:Inv (eY X scope M H3.objs.size s2 H2 fp) [] τ6 H8 { s8 with heap:=h9}:=I9.turned (t':=s8.toks) (λb o hb e=>(Ro.2 b hb).trans e) oF.2.1 JH (.inr (bU _))
      (λx cc e z=>by
       obtain⟨v',q⟩:=I2.cell x cc (IA (I2.iw ok) e);exact bQ (fy q.lt (by rw[z];exact bU _)) (jz _)) (λp hp=>bQ hp (by simp[eY]))
     refine RK.ju λp hp=>?_
     simp_all
    .exact T.keep _ _ _ st8 λb hb o e=>Ro.extBut b o (Jx b hb).2 e
 exact codeAny_compStart_list (loop _ rfl) (T.self _ 0 _ _ _ Ry (loop _ rfl))
def vV(wi:TI)(g:TG)(tt:TT)(te:TE)(k:Nat)(cY:List Nat):TE:=λZ H Q=>wi Z H λJ H1=>nV J g tt te (jK k cY Z) H1 λaW H'=>∀l,H' l=none->Q (.ref l) (upd H' l (.lst aW))
def Wq(hc:X.calm=true)(ok:dQ X scope M k cY)(hi:PI X tg iter wi)
  (hg:∀C s H fp,PG (eY X scope M C s H fp) tg g) (ht:∀C s H fp,qD (eY X scope M C s H fp) ifs tt) (he:∀C s H fp,PE (eY X scope M C s H fp) elt te)
  (hs:∀x,foldedSetIterable iter X.env x=pure x:=by intro _;rfl):PE X (.ListComp elt [⟨tg,iter,ifs,0⟩] scope pos) (vV wi g tt te k cY):=by
 intro aa s Z H Q I h;rw[eval_ListComp];refine wpAny_comprehension_free (use:=none) rfl hs (L3 (I.iw ok)) ok.kind ok.names (bM (hi aa s Z H _ I h) λv s1 h1=>bM h1 λF6 s2 h2=>?_)
 obtain⟨it,fp,tn,J,H2,e,I2,T,qd,f2,hW⟩:=h2;subst e;refine M5 (RR:=λaW C=>compPost (model X.prog X.w) X.A X.xe none (EP X aa Z Q) aW C) I2 hc ok T qd f2 hg ht he hW ?_
 intro D C s' H' aW I' fC ⟨m,hn⟩ hD hq;refine⟨m,hn,λh' sb=>?_⟩
 obtain⟨f0,f1,f2,f3,f4,f5⟩:=fC;exact⟨.ref D,_,I'.turned (t':=s'.toks) (λb o hb e=>(sb.2 b hb).trans e) f0 f1 f3 f4 f5,rfl,hq D hD⟩
def CT(wi:TI)(g:TG)(tt:TT)(te:TE)(k:Nat)(cY:List Nat)(i:Nat):TS:=λD Z H=>vV wi g tt te k cY Z H λv H'=>D.nx (Z.set i (some v)) H'
def Wr{i:Nat}{x:Str}{px mP:Pos}(hc:X.calm=true)(ok:dQ X scope M k cY)(hN:X.N.Nodup)(x8:X.N[i]?=some x)(hx:Loc X.env.scope x)(hi:PI X tg iter wi)
  (hg:∀C s H fp,PG (eY X scope M C s H fp) tg g) (ht:∀C s H fp,qD (eY X scope M C s H fp) ifs tt) (he:∀C s H fp,PE (eY X scope M C s H fp) elt te)
  (Cd:swapsWith (.ListComp elt [⟨tg,iter,ifs,0⟩] scope pos) (some (.Name x px)) mP.line X.env=pure true)
  (hs:∀x,foldedSetIterable iter X.env x=pure x:=by intro _;rfl) (hf:X.fn x=true\/X.env.scope.names.lookup x=some .local := by first|exact .inl rfl|exact .inr rfl|assumption) :
  PS X (.Assign [.Name x px] (.ListComp elt [⟨tg,iter,ifs,0⟩] scope pos) mP) (CT wi g tt te k cY i):=by
 intro aa s Z H D I h;rw[exec_Assign_Name_used _ _ _ _ Cd];refine ax (wpAny_standAt (ax ?_));show wpAny _ X.A (do let _ <-comprehension (.ListComp elt [⟨tg,iter,ifs,0⟩] scope pos) scope X.env _ (newList []) false (eval iter X.env) (some (assign (.Name x px) X.env))) _ _ s
 refine ax (wpAny_mono (wpAny_comprehension_free (use:=some (assign (.Name x px) X.env)) (Q:=λ_ s'=>SP X aa D .next s') rfl hs (L3 (I.iw ok)) ok.kind ok.names (bM (hi aa s Z H _ I h) λv s1 h1=>bM h1 λF6 s2 h2=>?_)) (λ_ s' hq=>aP (aP hq)) λ_ _ e=>e)
 obtain⟨it,fp,tn,J,H2,e,I2,T,qd,f2,hW⟩:=h2;subst e;refine M5 (RR:=λaW C=>compPost (model X.prog X.w) X.A X.xe (some (assign (.Name x px) X.env)) (λ_ s'=>SP X aa D .next s') aW C) I2 hc ok T qd f2 hg ht he hW ?_
 intro D' C s' H' aW I' fC ⟨m,hn⟩ hD hq;obtain⟨f0,f1,f2,f3,f4,f5⟩:=fC;show wpAny _ X.A (assign (.Name x px) X.env (.ref D')) _ _ _;refine wpAny_assign_Name (MY I' hN x8 hx (v:=.ref D') rfl (λrV RJ hh=>?_) hf)
 obtain⟨a,sb,ha⟩:=hh;have hCa:C≠a:=by
  rcases ha with e|e
  .rw[e];exact f1
  .exact λz=>f4 _ _ e z.symm
 refine⟨m,hn.sameBut sb hCa,λh' sb'=>⟨_,_,RJ.turned (t':=rV.toks) (λb o hb e=>(sb'.2 b hb).trans e) f0 f1 f3 f4 f5,hq D' hD⟩⟩
end
variable{w:cA}{tg:Expr}{X:Cx}
def ja(c:Nat):Str:=⟨#[c]⟩
def DQ(x:Str):It:=⟨λi _=>i<x.cps.size,λi H v H'=>H'=H/\∃c,x.cps[i]?=some c/\v=.str (ja c),λi _=>x.cps.size<=i⟩
def UI{P:cX}{K:aI}(it:ai)(x:Str)(t:Tok)(ty:String)(ub:ty="str_ascii_iterator"\/ty="str_iterator"):Turn P w K tg (DQ x) [it] it (λi h=>h.IsStrIter it ty x t i) where
 mem:=by simp
 obj:=λi h st b hb=>by
  have e:b=it:=by simpa using hb
  subst e;obtain⟨o,e,c,d⟩:=st
  simp_all
 keep:=λi h h' st k=>by
  obtain⟨o,e,c,d⟩:=st;exact⟨o,k it (by simp) o e,c,d⟩
 item:=by
  intro X hP hw hK hc i aa s Z H E I hf st hg;subst hP hw hK;have hi:i<x.cps.size:=hg;obtain⟨f0,f1,f2,f3,f4,f5⟩:=hf it (by simp)
  have fin:∀h',h'.IsStrIter it ty x t (i+1)->Heap.SameBut it s.heap h'->∃u,some (Value.str ⟨#[x.cps[i]]⟩ s.toks)=some u/\
    wpAny (model X.prog X.w) X.A (letOwnedTupleGo tg (.ref it) u) (λ_ s2=>∃y H',Inv X aa Z H' s2/\RelV y u/\(DQ x).m8 i H y H'/\s2.heap.IsStrIter it ty x t (i+1)/\∀b∈[it],H' b=none) E { s with heap:=h',toks:=s.toks+1}:=λh' jw sb=>by
   have I1:Inv X aa Z H { s with heap:=h',toks:=s.toks+1}:=I.turned (λb o hb e=>(sb.2 b hb).trans e) f0 f1 f3 f4 f5
   obtain⟨o,e,c,d⟩:=id jw;refine⟨_,rfl,xt (s:={ s with heap:=h',toks:=s.toks+1}) e c d (by rcases ub with z|z <;> subst z <;> decide) ⟨.str (ja x.cps[i]),H,I1,⟨_,rfl⟩,⟨rfl,_,by simp[hi],rfl⟩,jw,λb hb=>(hf b hb).1⟩⟩
  rcases ub with z|z
  .subst z;exact wpAny_pyNext_ascii_item st (c:=x.cps[i]) (by simp[hi]) fin
  .subst z;exact wpAny_pyNext_wide_item st (c:=x.cps[i]) (by simp[hi]) fin
 done:=by
  intro X hP hw hK hc i aa s Z H E I hf st hg;subst hP hw hK;have hi:x.cps.size<=i:=hg;obtain⟨f0,f1,f2,f3,f4,f5⟩:=hf it (by simp)
  rcases ub with z|z
  .subst z;exact wpAny_pyNext_ascii_end (I.ok.hd hc) st (by simp;lia) λh' eb=>⟨rfl,I.turned (t':=s.toks) (λb o hb e=>eb b o hb e) f0 f1 f3 f4 f5⟩
  .subst z;exact wpAny_pyNext_wide_end (I.ok.hd hc) st (by simp;lia) λh' eb=>⟨rfl,I.turned (t':=s.toks) (λb o hb e=>eb b o hb e) f0 f1 f3 f4 f5⟩
 self:=λ_ _ _ _ _ st h=>by
  rcases ub with z|z
  .subst z;exact wpAny_pyIter_striter_ascii st h
  .subst z;exact wpAny_pyIter_striter_wide st h
def Cj(tl:TE):TI:=λZ H R=>tl Z H λx H1=>∃z,x=.str z/\R (DQ z) H1
def Y4{l:Expr}{tl:TE}(hl:PE X l tl):PI X tg l (Cj tl):=by
 intro aa s Z H R I h;refine bM (hl aa s Z H _ I h) λv s1 hh=>?_
 obtain⟨x,H1,I1,r1,q1⟩:=hh;obtain⟨z,e,q⟩:=q1;subst e;obtain⟨t,rfl⟩:=r1;have key:∀ty:String,ty="str_ascii_iterator"\/ty="str_iterator"->GZ X aa Z tg R (.ref s1.heap.objs.size) { s1 with heap:=s1.heap.push { cls:=.type ty,data:=.fields #[.str z t,.int 0 0]}}:=λty ub=>by
  refine⟨s1.heap.objs.size,[s1.heap.objs.size],_,_,H1,rfl,I1.kept (t':=s1.toks) λb o e=>cU _ e,UI _ z t ty ub,⟨_,iI _ (by rcases ub with e|e <;> subst e <;> rfl),rfl,rfl⟩,λb hb=>?_,q⟩
  have e:b=s1.heap.objs.size:=by simpa using hb
  subst e;exact I1.kA (bU _) (I1.bw.fresh (bU _))
 cases ha:z.cps.all (· < 128)
 .exact wpAny_pyIter_wide ha (key _ (.inr rfl))
 .exact wpAny_pyIter_ascii ha (key _ (.inl rfl))
def fT(names outer:List (Str×nR))(N M:List Str)(k:Nat)(cY:List Nat):Bool:=
 names.all (λy=>y.2 != .cell)&&(names.all (λy=>y.2 != .free || (outer.lookup y.1 == some .cell || outer.lookup y.1 == some .free))&&(names.all (λy=>y.2 != .local || names.lookup y.1 == some .local) && (M.length == k+cY.length&&(List.range cY.length).all (λj=>match cY[j]?,M[k+j]? with|some i,some x=>N[i]? == some x&&names.lookup x == some .free|_,_=>true))))
def dQ.of{scope:Scope}{M:List Str}{k:Nat}{cY:List Nat}(outer:List (Str×nR))(N:List Str)(h:fT scope.names outer N M k cY=true)(ho:X.env.scope.names=outer:=by rfl)(hN:X.N=N:=by rfl)(hk:scope.kind=.function:=by rfl):dQ X scope M k cY:=by
 unfold fT at h;simp only[jy,kj,Bool.or_eq_true,bne_iff_ne,ne_eq,beq_iff_eq] at h;obtain⟨h1,h2,h3,h4,h5⟩:=h;refine⟨hk,h1,λy hy e=>?_,λy hy e=>?_,h4,λj i x e1 e2=>?_⟩
 .rcases h2 y hy with z|z
  .exact bQ e z
  .show X.env.scope.names.lookup y.1=_\/X.env.scope.names.lookup y.1=_;rw[ho];exact z
 .rcases h3 y hy with z|z
  .exact bQ e z
  .exact z
 .have hj:j<cY.length:=(eU.mp e1).1;have:=h5 j (pR.mpr hj);rw[e1,e2] at this;simp only[jy,beq_iff_eq] at this;rw[hN];exact this
section
variable{X:Cx}
def Y5:dB X (compareOp .Is) (λx y H Q=>∃a b,x=.bl a/\y=.bl b/\Q (.bl (a == b)) H):=by
 intro aa s Z H x y v u Q I rx ry h;obtain⟨a,b,rfl,rfl,q⟩:=h;cases rx;cases ry;exact is_bool (tN I q rfl)
def Ws:dB X (compareOp .IsNot) (λx y H Q=>∃a b,x=.bl a/\y=.bl b/\Q (.bl (a != b)) H):=by
 intro aa s Z H x y v u Q I rx ry h;obtain⟨a,b,rfl,rfl,q⟩:=h;cases rx;cases ry;exact isnot_bool (tN I q rfl)
def Br(K:aI)(H:Hp):V->String->Prop
 |.aJ,n=>n="NoneType"
 |.bl _,n=>n="bool"
 |.int _,n=>n="int"
 |.str _,n=>n="str"
 |.ref a,n=>(n="list"/\∃xs,cT K H a xs)\/(n="tuple"/\∃xs,ie K H a xs)
 |_,_=>False
def pI(k T:String):Bool:=k == T || (k == "bool" && T == "int")
def UJ:bX X (.builtin "isinstance") (λxs H Q=>∃x k T,xs=[x,.ty T]/\Br X.K H x k/\(T="int"\/T="str"\/T="bool"\/T="list"\/T="tuple")/\Q (.bl (pI k T)) H):=by
 intro aa s Z H xs us Q I r h;obtain⟨x,k,T,rfl,hk,hT,q⟩:=h;obtain⟨u,w',rfl,rx,ry⟩:=vals2 r;cases ry;have fin:∀b,b=pI k T->EP X aa Z Q (.bool b) s:=λb e=>tN I q e.symm
 have df:∀b,b=pI k T->EP X aa Z Q (.bool b) { s with toks:=s.toks+1}:=λb e=>tN (I.tok _) q e.symm
 cases x with
 |aJ=>
  cases rx;have hk:k="NoneType":=hk;subst hk;rcases hT with rfl|rfl|rfl|rfl|rfl
  .exact IsiPair.NoneType_int (df _ (by decide))
  .exact IsiPair.NoneType_str (df _ (by decide))
  .exact IsiPair.NoneType_bool (df _ (by decide))
  .exact IsiPair.NoneType_list (df _ (by decide))
  .exact IsiPair.NoneType_tuple (df _ (by decide))
 |bl b=>
  cases rx;have hk:k="bool":=hk;subst hk;rcases hT with rfl|rfl|rfl|rfl|rfl
  .exact IsiPair.bool_int (fin _ (by decide))
  .exact IsiPair.bool_str (df _ (by decide))
  .exact IsiPair.bool_bool (fin _ (by decide))
  .exact IsiPair.bool_list (df _ (by decide))
  .exact IsiPair.bool_tuple (df _ (by decide))
 |int i=>
  obtain⟨t,rfl⟩:=rx;have hk:k="int":=hk;subst hk;rcases hT with rfl|rfl|rfl|rfl|rfl
  .exact IsiPair.int_int (fin _ (by decide))
  .exact IsiPair.int_str (df _ (by decide))
  .exact IsiPair.int_bool (df _ (by decide))
  .exact IsiPair.int_list (df _ (by decide))
  .exact IsiPair.int_tuple (df _ (by decide))
 |str z=>
  obtain⟨t,rfl⟩:=rx;have hk:k="str":=hk;subst hk;rcases hT with rfl|rfl|rfl|rfl|rfl
  .exact IsiPair.str_int (df _ (by decide))
  .exact IsiPair.str_str (fin _ (by decide))
  .exact IsiPair.str_bool (df _ (by decide))
  .exact IsiPair.str_list (df _ (by decide))
  .exact IsiPair.str_tuple (df _ (by decide))
 |ref a=>
  cases rx;rcases hk with⟨hk,ys,hs⟩|⟨hk,ys,hs⟩
  .subst hk;obtain⟨aA,_,⟨o,n,e,hc,_⟩,_⟩:=I.list hs;rcases hT with rfl|rfl|rfl|rfl|rfl
   .exact IsiPair.list_int e hc (df _ (by decide))
   .exact IsiPair.list_str e hc (df _ (by decide))
   .exact IsiPair.list_bool e hc (df _ (by decide))
   .exact IsiPair.list_list e hc (fin _ (by decide))
   .exact IsiPair.list_tuple e hc (df _ (by decide))
  .subst hk;obtain⟨aA,_,⟨o,e,hc,_⟩,_⟩:=I.tuple hs;rcases hT with rfl|rfl|rfl|rfl|rfl
   .exact IsiPair.tuple_int e hc (df _ (by decide))
   .exact IsiPair.tuple_str e hc (df _ (by decide))
   .exact IsiPair.tuple_bool e hc (df _ (by decide))
   .exact IsiPair.tuple_list e hc (df _ (by decide))
   .exact IsiPair.tuple_tuple e hc (fin _ (by decide))
 |vf _=>exact False.elim hk
 |zZ _=>exact False.elim hk
 |ty _=>exact False.elim hk
def e6d{x:Str}{n:String}{pos:Pos}(hg:Gl X x)(hm:X.mg x=none)(hv:bootBuiltins x=some (.type n))(hn:x≠"__name__":=by decide)(hd:(x == ("__debug__":Str))=false:=by decide):PE X (.Name x pos) (tC (.ty n)):=
 V4 hg hm hv rfl hn hd
def R_{prog:cX}{A:cK}(aA:List ah)(bs:List Bool)(hv:Vals (bs.map V.bl) aA):TruthOf prog w A (λi v=>aA.toArray[i]?=some v) (λi=>bs.getD i false):=by
 intro i v s Q E hP hQ;have QU:aA[i]?=some v:=by simpa using hP
 have hl:=hv.length;rw[bJ] at hl;have hi:i<aA.length:=(eU.mp QU).1;have hb:(bs.map V.bl)[i]?=some (.bl bs[i]):=by simp[show i<bs.length by lia]
 obtain⟨u,hu,ru⟩:=hv.get hb;rw[QU] at hu;cases hu;cases ru;have e:bs.getD i false=bs[i]:=by simp[show i<bs.length by lia]
 have QV:Q (bs.getD i false) s:=hQ;rw[e] at QV;exact wpAny_truthy_bool QV
def Tf(bs:List Bool):(List.range bs.length).all (λi=>bs.getD i false)=bs.all id:=by
 rw[yX,kj,kj];constructor
 .intro h b hb;obtain⟨i,hi,e⟩:=List.mem_iff_getElem.mp hb
  simp_all
 .intro h i hi;have hi:=pR.mp hi;have:=h bs[i] (Gs hi);simp[hi];exact this
def Tg(hc:X.calm=true):bX X (.builtin "all") (λxs H Q=>∃(a:ai) (bs:List Bool),xs=[.ref a]/\cT X.K H a (bs.map V.bl)/\Q (.bl (bs.all id)) H):=by
 intro aa s Z H xs us Q I r h;obtain⟨a,bs,rfl,hs,q⟩:=h;obtain⟨u,rfl,ru⟩:=vals1 r;cases ru;obtain⟨aA,rv,p,hz⟩:=I.list hs;have hl:=rv.length;rw[bJ] at hl;refine call_all_walk (wpAny_pyIter_list p.isList ?_);have fU:a≠s.heap.objs.size:=by obtain⟨o,n,e,_⟩:=p;exact gd (cP e)
 refine⟨s.heap.objs.size,_,_,aA.toArray.size,_,_,λi=>bs.getD i false,rfl,Walks.list (A:=X.A.in1) (show X.A.in1.handled=none from I.ok.hd hc) _ a fU aA.toArray,⟨⟨_,iI _ rfl,rfl,rfl⟩,?_⟩,R_ aA bs rv,λh' tk hk=>?_⟩
 .exact p.isList.at λo e=>cU _ e
 .have e1:aA.toArray.size=bs.length:=by rw[dH,<-hl]
  refine⟨.bl (bs.all id),H,I.kept (h':=h') (t':=tk) (λb o e=>hk b o (λz=>bQ (fy (cP e) (DG (lW.mp z).symm)) (jz _)) (cU _ e)),?_,q⟩
  show Value.bool _=Value.bool _;rw[e1,Tf]
end
structure uT (K:aI) (mg:Str->aj ah) (x:Str) (st:Stmt) (f:ai) (fd:kI) (ps:List Str):Prop where
 fn:sk K x x st f fd
 mg:mg x=some (.ref f)
 bd:Binds K fd ps []
section
variable{X:Cx}{k:Nat}{f:ai}{fd:kI}{ps:List Str}{sp:Sp}{x:Str}{p pos:Pos}{e:Expr}{es:List Expr}{t:TA}{st:Stmt}
end
section
variable{X:Cx}{a b:Expr}{rest:List Expr}{pos:Pos}{ta tb:TE}{tA tB:TT}
end
def az.put{H H':Hp}{a:ai}{o:HO}(s:az H H')(h:H' a=none):az H (upd H' a o):=λb u e=>by
 have z:=s b u e;rw[c_ (qH z h)];exact z
def qJ{H:Hp}{a:ai}{o:HO}(h:H a=none):az H (upd H a o):=(az.refl H).put h
def UK{α:Type}{xs:List α}{k:Int}(d:α)(h0:0<=k)(hk:k<xs.length):dR xs k=some (xs.getD k.toNat d):=by
 have JU:k.toNat<xs.length:=by lia
 have e:xs[k.toNat]?=some (xs.getD k.toNat d):=by simp[JU]
 have z:=tH e
 rwa[show((k.toNat:Nat):Int)=k by lia] at z
def n8:bootBuiltins "list"=some (.type "list"):=by decide +kernel
def qO:bootBuiltins "len"=some (.builtin "len"):=by decide +kernel
section
variable{X:Cx}
noncomputable def pG(xs:List V)(k:Nat)(y:V):List V:=xs.take k++y::xs.drop k
def Sd(xs:List V)(k:Nat)(y:V):(pG xs k y).length=xs.length+1:=by
 grind [pG]
def OA:V->List V->Hp->VK->Prop:=λx vs H Q=>∃l xs i y,x=.ref l/\vs=[.int i,y]/\H l=some (.lst xs)/\0<=i/\i<2^62/\xs.length<sizeLine/\Q .aJ (upd H l (.lst (pG xs i.toNat y)))
theorem Th:zf X "list.insert" OA:=by
 intro aa s Z H x vs v us Q I rx rv h;obtain⟨l,xs,i,y,rfl,rfl,hH,h0,hi,hz,q⟩:=h;cases rx;obtain⟨u,u',rfl,⟨t,rfl⟩,ru⟩:=rv.two;obtain⟨z,aA,n,r,hl,e⟩:=I.yo hH;have JR:¬(!Builtin.List.listFitsIndex i)=true:=by
  grind [PySem.Builtin.List.listFitsIndex]
 refine call_meets F.slot_list_insert ⟨_,e,rfl⟩ F.entry_list_insert (F.args_list_insert_3 _ _ _) (PySem.AutoSeq1.list_insert_list_int_val_1 l aA.toArray n i t u' JR (by rw[dH];lia)) ⟨e,?_⟩
 refine⟨.aJ,_,I.ym (its':=aA.take i.toNat++u'::aA.drop i.toNat) hH e ?_ ((r.take i.toNat).append (.cons ru (r.drop i.toNat))) ?_,rfl,q⟩
 .have h1:¬i<0:=by lia
  simp only[h1,fS];apply Array.ext';simp only[Array.toList_append,Array.toList_push,Array.toList_extract,dH];rw[List.extract_eq_drop_take,List.extract_eq_drop_take];have e1:min i.toNat aA.length - 0=min i.toNat aA.length:=by lia
  rw[e1];simp only[List.drop_zero];have e2:aA.take (min i.toNat aA.length)=aA.take i.toNat:=by rw[List.take_eq_take_iff];lia
  rw[e2];by_cases hc:i.toNat<=aA.length
  .rw[Nat.min_eq_left hc,DJ (l:=List.drop i.toNat aA) (by rw[Ap];lia)]
   simp
  .have hc:aA.length<=i.toNat:=by lia
   rw[Nat.min_eq_right hc,Gu (bU _),Gu hc];simp
 .show(pG xs i.toNat y).length<=sizeLine;rw[Sd];lia
def GP(a c:Int)(n:Nat):It:=⟨λi _=>i<n,λi H x H'=>H'=H/\x=.int (a+i*c),λi _=>n<=i⟩
def Se{P:cX}{w:cA}{K:aI}{tg:Expr}(it:ai)(a c:Int)(n:Nat):Turn P w K tg (GP a c n) [it] it (λi h=>IsRangeIter h it (a+(i:Nat)*c) ((n:Int) - (i:Nat)) c) where
 mem:=by simp
 obj:=λi h st b hb=>by
  simp_all
 keep:=λi h h' st k=>k it (by simp) _ st
 item:=by
  intro X hP hw hK hc i aa s Z H E I hf st hg;subst hP hw hK;obtain⟨f0,f1,f2,f3,f4,f5⟩:=hf it (by simp)
  have W:=Walks.range (prog:=X.prog) (w:=X.w) (I.ok.hd hc) it a c n;refine W.item i s _ _ hg st λv h' tk hv jw kk=>?_
  obtain⟨t,rfl⟩:=hv;have I1:Inv X aa Z H { s with heap:=h',toks:=tk}:=I.turned (λb o hb e=>kk b o (by simpa using hb) e) f0 f1 f3 f4 f5
  exact⟨_,rfl,xt (s:={ s with heap:=h',toks:=tk}) (n:="range_iterator") jw rfl rfl (by decide) ⟨.int (a+i*c),H,I1,⟨t,rfl⟩,⟨rfl,rfl⟩,jw,λb hb=>(hf b hb).1⟩⟩
 done:=by
  intro X hP hw hK hc i aa s Z H E I hf st hg;subst hP hw hK;obtain⟨f0,f1,f2,f3,f4,f5⟩:=hf it (by simp)
  exact wpAny_pyNext_range_end (I.ok.hd hc) st (by have:n<=i:=hg;lia) λh' eb=>⟨rfl,I.turned (t':=s.toks) (λb o hb e=>eb b o hb e) f0 f1 f3 f4 f5⟩
 self:=λ_ _ _ _ _ st h=>wpAny_pyIter_rangeiter st h
def CS:V->aj Int->aj Int->Hp->VK->Prop:=λx lo hi H Q=>∃z,x=.str z/\z.length<=sizeLine/\Q (.str (Txt.slice z lo hi)) H
theorem yP:qF X CS:=by
 intro aa s Z H x v vl vu lo hi sl Q I rx hs pl pu h;obtain⟨z,rfl,hz,q⟩:=h;obtain⟨t,rfl⟩:=rx;refine⟨"str",_,F.slot_str_getitem.lookup,typeIs_str _ _ _,?_⟩;have fin:∀t' k,EP X aa Z Q (.str (Txt.slice z lo hi) t') { s with toks:=k}:=λt' k=>⟨.str _,H,I.tok _,⟨_,rfl⟩,q⟩
 cases pl with
 |none=>
  cases pu with
  |none=>exact wpAny_getItem_str_slice (l:=none) (u:=none) (st:=none) hs rfl (post_val_or_str ⟨iU (Txt.slice_le z _ _) hz,fin⟩)
  |int j tj=>exact wpAny_getItem_str_slice (l:=none) (u:=some (j,tj)) (st:=none) hs rfl (post_val_or_str ⟨iU (Txt.slice_le z _ _) hz,fin⟩)
 |int i ti=>
  cases pu with
  |none=>exact wpAny_getItem_str_slice (l:=some (i,ti)) (u:=none) (st:=none) hs rfl (post_val_or_str ⟨iU (Txt.slice_le z _ _) hz,fin⟩)
  |int j tj=>exact wpAny_getItem_str_slice (l:=some (i,ti)) (u:=some (j,tj)) (st:=none) hs rfl (post_val_or_str ⟨iU (Txt.slice_le z _ _) hz,fin⟩)
def Su:dB X (binaryOp .Mult) (λx y H Q=>∃z n,x=.str z/\y=.int n/\MulOk z n/\Q (.str (Txt.mul z n)) H):=by
 intro aa s Z H x y v u Q I rx ry h;obtain⟨z,n,rfl,rfl,hm,q⟩:=h;obtain⟨t,rfl⟩:=rx;obtain⟨t',rfl⟩:=ry;exact SB.mul hm λt' k=>⟨.str _,H,I.tok _,⟨_,rfl⟩,q⟩
end
section
variable{X:Cx}{aa:List (ai×Obj)}{Z:St}{H:Hp}{s:ao}
def Vals.at{xs:List V}{us:List ah}(r:Vals xs us){j:Nat}(h:j<us.toArray.size):∃x,xs[j]?=some x/\RelV x us.toArray[j]:=by
 have hl:=r.length;have h':j<us.length:=by simpa using h
 have hx:xs[j]?=some xs[j]:=by simp[show j<xs.length by lia]
 obtain⟨u,hu,ru⟩:=r.get hx
 simp_all
end
section
variable{X:Cx}
def UL(K:aI)(hK:X.K=K:=by rfl):o6 X (yI K):=hK ▸ Wl
def Wt(K:aI)(hK:X.K=K:=by rfl):o6 X (yJ K):=hK ▸ Y3
def RY(K:aI)(hK:X.K=K:=by rfl):bX X (.builtin "len") (λxs H Q=>∃p ys,xs=[.ref p]/\(cT K H p ys\/ie K H p ys)/\Q (.int ys.length) H):=hK ▸ R5
def UM(K:aI)(hK:X.K=K:=by rfl):qF X (yK K):=hK ▸ Wm
def Wu(K:aI)(hK:X.K=K:=by rfl):qF X (yL K):=hK ▸ Y2
def Ti(K:aI)(hK:X.K=K:=by rfl):bX X (.builtin "isinstance") (λxs H Q=>∃x k T,xs=[x,.ty T]/\Br K H x k/\(T="int"\/T="str"\/T="bool"\/T="list"\/T="tuple")/\Q (.bl (pI k T)) H):=hK ▸ UJ
def RZ(K:aI)(hK:X.K=K:=by rfl):bX X (.type "list") (λxs H Q=>∃p ys,xs=[.ref p]/\(cT K H p ys\/ie K H p ys)/\∀l,H l=none->Q (.ref l) (upd H l (.lst ys))):=hK ▸ R6
end
end L2
set_option autoImplicit false
namespace L2
open PySem PySem.Spec PyProof.Rows
theorem Ey{α β:Type}{R:α->β->Prop}:∀{l:List α} {m:List β} (i:Nat) {b:β},Paired R l m->m[i]?=some b->∃a,l[i]?=some a/\R a b
 |_,_,_,_,.nil,e=>by simp at e
 |_,_,0,_,.cons r _,e=>by simp at e;subst e;exact⟨_,rfl,r⟩
 |_,_,i+1,_,.cons _ t,e=>by
  obtain⟨a,h1,h2⟩:=Ey i t (by simpa using e)
  simp_all
def A1{α β:Type}{R:α->β->Prop}:∀{l:List α} {m:List β} (i:Nat) {a:α},Paired R l m->l[i]?=some a->∃b,m[i]?=some b/\R a b:=by
 intro l m i a h e
 induction h generalizing i with
 |nil=>simp at e
 |cons r _ ih=>cases i with
  |zero=>simp at e;subst e;exact⟨_,rfl,r⟩
  |succ i=>exact ih i (by simpa using e)
inductive D where
 |aJ|bl (b:Bool)|int (i:Int)|str (x:Str)|ty (n:String)|ref (n:Nat)
 |lst (xs:List D)|tup (xs:List D)|ay (kvs:List (TK×D))
mutual
def TK.d:TK->D
 |.inl i=>.int i
 |.inr x=>.str x
 |.tp l=>.tup (TK.dl l)
 |.aJ=>.aJ
def TK.dl:List TK->List D
 |[]=>[]
 |k::l=>TK.d k::TK.dl l
end
noncomputable def vb:D->aj V
 |.aJ=>some .aJ
 |.bl b=>some (.bl b)
 |.int i=>some (.int i)
 |.str x=>some (.str x)
 |.ty n=>some (.ty n)
 |_=>none
structure Kn where
 F:Hp
 A:List ai
 T:List ai
inductive ag (K:aI) (k:Kn):List V->List D->Prop
 |nil:ag K k [] []
 |flat {v:V} {d:D} {vs:List V} {ds:List D}:vb d=some v->ag K k vs ds->ag K k (v::vs) (d::ds)
 |ref {n:Nat} {a:ai} {vs:List V} {ds:List D}:k.A[n]?=some a->ag K k vs ds->ag K k (.ref a::vs) (.ref n::ds)
 |lst {a:ai} {ws vs:List V} {es ds:List D}:cT K k.F a ws->ag K k ws es->ag K k vs ds->ag K k (.ref a::vs) (.lst es::ds)
 |tup {a:ai} {ws vs:List V} {es ds:List D}:ie K k.F a ws->ag K k ws es->ag K k vs ds->ag K k (.ref a::vs) (.tup es::ds)
 |ay {a:ai} {kvs:List (TK×V×V)} {es:List (TK×D)} {ep:Nat} {vs:List V} {ds:List D}:k.F a=some (.dG kvs ep)->kvs.map (·.1)=es.map (·.1)->ag K k (kvs.map (·.2.1)) (es.map (·.1.d))->ag K k (kvs.map (·.2.2)) (es.map (·.2))->ag K k vs ds->ag K k (.ref a::vs) (.ay es::ds)
def az.rd{H H':Hp}{a:ai}{u:HO}(e:az H H')(h:Rd H a u):Rd H' a u:=by
 rcases h with h|⟨o,h⟩
 .exact .inl (e _ _ h)
 .exact .inr ⟨o,e _ _ h⟩
def az.yQ{K:aI}{H H':Hp}{a:ai}{xs:List V}(e:az H H')(h:ie K H a xs):ie K H' a xs:=h.imp e.rd id
def az.K_{K:aI}{H H':Hp}{a:ai}{xs:List V}(e:az H H')(h:cT K H a xs):cT K H' a xs:=h.imp e.rd id
structure Kn.le (k k':Kn):Prop where
 f:az k.F k'.F
 a:k.A <+: k'.A
def Ff{α:Type}{l l':List α}{n:Nat}{x:α}(h:l <+: l')(e:l[n]?=some x):l'[n]?=some x:=by
 obtain⟨t,rfl⟩:=h;rw[uQ (eU.mp e).1];exact e
section
variable{K:aI}{k k':Kn}{v:V}{vs ws:List V}{d:D}{ds es:List D}
def ag.mono(s:k.le k')(h:ag K k vs ds):ag K k' vs ds:=by
 induction h with
 |nil=>exact .nil
 |flat e _ ih=>exact .flat e ih
 |ref e _ ih=>exact .ref (Ff s.a e) ih
 |lst e _ _ i1 i2=>exact .lst (s.f.K_ e) i1 i2
 |tup e _ _ i1 i2=>exact .tup (s.f.yQ e) i1 i2
 |ay e q _ _ _ i0 i1 i2=>exact .ay (s.f _ _ e) q i0 i1 i2
def ag.length(h:ag K k vs ds):vs.length=ds.length:=by
 induction h with
 |nil=>rfl
 |flat _ _ ih=>exact congrArg _ ih
 |ref _ _ ih=>exact congrArg _ ih
 |lst _ _ _ _ ih=>exact congrArg _ ih
 |tup _ _ _ _ ih=>exact congrArg _ ih
 |ay _ _ _ _ _ _ _ ih=>exact congrArg _ ih
def ag.inv(h:ag K k (v::vs) (d::ds)):ag K k [v] [d]/\ag K k vs ds:=by
 cases h with
 |flat e t=>exact⟨.flat e .nil,t⟩
 |ref e t=>exact⟨.ref e .nil,t⟩
 |lst e i t=>exact⟨.lst e i .nil,t⟩
 |tup e i t=>exact⟨.tup e i .nil,t⟩
 |ay e q j i t=>exact⟨.ay e q j i .nil,t⟩
def ag.cons(h:ag K k [v] [d])(t:ag K k vs ds):ag K k (v::vs) (d::ds):=by
 cases h with
 |flat e _=>exact .flat e t
 |ref e _=>exact .ref e t
 |lst e i _=>exact .lst e i t
 |tup e i _=>exact .tup e i t
 |ay e q j i _=>exact .ay e q j i t
def ag.cg(h:ag K k vs (d::ds)):∃w us,vs=w::us/\ag K k [w] [d]/\ag K k us ds:=by
 cases vs with
 |nil=>have:=h.length;cases this
 |cons w us=>exact⟨w,us,rfl,h.inv⟩
def ag.fP(h:ag K k vs []):vs=[]:=List.eq_nil_of_length_eq_zero h.length
def ag.get{i:Nat}(h:ag K k vs ds)(e:ds[i]?=some d):∃v,vs[i]?=some v/\ag K k [v] [d]:=by
 induction ds generalizing vs i with
 |nil=>cases e
 |cons x ds ih=>
  obtain⟨w,us,rfl,h1,h2⟩:=h.cg;cases i with
  |zero=>cases e;exact⟨w,rfl,h1⟩
  |succ i=>exact ih (vs:=us) (i:=i) h2 e
def ag.append(h:ag K k vs ds)(t:ag K k ws es):ag K k (vs++ws) (ds++es):=by
 induction ds generalizing vs with
 |nil=>rw[h.fP];exact t
 |cons x ds ih=>
  obtain⟨w,us,rfl,h1,h2⟩:=h.cg;exact .cons h1 (ih h2)
def ag.take(n:Nat)(h:ag K k vs ds):ag K k (vs.take n) (ds.take n):=by
 induction n generalizing vs ds with
 |zero=>exact .nil
 |succ n ih=>
  cases ds with
  |nil=>rw[h.fP];exact .nil
  |cons x ds=>
   obtain⟨w,us,rfl,h1,h2⟩:=h.cg;exact .cons h1 (ih h2)
def ag.drop(n:Nat)(h:ag K k vs ds):ag K k (vs.drop n) (ds.drop n):=by
 induction n generalizing vs ds with
 |zero=>exact h
 |succ n ih=>
  cases ds with
  |nil=>rw[h.fP];exact .nil
  |cons x ds=>
   obtain⟨w,us,rfl,h1,h2⟩:=h.cg;exact ih h2
def UN(ns:List Int):ag K k (ns.map V.int) (ns.map D.int):=by
 induction ns with
 |nil=>exact .nil
 |cons n ns ih=>exact .flat rfl ih
def ag.a_{u:V}(h:ag K k [v] [d])(e:vb d=some u):v=u:=by
 cases h with
 |flat q _=>rw[e] at q;exact(Option.some.inj q).symm
 |_=>cases e
def ag.isRef{n:Nat}(h:ag K k [v] [.ref n]):∃a,v=.ref a/\k.A[n]?=some a:=by
 cases h with
 |flat q _=>cases q
 |ref e _=>exact⟨_,rfl,e⟩
def ag.vz(h:ag K k [v] [.lst es]):∃a ws,v=.ref a/\cT K k.F a ws/\ag K k ws es:=by
 cases h with
 |flat q _=>cases q
 |lst e i _=>exact⟨_,_,rfl,e,i⟩
def ag.isTup(h:ag K k [v] [.tup es]):∃a ws,v=.ref a/\ie K k.F a ws/\ag K k ws es:=by
 cases h with
 |flat q _=>cases q
 |tup e i _=>exact⟨_,_,rfl,e,i⟩
def ag.vy{kvs:List (TK×D)}(h:ag K k [v] [.ay kvs]):∃a es ep,v=.ref a/\k.F a=some (.dG es ep)/\es.map (·.1)=kvs.map (·.1)/\ag K k (es.map (·.2.1)) (kvs.map (·.1.d))/\ag K k (es.map (·.2.2)) (kvs.map (·.2)):=by
 cases h with
 |flat q _=>cases q
 |ay e q j i _=>exact⟨_,_,_,rfl,e,q,j,i⟩
end
end L2
set_option autoImplicit false
namespace L2
open PySem PySem.Spec PyProof.Rows
inductive Bx where
 |lst (xs:List D)|ay (kvs:List (TK×D))
noncomputable def Bx.d:Bx->D
 |.lst xs=>.lst xs
 |.ay kvs=>.ay kvs
inductive Cell where
 |o (c:Bx)|z (c:Bx)|ins (C:ai) (fs:List (Str×D))
structure aR where
 s:List Cell
 r:List Cell
inductive Val where
 |d (x:D)|c (n:Nat)
abbrev Gm:=List (aj Val)
inductive Rv where
 |v (x:Val)|o (c:Bx)
inductive Rs (α:Type) where
 |ok (a:α) (S:aR)|ex (C:ai) (l:aj Int) (S:aR)
abbrev Gx(α:Type):=Gm->aR->aj (Rs α)
def bd{α β:Type}(x:aj (Rs α))(f:α->aR->aj (Rs β)):aj (Rs β):=match x with
 |none=>none
 |some (.ok a S)=>f a S
 |some (.ex C l S)=>some (.ex C l S)
noncomputable def uf:Nat->HO->Bool
 |0,_=>false
 |1,.dG _ _=>true
 |1,_=>false
 |_,_=>true
def dz(K:aI)(k:Kn)(H:Hp)(a:ai):Bx->Prop
 |.lst xs=>∃ws,H a=some (.lst ws)/\ag K k ws xs
 |.ay kvs=>∃es ep,H a=some (.dG es ep)/\es.map (·.1)=kvs.map (·.1)/\ag K k (es.map (·.2.1)) (kvs.map (·.1.d))/\ag K k (es.map (·.2.2)) (kvs.map (·.2))
def ba(K:aI)(k:Kn)(H:Hp)(a:ai):Cell->Prop
 |.o c=>k.F a=none/\dz K k H a c
 |.z c=>k.F a≠none/\ag K k [.ref a] [c.d]
 |.ins C fs=>k.F a=none/\∃dx gs,H a=some (.ins C dx gs)/\gs.map (·.1)=fs.map (·.1)/\ag K k (gs.map (·.2)) (fs.map (·.2))
structure Lay (K:aI) (k:Kn) (H:Hp) (as:List ai) (cs:List Cell):Prop where
 ln:as.length=cs.length
 at':∀(n:Nat) (a:ai) (c:Cell),as[n]?=some a->cs[n]?=some c->ba K k H a c
structure cf (K:aI) (k:Kn) (H:Hp) (S:aR):Prop where
 le:az k.F H
 nd:(k.A++k.T).Nodup
 r:Lay K k H k.A S.r
 s:Lay K k H k.T S.s
structure Up (q:Nat) (k:Kn) (H:Hp) (k':Kn) (H':Hp):Prop where
 f:az k.F k'.F
 a:k.A <+: k'.A
 t:k.T <+: k'.T
 h:∀a o,uf q o=true->H a=some o->H' a=some o
def cV(K:aI)(k:Kn)(x:V):Val->Prop
 |.d y=>ag K k [x] [y]
 |.c n=>∃a,x=.ref a/\k.T[n]?=some a
structure gj (K:aI) (k:Kn) (Z:St) (U:Gm):Prop where
 ln:Z.length=U.length
 at':∀(i:Nat) (v:Val),U[i]?=some (some v)->∃x,Z[i]?=some (some x)/\cV K k x v
def nz(K:aI)(k:Kn)(H:Hp)(x:V):Rv->Prop
 |.v y=>cV K k x y
 |.o c=>∃a,x=.ref a/\k.F a=none/\a∉k.A++k.T/\dz K k H a c
section
variable{q:Nat}{K:aI}{k k' Q9:Kn}{F' H H' AD:Hp}{S S':aR}{Z:St}{U:Gm}{n:Nat}{a:ai}{as:List ai}{cs:List Cell}{c:Cell}{b:Bx}
theorem Kn.le.refl:k.le k:=⟨az.refl _,kH _⟩
def Up.le(u:Up q k H k' H'):k.le k':=⟨u.f,u.a⟩
theorem Up.refl:Up q k H k H:=⟨az.refl _,kH _,kH _,λ_ _ _ h=>h⟩
theorem Up.trans(x:Up q k H k' H')(y:Up q k' H' Q9 AD):Up q k H Q9 AD:=⟨x.f.trans y.f,x.a.trans y.a,x.t.trans y.t,λa o z h=>y.h a o z (x.h a o z h)⟩
def Up.of{F':Hp}(s:az k.F F')(t:az H H'):Up q k H ⟨F',k.A,k.T⟩ H':=⟨s,kH _,kH _,λa o _ h=>t a o h⟩
def cV.up{x:V}{v:Val}(h:cV K k x v)(u:Up q k H k' H'):cV K k' x v:=by
 cases v with
 |d y=>exact ag.mono u.le h
 |c n=>obtain⟨a,e,z⟩:=h;exact⟨a,e,Ff u.t z⟩
theorem uV.up{xs:List V}{vs:List Val}(h:Paired (cV K k) xs vs)(u:Up q k H k' H'):Paired (cV K k') xs vs:=Paired.Cv h λ_ _ r=>r.up u
theorem gj.up(h:gj K k Z U)(u:Up q k H k' H'):gj K k' Z U:=⟨h.ln,λi v e=>let ⟨x,z,r⟩:=h.at' i v e;⟨x,z,r.up u⟩⟩
def dz.keep(h:dz K k H a b)(s:k.le k')(e:∀o,H a=some o->H' a=some o):dz K k' H' a b:=by
 cases b with
 |lst xs=>obtain⟨ws,z,r⟩:=h;exact⟨ws,e _ z,r.mono s⟩
 |ay kvs=>obtain⟨es,ep,z,q,r,t⟩:=h;exact⟨es,ep,e _ z,q,r.mono s,t.mono s⟩
theorem ba.keep(h:ba K k H a c)(s:k.le k')(e:∀o,H a=some o->H' a=some o)(fr:k.F a=none->k'.F a=none):ba K k' H' a c:=by
 cases c with
 |o b=>exact⟨fr h.1,h.2.keep s e⟩
 |z b=>exact⟨λz=>h.1 (s.f.free z),h.2.mono s⟩
 |ins C fs=>obtain⟨h0,dx,gs,h1,h2,h3⟩:=h;exact⟨fr h0,dx,gs,e _ h1,h2,h3.mono s⟩
def dz.there(h:dz K k H a b):H a≠none:=λz=>by
 cases b with
 |lst xs=>obtain⟨_,e,_⟩:=h;rw[e] at z;cases z
 |ay kvs=>obtain⟨_,_,e,_⟩:=h;rw[e] at z;cases z
theorem ba.there(h:ba K k H a c)(le:az k.F H):H a≠none:=by
 cases c with
 |o b=>exact h.2.there
 |z b=>exact λz=>h.1 (le.free z)
 |ins C fs=>obtain⟨_,dx,gs,h1,_⟩:=h;rw[h1];exact λz=>nomatch z
def Lay.get(h:Lay K k H as cs)(e:as[n]?=some a):∃c,cs[n]?=some c/\ba K k H a c:=by
 have hn:n<cs.length:=h.ln ▸ (eU.mp e).1;exact⟨_,gz hn,h.at' n a _ e (gz hn)⟩
def Lay.keep(h:Lay K k H as cs)(f:∀a∈as,∀c,ba K k H a c->ba K k' H' a c):Lay K k' H' as cs:=⟨h.ln,λn a c e1 e2=>f a (pT e1) c (h.at' n a c e1 e2)⟩
def OB{α:Type}{l:List α}{x y:α}(e:(l++[x])[n]?=some y):l[n]?=some y\/(n=l.length/\y=x):=by
 by_cases h:n<l.length
 .rw[uQ h] at e;exact .inl e
 .have h1:=Nat.le_of_not_lt h;rw[sV h1] at e;have h2:n - l.length=0:=Nat.lt_one_iff.mp (eU.mp e).1;rw[h2] at e;cases e;exact .inr ⟨by lia,rfl⟩
def EY{α:Type}{l:List α}{x:α}:(l++[x])[l.length]?=some x:=by rw[sV (bU _),LC];rfl
def Lay.push(h:Lay K k H as cs)(hc:ba K k H a c):Lay K k H (as++[a]) (cs++[c]):=by
 refine⟨by rw[dw,dw,h.ln];rfl,λn b d e1 e2=>?_⟩
 rcases OB e1 with e1|⟨z,rfl⟩ <;> rcases OB e2 with e2|⟨y,rfl⟩
 .exact h.at' n b d e1 e2
 .exact bQ (eU.mp e1).1 (by rw[y,h.ln];exact jz _)
 .exact bQ (eU.mp e2).1 (by rw[z,h.ln];exact jz _)
 .exact hc
def NF{α:Type}{l:List α}{i j:Nat}{x:α}(nd:l.Nodup)(e1:l[i]?=some x)(e2:l[j]?=some x):i=j:=by
 obtain⟨h1,z1⟩:=eU.mp e1;obtain⟨h2,z2⟩:=eU.mp e2;exact(An nd).mp (z1.trans z2.symm)
def Lay.set(h:Lay K k H as cs)(nd:as.Nodup)(ha:as[n]?=some a)(hc:ba K k' H' a c)(f:∀b∈as,b≠a->∀c,ba K k H b c->ba K k' H' b c):Lay K k' H' as (cs.set n c):=by
 refine⟨by rw[v7];exact h.ln,λj b d e1 e2=>?_⟩
 by_cases e0:n=j
 .subst e0;rw[uO (h.ln ▸ (eU.mp ha).1)] at e2;cases e2;cases ha.symm.trans e1;exact hc
 .rw[Ao e0] at e2;exact f b (pT e1) (λz=>e0 (NF nd ha (z ▸ e1))) d (h.at' j b d e1 e2)
def Lay.take(h:Lay K k H as cs)(m:Nat):Lay K k H (as.take m) (cs.take m):=by
 refine⟨by rw[v5,v5,h.ln],λj b d e1 e2=>?_⟩
 rw[List.getElem?_take] at e1 e2;split at e1
 .rename_i hj
  rw[bL hj] at e2;exact h.at' j b d e1 e2
 .cases e1
theorem Lay.there(h:Lay K k H as cs)(le:az k.F H):∀a∈as,H a≠none:=λa m=>by
 obtain⟨n,e⟩:=yY.mp m;obtain⟨c,_,hc⟩:=h.get e;exact hc.there le
theorem cf.there(h:cf K k H S):∀a∈k.A++k.T,H a≠none:=λa m=>(gw.mp m).elim (h.r.there h.le a) (h.s.there h.le a)
def cf.fresh(h:cf K k H S)(e:H a=none):k.F a=none/\a∉k.A++k.T:=⟨h.le.free e,λm=>h.there a m e⟩
def cf.new(h:cf K k H S)(s1:az k.F F')(s2:∀a∈k.A++k.T,∀o,H a=some o->H' a=some o)(s3:az F' H')(fr:∀p∈k.A++k.T,k.F p=none->F' p=none):cf K ⟨F',k.A,k.T⟩ H' S:=
 have go:∀a∈k.A++k.T,∀c,ba K k H a c->ba K ⟨F',k.A,k.T⟩ H' a c:=λa m _ q=>q.keep ⟨s1,kH _⟩ (s2 a m) (fr a m)
 ⟨s3,h.nd,h.r.keep λa m=>go a (DF _ m),h.s.keep λa m=>go a (mZ _ m)⟩
def ba.le(h:ba K k H a c)(s:k.le k')(e:k.F=k'.F):ba K k' H a c:=h.keep s (λ_ z=>z) λz=>by rw[<-e];exact z
def HX{α:Type}{l:List α}{x:α}:l <+: l++[x]:=List.prefix_append _ _
def Y6{α:Type}{l m:List α}{x:α}(h:(l++m).Nodup)(n:x∉l++m):((l++[x])++m).Nodup:=by
 rw[lX];exact(List.perm_middle (l₁:=l) (l₂:=m) (a:=x)).nodup_iff.mpr (sf.mpr ⟨n,h⟩)
def cf.pushS(h:cf K k H S)(hF:k.F a=none)(hn:a∉k.A++k.T)(hb:dz K k H a b):cf K ⟨k.F,k.A,k.T++[a]⟩ H ⟨S.s++[.o b],S.r⟩/\∀q,Up q k H ⟨k.F,k.A,k.T++[a]⟩ H:=by
 have go:k.le ⟨k.F,k.A,k.T++[a]⟩:=⟨az.refl _,kH _⟩;refine⟨⟨h.le,?_,h.r.keep λ_ _ _ z=>z.le go rfl,(h.s.push (c:=.o b) ⟨hF,hb⟩).keep λ_ _ _ z=>z.le go rfl⟩,λq=>⟨az.refl _,kH _,HX,λ_ _ _ z=>z⟩⟩
 rw[<-lX];exact lY.mpr ⟨h.nd,by simp,λx m y m' e=>hn (by rw[lW.mp m'] at e;exact e ▸ m)⟩
def cf.vK(h:cf K k H S)(hn:a∉k.A++k.T)(hc:ba K k H a c):cf K ⟨k.F,k.A++[a],k.T⟩ H ⟨S.s,S.r++[c]⟩/\∀q,Up q k H ⟨k.F,k.A++[a],k.T⟩ H:=by
 have go:k.le ⟨k.F,k.A++[a],k.T⟩:=⟨az.refl _,HX⟩;exact⟨⟨h.le,Y6 h.nd hn,(h.r.push hc).keep λ_ _ _ z=>z.le go rfl,h.s.keep λ_ _ _ z=>z.le go rfl⟩,λq=>⟨az.refl _,HX,kH _,λ_ _ _ z=>z⟩⟩
def kK(H H':Hp)(a:ai):Prop:=∀b,b≠a->H' b=H b
def A4{o:HO}:kK H (upd H a o) a:=λ_ z=>c_ z
def cf.chg(h:cf K k H S)(ho:kK H H' a)(hF:k.F a=none)(hq:∀o,H a=some o->uf q o=false):az k.F H'/\Up q k H k H'/\∀b,b≠a->∀c,ba K k H b c->ba K k H' b c:=
 ⟨λb o e=>by rw[ho b λz=>by rw[z,hF] at e;cases e];exact h.le b o e,⟨az.refl _,kH _,kH _,λb o e z=>by
  by_cases y:b=a
  .simp_all
  .rw[ho b y];exact z⟩,λb y c z=>z.keep .refl (λo e=>by rw[ho b y];exact e) id⟩
def cf.CW(h:cf K k H S)(ha:k.A[n]?=some a)(ho:kK H H' a)(hF:k.F a=none)(hq:∀o,H a=some o->uf q o=false)(hc:ba K k H' a c):cf K k H' ⟨S.s,S.r.set n c⟩/\Up q k H k H':=by
 obtain⟨h1,h2,h3⟩:=h.chg ho hF hq;obtain⟨n1,n2,n3⟩:=lY.mp h.nd;exact⟨⟨h1,h.nd,h.r.set n1 ha hc λb _=>h3 b,h.s.keep λb m=>h3 b λz=>n3 a (pT ha) b m z.symm⟩,h2⟩
def cf.K2(h:cf K k H S)(ha:k.T[n]?=some a)(ho:kK H H' a)(hF:k.F a=none)(hq:∀o,H a=some o->uf q o=false)(hc:ba K k H' a c):cf K k H' ⟨S.s.set n c,S.r⟩/\Up q k H k H':=by
 obtain⟨h1,h2,h3⟩:=h.chg ho hF hq;obtain⟨n1,n2,n3⟩:=lY.mp h.nd;exact⟨⟨h1,h.nd,h.r.keep λb m=>h3 b λz=>n3 b m a (pT ha) z,h.s.set n2 ha hc λb _=>h3 b⟩,h2⟩
def dz.Y(h:dz K k H a b)(le:az k.F H)(hF:k.F a=none):∃o,H a=some o/\az k.F (upd k.F a o)/\az (upd k.F a o) H/\ag K ⟨upd k.F a o,k.A,k.T⟩ [.ref a] [b.d]:=by
 have sm:∀o,az k.F (upd k.F a o):=λo=>qJ hF
 have sh:∀o,H a=some o->az (upd k.F a o) H:=λo e p u q=>by
  by_cases z:p=a
  .grind [aH]
  .rw[c_ z] at q;exact le p u q
 cases b with
 |lst xs=>
  obtain⟨ws,e,r⟩:=h;exact⟨_,e,sm _,sh _ e,.lst (.inl (.inl aH)) (r.mono ⟨sm _,kH _⟩) .nil⟩
 |ay kvs=>
  obtain⟨es,ep,e,q,r,t⟩:=h;exact⟨_,e,sm _,sh _ e,.ay aH q (r.mono ⟨sm _,kH _⟩) (t.mono ⟨sm _,kH _⟩) .nil⟩
def cf.JA(h:cf K k H S)(hF:k.F a=none)(hn:a∉k.A++k.T)(hb:dz K k H a b):∃F',cf K ⟨F',k.A,k.T⟩ H S/\(∀q,Up q k H ⟨F',k.A,k.T⟩ H)/\ag K ⟨F',k.A,k.T⟩ [.ref a] [b.d]:=by
 obtain⟨o,e,s1,s2,rp⟩:=hb.Y h.le hF;exact⟨_,h.new s1 (λ_ _ _ z=>z) s2 λp m z=>by rw[c_ (show p≠a from λy=>hn (y ▸ m))];exact z,λq=>.of s1 (az.refl _),rp⟩
def cf.JB(h:cf K k H S)(ha:k.T[n]?=some a)(hc:S.s[n]?=some (.o b)):∃F',cf K ⟨F',k.A,k.T⟩ H ⟨S.s.set n (.z b),S.r⟩/\(∀q,Up q k H ⟨F',k.A,k.T⟩ H)/\ag K ⟨F',k.A,k.T⟩ [.ref a] [b.d]:=by
 obtain⟨hF,hb⟩:=h.s.at' n a _ ha hc;obtain⟨o,e,s1,s2,rp⟩:=hb.Y h.le hF;obtain⟨n1,n2,n3⟩:=lY.mp h.nd;have go:∀p,p≠a->∀c,ba K k H p c->ba K ⟨upd k.F a o,k.A,k.T⟩ H p c:=λp y c z=>z.keep ⟨s1,kH _⟩ (λ_ z=>z) λz=>(c_ y).trans z
 exact⟨_,⟨s2,h.nd,h.r.keep λp m=>go p λz=>n3 p m a (pT ha) z,h.s.set n2 ha (c:=.z b) ⟨λz=>(nomatch aH.symm.trans z),rp⟩ λp _=>go p⟩,λq=>.of s1 (az.refl _),rp⟩
theorem cf.take(h:cf K k H S)(m:Nat):cf K ⟨k.F,k.A,k.T.take m⟩ H ⟨S.s.take m,S.r⟩:=
 have go:k.le ⟨k.F,k.A,k.T.take m⟩:=⟨az.refl _,kH _⟩
 ⟨h.le,h.nd.sublist ((List.Sublist.refl _).append (List.take_sublist _ _)),h.r.keep λ_ _ _ z=>z.le go rfl,(h.s.take m).keep λ_ _ _ z=>z.le go rfl⟩
def NG{α:Type}{l l':List α}{m:Nat}(h:l <+: l')(hm:l.length<=m):l <+: l'.take m:=by
 grind
def Up.take(u:Up q k H k' H'){m:Nat}(h:k.T.length<=m):Up q k H ⟨k'.F,k'.A,k'.T.take m⟩ H':=⟨u.f,u.a,NG u.t h,u.h⟩
end
end L2
set_option autoImplicit false
namespace L2
open PySem PySem.Spec PyProof.Rows
variable{X:Cx}{e:Expr}{t:TE}{t':TT}{v x:V}{k:Kn}{S:aR}{r:R2}{Q:List V->Hp->Prop}{vs:List Val}{ds:List D}{o:List D->aj Rv}
def PE.mono{t':TE}(h:PE X e t)(m:∀Z H Q,t' Z H Q->t Z H Q):PE X e t':=λaa s Z H Q I q=>h aa s Z H Q I (m _ _ _ q)
def PT.mono{t:TT}(h:PT X e t)(m:∀Z H Q,t' Z H Q->t Z H Q):PT X e t':=λaa s Z H Q I q=>h aa s Z H Q I (m _ _ _ q)
def PW.mono{t:TT}(h:PW X e t)(m:∀Z H Q,t' Z H Q->t Z H Q):PW X e t':=λwh aa s Z H Q I q=>h wh aa s Z H Q I (m _ _ _ q)
def PA.mono{e:List Expr}{t t':TA}(h:PA X e t)(m:∀Z H Q,t' Z H Q->t Z H Q):PA X e t':=λpos aa s Z H Q I q=>h pos aa s Z H Q I (m _ _ _ q)
def PS.mono{e:Stmt}{t t':TS}(h:PS X e t)(m:∀D Z H,t' D Z H->t D Z H):PS X e t':=λaa s Z H D I q=>h aa s Z H D I (m _ _ _ q)
def iP.mono{e:List Stmt}{t t':TS}(h:iP X e t)(m:∀D Z H,t' D Z H->t D Z H):iP X e t':=λaa s Z H D I q=>h aa s Z H D I (m _ _ _ q)
abbrev XW:=ai->aj ai->St->Hp->Prop
def Az(F:Hp)(dx:aj ai):aj Int->Prop
 |none=>dx=none
 |some n=>∃d,dx=some d/\F d=some (.xd [("line",.int n)])
abbrev Rp(α β:Type):=Kn->Hp->β->α->Prop
section
variable{α β α' β':Type}(R:Rp α β){R':Rp α' β'}(K:aI)(W:XW)(q:Nat){Z:St}{H H':Hp}{k k':Kn}{U:Gm}{S:aR}{Q:β->Hp->Prop}{Q':β'->Hp->Prop}
def fX(Z:St)(k:Kn)(H:Hp)(Q:β->Hp->Prop):Rs α->Prop
 |.ok a S=>∀b k' H',Up q k H k' H'->cf K k' H' S->R k' H' b a->Q b H'
 |.ex C l S=>∀dx k' H',Up q k H k' H'->cf K k' H' S->Az k'.F dx l->W C dx Z H'
def tX(g:Gx α):St->Hp->(β->Hp->Prop)->Prop:=λZ H Q=>∃k U S res,cf K k H S/\gj K k Z U/\g U S=some res/\fX R K W q Z k H Q res
variable{R K W q}
def fX.up{res:Rs α}(w:fX R K W q Z k H Q res)(u:Up q k H k' H'):fX R K W q Z k' H' Q res:=by
 cases res with
 |ok a S=>exact λb k2 H2 u2 k r=>w b k2 H2 (u.trans u2) k r
 |ex C l S=>exact λdx k2 H2 u2 k r=>w dx k2 H2 (u.trans u2) k r
def zR{x:aj (Rs α)}{f:α->aR->aj (Rs α')}{res:Rs α'}(e:bd x f=some res):(∃a S,x=some (.ok a S)/\f a S=some res)\/∃C l S,x=some (.ex C l S)/\res=.ex C l S:=by
 unfold bd at e;split at e
 .cases e
 .exact .inl ⟨_,_,rfl,e⟩
 .cases e;exact .inr ⟨_,_,_,rfl,rfl⟩
def tX.bd{g:Gx α}{f:α->aR->aj (Rs α')}{res:Rs α'}(ok:cf K k H S)(gk:gj K k Z U)(e:bd (g U S) f=some res)(w:fX R' K W q Z k H Q' res)
  (h:∀a S1 b k1 H1,cf K k1 H1 S1->gj K k1 Z U->R k1 H1 b a->f a S1=some res->fX R' K W q Z k1 H1 Q' res->Up q k H k1 H1->Q b H1):tX R K W q g Z H Q:=by
 rcases zR e with⟨a,S1,e1,e2⟩|⟨C,l,S1,e1,rfl⟩
 .exact⟨k,U,S,_,ok,gk,e1,λb k' H' u fq r=>h a S1 b k' H' fq (gk.up u) r e2 (w.up u) u⟩
 .exact⟨k,U,S,_,ok,gk,e1,w⟩
def fX.now{a:α}{b:β}(w:fX R K W q Z k H Q (.ok a S))(ok:cf K k H S)(r:R k H b a):Q b H:=w b k H .refl ok r
def nB{g:Gx α}{Q₂:β->Hp->Prop}(h:tX R K W q g Z H Q)(m:∀b H,Q b H->Q₂ b H):tX R K W q g Z H Q₂:=by
 obtain⟨k,U,S,res,ok,gk,e,w⟩:=h;refine⟨k,U,S,res,ok,gk,e,?_⟩;cases res with
 |ok a S=>exact λb k2 H2 u k r=>m _ _ (w b k2 H2 u k r)
 |ex C l S=>exact w
end
abbrev RE(K:aI):Rp Rv V:=λk H x r=>nz K k H x r
abbrev RA(K:aI):Rp (List Val) (List V):=λk _ xs vs=>Paired (cV K k) xs vs
abbrev RB:Rp Bool Bool:=λ_ _ b a=>b=a
abbrev GE:=Gx Rv
variable{g f:GE}
abbrev GA:=Gx (List Val)
variable{h:GA}
abbrev GT:=Gx Bool
abbrev tE(K:aI)(W:XW)(q:Nat)(g:GE):TE:=tX (RE K) K W q g
abbrev fV(K:aI)(W:XW)(q:Nat)(g:GA):TA:=tX (RA K) K W q g
abbrev tT(K:aI)(W:XW)(q:Nat)(g:GT):TT:=tX RB K W q g
noncomputable def gC(d:D):GE:=λ_ S=>some (.ok (.v (.d d)) S)
noncomputable def qY(i:Nat):GE:=λU S=>((U[i]?).join).map λv=>.ok (.v v) S
def M6{α:Type}{x:aj (aj α)}{v:α}(h:x.join=some v):x=some (some v):=by
 cases x with
 |none=>cases h
 |some y=>exact congrArg some h
noncomputable def lS:Rv->Val
 |.v x=>x
 |.o c=>.d c.d
noncomputable def hpR(S:aR):Rv->Rs Rv
 |.o c=>.ok (.v (.d (.ref S.r.length))) ⟨S.s,S.r++[.o c]⟩
 |r=>.ok r S
def iY(g:GE):GE:=λU S=>bd (g U S) λr S1=>some (hpR S1 r)
noncomputable def gN:GA:=λ_ S=>some (.ok [] S)
def ka(g:GE)(h:GA):GA:=λU S=>bd (g U S) λr S1=>bd (h U S1) λvs S2=>some (.ok (lS r::vs) S2)
section
variable{X:Cx}{K:aI}{W:XW}{q:Nat}{e a b:Expr}{es:List Expr}{lA fb fc:GE}{fs:GA}{ft fu:GT}{pos:Pos}{Z:St}{H:Hp}
def xE{d:D}(h:PE X e (tC v))(hf:vb d=some v:=by rfl):PE X e (tE K W q (gC d)):=h.mono λZ H Q t=>by
 obtain⟨k,U,S,res,ok,gk,e,w⟩:=t;cases e;exact w.now ok (show ag K k [v] [d] from .flat hf .nil)
def Y7{i:Nat}(h:PE X e (Dm i)):PE X e (tE K W q (qY i)):=h.mono λZ H Q t=>by
 obtain⟨k,U,S,res,ok,gk,e,w⟩:=t;obtain⟨v,q,rfl⟩:=cW.mp e;obtain⟨x,hx,r⟩:=gk.at' i v (M6 q);exact⟨x,hx,w.now ok (show nz K k H x (.v v) from r)⟩
def p6{r:Rv}(ok:cf K k H S)(h:nz K k H x r):∃k',(∀q,Up q k H k' H)/\cf K k' H S/\cV K k' x (lS r):=by
 cases r with
 |v y=>exact⟨k,λ_=>.refl,ok,h⟩
 |o c=>
  obtain⟨p,rfl,hF,hi,hc⟩:=h;obtain⟨F',fq,u,rp⟩:=ok.JA hF hi hc;exact⟨_,u,fq,rp⟩
def tV(h:PE X e (tE K W q lA)):PE X e (tE K W q (iY lA)):=h.mono λZ H Q t=>by
 obtain⟨k,U,S,res,ok,gk,e,w⟩:=t;refine tX.bd ok gk e w λr S1 x k1 H1 bI g1 r1 e1 w1 _=>?_
 cases r with
 |v y=>cases e1;exact w1.now bI r1
 |o c=>
  cases e1;obtain⟨p,rfl,hF,hi,hc⟩:=r1;obtain⟨cO,u⟩:=bI.vK hi (c:=.o c) ⟨hF,hc⟩;exact w1 _ _ _ (u q) cO (show ag K _ [.ref p] [.ref S1.r.length] from .ref (by rw[<-bI.r.ln];exact EY) .nil)
def tI(t:fV K W q (ka g h) Z H Q):tE K W q g Z H λx H1=>fV K W q h Z H1 λxs H2=>Q (x::xs) H2:=by
 obtain⟨k,U,S,res,ok,gk,e,w⟩:=t;refine tX.bd ok gk e w λr S1 x k1 H1 bI g1 r1 e1 w1 _=>?_
 obtain⟨k2,u2,cO,r2⟩:=p6 bI r1;refine tX.bd cO (g1.up (u2 q)) e1 (w1.up (u2 q)) λvs S3 xs k3 H3 jj g3 r3 e3 w3 u3=>?_
 cases e3;exact w3.now jj (.cons (r2.up u3) r3)
def zS(t:fV K W q gN Z H Q):Q [] H:=by
 obtain⟨k,U,S,res,ok,gk,e,w⟩:=t;cases e;exact w.now ok .nil
def xF:PA X [] (fV K W q gN):=lK.mono λZ H Q t=>zS t
def Wv(ha:PE X e (tE K W q g))(hr:PA X es (fV K W q h))(hs:starEach (e::es) X.env=(false,eval e X.env)::starEach es X.env):PA X (e::es) (fV K W q (ka g h)):=(EX ha hr hs).mono λZ H Q t=>tI t
def Top(K:aI)(k:Kn)(H:Hp)(x:V)(d:D):Prop:=ag K k [x] [d]\/∃p c,x=.ref p/\d=Bx.d c/\dz K k H p c
noncomputable def Cell.ux:Cell->aj D
 |.o c=>some c.d
 |.z c=>some c.d
 |.ins _ _=>none
def ux(S:aR):Val->aj D
 |.d (.ref n)=>(S.r[n]?).bind Cell.ux
 |.d x=>some x
 |.c n=>(S.s[n]?).bind Cell.ux
def uy(S:aR):List Val->aj (List D)
 |[]=>some []
 |v::vs=>(ux S v).bind λd=>(uy S vs).map λds=>d::ds
def NH{x:ai}{c:Cell}{d:D}(h:ba K k H x c)(e:c.ux=some d):Top K k H (.ref x) d:=by
 cases c with
 |o b=>cases e;exact .inr ⟨x,b,rfl,rfl,h.2⟩
 |z b=>cases e;exact .inl h.2
 |ins _ _=>cases e
def Fg{v:Val}{d:D}(ok:cf K k H S)(h:cV K k x v)(e:ux S v=some d):Top K k H x d:=by
 cases v with
 |d y=>
  cases y with
  |ref n=>
   obtain⟨p,rfl,h1⟩:=ag.isRef h;obtain⟨c,h2,e⟩:=cw.mp e;exact NH (ok.r.at' n p c h1 h2) e
  |_=>cases e;exact .inl h
 |c n=>
  obtain⟨p,rfl,h1⟩:=h;obtain⟨c,h2,e⟩:=cw.mp e;exact NH (ok.s.at' n p c h1 h2) e
def OC{xs:List V}(ok:cf K k H S)(h:Paired (cV K k) xs vs)(e:uy S vs=some ds):Paired (Top K k H) xs ds:=by
 induction h generalizing ds with
 |nil=>cases e;exact .nil
 |cons r _ ih=>
  obtain⟨d,e1,e⟩:=cw.mp e;obtain⟨es,e2,rfl⟩:=cW.mp e;exact .cons (Fg ok r e1) (ih e2)
def RM(K:aI)(k':Kn)(H H':Hp)(x:V):Rv->Prop
 |.v (.d y)=>ag K k' [x] [y]
 |.o c=>∃p,x=.ref p/\H p=none/\k'.F p=none/\dz K k' H' p c
 |_=>False
def kr(K:aI)(k:Kn)(H:Hp)(r:Rv)(Q:VK):Prop:=∀x F' H',az k.F F'->az H H'->az F' H'->(∀p,H p≠none->k.F p=none->F' p=none)->RM K ⟨F',k.A,k.T⟩ H H' x r->Q x H'
def cb(K:aI)(r:List V->Hp->VK->Prop)(o:List D->aj Rv):Prop:=∀k H xs ds y Q,az k.F H->Paired (Top K k H) xs ds->o ds=some y->kr K k H y Q->r xs H Q
def gO(o:List D->aj Rv)(g:GA):GE:=λU S=>bd (g U S) λvs S1=>(uy S1 vs).bind λds=>(o ds).map λr=>.ok r S1
def kr.fin{y:Rv}{Q:VK}(ok:cf K k H S)(w:fX (RE K) K W q Z k H Q (.ok y S)):kr K k H y Q:=λx F' H' s1 s2 s3 fr nw=>by
 refine w x ⟨F',k.A,k.T⟩ H' (.of s1 s2) (ok.new s1 (λp _ o z=>s2 p o z) s3 λp m=>fr p (ok.there p m)) ?_
 cases y with
 |v z=>
  cases z with
  |d z=>exact nw
  |_=>exact nw.elim
 |o c=>obtain⟨p,e4,e5,e6,e7⟩:=nw;exact⟨p,e4,e6,(ok.fresh e5).2,e7⟩
def sF{r:List V->Hp->VK->Prop}(bw:cb K r o){g:GA}{Q:VK}(t:tE K W q (gO o g) Z H Q):fV K W q g Z H λxs H1=>r xs H1 Q:=by
 obtain⟨k,U,S,res,ok,gk,e,w⟩:=t;refine tX.bd ok gk e w λvs S1 xs k1 H1 bI g1 r1 e1 w1 _=>?_
 obtain⟨ds,e2,e1⟩:=cw.mp e1;obtain⟨y,e3,rfl⟩:=cW.mp e1;exact bw k1 H1 xs ds y Q bI.le (OC bI r1 e2) e3 (.fin bI w1)
section
variable{k:Kn}{x:V}{Q:VK}
def kr.rep{y:D}(h:kr K k H (.v (.d y)) Q)(le:az k.F H)(r:ag K k [v] [y]):Q v H:=h v k.F H (az.refl _) (az.refl _) le (λ_ _ z=>z) r
theorem kr.flat{y:D}{v:V}(h:kr K k H (.v (.d y)) Q)(le:az k.F H)(e:vb y=some v):Q v H:=h.rep le (.flat e .nil)
def kr.lst{ds:List D}{ws:List V}(h:kr K k H (.o (.lst ds)) Q)(le:az k.F H)(r:ag K k ws ds){l:ai}(hn:H l=none):Q (.ref l) (upd H l (.lst ws)):=
 h _ k.F _ (az.refl _) (qJ hn) (le.put hn) (λ_ _ z=>z) ⟨l,rfl,hn,le.free hn,ws,aH,r⟩
def kr.ay{kvs:List (TK×D)}{es:List (TK×V×V)}{ep:Nat}(h:kr K k H (.o (.ay kvs)) Q)(le:az k.F H)(q:es.map (·.1)=kvs.map (·.1))(r:ag K k (es.map (·.2.1)) (kvs.map (·.1.d)))(t:ag K k (es.map (·.2.2)) (kvs.map (·.2))){l:ai}(hn:H l=none):Q (.ref l) (upd H l (.dG es ep)):=
 h _ k.F _ (az.refl _) (qJ hn) (le.put hn) (λ_ _ z=>z) ⟨l,rfl,hn,le.free hn,es,ep,aH,q,r,t⟩
theorem kr.tup{ds:List D}{ws:List V}(h:kr K k H (.v (.d (.tup ds))) Q)(le:az k.F H)(r:ag K k ws ds){l:ai}(hn:H l=none):Q (.ref l) (upd H l (.tup ws)):=by
 have hF:=le.free hn;refine h _ (upd k.F l (.tup ws)) _ (qJ hF) (qJ hn) (λb u z=>?_) (λp z1 z2=>by rw[c_ (show p≠l from λz=>z1 (z ▸ hn))];exact z2) (show ag K ⟨upd k.F l (.tup ws),k.A,k.T⟩ [.ref l] [.tup ds] from .tup (.inl (.inl aH)) (r.mono ⟨qJ hF,kH _⟩) .nil)
 by_cases q:b=l
 .subst q;rw[aH] at z ⊢;exact z
 .rw[c_ q] at z ⊢;exact le b u z
noncomputable abbrev Kn.all(k:Kn)(H:Hp):Kn:=⟨H,k.A,k.T⟩
def ag.all{vs:List V}{ds:List D}(h:ag K k vs ds)(le:az k.F H):ag K (k.all H) vs ds:=h.mono ⟨le,kH _⟩
def Top.rep{d:D}(h:Top K k H x d)(le:az k.F H):ag K (k.all H) [x] [d]:=by
 rcases h with h|⟨p,c,rfl,rfl,h⟩
 .exact h.all le
 .cases c with
  |lst xs=>obtain⟨ws,e,r⟩:=h;exact .lst (.inl (.inl e)) (r.all le) .nil
  |ay kvs=>obtain⟨es,ep,e,q,r,t⟩:=h;exact .ay e q (r.all le) (t.all le) .nil
def Top.flat{d:D}(h:Top K k H x d)(e:vb d=some v):x=v:=by
 rcases h with h|⟨p,c,rfl,rfl,h⟩
 .exact h.a_ e
 .cases c <;> cases e
def Top.lst{ds:List D}(h:Top K k H x (.lst ds))(le:az k.F H):∃p ws,x=.ref p/\cT K H p ws/\ag K k ws ds:=by
 rcases h with h|⟨p,c,rfl,e,h⟩
 .obtain⟨p,ws,rfl,q,r⟩:=h.vz;exact⟨p,ws,rfl,le.K_ q,r⟩
 .cases c <;> cases e;obtain⟨ws,e,r⟩:=h;exact⟨p,ws,rfl,.inl (.inl e),r⟩
def Top.tup{ds:List D}(h:Top K k H x (.tup ds))(le:az k.F H):∃p ws,x=.ref p/\ie K H p ws/\ag K k ws ds:=by
 rcases h with h|⟨p,c,rfl,e,h⟩
 .obtain⟨p,ws,rfl,q,r⟩:=h.isTup;exact⟨p,ws,rfl,le.yQ q,r⟩
 .cases c <;> cases e
def Top.ay{kvs:List (TK×D)}(h:Top K k H x (.ay kvs))(le:az k.F H):∃p es ep,x=.ref p/\H p=some (.dG es ep)/\es.map (·.1)=kvs.map (·.1)/\ag K k (es.map (·.2.1)) (kvs.map (·.1.d))/\ag K k (es.map (·.2.2)) (kvs.map (·.2)):=by
 rcases h with h|⟨p,c,rfl,e,h⟩
 .obtain⟨p,es,ep,rfl,q,r⟩:=h.vy;exact⟨p,es,ep,rfl,le _ _ q,r⟩
 .cases c <;> cases e;obtain⟨es,ep,h⟩:=h;exact⟨p,es,ep,rfl,h⟩
end
def lM(r:R2):List V->Hp->VK->Prop:=λxs H Q=>∃x y,xs=[x,y]/\r x y H Q
def KO(r:V->Hp->VK->Prop):List V->Hp->VK->Prop:=λxs H Q=>∃x,xs=[x]/\r x H Q
abbrev bA(f:GE):GA:=ka f gN
abbrev ck(f g:GE):GA:=ka f (ka g gN)
def FD{r:V->V->Hp->Prop}(h:fV K W q (ck f g) Z H λxs H1=>∃x y,xs=[x,y]/\r x y H1):tE K W q f Z H λx H1=>tE K W q g Z H1 λy H2=>r x y H2:=
 nB (tI h) λx H1 t=>nB (tI t) λy H2 t=>by
  obtain⟨x',y',e,q⟩:=zS t;cases e;exact q
def Jq{r:V->Hp->Prop}(h:fV K W q (bA f) Z H λxs H1=>∃x,xs=[x]/\r x H1):tE K W q f Z H r:=
 nB (tI h) λx H1 t=>by
  obtain⟨x',e,q⟩:=zS t;cases e;exact q
def e6f{op:Operator}(ho:dB X (binaryOp op) r)(ok:cb K (lM r) o)(ha:PE X a (tE K W q lA))(hb:PE X b (tE K W q fb)):PE X (.BinOp a op b pos) (tE K W q (gO o (ck lA fb))):=(e5y ho ha hb).mono λ_ _ _ t=>FD (sF ok t)
def e6g{op:UnaryOp}{r:V->Hp->VK->Prop}(ho:DU X (unaryOp op) r)(ok:cb K (KO r) o)(ha:PE X a (tE K W q lA)):PE X (.UnaryOp op a pos) (tE K W q (gO o (bA lA))):=(e5z ho ha).mono λ_ _ _ t=>Jq (sF ok t)
def Y8{op:CmpOp}(ho:dB X (compareOp op) r)(ok:cb K (lM r) o)(ha:PE X a (tE K W q lA))(hb:PE X b (tE K W q fb))(hm:behindInMarks op b=false):PE X (.Compare a [op] [b] pos) (tE K W q (gO o (ck lA fb))):=(V' ho ha hb hm).mono λ_ _ _ t=>FD (sF ok t)
def e6h(ho:o6 X r)(ok:cb K (lM r) o)(ha:PE X a (tE K W q lA))(hb:PE X b (tE K W q fb))(hs:Iy b):PE X (.Subscript a b pos) (tE K W q (gO o (ck lA fb))):=(e6c ho ha hb hs).mono λ_ _ _ t=>FD (sF ok t)
end
noncomputable def Rv.bool:Rv->aj Bool
 |.v (.d (.bl b))=>some b
 |_=>none
def Rv.tQ{r:Rv}{b:Bool}(h:r.bool=some b):r=.v (.d (.bl b)):=by
 unfold Rv.bool at h;split at h
 .cases h;rfl
 .cases h
noncomputable def yV:D->aj Bool
 |.aJ=>some false
 |.bl b=>some b
 |.int i=>some (i != 0)
 |.str y=>if y.length<=1000000 then some ((y.length:Int) != 0) else none
 |.lst xs=>some (!xs.isEmpty)
 |.tup xs=>some (!xs.isEmpty)
 |_=>none
noncomputable def gB(g:GE):GT:=λU S=>bd (g U S) λr S1=>r.bool.map λb=>.ok b S1
def cH(g:GE):GT:=λU S=>bd (g U S) λr S1=>((ux S1 (lS r)).bind yV).map λb=>.ok b S1
noncomputable def dq(g:GT):GT:=λU S=>bd (g U S) λb S1=>some (.ok (!b) S1)
noncomputable def BV(c g h:GT):GT:=λU S=>bd (c U S) λb S1=>if b=true then g U S1 else h U S1
noncomputable def gq(b:Bool):GT:=λ_ S=>some (.ok b S)
def cM(g h:GT):GT:=BV g h (gq false)
def eQ(g h:GT):GT:=BV g (gq true) h
noncomputable def xS(c:GT)(g h:GE):GE:=λU S=>bd (c U S) λb S1=>if b=true then g U S1 else h U S1
def nF(g h:GE):GE:=xS (gB g) h (gC (.bl false))
section
variable{X:Cx}{K:aI}{W:XW}{q:Nat}{e a b:Expr}{es rest:List Expr}{f g h:GE}{fs:GA}{ft fu:GT}{pos:Pos}{Z:St}{H:Hp}
def QK{Q:Bool->Hp->Prop}(t:tT K W q (gB f) Z H Q):tE K W q f Z H λx H1=>∃k,x=.bl k/\Q k H1:=by
 obtain⟨k,U,S,res,ok,gk,e,w⟩:=t;refine tX.bd ok gk e w λr S1 x k1 H1 bI g1 r1 e1 w1 _=>?_
 obtain⟨b,e2,rfl⟩:=cW.mp e1;cases Rv.tQ e2;exact⟨b,(show ag K k1 [x] [.bl b] from r1).a_ rfl,w1.now bI rfl⟩
def Ww{d:D}{b:Bool}(le:az k.F H)(h:Top K k H x d)(e:yV d=some b):wq K x H b:=by
 cases d with
 |aJ=>cases h.flat rfl;cases e;rfl
 |bl b=>cases h.flat rfl;cases e;rfl
 |int i=>cases h.flat rfl;cases e;rfl
 |str y=>
  cases h.flat rfl;unfold yV at e;dsimp only at e;split at e
  .cases e;exact⟨iU (by assumption) (by decide),rfl⟩
  .cases e
 |lst xs=>
  cases e;obtain⟨p,ws,rfl,h1,h2⟩:=h.lst le;refine .inl ⟨ws,h1,?_⟩;have:=h2.length
  grind
 |tup xs=>
  cases e;obtain⟨p,ws,rfl,h1,h2⟩:=h.tup le;refine .inr (.inl ⟨ws,h1,?_⟩);have:=h2.length
  grind
 |_=>cases e
def Y9(hK:X.K=K)(he:PE X a (tE K W q f))(ht:∀whole,isTrue a X.env whole=(do let v <-whole;standAt a.pos;holding [v] (truthy v))):PT X a (tT K W q (cH f)):=(Ux he ht).mono λZ H Q t=>by
 obtain⟨k,U,S,res,ok,gk,e,w⟩:=t;refine tX.bd ok gk e w λr S1 x k1 H1 bI g1 r1 e1 w1 _=>?_
 obtain⟨b,e2,rfl⟩:=cW.mp e1;obtain⟨d,e3,e4⟩:=cw.mp e2;obtain⟨k2,u2,cO,r2⟩:=p6 bI r1;rw[hK];exact⟨b,Ww cO.le (Fg cO r2 e3) e4,(w1.up (u2 q)).now cO rfl⟩
def QL(h:PT X a (rZ t))(m:∀Z H Q,tE K W q f Z H Q->t Z H Q):PT X a (tT K W q (gB f)):=h.mono λZ H Q q=>m Z H _ (QK q)
def xP(h:PT X a (tT K W q ft)):PT X (.UnaryOp .Not a pos) (tT K W q (dq ft)):=(YD h).mono λZ H Q t=>by
 obtain⟨k,U,S,res,ok,gk,e,w⟩:=t;refine tX.bd ok gk e w λb S1 x k1 H1 bI g1 r1 e1 w1 _=>?_
 cases e1;cases r1;exact w1.now bI rfl
def Fw{β' α':Type}{R':Rp α' β'}{gx gy:Gx α'}{Q':β'->Hp->Prop}(t:tX R' K W q (λU S=>bd (ft U S) λb S1=>if b=true then gx U S1 else gy U S1) Z H Q'):tT K W q ft Z H λb H1=>if b=true then tX R' K W q gx Z H1 Q' else tX R' K W q gy Z H1 Q':=by
 obtain⟨k,U,S,res,ok,gk,e,w⟩:=t;refine tX.bd ok gk e w λb S1 x k1 H1 bI g1 r1 e1 w1 _=>?_
 cases r1;cases b with
 |true=>exact rC ⟨k1,U,S1,res,bI,g1,e1,w1⟩
 |false=>exact rB ⟨k1,U,S1,res,bI,g1,e1,w1⟩
def BF{α β:Type}{R:Rp α β}{c:α}{b:β}{Q:β->Hp->Prop}(t:tX R K W q (λ_ S=>some (.ok c S)) Z H Q)(r:∀k H,R k H b c):Q b H:=by
 obtain⟨k,U,S,res,ok,gk,e,w⟩:=t;cases e;exact w.now ok (r k H)
def IB{c:Bool}{p p' q q':Prop}(h:if c=true then p else q)(h1:p->p')(h2:q->q'):if c=true then p' else q':=by
 lia
def xQ(ha:PT X a (tT K W q ft))(hb:PW X (.BoolOp .And (b::rest) pos) (tT K W q fu)):PW X (.BoolOp .And (a::b::rest) pos) (tT K W q (cM ft fu)):=(YC ha hb).mono λZ H Q t=>
 nB (Fw t) λc H1 z=>IB z id λz=>BF z λ_ _=>rfl
def BO(ha:PT X a (tT K W q ft))(hb:PW X (.BoolOp .Or (b::rest) pos) (tT K W q fu)):PW X (.BoolOp .Or (a::b::rest) pos) (tT K W q (eQ ft fu)):=(e5w ha hb).mono λZ H Q t=>
 nB (Fw t) λc H1 z=>IB z (λz=>BF z λ_ _=>rfl) id
def xG(ha:PE X a (tE K W q f))(hb:PE X (.BoolOp .And (b::rest) pos) (tE K W q g)):PE X (.BoolOp .And (a::b::rest) pos) (tE K W q (nF f g)):=(YE ha hb).mono λZ H Q t=>
 nB (QK (Fw t)) λx H1 ⟨c,e,z⟩=>⟨c,e,IB z id λz=>BF z λ_ _=>ag.flat rfl .nil⟩
def BK{c:Expr}(hc:PT X c (tT K W q ft))(ha:PE X a (tE K W q f))(hb:PE X b (tE K W q g)):PE X (.IfExp c a b pos) (tE K W q (xS ft f g)):=(Us hc ha hb).mono λZ H Q t=>Fw t
end
noncomputable def nE(S:aR):Val->aj (D×aR)
 |.d x=>some (x,S)
 |.c n=>(S.s[n]?).bind λc=>match c with
  |.o b=>some (b.d,⟨S.s.set n (.z b),S.r⟩)
  |.z b=>some (b.d,S)
  |.ins _ _=>none
def pz:List Val->aR->aj (List D×aR)
 |[],S=>some ([],S)
 |v::vs,S=>(nE S v).bind λp=>(pz vs p.2).map λq=>(p.1::q.1,q.2)
section
variable{K:aI}{k:Kn}{H:Hp}{S S':aR}
def EZ{v:Val}{d:D}(ok:cf K k H S)(h:cV K k x v)(e:nE S v=some (d,S')):∃k',(∀q,Up q k H k' H)/\cf K k' H S'/\ag K k' [x] [d]:=by
 cases v with
 |d y=>cases e;exact⟨k,λ_=>.refl,ok,h⟩
 |c n=>
  obtain⟨p,rfl,hp⟩:=h;obtain⟨c,h1,e⟩:=cw.mp e;cases c with
  |o b=>
   cases e;obtain⟨F',fq,u,rp⟩:=ok.JB hp h1;exact⟨_,u,fq,rp⟩
  |z b=>cases e;exact⟨k,λ_=>.refl,ok,(ok.s.at' n p _ hp h1).2⟩
  |ins C fs=>cases e
def E0{xs:List V}(ok:cf K k H S)(h:Paired (cV K k) xs vs)(e:pz vs S=some (ds,S')):∃k',(∀q,Up q k H k' H)/\cf K k' H S'/\ag K k' xs ds:=by
 induction vs generalizing xs ds k S with
 |nil=>cases e;cases h;exact⟨k,λ_=>.refl,ok,.nil⟩
 |cons v vs ih=>
  cases h with
  |cons r t=>
   obtain⟨⟨v1,S1⟩,e1,e⟩:=cw.mp e;obtain⟨⟨vs2,S2⟩,e2,e⟩:=cW.mp e;cases e;obtain⟨k1,u1,bI,r1⟩:=EZ ok r e1;obtain⟨k2,u2,cO,r2⟩:=ih bI (uV.up t (u1 0)) e2;exact⟨k2,λb=>(u1 b).trans (u2 b),cO,.cons (r1.mono (u2 0).le) r2⟩
end
noncomputable def K1(t:Bool)(p:List D×aR):Rs Rv:=.ok (if t=true then .v (.d (.tup p.1)) else .o (.lst p.1)) p.2
def aX(t:Bool)(g:GA):GE:=λU S=>bd (g U S) λvs S1=>if vs.length<=1000000 then(pz vs S1).map (K1 t) else none
section
variable{X:Cx}{K:aI}{W:XW}{q:Nat}{es:List Expr}{fs:GA}{pos:Pos}{Z:St}{H:Hp}
def ml{n:Nat}(h:n<=1000000):n<=sizeLine:=iU h (by decide)
def PL{t:Bool}{Q:VK}(h:tE K W q (aX t fs) Z H Q):fV K W q fs Z H λxs H1=>xs.length<=sizeLine/\∀p,H1 p=none->Q (.ref p) (upd H1 p (if t=true then .tup xs else .lst xs)):=by
 obtain⟨k,U,S,res,ok,gk,e,w⟩:=h;refine tX.bd ok gk e w λvs S1 xs k1 H1 bI g1 r1 e1 w1 _=>?_
 split at e1
 .rename_i hl
  refine⟨by rw[Paired.length r1];exact ml hl,λp hp=>?_⟩
  obtain⟨⟨ds,S2⟩,e2,e3⟩:=cW.mp e1;obtain⟨k2,u2,cO,r2⟩:=E0 bI r1 e2;have w2:=w1.up (u2 q);cases e3;cases t with
  |false=>exact kr.lst (.fin cO w2) cO.le r2 hp
  |true=>exact kr.tup (.fin cO w2) cO.le r2 hp
 .cases e1
def xJ{x1}(h:PA X es (fV K W q fs)):PE X (.Tuple es x1 pos) (tE K W q (aX true fs)):=(YZ h).mono λZ H Q t=>PL t
def xI(h:PA X es (fV K W q fs)):PE X (.List es pos) (tE K W q (aX false fs)):=(Y0 h).mono λZ H Q t=>PL t
end
variable{base:bS}{env:Env}{outer:List Env}{L e C:ai}{dx:aj ai}{n:Nat}{H:Hp}{Q:Unit->ao->Prop}
structure fE (fs ch:List ai) (h h':bS):Prop where
 keep:∀b o,b∉fs->b∉ch->h.get? b=some o->h'.get? b=some o
 slot:∀b o,b∈fs->b∉ch->h.get? b=some o->∃sl,h'.get? b=some { o with slots:=sl}
def h_(n:Nat)(h:bS)(H:Hp)(e C:ai)(dx:aj ai):Prop:=n<=e/\H e=none/\∃oe vs,h.get? e=some oe/\oe.cls=.ref C/\oe.dict=dx/\oe.data=.fields vs/\1<vs.size/\
 (vs[1]?=some .none\/∃T oT ts,vs[1]?=some (.ref T)/\n<=T/\H T=none/\T≠e/\h.get? T=some oT/\oT.data=.fields ts/\ts[3]?=some .none)
def Tj(f:Array ah->Array ah)(o:Obj):(Obj.mapFields f o).dict=o.dict:=by obtain⟨c,d,dt,sl⟩:=o;cases dt <;> rfl
section
variable{M:Model}{A:cK}{E:ah->ao->Prop}{s:ao}
def OE{oe:Obj}{vs:Array ah}{head:ah}{had:Bool}
  (rj:A.frames=some (env::outer)) (hl:s.heap.FunFrames base (env::outer)) (hf:env.frame=some L) (he:s.heap.get? e=some oe) (hc:oe.cls=.ref C) (hx:oe.dict=dx) (hd:oe.data=.fields vs) (hsz:1<vs.size) (hn:n<=s.heap.objs.size) (fU:n<=e) (sL:H e=none) (hH:∀a,s.heap.objs.size<=a->H a=none)
  (h:∀h',fE (jN (env::outer)) [e] s.heap h'->h_ n h' H e C dx->Q () { s with heap:=h'}) :
  wpAny M A (do let a <-frameOf env;let pl <-entryPlaceOf L had;let b <-EntryCells.newEntry head a .none (rawInt L) .none pl;setField (.ref e) 1 b) (λ_ s'=>wpAny M A (setFlight (.ref e) none) Q E s') E s:=by
 have ene:e∉jN (env::outer):=λm=>by
  obtain⟨_,o,ho,JY⟩:=hl.mem m
  simp_all
 refine ax (wpAny_frameOf_fun rj hl hf λh1 so=>ax (wpAny_entryPlaceOf λpl jr=>?_))
 unfold EntryCells.newEntry newFields;refine ax (wpAny_newObj_type ?_ (jr.sizeOk5 _ _ _ _ _));generalize eN:({ cls:=.type "traceback",dict:=none,data:=.fields ([head,.ref L,.none,rawInt L,.none]++(if pl.isEmpty then List.replicate 6 Value.none else pl)).toArray}:Obj)=oN
 have e1:h1.get? e=some oe:=(so.2.1 e ene).trans he;have e2:(h1.push oN).get? e=some oe:=cU _ e1;have nT:h1.objs.size≠e:=vZ (cP e1);have fN:oN.data=.fields ([head,.ref L,.none,rawInt L,.none]++(if pl.isEmpty then List.replicate 6 Value.none else pl)).toArray:=by rw[<-eN]
 have lN:3<([head,.ref L,.none,rawInt L,.none]++(if pl.isEmpty then List.replicate 6 Value.none else pl)).toArray.size:=by simp only[dH,dw,j9,Aq];lia
 have dE:=Obj.data_mapFields hd (·.setIfInBounds 1 (Value.ref h1.objs.size))
 have e3:=pU (Obj.mapFields (·.setIfInBounds 1 (Value.ref h1.objs.size))) e2 (Obj.isFreed_of_fields dE)
 have t3:((h1.push oN).update e (Obj.mapFields (·.setIfInBounds 1 (Value.ref h1.objs.size)))).get? h1.objs.size=some oN:=(nQ _ _ (Ne.symm nT)).trans (iI h1 (Obj.isFreed_of_fields fN))
 have dT:=Obj.data_mapFields fN (·.setIfInBounds 3 ((none:aj ai).elim Value.none λf=>rawInt f))
 refine wpAny_setField e2 hd hsz ?_;unfold setFlight;refine ax (wpAny_field e3 dE (x:=.ref h1.objs.size) (by simp[hsz]) ?_)
 rw[bL (show(Value.ref h1.objs.size != Value.none)=true by simp)]
 refine wpAny_setField t3 fN lN (h _ ⟨λb o hb mU g=>?_,λb o hb mU g=>?_⟩ ⟨fU,sL,_,_,(nQ _ _ nT).trans e3,(Obj.cls_mapFields _ _).trans hc,(Tj _ _).trans hx,dE,by simpa using hsz,.inr ⟨h1.objs.size,_,_,by simp[hsz],by rw[so.1];exact hn,hH _ (by rw[so.1];exact bU _),nT,pU _ t3 (Obj.isFreed_of_fields dT),dT,by simp[Array.getElem?_setIfInBounds,lN]⟩⟩)
 .have be:b≠e:=λz=>mU (by simp[z])
  have b1:h1.get? b=some o:=(so.2.1 b hb).trans g;rw[nQ _ _ (vZ (cP b1)),nQ _ _ (Ne.symm be)];exact cU _ b1
 .have be:b≠e:=λz=>mU (by simp[z])
  obtain⟨sl,b1⟩:=so.2.2 b o g;refine⟨sl,?_⟩;rw[nQ _ _ (vZ (cP b1)),nQ _ _ (Ne.symm be)];exact cU _ b1
def PM
  (rj:A.frames=some (env::outer)) (hl:s.heap.FunFrames base (env::outer)) (hf:env.frame=some L) (hn:n<=s.heap.objs.size) (hH:∀a,s.heap.objs.size<=a->H a=none) (fl:h_ n s.heap H e C dx)
  (h:∀h' ch,(∀b∈ch,n<=b/\H b=none)->fE (jN (env::outer)) ch s.heap h'->h_ n h' H e C dx->Q () { s with heap:=h'}):wpAny M A (noteFrame (.ref e) env) (λ_ s'=>wpAny M A (setFlight (.ref e) none) Q E s') E s:=by
 obtain⟨fU,sL,oe,vs,he,hc,hx,hd,hsz,h1⟩:=fl;unfold noteFrame;simp only[hf];rcases h1 with h1|⟨T,oT,ts,h1,FZ,FJ,FK,hT,B3,h3⟩
 .refine ax (wpAny_field he hd h1 ?_);rw[br (by decide)]
  exact OE rj hl hf he hc hx hd hsz hn fU sL hH λh' l f=>h h' [e] (λb m=>by cases lW.1 m;exact⟨fU,sL⟩) l f
 .refine ax (wpAny_field he hd h1 ?_);rw[bL (show(Value.ref T != Value.none)=true by simp)]
  refine ax (wpAny_field hT B3 h3 ?_);rw[br (show ¬(Value.none == rawInt L)=true by simp[rawInt])]
  refine ax (wpAny_setField hT B3 (uR.mp h3).1 ?_);have ot:∀b,b≠T->(s.heap.update T (Obj.mapFields (·.setIfInBounds 3 Value.none))).get? b=s.heap.get? b:=λb z=>nQ _ _ (Ne.symm z)
  have nr:∀b o,s.heap.get? b=some o->(∀vs,o.data≠.fields vs)->b≠T:=λb o hb JY z=>by
   simp_all
  refine OE (s:={ s with heap:=s.heap.update T (Obj.mapFields (·.setIfInBounds 3 Value.none))}) rj (hl.of_keeps λb o hb JY=>⟨o,(ot b (nr b o hb JY)).trans hb,rfl⟩) hf ((ot e (Ne.symm FK)).trans he) hc hx hd hsz (by simpa[Heap.size_after_update] using hn) fU sL (λa z=>hH a (by simpa[Heap.size_after_update] using z)) λh' l f=>h h' [e,T] (λb m=>?_) ⟨λb o hb mU g=>?_,λb o hb mU g=>?_⟩ f
  .simp only[y0a,y1w,or_false] at m;rcases m with rfl|rfl
   .exact⟨fU,sL⟩
   .exact⟨FZ,FJ⟩
  .simp only[y0a,y1w,or_false,not_or] at mU;exact l.keep b o hb (by simp[mU.1]) ((ot b mU.2).trans g)
  .simp only[y0a,y1w,or_false,not_or] at mU;exact l.slot b o hb (by simp[mU.1]) ((ot b mU.2).trans g)
def Wx
  (rj:A.frames=some (env::outer)) (hl:s.heap.FunFrames base (env::outer)) (hf:env.frame=some L) (hn:n<=s.heap.objs.size) (hH:∀a,s.heap.objs.size<=a->H a=none) (fl:h_ n s.heap H e C dx)
  (h:∀h' ch,(∀b∈ch,n<=b/\H b=none)->fE (jN (env::outer)) ch s.heap h'->h_ n h' H e C dx->Q () { s with heap:=h'}):wpAny M A (leaving env (.ref e)) Q E s:=by
 unfold leaving;exact ax (PM rj hl hf hn hH fl h)
end
variable{n:Nat}{h h':bS}{H:Hp}{e C:ai}{dx:aj ai}{X:Cx}{ch:List ai}{x:Str}{k:Kn}{Q:VK}
structure DN (P:cX) (w:cA) (outer:List Env) (H:Hp) (s:ao) (H':Hp) (s':ao) (e C:ai) (dx:aj ai):Prop where
 os:s'.os=s.os
 bare:AllBare s'.gens
 un:Un (jN outer) [] H H' s.heap s'.heap
 bw:iO P w H' s'.heap
 FF:h_ s.heap.objs.size s'.heap H' e C dx
def l7(P:cX)(w:cA):si:=λouter H s E e s'=>∃a C dx H',e=.ref a/\DN P w outer H s H' s' a C dx/\E (.ref C) dx H'
def eV(X:Cx)(W:XW):Prop:=∀(aa:List (ai×Obj)) (Z:St) (H:Hp) (s:ao) (H':Hp) (s':ao) (e C:ai) (dx:aj ai),Inv X aa Z H s->DN X.prog X.w X.stack H s H' s' e C dx->W C dx Z H'->X.xe (.ref e) s'
def h_.mono{n':Nat}(f:h_ n h H e C dx)(l:n'<=n):h_ n' h H e C dx:=by
 obtain⟨a,b,oe,vs,c1,c2,c3,c4,c5,c6⟩:=f;refine⟨iU l a,b,oe,vs,c1,c2,c3,c4,c5,?_⟩;rcases c6 with c6|⟨T,oT,ts,d1,d2,d3⟩
 .exact .inl c6
 .exact .inr ⟨T,oT,ts,d1,iU l d2,d3⟩
def h_.lt(f:h_ n h H e C dx):n<=h.objs.size:=by
 obtain⟨a,b,oe,vs,c1,_⟩:=f;exact DE (LD a (cP c1))
def DN.inv{aa:List (ai×Obj)}{Z:St}{H':Hp}{s s':ao}(c:DN X.prog X.w X.stack H s H' s' e C dx)(I:Inv X aa Z H s):Inv X aa Z H' s':=
 I.vg (ch:=[]) c.os c.un c.bw c.bare λ_ z=>nomatch z
def fE.bw{P:cX}{w:cA}{fs:List ai}(l:fE fs ch h h')(k:iO P w H h)(hf:∀b∈fs,H b=none)(hc:∀b∈ch,H b=none):iO P w H h':=λb o q=>
 (k b o q).lR (λc u z g=>l.keep c u (λm=>by
  simp_all) (λm=>by
  simp_all) g) (λ_ z=>z) λ_ _ z=>z
def fE.any{fs:List ai}(l:fE fs ch h h'){b:ai}{o:Obj}(g:h.get? b=some o)(hc:b∉ch):∃sl,h'.get? b=some { o with slots:=sl}:=by
 by_cases m:b∈fs
 .exact l.slot b o m hc g
 .exact⟨o.slots,l.keep b o m hc g⟩
def WF(E:XK):XW:=λC dx _ H'=>E (.ref C) dx H'
section
variable{P:cX}{w:cA}{K:aI}{mg:Str->aj ah}{base:bS}{N:List Str}{qual:Str}{scope:Scope}{f:ai}{cd:ah}{A:cK}{outer:List Env}{s₀:ao}{H₀:Hp}{E:XK}
def uo:eV (lz (l7 P w) P w K mg base N qual scope f cd A outer s₀ H₀ E) (WF E):=by
 intro aa Z H s H' s' e C dx I c q;have I':=c.inv I;have rj:(A.deeper (envOfC qual scope s₀.heap.objs.size f cd)).frames=some (envOfC qual scope s₀.heap.objs.size f cd::outer):=I.ok.frames;have sz:s₀.heap.objs.size<=s.heap.objs.size:=I.sz;refine Wx (base:=base) (L:=s₀.heap.objs.size) rj I'.stack rfl c.FF.lt (λa z=>I'.bw.fresh z) c.FF λh' ch kc lx fl=>⟨e,C,dx,H',rfl,⟨I'.os,I'.bare,?_,lx.bw I'.bw I'.jx λb m=>(kc b m).2,fl.mono sz⟩,q⟩
 have uh:∀b o,s₀.heap.get? b=some o->b∉ch:=λb o g m=>bQ (fy (cP g) (iU sz (kc b m).1)) (jz _)
 have nL:∀b o,s₀.heap.get? b=some o->b∉jN outer->b∉jN (envOfC qual scope s₀.heap.objs.size f cd::outer):=λb o g z m=>by
  rcases y0a.mp (show b∈s₀.heap.objs.size::jN outer from m) with m|m
  .exact bQ (m ▸ cP g) (jz _)
  .exact z m
 have B:Un (jN outer) [] H₀ H' s₀.heap s'.heap:=I'.base;refine⟨λb o g n hb hx=>lx.keep b o (nL b o g hb) (uh b o g) (B.keep b o g n hb hx),λb o g n hb hx=>?_,B.free,λb o g hx=>?_,B.kG,B.jO,B.kF⟩
 .obtain⟨sl,g1⟩:=B.slot b o g n hb hx;obtain⟨K3,g2⟩:=lx.any g1 (uh b o g);exact⟨K3,g2⟩
 .obtain⟨o',g1⟩:=B.there b o g hx;obtain⟨sl,g2⟩:=lx.any g1 (uh b o g);exact⟨_,g2⟩
def CJ:PassesOwn (model P w) (A.deeper (envOfC qual scope s₀.heap.objs.size f cd)) (envOfC qual scope s₀.heap.objs.size f cd) (lz (l7 P w) P w K mg base N qual scope f cd A outer s₀ H₀ E).xe:=PassesOwn.leaving
end
def EW(W:XW):St->XK:=λZ c dx H'=>∃C,c=.ref C/\W C dx Z H'
def oE{W:XW}(h:eV X W):xa (l7 X.prog X.w) X (EW W):=λaa Z H s e s' I h'=>by
 obtain⟨a,C,dx,H',rfl,c,C',hc,q⟩:=h';cases hc;exact h aa Z H s H' s' a C dx I c q
abbrev GM:=List Val->aR->aj (Rs Rv)
def sr(K:aI)(q n:Nat)(m:GM):Sp:=λxs H Q E=>xs.length=n/\∃k vs S res,cf K k H S/\Paired (cV K k) xs vs/\m vs S=some res/\fX (RE K) K (WF E) q [] k H Q res
def iW(m:GM)(n:Nat):Prop:=∀vs S res,m vs S=some res->vs.length=n
noncomputable def au(m:GM)(g:GA):GE:=λU S=>bd (g U S) m
noncomputable def Rv.ref:Rv->aj Nat
 |.v (.d (.ref n))=>some n
 |_=>none
def Cell.ke(C:ai)(m:Str):Cell->Bool
 |.ins C' fs=>C' == C&&(fs.lookup m).isNone
 |_=>false
noncomputable def bq(C:ai)(x:Str)(m:GM)(f:GE)(g:GA):GE:=λU S=>bd (f U S) λr S1=>r.ref.bind λn=>if(S1.r[n]?).any (Cell.ke C x)=true then bd (g U S1) λvs S2=>m (.d (.ref n)::vs) S2 else none
noncomputable def Rv.vA:Rv->Bool
 |.v (.d .aJ)=>true
 |_=>false
noncomputable def qX(C:ai)(m:GM)(g:GA):GE:=λU S=>bd (g U S) λvs S1=>bd (m (.d (.ref S1.r.length)::vs) ⟨S1.s,S1.r++[.ins C []]⟩) λr S2=>if r.vA=true then some (.ok (.v (.d (.ref S1.r.length))) S2) else none
def any_some{α:Type}{x:aj α}{p:α->Bool}(h:x.any p=true):∃c,x=some c/\p c=true:=by
 cases x with
 |none=>cases h
 |some c=>exact⟨c,rfl,h⟩
def Rv.lO{r:Rv}(h:r.ref=some n):r=.v (.d (.ref n)):=by
 unfold Rv.ref at h;split at h
 .cases h;rfl
 .cases h
def Tn{fs:List (Str×D)}{gs:List (Str×V)}(h:gs.map (·.1)=fs.map (·.1))(e:fs.lookup x=none):gs.lookup x=none:=by
 induction fs generalizing gs with
 |nil=>cases gs with
  |nil=>rfl
  |cons _ _=>cases h
 |cons p fs ih=>
  obtain⟨y,d⟩:=p;cases gs with
  |nil=>cases h
  |cons r gs=>
   grind
section
variable{X:Cx}{K:aI}{W:XW}{Z:St}{H:Hp}{q n:Nat}{m:GM}{g:GA}{f:GE}
def fX.wf{res:Rs Rv}(w:fX (RE K) K W q Z k H Q res):fX (RE K) K (WF (EW W Z)) q [] k H Q res:=by
 cases res with
 |ok a S=>exact w
 |ex C l S=>exact λdx k' H' u k r=>⟨C,rfl,w dx k' H' u k r⟩
def Wy(hm:iW m n)(t:tE K W q (au m g) Z H Q):fV K W q g Z H λxs H1=>sr K q n m (xs++[]) H1 Q (EW W Z):=by
 obtain⟨k,U,S,res,ok,gk,e,w⟩:=t;refine tX.bd ok gk e w λvs S1 xs k1 H1 bI g1 r1 e1 w1 _=>?_
 rw[kT];exact⟨(Paired.length r1).trans (hm _ _ _ e1),k1,vs,S1,res,bI,r1,e1,w1.wf⟩
def Bs{S:aR}{fs:List (Str×D)}{x:V}(ok:cf K k H S)(r:ag K k [x] [.ref n])(hn:S.r[n]?=some (.ins C fs)):∃a dx gs,x=.ref a/\k.A[n]?=some a/\k.F a=none/\H a=some (.ins C dx gs)/\gs.map (·.1)=fs.map (·.1)/\ag K k (gs.map (·.2)) (fs.map (·.2)):=by
 obtain⟨a,rfl,h1⟩:=r.isRef;obtain⟨h0,dx,gs,h2,h3,h4⟩:=ok.r.at' n a _ h1 hn;exact⟨a,dx,gs,rfl,h1,h0,h2,h3,h4⟩
def OF(hm:iW m n)(t:tE K W q (bq C x m f g) Z H Q):rY C x (sr K q n m) [] (EW W) (tE K W q f) (fV K W q g) Z H Q:=by
 obtain⟨k,U,S,res,ok,gk,e,w⟩:=t;refine tX.bd ok gk e w λr S1 y k1 H1 bI g1 r1 e1 w1 _=>?_
 obtain⟨j,e2,e3⟩:=cw.mp e1;clear e1;cases Rv.lO e2;split at e3
 .rename_i hi
  obtain⟨c,h1,h2⟩:=any_some hi;cases c with
  |ins C' fs=>
   obtain⟨h3,h4⟩:=Ar.mp h2;cases(beq_iff_eq.mp h3);obtain⟨a,dx,gs,q1,q2,q3,q4,q5,q6⟩:=Bs bI r1 h1;refine⟨a,dx,gs,q1,q4,Tn q5 (Option.isNone_iff_eq_none.mp h4),?_⟩;refine tX.bd bI g1 e3 w1 λvs S2 xs k2 H2 cO g2 r2 e2 w2 u2=>?_
   rw[kT];have r3:Paired (cV K k2) (y::xs) (.d (.ref j)::vs):=.cons (cV.up (v:=.d (.ref j)) r1 u2) r2;exact⟨(Paired.length r3).trans (hm _ _ _ e2),k2,_,S2,res,cO,r3,e2,w2.wf⟩
  |_=>cases h2
 .cases e3
def Wz(hm:iW m n)(t:tE K W q (qX C m g) Z H Q):vW C (sr K q n m) [] (EW W) (fV K W q g) Z H Q:=by
 obtain⟨k,U,S,res,ok,gk,e,w⟩:=t;refine tX.bd ok gk e w λvs S1 xs k1 H1 bI g1 r1 e1 w1 _=>?_
 intro x dx hx hdx ne;rw[kT];have sm:az H1 (upd (upd H1 dx (.own x)) x (.ins C dx [])):=(qJ hdx).put (by rw[c_ (Ne.symm ne)];exact hx)
 obtain⟨fx,nx⟩:=bI.fresh hx;have cO:cf K k1 _ S1:=bI.new (az.refl _) (λa _ o z=>sm a o z) (bI.le.trans sm) λ_ _ z=>z
 obtain⟨jj,u3⟩:=cO.vK nx (c:=.ins C []) ⟨fx,dx,[],aH,rfl,.nil⟩;have h3:ag K ⟨k1.F,k1.A++[x],k1.T⟩ [.ref x] [.ref S1.r.length]:=.ref (by rw[<-bI.r.ln];exact EY) .nil
 have u4:Up q k1 H1 ⟨k1.F,k1.A++[x],k1.T⟩ (upd (upd H1 dx (.own x)) x (.ins C dx [])):=(Up.of (az.refl _) sm).trans (u3 q);have r3:Paired (cV K ⟨k1.F,k1.A++[x],k1.T⟩) (.ref x::xs) (.d (.ref S1.r.length)::vs):=.cons h3 (uV.up r1 u4);rcases zR e1 with⟨r,S2,e2,e1⟩|⟨C',l,S2,e2,rfl⟩
 .refine⟨(Paired.length r3).trans (hm _ _ _ e2),_,_,_,_,jj,r3,e2,λv k' H' u fq r'=>?_⟩
  split at e1
  .rename_i hr
   cases e1;unfold Rv.vA at hr;split at hr
   .exact⟨(show ag K k' [v] [.aJ] from r').a_ rfl,w1 (.ref x) k' H' (u4.trans u) fq (ag.mono u.le h3)⟩
   .cases hr
  .cases e1
 .exact⟨(Paired.length r3).trans (hm _ _ _ e2),_,_,_,_,jj,r3,e2,λex k' H' u fq r'=>⟨C',rfl,w1 ex k' H' (u4.trans u) fq r'⟩⟩
end
end L2
set_option autoImplicit false
namespace L2
open PySem PySem.Spec PyProof.Rows
variable{p i:Nat}{P:St->Hp->Prop}{H:Hp}{Z:St}{ts:sv}
inductive Fr where
 |nx (U:Gm) (S:aR)|bk (U:Gm) (S:aR)|ct (U:Gm) (S:aR)|rt (r:Rv) (S:aR)|ex (C:ai) (l:aj Int) (U:Gm) (S:aR)
abbrev GS:=Gm->aR->aj Fr
section
variable(K:aI)(W:XW)(q:Nat){D:Ends}{k k':Kn}{H H':Hp}{Z:St}{U:Gm}{S:aR}{fr:Fr}
def bY(k:Kn)(H:Hp)(P:St->Hp->Prop)(U:Gm)(S:aR):Prop:=∀Z' k' H',Up q k H k' H'->cf K k' H' S->gj K k' Z' U->P Z' H'
def Done(D:Ends)(k:Kn)(H:Hp):Fr->Prop
 |.nx U S=>bY K q k H D.nx U S
 |.bk U S=>bY K q k H D.bk U S
 |.ct U S=>bY K q k H D.ct U S
 |.rt r S=>∀v k' H',Up q k H k' H'->cf K k' H' S->nz K k' H' v r->D.rt v H'
 |.ex C l U S=>∀dx Z' k' H',Up q k H k' H'->cf K k' H' S->gj K k' Z' U->Az k'.F dx l->W C dx Z' H'
def tS(f:GS):TS:=λD Z H=>∃k U S fr,cf K k H S/\gj K k Z U/\f U S=some fr/\Done K W q D k H fr
variable{K W q}
def HY{q:Nat}{o:HO}(h:p<=q)(e:uf p o=true):uf q o=true:=by
 match p,q with
 |0,_=>cases e
 |1,0=>lia
 |1,1=>exact e
 |1,n+2=>rfl
 |n+2,0=>lia
 |n+2,1=>lia
 |n+2,m+2=>rfl
def Up.weak(u:Up q k H k' H')(h:p<=q):Up p k H k' H':=⟨u.f,u.a,u.t,λa o z e=>u.h a o (HY h z) e⟩
def bY.up(w:bY K q k H P U S)(u:Up q k H k' H'):bY K q k' H' P U S:=λZ' k2 H2 u2 ok g=>w Z' k2 H2 (u.trans u2) ok g
def bY.now(w:bY K q k H P U S)(ok:cf K k H S)(g:gj K k Z U):P Z H:=w Z k H .refl ok g
theorem Done.up(w:Done K W q D k H fr)(u:Up q k H k' H'):Done K W q D k' H' fr:=by
 cases fr with
 |nx U S=>exact bY.up w u
 |bk U S=>exact bY.up w u
 |ct U S=>exact bY.up w u
 |rt r S=>exact λv k2 H2 u2 k r=>w v k2 H2 (u.trans u2) k r
 |ex C l U S=>exact λdx Z' k2 H2 u2 k g r=>w dx Z' k2 H2 (u.trans u2) k g r
theorem Done.weak{p:Nat}(w:Done K W q D k H fr)(h:q<=p):Done K W p D k H fr:=by
 cases fr with
 |nx U S=>exact λZ' k2 H2 u=>w Z' k2 H2 (u.weak h)
 |bk U S=>exact λZ' k2 H2 u=>w Z' k2 H2 (u.weak h)
 |ct U S=>exact λZ' k2 H2 u=>w Z' k2 H2 (u.weak h)
 |rt r S=>exact λv k2 H2 u=>w v k2 H2 (u.weak h)
 |ex C l U S=>exact λdx Z' k2 H2 u=>w dx Z' k2 H2 (u.weak h)
def kb{α:Type}(U:Gm)(x:aj (Rs α))(f:α->aR->aj Fr):aj Fr:=match x with
 |none=>none
 |some (.ok a S)=>f a S
 |some (.ex C l S)=>some (.ex C l U S)
def tS.BC{α β:Type}{R:Rp α β}{g:Gx α}{f:α->aR->aj Fr}{Q:β->Hp->Prop}(ok:cf K k H S)(gk:gj K k Z U)(e:kb U (g U S) f=some fr)(w:Done K W q D k H fr)
  (h:∀a S1 b k1 H1,cf K k1 H1 S1->gj K k1 Z U->R k1 H1 b a->f a S1=some fr->Done K W q D k1 H1 fr->Up q k H k1 H1->Q b H1):tX R K W q g Z H Q:=by
 unfold kb at e;split at e
 .cases e
 .rename_i a S1 e1
  exact⟨k,U,S,_,ok,gk,e1,λb k' H' u fq r=>h a S1 b k' H' fq (gk.up u) r e (w.up u) u⟩
 .rename_i C l S1 e1
  cases e;exact⟨k,U,S,_,ok,gk,e1,λdx k' H' u fq r=>w dx Z k' H' u fq (gk.up u) r⟩
def tS.bd{α β:Type}{R:Rp α β}{g:Gx α}{f:α->aR->aj Fr}{Q:β->Hp->Prop}(ok:cf K k H S)(gk:gj K k Z U)(e:kb U (g U S) f=some fr)(w:Done K W q D k H fr)
  (h:∀a S1 b k1 H1,cf K k1 H1 S1->gj K k1 Z U->R k1 H1 b a->f a S1=some fr->Done K W q D k1 H1 fr->Q b H1):tX R K W q g Z H Q:=tS.BC ok gk e w λa S1 b k1 H1 h1 h2 h3 h4 h5 _=>h a S1 b k1 H1 h1 h2 h3 h4 h5
end
def mD:GS:=λU S=>some (.nx U S)
noncomputable def dC(f g:GS):GS:=λU S=>(f U S).bind λr=>match r with
 |.nx U S=>g U S
 |r=>some r
noncomputable def aE(g:GE):GS:=λU S=>kb U (g U S) λr S1=>some (.rt r S1)
noncomputable def fI(c:GT)(f g:GS):GS:=λU S=>kb U (c U S) λb S1=>if b=true then f U S1 else g U S1
noncomputable def de(g:GE):GS:=λU S=>kb U (g U S) λ_ S1=>some (.nx U S1)
def asg(mu:Bool)(S:aR):Rv->Val×aR
 |.o c=>if mu=true then(.c S.s.length,⟨S.s++[.o c],S.r⟩) else(.d c.d,S)
 |.v x=>(x,S)
def aq(i:Nat)(mu:Bool)(g:GE):GS:=λU S=>kb U (g U S) λr S1=>if i<U.length then some (.nx (U.set i (some (asg mu S1 r).1)) (asg mu S1 r).2) else none
section
variable{X:Cx}{K:aI}{W:XW}{q:Nat}{st:Stmt}{rest sa sb:List Stmt}{e c:Expr}{f g:GS}{lA:GE}{ft:GT}{pos:Pos}
def xK:iP X [] (tS K W q mD):=oG.mono λD Z H t=>by
 obtain⟨k,U,S,fr,ok,gk,e,w⟩:=t;cases e;exact bY.now w ok gk
def tZ(h1:PS X st (tS K W q f))(h2:iP X rest (tS K W q g)):iP X (st::rest) (tS K W q (dC f g)):=(Ut h1 h2).mono λD Z H t=>by
 obtain⟨k,U,S,fr,ok,gk,e,w⟩:=t;obtain⟨r,e1,e⟩:=cw.mp e;refine⟨k,U,S,r,ok,gk,e1,?_⟩;cases r with
 |nx U1 S1=>exact λZ' k' H' u fq g'=>⟨k',U1,S1,fr,fq,g',e,w.up u⟩
 |bk U1 S1=>cases e;exact w
 |ct U1 S1=>cases e;exact w
 |rt r S1=>cases e;exact w
 |ex C l U1 S1=>cases e;exact w
def xO(h:PE X e (tE K W q lA)):PS X (.Return (some e) pos) (tS K W q (aE lA)):=(YF h).mono λD Z H t=>by
 obtain⟨k,U,S,fr,ok,gk,e,w⟩:=t;refine tS.bd ok gk e w λr S1 v k1 H1 bI g1 r1 e1 w1=>?_
 cases e1;exact w1 v k1 H1 .refl bI r1
def BL(hc:PT X c (tT K W q ft))(ha:iP X sa (tS K W q f))(hb:iP X sb (tS K W q g)):PS X (.If c sa sb pos) (tS K W q (fI ft f g)):=(e5x hc ha hb).mono λD Z H t=>by
 obtain⟨k,U,S,fr,ok,gk,e,w⟩:=t;refine tS.bd ok gk e w λb S1 v k1 H1 bI g1 r1 e1 w1=>?_
 cases r1;cases b with
 |true=>exact rC ⟨k1,U,S1,fr,bI,g1,e1,w1⟩
 |false=>exact rB ⟨k1,U,S1,fr,bI,g1,e1,w1⟩
def WA(he:PE X e (tE K W q lA))(hs:swapsWith e none pos.line X.env=pure false):PS X (.Expr e pos) (tS K W q (de lA)):=(V6 he hs).mono λD Z H t=>by
 obtain⟨k,U,S,fr,ok,gk,e,w⟩:=t;refine tS.bd ok gk e w λr S1 v k1 H1 bI g1 r1 e1 w1=>?_
 cases e1;exact bY.now w1 bI g1
def Y_{mu:Bool}{k:Kn}{S:aR}{x:V}{r:Rv}(ok:cf K k H S)(h:nz K k H x r):∃k',(∀q,Up q k H k' H)/\cf K k' H (asg mu S r).2/\cV K k' x (asg mu S r).1:=by
 cases r with
 |v y=>exact p6 ok h
 |o c=>
  cases mu with
  |false=>exact p6 (r:=.o c) ok h
  |true=>
   obtain⟨p,rfl,hF,hi,hc⟩:=h;obtain⟨bI,u⟩:=ok.pushS hF hi hc;exact⟨_,u,bI,p,rfl,by rw[<-ok.s.ln];exact EY⟩
def gj.set{k:Kn}{Z:St}{U:Gm}{i:Nat}{x:V}{v:Val}(g:gj K k Z U)(r:cV K k x v)(hi:i<U.length):gj K k (Z.set i (some x)) (U.set i (some v)):=by
 refine⟨by rw[v7,v7,g.ln],λj w e=>?_⟩
 by_cases z:i=j
 .subst z;rw[uO hi] at e;cases e;exact⟨x,uO (g.ln ▸ hi),r⟩
 .rw[Ao z] at e ⊢;exact g.at' j w e
def PN{mu:Bool}{D:Ends}(t:tS K W q (aq i mu lA) D Z H):tE K W q lA Z H λv H1=>D.nx (Z.set i (some v)) H1:=by
 obtain⟨k,U,S,fr,ok,gk,e,w⟩:=t;refine tS.bd ok gk e w λr S1 v k1 H1 bI g1 r1 e1 w1=>?_
 split at e1
 .cases e1;obtain⟨k2,u,cO,r2⟩:=Y_ (mu:=mu) bI r1;exact bY.now (bY.up w1 (u q)) cO ((g1.up (u q)).set r2 (by assumption))
 .cases e1
def Y'{mu:Bool}{x:Str}{pos':Pos}(hN:X.N.Nodup)(hi:X.N[i]?=some x)(hx:Loc X.env.scope x)(he:PE X e (tE K W q lA))(hs:swapsWith e (some (.Name x pos')) pos.line X.env=pure false)(hf:X.fn x=true\/X.env.scope.names.lookup x=some .local):
  PS X (.Assign [.Name x pos'] e pos) (tS K W q (aq i mu lA)):=(YN hN hi hx he hs hf).mono λD Z H t=>PN t
def bj(c:GT)(f:GS):Nat->GS
 |0=>λ_ _=>none
 |n+1=>λU S=>kb U (c U S) λb S1=>if b=true then(f U S1).bind λr=>match r with
   |.nx U2 S2=>bj c f n U2 S2
   |.ct U2 S2=>bj c f n U2 S2
   |.bk U2 S2=>some (.nx U2 S2)
   |r=>some r
  else some (.nx U S1)
def qS(n:Nat)(hp:PassesOwn (model X.prog X.w) X.A X.env X.xe)(hc:PT X c (tT K W q ft))(hb:iP X sa (tS K W q f)):PS X (.While c sa [] pos) (tS K W q (bj ft f n)):=(Uu hp hc hb).mono λD Z H t=>by
 obtain⟨k,U,S,fr,ok,gk,e,w⟩:=t;refine⟨λn Z H=>∃k U S,cf K k H S/\gj K k Z U/\bj ft f n U S=some fr/\Done K W q D k H fr,⟨n,k,U,S,ok,gk,e,w⟩,?_⟩
 clear ok gk e w;rintro n Z H ⟨k,U,S,ok,gk,e,w⟩;cases n with
 |zero=>cases e
 |succ n=>
  refine tS.bd ok gk e w λb S1 v k1 H1 bI g1 r1 e1 w1=>?_
  cases r1;cases b with
  |false=>cases e1;exact rB (bY.now w1 bI g1)
  |true=>
   refine rC ⟨λZ' H'=>∃k U S,cf K k H' S/\gj K k Z' U/\bj ft f n U S=some fr/\Done K W q D k H' fr,λZ' H' h=>⟨n,pS _,h⟩,?_⟩
   obtain⟨r,e2,e3⟩:=cw.mp (show((f U S1).bind _)=some fr from e1);refine⟨k1,U,S1,r,bI,g1,e2,?_⟩;cases r with
   |nx U2 S2=>exact λZ' k' H' u fq g'=>⟨k',U2,S2,fq,g',e3,w1.up u⟩
   |ct U2 S2=>exact λZ' k' H' u fq g'=>⟨k',U2,S2,fq,g',e3,w1.up u⟩
   |bk U2 S2=>cases e3;exact w1
   |rt r S2=>cases e3;exact w1
   |ex C l U2 S2=>cases e3;exact w1
end
abbrev GG:=D->Gm->aj Gm
variable{gs:List GG}
noncomputable def ae(i:Nat):GG:=λd U=>if i<U.length then some (U.set i (some (.d d))) else none
noncomputable def og:List GG->List D->Gm->aj Gm
 |[],[],U=>some U
 |g::gs,d::ds,U=>(g d U).bind λU1=>og gs ds U1
 |_,_,_=>none
def bC(gs:List GG):GG:=λd U=>match d with
 |.tup ds=>og gs ds U
 |_=>none
section
variable{K:aI}
def jF(K:aI)(t:TG)(g:GG):Prop:=
 ∀(k:Kn) (H:Hp) (Z:St) (U U1:Gm) (x:V) (d:D) (Q:St->Hp->Prop),az k.F H->gj K k Z U->ag K k [x] [d]->g d U=some U1->(∀Z',gj K k Z' U1->Q Z' H)->t x Z H Q
def nX(K:aI)(t:sv)(gs:List GG):Prop:=
 ∀(k:Kn) (H:Hp) (Z:St) (U U1:Gm) (xs:List V) (ds:List D) (Q:St->Hp->Prop),az k.F H->gj K k Z U->ag K k xs ds->og gs ds U=some U1->(∀Z',gj K k Z' U1->Q Z' H)->t xs Z H Q
def uB:jF K (n_ i) (ae i):=by
 intro k H Z U U1 x v Q le gk r e w;unfold ae at e;split at e
 .cases e;exact w _ (gk.set (v:=.d v) r (by assumption))
 .cases e
def uD:nX K BU []:=by
 intro k H Z U U1 xs vs Q le gk r e w;cases vs with
 |nil=>cases e;exact⟨r.fP,w Z gk⟩
 |cons _ _=>cases e
def r6{t:TG}{g:GG}(h1:jF K t g)(h2:nX K ts gs):nX K (vj t ts) (g::gs):=by
 intro k H Z U U1 xs vs Q le gk r e w;cases vs with
 |nil=>cases e
 |cons d ds=>
  obtain⟨U2,e1,e2⟩:=cw.mp e;obtain⟨x,xs,rfl,r1,r2⟩:=r.cg;exact⟨_,_,rfl,h1 k H Z U U2 _ _ _ le gk r1 e1 λZ1 g1=>h2 k H Z1 U2 U1 _ _ Q le g1 r2 e2 w⟩
def To:∀{gs:List GG} {vs:List D} {U U1:Gm},og gs vs U=some U1->vs.length=gs.length:=by
 intro gs
 induction gs with
 |nil=>intro vs U U1 e;cases vs with
  |nil=>rfl
  |cons _ _=>cases e
 |cons g gs ih=>intro vs U U1 e;cases vs with
  |nil=>cases e
  |cons v vs=>obtain⟨U2,_,e2⟩:=cw.mp e;exact congrArg (·+1) (ih e2)
def yU{n:Nat}(h:nX K ts gs)(hn:n=gs.length):jF K (xV K n ts) (bC gs):=by
 intro k H Z U U1 x d Q le gk r e w;cases d with
 |tup es=>
  obtain⟨a,ws,rfl,sq,rp⟩:=r.isTup;exact⟨a,ws,rfl,le.yQ sq,by rw[hn,<-To e,rp.length],h k H Z U U1 _ _ Q le gk rp e w⟩
 |_=>cases e
end
def gD(g:GE):Gx D:=λU S=>bd (g U S) λr S1=>(nE S1 (lS r)).map λp=>.ok p.1 p.2
abbrev RD(K:aI):Rp D V:=λk _ x d=>ag K k [x] [d]
section
variable{X:Cx}{K:aI}{W:XW}{q:Nat}{g:GE}{gg:GG}{t:TG}{e tg:Expr}{pos:Pos}
def Lk{Q:VK}(t:tX (RD K) K W q (gD g) Z H Q):tE K W q g Z H Q:=by
 obtain⟨k,U,S,res,ok,gk,e,w⟩:=t;refine tX.bd ok gk e w λr S1 x k1 H1 bI g1 r1 e1 w1 _=>?_
 obtain⟨p,e2,rfl⟩:=cW.mp e1;obtain⟨k2,u2,cO,r2⟩:=p6 bI r1;obtain⟨k3,u3,jj,r3⟩:=EZ cO r2 e2;exact((w1.up (u2 q)).up (u3 q)).now jj r3
end
variable{N:List Str}{n p:Nat}{m:GS}
def aR.cut(S:aR)(b:Nat):aR:=⟨S.s.take b,S.r⟩
def BB:Cell->aj Rv
 |.o x=>some (.o x)
 |.z x=>some (.v (.d x.d))
 |_=>none
def back(b:Nat)(S:aR):Rv->aj Rv
 |.v (.c n)=>if n<b then some (.v (.c n)) else(S.s[n]?).bind BB
 |r=>some r
def leave(b:Nat):Fr->aj (Rs Rv)
 |.nx _ S=>some (.ok (.v (.d .aJ)) (S.cut b))
 |.rt r S=>(back b S r).map λr'=>.ok r' (S.cut b)
 |.ex C l _ S=>some (.ex C l (S.cut b))
 |_=>none
def runM(p n:Nat)(m:GS):GM:=λvs S=>if vs.length=p then(m (vs.map some++List.replicate (n - vs.length) none) S).bind (leave S.s.length) else none
section
variable{K:aI}{k k':Kn}{H H':Hp}{S:aR}{q b:Nat}
def WB{v:V}{r r':Rv}(ok:cf K k H S)(h:nz K k H v r)(e:back b S r=some r'):nz K ⟨k.F,k.A,k.T.take b⟩ H v r':=by
 have go:k.le ⟨k.F,k.A,k.T.take b⟩:=⟨az.refl _,kH _⟩;cases r with
 |o c=>
  cases e;obtain⟨a,e1,e2,e3,e4⟩:=h;exact⟨a,e1,e2,λm=>e3 ((gw.mp m).elim (DF _) λm=>mZ _ (List.mem_of_mem_take m)),e4.keep go λ_ z=>z⟩
 |v x=>
  cases x with
  |d y=>cases e;exact ag.mono go h
  |c n=>
   obtain⟨a,e1,e2⟩:=h;unfold back at e;dsimp only at e;split at e
   .rename_i hn
    cases e;exact⟨a,e1,by rw[List.getElem?_take,bL hn];exact e2⟩
   .rename_i hn
    obtain⟨c,h1,h2⟩:=cw.mp e;have h3:=ok.s.at' n a c e2 h1;cases c with
    |ins _ _=>cases h2
    |z x=>cases h2;rw[e1];exact ag.mono go h3.2
    |o x=>
     cases h2;obtain⟨n1,n2,n3⟩:=lY.mp ok.nd;refine⟨a,e1,h3.1,λm=>?_,h3.2.keep go λ_ z=>z⟩
     rcases gw.mp m with m|m
     .exact n3 a m a (pT e2) rfl
     .obtain⟨j,hj⟩:=yY.mp m;rw[List.getElem?_take] at hj;split at hj
      .rename_i FV
       have:=NF n2 hj e2;lia
      .cases hj
def Tp{xs:List V}{vs:List Val}(h:Paired (cV K k) xs vs)(hn:N.length=n):gj K k (start N xs) (vs.map some++List.replicate (n - vs.length) none):=by
 have hl:=Paired.length h;refine⟨by unfold start;simp[hl,hn],λi v e=>?_⟩
 by_cases hi:i<vs.length
 .rw[uQ (by rw[bJ];exact hi),fW] at e
  obtain⟨w,e1,e2⟩:=cW.mp e;cases e2;obtain⟨x,h1,h2⟩:=Ey i h e1;refine⟨x,?_,h2⟩;unfold start;rw[uQ (by rw[bJ,hl];exact hi),fW,h1]
  rfl
 .rw[sV (by rw[bJ];lia),LB] at e
  split at e <;> cases e
end
section
variable{P:cX}{w:cA}{K:aI}{mg:Str->aj ah}{base:bS}
def Za{x qual:Str}{st:Stmt}{f:ai}{fd:kI}{ps:List Str}{k q:Nat}(F:sk K x qual st f fd)(S:ia N ps (o_ st))(hp:ps.length=p)(hn:N.length=n)
  (q8:∀(f6:ah) (A:cK) (outer:List Env) (s:ao) (H:Hp) (E:XK),cx k (A.deeper (envOfC qual (o_ st) s.heap.objs.size f f6))->iP (lz (l7 P w) P w K mg base N qual (o_ st) f f6 A outer s H E) (wM st) (tS K (WF E) q m)) :
  dA P w K mg base (l7 P w) (k+1) f fd ps (sr K q p (runM p n m)):=by
 obtain⟨oc,od,kV,doc,pm,an,f6,ct,oB,rfl,lk,q_⟩:=F.ex;refine e6b lk q_ S (λvs H Q E h=>h.1.trans hp.symm) λA outer s H xs Q E hr vp=>⟨_,q8 f6 A outer s H E hr,?_⟩
 obtain⟨hl,k,vs,S,res,ok,rp,e,w⟩:=vp;unfold runM at e;split at e
 .obtain⟨fr,e1,e2⟩:=cw.mp e;refine⟨k,_,S,fr,ok,Tp rp hn,e1,?_⟩;have lb:k.T.length<=S.s.length:=DG ok.s.ln;cases fr with
  |nx U S'=>
   cases e2;exact λZ' k' H' u fq g'=>w .aJ _ H' (u.take lb) (fq.take _) (show ag K _ [.aJ] [.aJ] from .flat rfl .nil)
  |bk U S'=>cases e2
  |ct U S'=>cases e2
  |rt r S'=>
   obtain⟨r',e3,rfl⟩:=cW.mp e2;exact λv k' H' u fq r1=>w v _ H' (u.take lb) (fq.take _) (WB fq r1 e3)
  |ex C l U S'=>
   cases e2;exact λdx Z' k' H' u fq g' el=>w dx _ H' (u.take lb) (fq.take _) el
 .cases e
def pP:iW (runM p n m) p:=λvs S res e=>by
 unfold runM at e;split at e
 .assumption
 .cases e
end
section
variable{prog:cX}{w:cA}{A:cK}{E:ah->ao->Prop}{h:bS}{g:Array GenState}{d:Drawn}{t:Nat}{os:OsState}
variable{nm q:Str}{C N:ai}{bs bm xw:List ah}{hdct:Bool}{sn:List Str}{sub:List ah}{ab:Bool}{col:aj Bool}{dd:aj ai}{k0 k1 k2 k3 k5:aj ah}{B Bn newId Ri lG Q7:String}{Ol:List ah}
def Dq(Fn:ExcBaseFacts Bn newId Q7 Ol)(FI:xw.contains (.type Bn)=true)(F:ExcBaseFacts B Ri lG xw)(T:OwnTail h xw bm){mN:Str->aj ah}{rest:List ah}{Q:Fin->ao->Prop}
  (hC:h.get? C=some (excClassObj nm q C N bs bm hdct sn sub ab col dd k0 k1 k2 k3 k5 newId)) (hn:h.Ns N mN) (rn:rest.length<=sizeLine)
  (hq:∀i,i=(mN "__init__").getD (.builtin lG)->wpAny (model prog w) A (bindSpecial i (.ref (h.objs.size+1))) (λp s'=>wpAny (model prog w) A (call p.1 (p.2++rest)) (λr rV=>r=.none/\Q (.done (.ret (.ref (h.objs.size+1)))) rV) E s') E ⟨((h.push { cls:=.type "tuple",data:=.seq rest.toArray}).push { cls:=.ref C,data:=.fields #[.ref h.objs.size,.none,.none,.none,.bool false,.none]}),g,d,t,os⟩) :
  wpAny (model prog w) A (Builtin.«type.__call__» ⟨.ref C::rest,[]⟩) Q E ⟨h,g,d,t,os⟩:=by
 repeat (first|with_reducible refine wpAny_loadPart_at hC ?_|with_reducible refine wpAny_madeBy_exc hC ?_|wp_step)
 refine codeAny_call_builtin_code (Code.quiet_builtin _ Fn.quiet) (wpAny_check_new_subU Fn FI T hC (codeAny_exc_new_subU Fn FI F T hC ?_ rn));show wpAny _ _ _ _ _ _;have st:∀b o,h.get? b=some o->((h.push { cls:=.type "tuple",data:=.seq rest.toArray}).push { cls:=.ref C,data:=.fields #[.ref h.objs.size,.none,.none,.none,.bool false,.none]}).get? b=some o:=λb o e=>cU _ (cU _ e)
 have hC₁:=st _ _ hC;have x6:((h.push { cls:=.type "tuple",data:=.seq rest.toArray}).push { cls:=.ref C,data:=.fields #[.ref h.objs.size,.none,.none,.none,.bool false,.none]}).get? (h.objs.size+1)=some { cls:=.ref C,data:=.fields #[.ref h.objs.size,.none,.none,.none,.bool false,.none]}:=by heap_get
 have hcC:(Value.ref C::bm).contains (.ref C)=true:=by simp
 unfold isInstance
 repeat (first|with_reducible refine wpAny_loadPart_at x6 ?_|(with_reducible refine wpAny_isSubtype_exc hC₁ ?_;rw[hcC])|wp_step)
 show wpAny _ _ (typeLookup (.ref C) _) _ _ _;refine wpAny_typeLookup_tail hC₁ (hn.keeps st) (T.keeps st) F.mroIs F.init.lookup ?_;cases hv:mN "__init__" with
 |none=>
  refine i5 (ax (wpAny_mono (hq _ (by rw[hv];rfl)) (λp s' z=>ax (wpAny_mono z (λr rV y=>?_) λ_ _ y=>y)) λ_ _ y=>y))
  obtain⟨rfl,y⟩:=y
  wp_walk
  exact y
 |some v=>
  refine i5 (ax (wpAny_mono (hq _ (by rw[hv];rfl)) (λp s' z=>ax (wpAny_mono z (λr rV y=>?_) λ_ _ y=>y)) λ_ _ y=>y))
  obtain⟨rfl,y⟩:=y
  wp_walk
  exact y
def UO(Fn:ExcBaseFacts Bn newId Q7 Ol)(FI:xw.contains (.type Bn)=true)(F:ExcBaseFacts B Ri lG xw)(T:OwnTail h xw bm){mN:Str->aj ah}{rest:List ah}{Q:ah->ao->Prop}
  (hC:h.get? C=some (excClassObj nm q C N bs bm hdct sn sub ab col dd k0 k1 k2 k3 k5 newId)) (hn:h.Ns N mN) (rn:rest.length<=sizeLine)
  (hq:∀i,i=(mN "__init__").getD (.builtin lG)->wpAny (model prog w) (A.under (.builtin "type.__call__" ⟨.ref C::rest,[]⟩)) (bindSpecial i (.ref (h.objs.size+1))) (λp s'=>wpAny (model prog w) (A.under (.builtin "type.__call__" ⟨.ref C::rest,[]⟩)) (call p.1 (p.2++rest)) (λr rV=>r=.none/\Q (.ref (h.objs.size+1)) rV) E s') E ⟨((h.push { cls:=.type "tuple",data:=.seq rest.toArray}).push { cls:=.ref C,data:=.fields #[.ref h.objs.size,.none,.none,.none,.bool false,.none]}),g,d,t,os⟩) :
  wpAny (model prog w) A (call (.ref C) rest) Q E ⟨h,g,d,t,os⟩:=by
 have f1:=tc_lookup;have f2:=tc_bind (.ref C);have hT:(⟨h,g,d,t,os⟩:ao).TypeIs (.ref C) "type":=⟨_,hC,rfl⟩;refine wpAny_call (codeAny_of_tree (show wpAny _ _ (callAny (.ref C) _) _ _ _ from ?_))
 repeat (any_goals (first|assumption|with_reducible refine wpAny_loadPart_at hC ?_|wp_step))
 exact⟨rfl,codeAny_call_builtin_at (Code.quiet_builtin _ (by decide +kernel)) entry_typeCall (wpAny_check_type_call_sub hC (Dq Fn FI F T hC hn rn λi e=>hq i e))⟩
end
end L2
namespace L2
open PySem PySem.Spec PySem.W PySem.Calls PyProof.Rows
noncomputable def qU(C t:ai)(d:aj ai):Obj:={ cls:=.ref C,dict:=d,data:=.fields #[.ref t,.none,.none,.none,.bool false,.none]}
section
variable{prog:cX}{w:cA}{A:cK}{E:ah->ao->Prop}{h:bS}{g:Array GenState}{d:Drawn}{tt:Nat}{os:OsState}{x t:ai}
variable{nm q:Str}{C N:ai}{bs bm xw:List ah}{hdct:Bool}{sn:List Str}{sub:List ah}{ab:Bool}{col:aj Bool}{dd:aj ai}{k0 k1 k2 k3 k5:aj ah}{newId:String}
def Dy{u:ah}{Q:ah->ao->Prop}(T:OwnTail h [.type "ValueError",.type "Exception",.type "BaseException",.type "object"] bm)(hC:h.get? C=some (excClassObj nm q C N bs bm hdct sn sub ab col dd k0 k1 k2 k3 k5 newId))(hx:h.get? x=some (qU C t none))
  (hq:∀h',h'.get? x=some (qU C h.objs.size none)->(∀b o,b≠x->h.get? b=some o->h'.get? b=some o)->Q .none ⟨h',g,d,tt,os⟩) :
  wpAny (model prog w) A (call (.builtin "ValueError.__init__") [.ref x,u]) Q E ⟨h,g,d,tt,os⟩:=by
 have FB:=F.excBase_ValueError;have sO:h.get? x=some { cls:=.ref C,data:=.fields #[.ref t,.none,.none,.none,.bool false,.none]}:=hx;refine wpAny_call (codeAny_call_builtin FB.init.plain FB.initEntry (wpAny_check_init_subU FB T hC sO rfl ?_))
 wp_walk
 refine hq _ ?_ λb o n e=>?_
 .rw[pU _ (cU _ sO) rfl];rfl
 .rw[nQ _ _ (Ne.symm n)];exact cU _ e
end
noncomputable abbrev p7:List ah:=[.type "ValueError",.type "Exception",.type "BaseException",.type "object"]
def fD(K:fm)(C:ai)(bm:List ah)(F3:aj ah):Prop:=∃nm q N bs sn sub ab col dd k0 k1 k2 k3 k5 on Af es ep Ag,
 K.lookup C=some (excClassObj nm q C N bs bm true sn sub ab col dd k0 k1 k2 k3 k5 "ValueError.__new__")/\K.lookup N=some ⟨on,Af,.dict es ep,Ag⟩/\StrKeys es/\nsFind es "__init__"=F3
section
variable{K:fm}{C C' B0 a:ai}{bm IL:List ah}{i i':aj ah}{l:aj Int}
theorem fD.cls(G:fD K C bm i):∃cd,clsIn K C=some cd/\cd.mro=.ref C::bm/\cd.hasDict=true/\typeIn K (.ref C)=some (.type "type"):=by
 obtain⟨nm,q,N,bs,sn,sub,ab,col,dd,k0,k1,k2,k3,k5,on,Af,es,ep,Ag,g1,g2,g3,g4⟩:=G;exact⟨_,by unfold clsIn;rw[g1],rfl,rfl,by show(K.lookup C).map (·.cls)=_;rw[g1];rfl⟩
def fD.sub(G:fD K C bm i)(b:ah):subIn K (.ref C) b=some ((Value.ref C::bm).contains b):=by
 obtain⟨cd,c1,c2,c3,c4⟩:=G.cls;show mroIn K C b=_;unfold mroIn;rw[c1,yZ,c2];rfl
def fD.exm{C C':ai}{bm IL:List ah}{i i':aj ah}(G:fD K C bm i)(G':fD K C' IL i')(h:(Value.ref C'::IL).contains (.type "BaseException")=true):exmOne K (.ref C) (.ref C')=some ((Value.ref C::bm).contains (.ref C')):=by
 obtain⟨cd,c1,c2,c3,c4⟩:=G'.cls;unfold exmOne;rw[G'.sub,h,bL (by decide)]
 unfold kitCls;dsimp only;rw[bL (by rw[c1,c4];rfl)]
 exact G.sub _
end
section
variable{X:Cx}{aa:List (ai×Obj)}{Z:St}{H:Hp}{s:ao}{C B0:ai}{R:ah->ao->Prop}
def UP{u:ah}(G:fD X.K C (.ref B0::p7) none)(G0:fD X.K B0 p7 none)(I:Inv X aa Z H s)(h:∀h' t,(∀b o,s.heap.get? b=some o->h'.get? b=some o)->h'.get? (s.heap.objs.size+1)=some (qU C t none)->R (.ref (s.heap.objs.size+1)) { s with heap:=h'}):
  wpAny (model X.prog X.w) X.A (call (.ref C) [u]) R X.xe s:=by
 obtain⟨hh,g,d,tt,os⟩:=s;have KX:X.K.In hh:=I.jt;obtain⟨nm,q,N,bs,sn,sub,ab,col,dd,k0,k1,k2,k3,k5,on,Af,es,ep,Ag,g1,g2,g3,g4⟩:=G;obtain⟨nm',q',N',bs',sn',sub',ab',col',dd',k0',k1',k2',k3',k5',on',odn',es',kP,sln',g1',g2',g3',g4'⟩:=G0;have FB:=F.excBase_ValueError;have T:OwnTail hh p7 (.ref B0::p7):=.own (KX _ _ g1') (mA:=λn=>nsFind es' n) ⟨_,_,_,KX _ _ g2',rfl,g3',λ_=>rfl⟩ g4' .base
 refine UO FB rfl FB T (KX _ _ g1) (mN:=λn=>nsFind es n) ⟨_,_,_,KX _ _ g2,rfl,g3,λ_=>rfl⟩ (by rw[sizeLine_eq];exact(by decide:1<=16777216)) λi ei=>?_
 rw[g4] at ei;subst ei;have st:∀b o,hh.get? b=some o->((hh.push { cls:=.type "tuple",data:=.seq [u].toArray}).push { cls:=.ref C,data:=.fields #[.ref hh.objs.size,.none,.none,.none,.bool false,.none]}).get? b=some o:=λb o e=>cU _ (cU _ e)
 have x6:((hh.push { cls:=.type "tuple",data:=.seq [u].toArray}).push { cls:=.ref C,data:=.fields #[.ref hh.objs.size,.none,.none,.none,.bool false,.none]}).get? (hh.objs.size+1)=some (qU C hh.objs.size none):=by unfold qU;heap_get
 refine wpAny_of_eq (FB.init.bind _) (Dy (T.keeps st) (st _ _ (KX _ _ g1)) x6 λh' e1 e2=>?_)
 exact⟨rfl,h h' _ (λb o z=>e2 b o (gd (sX (cP z))) (st b o z)) e1⟩
end
noncomputable abbrev Cx.dO(X:Cx)(pn:List (ai×Obj))(E:ah->ao->Prop):Cx:={ X with pn:=pn,xe:=E}
noncomputable abbrev Cx.dN(X:Cx)(e:ah):Cx:={ X with A:=X.A.mark (some e),calm:=false,xe:=λ_ _=>False}
structure AI (X:Cx) (aa:List (ai×Obj)) (n:Nat):Prop where
 s:X.s₀.heap.objs.size<=n
 l:X.env.locals<n
 c:∀x c,X.env.cells.lookup x=some c->c<n
 p:∀q∈X.pn++aa,q.1<n
section
variable{X:Cx}{aa mG:List (ai×Obj)}{pn:List (ai×Obj)}{Z:St}{H:Hp}{s:ao}{E:ah->ao->Prop}{n:Nat}{ch:List ai}{h':bS}
def Cx.Ok.dO(ok:X.Ok):(X.dO pn E).Ok:=⟨ok.mod,ok.kind,ok.glob,ok.blt,ok.above,ok.inj,ok.has,ok.xx,ok.hd,ok.frames,ok.Ai,ok.FE,ok.bs,ok.qN,ok.nK,ok.pk,ok.iq,ok.t4⟩
def Cx.Ok.dY(ok:(X.dO pn E).Ok):X.Ok:=⟨ok.mod,ok.kind,ok.glob,ok.blt,ok.above,ok.inj,ok.has,ok.xx,ok.hd,ok.frames,ok.Ai,ok.FE,ok.bs,ok.qN,ok.nK,ok.pk,ok.iq,ok.t4⟩
theorem Inv.dO(I:Inv X aa Z H s):Inv (X.dO (X.pn++aa) E) [] Z H s:=⟨I.ok.dO,I.os,I.bare,I.base,I.loc,I.cell,I.free,I.eD,λp hp=>I.pin p (by rw[kT] at hp;exact hp),I.bw,I.len⟩
theorem Inv.dY(I:Inv (X.dO (X.pn++aa) E) mG Z H s):Inv X aa Z H s:=⟨I.ok.dY,I.os,I.bare,I.base,I.loc,I.cell,I.free,I.eD,λp hp=>I.pin p (DF _ hp),I.bw,I.len⟩
def Inv.dN{e:ah}(I:Inv X aa Z H s):Inv (X.dN e) aa Z H s:=
 ⟨⟨I.ok.mod,I.ok.kind,I.ok.glob,I.ok.blt,I.ok.above,I.ok.inj,I.ok.has,I.ok.xx,λz=>(nomatch z),I.ok.frames,I.ok.Ai,I.ok.FE,I.ok.bs,I.ok.qN,I.ok.nK,I.ok.pk,I.ok.iq,I.ok.t4⟩,I.os,I.bare,I.base,I.loc,I.cell,I.free,I.eD,I.pin,I.bw,I.len⟩
def Inv.eG{e:ah}(I:Inv (X.dN e) aa Z H s)(hd:X.calm=true->X.A.handled=none):Inv X aa Z H s:=
 ⟨⟨I.ok.mod,I.ok.kind,I.ok.glob,I.ok.blt,I.ok.above,I.ok.inj,I.ok.has,I.ok.xx,hd,I.ok.frames,I.ok.Ai,I.ok.FE,I.ok.bs,I.ok.qN,I.ok.nK,I.ok.pk,I.ok.iq,I.ok.t4⟩,I.os,I.bare,I.base,I.loc,I.cell,I.free,I.eD,I.pin,I.bw,I.len⟩
def Inv.RG(I:Inv X aa Z H s):AI X aa s.heap.objs.size:=⟨I.sz,I.lt,λx c e=>by obtain⟨v,o,ho,_⟩:=I.cell x c e;exact cP ho,λq hq=>cP (I.pin q hq).1⟩
def AI.far(y:AI X aa n){b:ai}(h:n<=b):(b∈X.ex\/X.s₀.heap.objs.size<=b)/\b≠X.env.locals/\(∀x c,X.env.cells.lookup x=some c->c≠b)/\∀p∈X.pn++aa,p.1≠b:=
 ⟨.inr (iU y.s h),λz=>bQ (fy y.l h) (z ▸ jz _),λx c e z=>bQ (fy (y.c x c e) h) (z ▸ jz _),λp hp z=>bQ (fy (y.p p hp) h) (z ▸ jz _)⟩
def fE.un{fs:List ai}{h:bS}(l:fE fs ch h h'):Un fs ch H H h h':=
 ⟨λb o g _ hb hx=>l.keep b o hb hx g,λb o g _ hb hx=>l.slot b o hb hx g,λ_ _ _ n _=>n,λb o g hx=>let ⟨_,g2⟩:=l.any g hx;⟨_,g2⟩,λ_ _ q=>q,λ_ _ _ q=>q,λ_ ps q=>⟨#[],by rw[q];simp⟩⟩
def Inv.left{t':Nat}(I:Inv X aa Z H s)(y:AI X aa n)(l:fE (jN X.stack) ch s.heap h')(kc:∀b∈ch,n<=b/\H b=none):Inv X aa Z H { s with heap:=h',toks:=t'}:=
 I.call (g':=s.gens) (d':=s.drawn) (ch:=ch) l.un (l.bw I.bw I.jx λb m=>(kc b m).2) I.bare λb m=>y.far (kc b m).1
def UQ{M:Model}{A:cK}{e C:ai}{dx:aj ai}{Q:Unit->ao->Prop}(fl:h_ n s.heap H e C dx)(h:∀h' ch,(∀b∈ch,n<=b/\H b=none)->fE (jN X.stack) ch s.heap h'->h_ n h' H e C dx->Q () { s with heap:=h'}):wpAny M A (setFlight (.ref e) none) Q E s:=by
 obtain⟨fU,sL,oe,vs,he,hc,hx,hd,hsz,h1⟩:=fl;unfold setFlight;rcases h1 with h1|⟨T,oT,ts,h1,FZ,FJ,FK,hT,B3,h3⟩
 .refine ax (wpAny_field he hd h1 ?_);rw[br (by decide)]
  exact aP (h s.heap [] (λ_ z=>nomatch z) ⟨λ_ _ _ _ g=>g,λ_ o _ _ g=>⟨o.slots,g⟩⟩ ⟨fU,sL,oe,vs,he,hc,hx,hd,hsz,.inl h1⟩)
 .refine ax (wpAny_field he hd h1 ?_);rw[bL (show(Value.ref T != Value.none)=true by simp)]
  have l3:3<ts.size:=(uR.mp h3).1;have dT:=Obj.data_mapFields B3 (·.setIfInBounds 3 ((none:aj ai).elim Value.none λf=>rawInt f))
  refine wpAny_setField hT B3 l3 (h _ [T] (λb m=>by cases lW.1 m;exact⟨FZ,FJ⟩) ⟨λb o _ hb g=>(nQ _ _ (by simpa using Ne.symm (by simpa using hb:b≠T))).trans g,λb o _ hb g=>⟨o.slots,(nQ _ _ (by simpa using Ne.symm (by simpa using hb:b≠T))).trans g⟩⟩ ⟨fU,sL,oe,vs,(nQ _ _ FK).trans he,hc,hx,hd,hsz,.inr ⟨T,_,_,h1,FZ,FJ,FK,pU _ hT (Obj.isFreed_of_fields dT),dT,by simp[Array.getElem?_setIfInBounds,l3]⟩⟩)
end
end L2
namespace L2
open PySem PySem.Spec PyProof.Rows
variable{P:cX}{w:cA}{K:aI}{tg l:Expr}{X:Cx}{ta:TA}{p pos:Pos}{Q:aj ah->ao->Prop}{n t' x1:Nat}{ob:Obj}{L:List ai}{elts:List Expr}{it:ai}
def qB(K:aI)(a:ai)(n:Nat):It:=
 ⟨λi H=>i<n/\∃xs,cT K H a xs/\xs.length=n,λi H x H'=>H'=H/\∀xs,cT K H a xs->xs[n - 1 - i]?=some x,λi H=>n<=i⟩
def UR(a it:ai)(n:Nat):Turn P w K tg (qB K a n) [it] it (λi h=>i<=n/\h.IsRevIter it a ((n:Int) - 1 - i)) where
 mem:=by simp
 obj:=λi h st b hb=>by
  have e:b=it:=by simpa using hb
  subst e;obtain⟨_,o,e,c,d⟩:=st
  simp_all
 keep:=λi h h' st k=>⟨st.1,st.2.at λo e=>k it (by simp) o e⟩
 item:=by
  intro X hP hw hK hc i aa s Z H E I hf st hg;subst hP hw hK;obtain⟨hi,xs,hq,hx⟩:=hg;obtain⟨aA,rv,p,hz⟩:=I.list hq;have sO:xs[n - 1 - i]?=some xs[n - 1 - i]:=gz (by lia)
  obtain⟨u,hu,ru⟩:=rv.get sO;obtain⟨f0,f1,f2,f3,f4,f5⟩:=hf it (by simp)
  have qd:s.heap.IsRevIter it a (((n - 1 - i:Nat):Int)):=by
   lia
  refine wpAny_pyNext_rev_item qd p.isList (x:=u) (by simpa using hu) λh' jw sb=>?_
  have I1:Inv X aa Z H { s with heap:=h'}:=I.turned (t':=s.toks) (λb o hb e=>(sb.2 b hb).trans e) f0 f1 f3 f4 f5
  obtain⟨o,e,c,d⟩:=id jw;refine⟨u,rfl,xt (s:={ s with heap:=h'}) e c d (by decide) ⟨_,H,I1,ru,⟨rfl,λys hy=>by rw[I.jW hy hq];exact sO⟩,⟨by lia,?_⟩,λb hb=>(hf b hb).1⟩⟩
  grind
 done:=by
  intro X hP hw hK hc i aa s Z H E I hf st hg;subst hP hw hK;obtain⟨f0,f1,f2,f3,f4,f5⟩:=hf it (by simp)
  have hg:n<=i:=hg;have qd:s.heap.IsRevIter it a (-1):=by
   grind
  exact wpAny_pyNext_rev_end (I.ok.hd hc) qd λh' eb=>⟨rfl,I.turned (t':=s.toks) (λb o hb e=>eb b o hb e) f0 f1 f3 f4 f5⟩
 self:=λ_ _ _ _ _ st h=>wpAny_pyIter_revIter st.2 h
def Ci(K:aI)(ta:TA):TI:=λZ H R=>ta Z H λvs H1=>∃a xs,vs=[.ref a]/\cT K H1 a xs/\R (qB K a xs.length) H1
def Zb(hg:Gl X "reversed")(hm:X.mg "reversed"=none)(ha:PA X [l] ta)(hs:starEach [l] X.env=[(false,eval l X.env)]:=by rfl):PI X tg (.Call (.Name "reversed" p) [l] [] pos) (Ci X.K ta):=by
 intro aa s Z H R I h;refine Call_ (sC I hg hm boot_reversed (PyProof.Rows.callWith_type1 (bM (ha pos aa s Z H _ I h) λus s1 hh=>?_) hs rfl))
 obtain⟨vs,H1,I1,r1,q1⟩:=hh;obtain⟨a,xs,e,hq,q⟩:=q1;subst e;cases r1 with
 |cons r rr=>
  cases rr;cases r;obtain⟨aA,rv,pl,hz⟩:=I1.list hq;have hl:=rv.length;refine call_reversed_list pl.isList ?_;have st:(s1.heap.push (revObj a ((aA.toArray.size:Int) - 1))).IsRevIter s1.heap.objs.size a ((aA.toArray.size:Int) - 1):=⟨_,iI _ rfl,rfl,rfl⟩;refine wpAny_pyIter_revIter st ?_;refine⟨s1.heap.objs.size,[s1.heap.objs.size],_,_,H1,rfl,I1.kept (t':=s1.toks) λb o e=>cU _ e,UR a _ xs.length,⟨kg _,?_⟩,λb hb=>?_,q⟩
  .simp_all
  .have e:b=s1.heap.objs.size:=by simpa using hb
   subst e;exact I1.kA (bU _) (I1.bw.fresh (bU _))
section
variable{X:Cx}{aa:List (ai×Obj)}{Z:St}{H:Hp}{A:cK}{E:ah->ao->Prop}{s:ao}{d it:ai}{es:List (TK×V×V)}{ep i:Nat}
theorem NI{Q:ah->ao->Prop}(I:Inv X aa Z H s)(hd:H d=some (.dG es ep))
  (hQ:Q (.ref s.heap.objs.size) { s with heap:=s.heap.push { cls:=.type "dict_keyiterator",data:=.fields #[.ref d,.int 0 0,.int es.length 0,.int ep 0]}}):wpAny (model X.prog X.w) A (pyIter (.ref d)) Q E s:=by
 obtain⟨_,z,ob,xs,g1,g5,g2,g3,g4⟩:=(show bD X.prog X.w H s.heap d (.dG es ep) from I.bw d _ hd);have hT:s.TypeIs (.ref d) "dict":=⟨ob,g1,g5.1⟩;have hl:xs.size=es.length:=by have:=Paired.length g3;simpa using this.symm
 refine wpAny_pyIter_slot hT F.slot_dict_iter (wpAny_call_entry F.slot_dict_iter hT F.entry_dict_iter ?_ (F.args_dict_iter_1 _));unfold Builtin.«dict.__iter__»;refine ax ?_;unfold Builtin.Dict.dictSlotNone;refine ax (wpAny_notOrdered_dict hT (show wpAny _ _ (pure (Value.ref d)) _ _ s from aP (show wpAny _ _ (Builtin.Dict.showsAll d >>= _) _ _ s from ?_)));unfold Builtin.Dict.showsAll;rw[br (by rw[z];exact sd)]
 refine ax (aP (ax (wpAny_dictEntries g1 g2 (ax (wpAny_dictEpoch g1 g2 ?_)))));refine ax (wpAny_newObj_type (aP ⟨_,rfl,"dict_keyiterator",_,⟨_,iI _ rfl,rfl⟩,F.slot_dict_keyiterator_next.lookup,?_⟩));simpa[rawInt,hl] using hQ
theorem MJ{xs:Array DictEntry}(g1:s.heap.get? d=some ob)(g2:ob.data=.dict xs ep)(hl:xs.size=n)(hit:s.heap.IsKeyIter it d i n ep)(lt':i<xs.size)
  (hQ:∀h',h'.IsKeyIter it d (i+1) n ep->Heap.SameBut it s.heap h'->Q (some xs[i].key) { s with heap:=h'}):wpAny (model P w) A (pyNext (.ref it)) Q E s:=by
 obtain⟨o,k1,k2,k3⟩:=id hit;unfold pyNext;refine ax (wpAny_attempt (wpAny_callSpecial?_slot (name:=Str.ofString "__next__") hit.typeIs F.slot_dict_keyiterator_next (wpAny_call_entry F.slot_dict_keyiterator_next hit.typeIs F.entry_dict_keyiterator_next (ax (aP (ax (ax ?_)))) (F.args_dict_keyiterator_next_1 _))))
 (first|refine ax (wpAny_typeNameOfWhole_keyiter hit.typeIs (aP ?_))|refine ax (wpAny_typeNameOf_keyiter hit.typeIs (aP ?_)));refine ax (wpAny_fieldsOf k1 k3 ?_)
 have yC:Builtin.Dict_items.ownsTuple "dict_keyiterator"=false:=by decide
 simp only[yC,kh,fS]
 (show wpAny _ _ (if(Value.ref d == Value.none)=true then _ else _) _ _ s);rw[br (show ¬((Value.ref d == Value.none)=true) from sd)]
 refine ax (aP (ax (wpAny_dictEntries g1 g2 ?_)));rw[br (by rw[hl];simp)]
 refine ax (aP (ax (wpAny_dictEpoch g1 g2 ?_)));rw[br (by simp)]
 refine aP ?_;simp only[show ¬((i:Int)<0) from by lia,fS,Int.toNat_natCast,qe lt']
 refine ax ?_
 (first|refine ax (wpAny_typeNameOfWhole_keyiter hit.typeIs (aP ?_))|refine ax (wpAny_typeNameOf_keyiter hit.typeIs (aP ?_)));refine ax (wpAny_isOneOf_keyiter hit.typeIs ?_)
 (show wpAny _ _ (setField (.ref it) 1 (rawInt ((i:Int)+1)) >>= _) _ _ s);refine ax (wpAny_setField k1 k3 (by simp) ?_)
 have B7:(s.heap.update it (Obj.mapFields (·.setIfInBounds 1 (rawInt ((i:Int)+1))))).IsKeyIter it d (i+1) n ep:=
  ⟨_,pU _ k1 (Obj.isFreed_of_fields (Obj.data_mapFields k3 _)),(Obj.cls_mapFields ..).trans k2,by rw[Obj.data_mapFields k3];simp[rawInt]⟩
 refine ax (i5 (ax (wpAny_isOneOf_keyiter (s:={ s with heap:=s.heap.update it (Obj.mapFields (·.setIfInBounds 1 (rawInt ((i:Int)+1))))}) B7.typeIs ?_)))
 show wpAny _ _ (pure xs[i].key) _ _ _;exact aP (aP ⟨_,rfl,aP (hQ _ B7 (Heap.SameBut.update ..))⟩)
def Sv(I:Inv X aa Z H s)(hd:H d=some (.dG es ep))(hit:s.heap.IsKeyIter it d i es.length ep){e:TK×V×V}(hx:es[i]?=some e)
  (hQ:∀key h',RelV e.2.1 key->h'.IsKeyIter it d (i+1) es.length ep->Heap.SameBut it s.heap h'->Q (some key) { s with heap:=h'}):wpAny (model X.prog X.w) A (pyNext (.ref it)) Q E s:=by
 obtain⟨_,z,ob,xs,g1,g5,g2,g3,g4⟩:=(show bD X.prog X.w H s.heap d (.dG es ep) from I.bw d _ hd);have hl:xs.size=es.length:=by have:=Paired.length g3;simpa using this.symm
 obtain⟨x,x1,x2⟩:=A1 i g3 hx;have lt':i<xs.size:=by
  grind
 have ex:xs[i]=x:=by
  have:xs[i]?=some x:=by rw[<-uS];exact x1
  rw[qe lt'] at this;exact Option.some.inj this
 exact MJ g1 g2 hl hit lt' λh' vC sb=>hQ _ h' (by rw[ex];exact x2.2.1) vC sb
theorem M7{xs:Array DictEntry}(hh:A.handled=none)(g1:s.heap.get? d=some ob)(g2:ob.data=.dict xs ep)(hl:xs.size=n)(hit:s.heap.IsKeyIter it d i n ep)(hx:n<=i)
  (hQ:∀h',Heap.ExtBut it s.heap h'->Q none { s with heap:=h'}):wpAny (model P w) A (pyNext (.ref it)) Q E s:=by
 obtain⟨o,k1,k2,k3⟩:=id hit;unfold pyNext;refine ax (wpAny_attempt (wpAny_callSpecial?_slot (name:=Str.ofString "__next__") hit.typeIs F.slot_dict_keyiterator_next (wpAny_call_entry F.slot_dict_keyiterator_next hit.typeIs F.entry_dict_keyiterator_next (ax (aP (ax (ax ?_)))) (F.args_dict_keyiterator_next_1 _))))
 (first|refine ax (wpAny_typeNameOfWhole_keyiter hit.typeIs (aP ?_))|refine ax (wpAny_typeNameOf_keyiter hit.typeIs (aP ?_)));refine ax (wpAny_fieldsOf k1 k3 ?_)
 have yC:Builtin.Dict_items.ownsTuple "dict_keyiterator"=false:=by decide
 simp only[yC,kh,fS]
 (show wpAny _ _ (if(Value.ref d == Value.none)=true then _ else _) _ _ s);rw[br (show ¬((Value.ref d == Value.none)=true) from sd)]
 refine ax (aP (ax (wpAny_dictEntries g1 g2 ?_)));rw[br (by rw[hl];simp)]
 refine ax (aP (ax (wpAny_dictEpoch g1 g2 ?_)));rw[br (by simp)]
 refine aP ?_;have hge:xs.size<=i:=by lia
 simp only[show ¬((i:Int)<0) from by lia,fS,Int.toNat_natCast,Array.getElem?_eq_none hge]
 refine ax ?_
 (first|refine ax (wpAny_typeNameOfWhole_keyiter hit.typeIs (aP ?_))|refine ax (wpAny_typeNameOf_keyiter hit.typeIs (aP ?_)));(show wpAny _ _ (setField (.ref it) 0 .none >>= _) _ _ s);refine ax (wpAny_setField k1 k3 (by simp) ?_)
 (show wpAny _ _ (newExc (.type "StopIteration") [] >>= _) _ _ _);refine ax ?_
 simp only[newExc,newTuple];refine ax (wpAny_newObj_type (ax (m:=firstArgMember _ _) (wpAny_of_eq (a:=Value.none) (by first|rfl|(simp only[firstArgMember];rfl)) (wpAny_newObj_type ?_ (by size_fits)))) (by size_fits))
 simp only[raiseNew];refine ax (wpAny_handled ?_);rw[show A.in1.handled=none from hh]
 (refine ax (aP (wpAny_throw ?_)));refine ax (wpAny_isInstance (T:="StopIteration") (b:=true) ⟨_,iI _ rfl,rfl⟩ isSubtype_stop ?_)
 exact aP (hQ _ (((Heap.SameBut.update ..).extBut.push _).push _))
def Tq(hh:A.handled=none)(I:Inv X aa Z H s)(hd:H d=some (.dG es ep))(hit:s.heap.IsKeyIter it d i es.length ep)(hx:es.length<=i)
  (hQ:∀h',Heap.ExtBut it s.heap h'->Q none { s with heap:=h'}):wpAny (model X.prog X.w) A (pyNext (.ref it)) Q E s:=by
 obtain⟨_,z,ob,xs,g1,g5,g2,g3,g4⟩:=(show bD X.prog X.w H s.heap d (.dG es ep) from I.bw d _ hd);exact M7 hh g1 g2 (by have:=Paired.length g3;simpa using this.symm) hit hx hQ
end
def GQ(a:ai)(n ep:Nat):It:=
 ⟨λi H=>∃es,H a=some (.dG es ep)/\es.length=n/\i<n,λi H x H'=>H'=H/\∀es,H a=some (.dG es ep)->∃e,es[i]?=some e/\e.2.1=x,λi H=>∃es,H a=some (.dG es ep)/\es.length=n/\n<=i⟩
def Tr(a it:ai)(n ep:Nat):Turn P w K tg (GQ a n ep) [it] it (λi h=>h.IsKeyIter it a i n ep) where
 mem:=by simp
 obj:=λi h st b hb=>by
  have e:b=it:=by simpa using hb
  subst e;obtain⟨o,e,c,d⟩:=st
  simp_all
 keep:=λi h h' st k=>st.at λo e=>k it (by simp) o e
 item:=by
  intro X hP hw hK hc i aa s Z H E I hf st hg;subst hP hw hK;obtain⟨es,hd,hl,hi⟩:=hg;subst hl;obtain⟨f0,f1,f2,f3,f4,f5⟩:=hf it (by simp)
  refine Sv I hd st (e:=es[i]) (gz hi) λkey h' rk jw sb=>?_
  have I1:Inv X aa Z H { s with heap:=h'}:=I.turned (t':=s.toks) (λb o hb e=>(sb.2 b hb).trans e) f0 f1 f3 f4 f5
  obtain⟨o,e,c,d⟩:=id jw;refine⟨key,rfl,xt (s:={ s with heap:=h'}) e c d (by decide) ⟨es[i].2.1,H,I1,rk,⟨rfl,λys hy=>?_⟩,jw,λb hb=>(hf b hb).1⟩⟩
  simp_all
 done:=by
  intro X hP hw hK hc i aa s Z H E I hf st hg;subst hP hw hK;obtain⟨es,hd,hl,hi⟩:=hg;subst hl;obtain⟨f0,f1,f2,f3,f4,f5⟩:=hf it (by simp)
  exact Tq (I.ok.hd hc) I hd st hi λh' eb=>⟨rfl,I.turned (t':=s.toks) (λb o hb e=>eb b o hb e) f0 f1 f3 f4 f5⟩
 self:=λ_ _ _ _ _ st h=>wpAny_pyIter_keyiter st h
def vq(tl:TE):TI:=λZ H R=>tl Z H λx H1=>∃a es ep,x=.ref a/\H1 a=some (.dG es ep)/\R (GQ a es.length ep) H1
def WC{tl:TE}(hl:PE X l tl):PI X tg l (vq tl):=by
 intro aa s Z H R I h;refine bM (hl aa s Z H _ I h) λv s1 hh=>?_
 obtain⟨x,H1,I1,r1,q1⟩:=hh;obtain⟨a,es,ep,e,hd,q⟩:=q1;subst e;cases r1;refine NI I1 hd ?_;refine⟨s1.heap.objs.size,[s1.heap.objs.size],_,_,H1,rfl,I1.kept (t':=s1.toks) λb o e=>cU _ e,Tr a _ _ _,⟨_,iI _ rfl,rfl,rfl⟩,λb hb=>?_,q⟩
 have e:b=s1.heap.objs.size:=by simpa using hb
 subst e;exact I1.kA (bU _) (I1.bw.fresh (bU _))
def Jh{w1 w2:TI}(h1:PI X tg l w1)(h2:PI X tg l w2):PI X tg l (λZ H R=>w1 Z H R\/w2 Z H R):=by
 intro aa s Z H R I h;rcases h with h|h
 .exact h1 aa s Z H R I h
 .exact h2 aa s Z H R I h
open PySem PySem.Spec PyProof.Rows
section
variable{X:Cx}{aa:List (ai×Obj)}{Z:List (aj V)}{H:Hp}{s:ao}{h':bS}
def Inv.uH{T:ai}{o:HO}(I:Inv X aa Z H s)(k:∀b ob,b∉L->s.heap.get? b=some ob->h'.get? b=some ob)(hL:∀b∈L,iN X aa H b)(hT:s.heap.objs.size<=T)
  (new:bD X.prog X.w (upd H T o) h' T o):Inv X aa Z (upd H T o) { s with heap:=h',toks:=t'}:=by
 have hn:H T=none:=I.bw.fresh hT;have nL:∀b u,H b=some u->b∉L:=λb u e z=>by rw[(hL b z).1] at e;cases e
 have nT:∀b u,H b=some u->b≠T:=λb u e z=>by rw[z,hn] at e;cases e
 refine I.step (g':=s.gens) (d':=s.drawn) (ch:=L) (λb hb=>?_) (λb ob _ _ hc e _=>k b ob hc e) (λb ob _ _ hc e _=>⟨ob.slots,k b ob hc e⟩) (λb ob _ e n=>?_)
  (λb ob hc e=>⟨ob,k b ob hc e⟩) (λb xs e=>?_) (λb ob u e=>?_) (λb ps e=>⟨#[],?_⟩) (λm hm=>?_) (λb u e=>?_) I.bare
 .obtain⟨f0,f1,f2,f3,f4,f5⟩:=hL b hb;exact⟨f3,f1,f4,f5⟩
 .rw[c_ (λz=>by subst z;exact bQ (fy (cP e) hT) (jz _))];exact n
 .rw[c_ (nT b _ e)];exact e
 .rw[c_ (nT b _ e)];exact e
 .rw[c_ (nT b _ e),e];simp
 .obtain⟨ob,es,ep,ho,r⟩:=hm;exact⟨ob,es,ep,k _ ob (λz=>(hL _ z).2.1 rfl) ho,r⟩
 .by_cases hb:b=T
  .grind [aH]
  .rw[c_ hb] at e;refine(I.bw b u e).lR (λc v hc q=>k c v ?_ q) (λc q=>by rw[c_ (nT c _ q)];exact q) λc xs q=>by rw[c_ (nT c _ q)];exact q
   grind
def Inv.Ds(I:Inv X aa Z H s)(k:∀b ob,b∉L->s.heap.get? b=some ob->h'.get? b=some ob)(hL:∀b∈L,iN X aa H b):Inv X aa Z H { s with heap:=h',toks:=t'}:=by
 have nL:∀b u,H b=some u->b∉L:=λb u e z=>by rw[(hL b z).1] at e;cases e
 refine I.step (g':=s.gens) (d':=s.drawn) (ch:=L) (λb hb=>?_) (λb ob _ _ hc e _=>k b ob hc e) (λb ob _ _ hc e _=>⟨ob.slots,k b ob hc e⟩) (λb ob _ e n=>n)
  (λb ob hc e=>⟨ob,k b ob hc e⟩) (λb xs e=>e) (λb ob u e=>e) (λb ps e=>⟨#[],by rw[e];simp⟩) (λm hm=>?_) (λb u e=>?_) I.bare
 .obtain⟨f0,f1,f2,f3,f4,f5⟩:=hL b hb;exact⟨f3,f1,f4,f5⟩
 .obtain⟨ob,es,ep,ho,r⟩:=hm;exact⟨ob,es,ep,k _ ob (λz=>(hL _ z).2.1 rfl) ho,r⟩
 .refine(I.bw b u e).lR (λc v hc q=>k c v ?_ q) (λc q=>q) λc xs q=>q
  grind
end
def ze(Src:Hp->Prop)(n:Nat)(val:Nat->List V->Prop):It:=
 ⟨λi H=>i<n/\Src H,λi H x H'=>∃p ws,x=.ref p/\H p=none/\val i ws/\H'=upd H p (.tup ws),λi H=>n<=i/\Src H⟩
def M8{FP wr:List ai}{Src:Hp->Prop}{val:Nat->List V->Prop}{tn:Nat->bS->Prop}(mem:it∈FP)(sub:∀b∈wr,b∈FP)
  (obj:∀i h,tn i h->∀b∈FP,∃o,h.get? b=some o/\∀v,o.data≠.cell v) (keep:∀i h h',tn i h->(∀b∈FP,∀o,h.get? b=some o->h'.get? b=some o)->tn i h')
  (hW:∀(X:Cx),X.prog=P->X.w=w->X.K=K->X.calm=true->∀(aa:List (ai×Obj)) (s:ao) (Z:St) (H:Hp),Inv X aa Z H s->Src H->∃(Jy:List ai) (Pt:Nat->Array ah->Prop) (St:Nat->bS->Prop) (GV:Nat->ai->bS->Prop),WalksT P w X.A it Jy wr n Pt St GV/\(∀i,tn i s.heap->St i s.heap)/\(∀i h,St i h->tn i h)/\∀i vals,Pt i vals->∃ws,val i ws/\Vals ws vals.toList/\ws.length<=10)
  (self:∀(A:cK) (i:Nat) (s:ao) (Q:ah->ao->Prop) (E:ah->ao->Prop),tn i s.heap->Q (.ref it) s->wpAny (model P w) A (pyIter (.ref it)) Q E s) :
  Turn P w K (.Tuple elts x1 pos) (ze Src n val) FP it (λi h=>i<=n/\tn i h) where
 mem:=mem
 obj:=λi h st=>obj i h st.2
 keep:=λi h h' st k=>⟨st.1,keep i h h' st.2 k⟩
 item:=by
  intro X hP hw hK hc i aa s Z H E I hf st hg;obtain⟨Jy,Pt,St,GV,W,toSt,CG,pv⟩:=hW X hP hw hK hc aa s Z H I hg.2;subst hP hw hK;refine W.item i s _ E hg.1 (toSt i st.2) λT vals h1 tk hPt hsz JK BZ hk1=>?_
  refine⟨.ref T,rfl,W.go elts x1 pos i T _ _ E BZ λh2 hSt FW=>?_⟩
  obtain⟨ws,hv,rv,F0⟩:=pv i vals hPt;have JJ:IsTup h2 T vals:=by
   obtain⟨o,e,c⟩:=JK;exact⟨o,FW T o (W.apart i T h1 BZ) e,c⟩
  have hn:H T=none:=I.bw.fresh hsz;have I2:Inv X aa Z (upd H T (.tup ws)) { s with heap:=h2,toks:=tk}:=I.uH (L:=wr) (λb ob hb e=>FW b ob hb (hk1 b ob hb e)) (λb hb=>hf b (sub b hb)) hsz ⟨by rw[sizeLine_eq];lia,vals.toList,rv,by simpa using JJ⟩
  refine⟨.ref T,_,I2,rfl,⟨T,ws,rfl,hn,hv,rfl⟩,⟨by have:=hg.1;lia,CG _ _ hSt⟩,λb hb=>?_⟩
  have hb0:=(hf b hb).1;rw[c_]
  .exact hb0
  .intro z;subst z;obtain⟨o,e,_⟩:=obj i s.heap st.2 b hb;exact bQ (fy (cP e) hsz) (jz _)
 done:=by
  intro X hP hw hK hc i aa s Z H E I hf st hg;obtain⟨Jy,Pt,St,GV,W,toSt,CG,pv⟩:=hW X hP hw hK hc aa s Z H I hg.2;subst hP hw hK;have ei:i=n:=by have:=hg.1;have:=st.1;lia
  subst ei;exact W.done s _ E (toSt i st.2) λh2 tk hk=>⟨rfl,I.Ds (L:=wr) (λb ob hb e=>hk b ob hb e) λb hb=>hf b (sub b hb)⟩
 self:=λA i s Q E st h=>self A i s Q E st.2 h
theorem US{h:bS}{a l:ai}{i:Nat}(p:h.IsListIter a l i):∃o,h.get? a=some o/\∀v,o.data≠.cell v:=by
 obtain⟨o,e,_,d⟩:=p
 simp_all
def Du(xs:List V)(i:Nat)(ws:List V):Prop:=∃x,xs[i]?=some x/\ws=[.int i,x]
def Ts{e l:ai}(n1:e≠it)(n2:l≠e)(n3:l≠it)(xs:List V):
  Turn P w K (.Tuple elts x1 pos) (ze (λH=>cT K H l xs) xs.length (Du xs)) [e,it] e (λi h=>i<=xs.length/\((∃old,IsEnum h e it (i:Int) old)/\h.IsListIter it l i)):=by
 refine M8 (FP:=[e,it]) (wr:=[e,it]) (by simp) (λb hb=>hb) (λi h st b hb=>?_) (λi h h' st k=>?_) (λX hP hw hK hc aa s Z H I hS=>?_) (λA i s Q E st h=>?_)
 .grind [US]
 .obtain⟨⟨old,s1⟩,s2⟩:=st;exact⟨⟨old,k e (by simp) _ s1⟩,s2.at λo q=>k it (by simp) o q⟩
 .subst hP hw hK;obtain⟨ud,KU,p1,_⟩:=I.list hS;have e1:=KU.length;have W:=WalksT.enumerate (prog:=X.prog) (w:=X.w) (A:=X.A) (I.ok.hd hc) e it l n1 n2 n3 ud.toArray;rw[show ud.toArray.size=xs.length by rw[dH,<-e1]] at W
  refine⟨_,_,_,_,W,λi st=>?_,λi h st=>?_,λi vals hp=>?_⟩
  .exact⟨st.1,st.2,p1.isList⟩
  .simp_all
  .obtain⟨t,u,hu,rfl⟩:=hp;have hu:ud[i]?=some u:=by simpa using hu
   have QZ:i<xs.length:=by have:=(eU.mp hu).1;lia
   obtain⟨u',rq,ru⟩:=KU.get (gz QZ);rw[hu] at rq;cases rq;exact⟨[.int i,xs[i]],⟨_,gz QZ,rfl⟩,.cons ⟨t,rfl⟩ (.cons ru .nil),by show 2<=10;decide⟩
 .obtain⟨old,s1⟩:=st.1;exact wpAny_pyIter_enum s1 h
def vt(K:aI)(ta:TA):TI:=λZ H R=>ta Z H λvs H1=>∃a xs,vs=[.ref a]/\cT K H1 a xs/\R (ze (λH=>cT K H a xs) xs.length (Du xs)) H1
def WD{e_:Pos}{a:Expr}(hg:Gl X "enumerate")(hm:X.mg "enumerate"=none)(ha:PA X [a] ta)(hs:starEach [a] X.env=[(false,eval a X.env)]:=by rfl):
  PI X (.Tuple elts x1 e_) (.Call (.Name "enumerate" p) [a] [] pos) (vt X.K ta):=by
 intro aa s Z H R I h;refine Call_ (sC I hg hm PyProof.Rows.Boot.enumerate (PyProof.Rows.callWith_type1 (bM (ha pos aa s Z H _ I h) λus s1 hh=>?_) hs rfl))
 obtain⟨vs,H1,I1,r1,q1⟩:=hh;obtain⟨l1,xs,e,hq1,q⟩:=q1;subst e;cases r1 with
 |cons r rr=>
  cases rr;cases r;obtain⟨ud,KU,p1,_⟩:=I1.list hq1;refine call_enumerate_list p1.isList λh' z1 z2 z3 z4=>?_
  have L1:l1<s1.heap.objs.size:=by obtain⟨o,n,e,_⟩:=p1;exact cP e
  refine wpAny_pyIter_enum z1 ?_;refine⟨s1.heap.objs.size+1,[s1.heap.objs.size+1,s1.heap.objs.size],_,_,H1,rfl,I1.kept (t':=s1.toks) z4,Ts (e:=s1.heap.objs.size+1) (it:=s1.heap.objs.size) (l:=l1) (vZ (by lia)) (gd (fy L1 (Gv _ _))) (gd L1) xs,⟨kg _,⟨_,z1⟩,z2⟩,λb hb=>?_,q⟩
  simp only[y0a,y1w,or_false] at hb;have mT:s1.heap.objs.size<=b:=by rcases hb with rfl|rfl <;> lia
  exact I1.kA mT (I1.bw.fresh mT)
noncomputable def fK(i j:Int):Nat:=((j - i+1) / 2).toNat
def Mb(i j:Int):Builtin.Range.rangeSize i j 2=(fK i j:Nat):=by
 grind [PySem.Builtin.Range.rangeSize,fK]
def Tt{i j:Int}(h1:-(2^20)<=i)(h2:i<2^20)(h3:-(2^20)<=j)(h4:j<2^20):Builtin.Range.small i j 2=true:=by
 have:=Mb i j;unfold fK at this;unfold Builtin.Range.small;rw[this];simp only[Builtin.Range.rangeFitsLong,jy,Bool.or_eq_true,decide_eq_true_eq,beq_iff_eq,show(2:Int) > 0 by decide,nU]
 lia
section
variable{X:Cx}{pos p:Pos}{tg a b c:Expr}
def vx(ta:TA):TI:=λZ H R=>ta Z H λvs H1=>∃i j:Int,vs=[.int i,.int j,.int 2]/\(-(2^20)<=i/\i<2^20 /\ -(2^20)<=j/\j<2^20)/\R (GP i 2 (fK i j)) H1
def Tu(hg:Gl X "range")(hm:X.mg "range"=none)(ha:PA X [a,b,c] ta)(hs:starEach [a,b,c] X.env=[(false,eval a X.env),(false,eval b X.env),(false,eval c X.env)]:=by rfl)
  (qa:starEach [b,c] X.env=[(false,eval b X.env),(false,eval c X.env)]:=by rfl):PI X tg (.Call (.Name "range" p) [a,b,c] [] pos) (vx ta):=by
 intro aa s Z H R I h;refine Call_ (sC I hg hm boot_range (PyProof.Rows.callWith_type1 (bM (ha pos aa s Z H _ I h) λus s1 ⟨vs,H1,I1,r1,q1⟩=>?_) (by rw[hs,qa]) (by rw[qa];rfl)))
 obtain⟨i,j,e,⟨q1,q2,q3,q4⟩,q⟩:=q1;subst e;cases r1 with
 |cons r rr=>
  cases rr with
  |cons r' rr=>
   cases rr with
   |cons r'' rr=>
    cases rr;obtain⟨t,rfl⟩:=r;obtain⟨t',rfl⟩:=r';obtain⟨Ak,rfl⟩:=r'';refine call_range_3 (by decide) ?_ (Or.inl (PyProof.noPylong_small (by lia)))
    refine wpAny_pyIter_range (IsRange.new ..) (Tt q1 q2 q3 q4) ?_;have I2:Inv X aa Z H1 { s1 with heap:=s1.heap.push { cls:=.type "range",data:=.fields #[.int i t,.int j t',.int 2 Ak]}}:=I1.kept (t':=s1.toks) λb o e=>cU _ e
    refine⟨(s1.heap.push { cls:=.type "range",data:=.fields #[.int i t,.int j t',.int 2 Ak]}).objs.size,[(s1.heap.push { cls:=.type "range",data:=.fields #[.int i t,.int j t',.int 2 Ak]}).objs.size],_,_,H1,rfl,I2.kept (t':=s1.toks) λb o e=>cU _ e,Se _ i 2 (fK i j),?_,λb hb=>?_,q⟩
    .have e1:i+((0:Nat):Int)*2=i:=by simp
     have e2:((fK i j:Nat):Int) - ((0:Nat):Int)=Builtin.Range.rangeSize i j 2:=by rw[Mb];lia
     show IsRangeIter _ _ (i+((0:Nat):Int)*2) (((fK i j:Nat):Int) - ((0:Nat):Int)) 2;rw[e1,e2];exact iI _ rfl
    .have e:b=(s1.heap.push { cls:=.type "range",data:=.fields #[.int i t,.int j t',.int 2 Ak]}).objs.size:=by simpa using hb
     subst e;exact I2.kA (bU _) (I2.bw.fresh (bU _))
end
end L2
set_option autoImplicit false
namespace L2
open PySem PySem.Spec PyProof.Rows
variable{a:ai}{c lo i j:Int}{k:Kn}{q:Nat}{H H':Hp}
def Kept(q:Nat)(H H':Hp):Prop:=∀a o,uf q o=true->H a=some o->H' a=some o
def i9(K:aI)(k:Kn)(H:Hp)(q:Nat)(x:V):D->Prop
 |.lst ds=>∃a ws,x=.ref a/\ag K k ws ds/\∀H',az k.F H'->Kept q H H'->cT K H' a ws
 |.tup ds=>∃a ws,x=.ref a/\ag K k ws ds/\∀H',az k.F H'->Kept q H H'->ie K H' a ws
 |.ay kvs=>∃a es ep,x=.ref a/\es.map (·.1)=kvs.map (·.1)/\ag K k (es.map (·.2.1)) (kvs.map (·.1.d))/\ag K k (es.map (·.2.2)) (kvs.map (·.2))/\∀H',az k.F H'->Kept q H H'->H' a=some (.dG es ep)
 |.str z=>x=.str z
 |_=>True
noncomputable def Bx.lv:Bx->Nat
 |.lst _=>2
 |.ay _=>1
noncomputable def rm:Cell->aj (Nat×D)
 |.o b=>some (b.lv,b.d)
 |.z b=>some (0,b.d)
 |.ins _ _=>none
def B'(fz:Bool)(S:aR):Rv->aj (Rs (Nat×D))
 |.o c=>some (.ok (0,c.d) S)
 |.v (.d (.ref n))=>(S.r[n]?).bind λc=>(rm c).map λp=>.ok p S
 |.v (.d x)=>some (.ok (0,x) S)
 |.v (.c n)=>if fz=true then(nE S (.c n)).map λp=>.ok (0,p.1) p.2 else(S.s[n]?).bind λc=>(rm c).map λp=>.ok p S
def vk(fz:Bool)(g:GE):Gx (Nat×D):=λU S=>bd (g U S) (λr S1=>B' fz S1 r)
abbrev RH(K:aI)(q:Nat):Rp (Nat×D) V:=λk H x p=>i9 K k H (max q p.1) x p.2
section
variable{X:Cx}{K:aI}{W:XW}{q:Nat}{k:Kn}{H:Hp}{x:V}{d:D}{g:GE}{Z:St}
def EI(h:ag K k [x] [d]):i9 K k H q x d:=by
 cases d with
 |lst ds=>obtain⟨a,ws,rfl,h1,h2⟩:=h.vz;exact⟨a,ws,rfl,h2,λH' s _=>s.K_ h1⟩
 |tup ds=>obtain⟨a,ws,rfl,h1,h2⟩:=h.isTup;exact⟨a,ws,rfl,h2,λH' s _=>s.yQ h1⟩
 |ay kvs=>obtain⟨a,es,ep,rfl,h1,h2,h3,h4⟩:=h.vy;exact⟨a,es,ep,rfl,h2,h3,h4,λH' s _=>s _ _ h1⟩
 |str z=>exact h.a_ rfl
 |_=>exact sg
def Kh{o:HO}:uf (max q 2) o=true:=HY (p:=2) (Nat.le_max_right _ _) rfl
def WE{b:Bx}(h:dz K k H a b):i9 K k H (max q b.lv) (.ref a) b.d:=by
 cases b with
 |lst xs=>obtain⟨ws,h1,h2⟩:=h;exact⟨a,ws,rfl,h2,λH' _ c=>.inl (.inl (c _ _ Kh h1))⟩
 |ay kvs=>obtain⟨es,ep,h1,h2,h3,h4⟩:=h;exact⟨a,es,ep,rfl,h2,h3,h4,λH' _ c=>c _ _ (HY (p:=1) (Nat.le_max_right _ _) rfl) h1⟩
def M9{c:Cell}{p:Nat×D}(h:ba K k H a c)(e:rm c=some p):i9 K k H (max q p.1) (.ref a) p.2:=by
 cases c with
 |o b=>cases e;exact WE h.2
 |z b=>cases e;exact EI h.2
 |ins _ _=>cases e
def OG{fz:Bool}{Q:VK}(t:tX (RH K q) K W q (vk fz g) Z H Q):tE K W q g Z H Q:=by
 obtain⟨k,U,S,res,ok,gk,e,w⟩:=t;refine tX.bd ok gk e w λr S1 x k1 H1 bI g1 r1 e1 w1 _=>?_
 cases r with
 |o c=>
  cases e1;obtain⟨k2,u2,cO,r2⟩:=p6 bI r1;exact(w1.up (u2 q)).now cO (EI r2)
 |v y=>
  cases y with
  |d y=>
   cases y with
   |ref n=>
    obtain⟨c,h1,e2⟩:=cw.mp e1;obtain⟨p,h2,rfl⟩:=cW.mp e2;obtain⟨a,rfl,h3⟩:=ag.isRef r1;exact w1.now bI (M9 (bI.r.at' n a c h3 h1) h2)
   |_=>cases e1;exact w1.now bI (EI r1)
  |c n=>
   cases fz with
   |true=>
    obtain⟨p,h1,rfl⟩:=cW.mp (show(nE S1 (.c n)).map _=some res from e1);obtain⟨k2,u2,cO,r2⟩:=EZ (v:=.c n) bI r1 h1;exact(w1.up (u2 q)).now cO (EI r2)
   |false=>
    obtain⟨c,h1,e2⟩:=cw.mp (show(S1.s[n]?).bind _=some res from e1);obtain⟨p,h2,rfl⟩:=cW.mp e2;obtain⟨a,rfl,h3⟩:=r1;exact w1.now bI (M9 (bI.s.at' n a c h3 h1) h2)
end
structure gA (K:aI) (k1:Kn) (H1:Hp) (q:Nat) (J:It) (ds:List D):Prop where
 go:∀i k H,k1.le k->az k.F H->Kept q H1 H->i<ds.length->J.go i H
 stop:∀i k H,k1.le k->az k.F H->Kept q H1 H->ds.length<=i->J.stop i H
 m8:∀i k H x H',k1.le k->az k.F H->Kept q H1 H->J.m8 i H x H'->∀d,ds[i]?=some d->∃F',az k.F F'/\az H H'/\az F' H'/\(∀p,H p≠none->k.F p=none->F' p=none)/\ag K ⟨F',k.A,k.T⟩ [x] [d]
abbrev RI(K:aI)(q:Nat):Rp (Nat×List D) It:=λk H J p=>gA K k H (max q p.1) J p.2
section
variable{K:aI}{k1:Kn}{H1:Hp}{q n:Nat}{ds:List D}{J:It}{a:ai}{ws xs:List V}
def gA.old(hn:ds.length=n)(h1:∀i H,az k1.F H->Kept q H1 H->i<n->J.go i H)(h2:∀i H,az k1.F H->Kept q H1 H->n<=i->J.stop i H)(h3:∀i H x H' d,az k1.F H->Kept q H1 H->J.m8 i H x H'->ds[i]?=some d->H'=H/\ag K k1 [x] [d]):gA K k1 H1 q J ds where
 go:=λi k H l s c hi=>h1 i H (l.f.trans s) c (hn ▸ hi)
 stop:=λi k H l s c hi=>h2 i H (l.f.trans s) c (hn ▸ hi)
 m8:=λi k H x H' l s c y d hd=>by
  obtain⟨rfl,r⟩:=h3 i H x H' d (l.f.trans s) c y hd;exact⟨k.F,az.refl _,az.refl _,s,λ_ _ z=>z,r.mono l⟩
def gA.CB{Src:Hp->Prop}{val:Nat->List V->Prop}{f:Nat->List D}(hs:∀H,az k1.F H->Kept q H1 H->Src H)(hv:∀i us,i<n->val i us->ag K k1 us (f i)):gA K k1 H1 q (ze Src n val) ((List.range n).map λi=>.tup (f i)) where
 go:=λi k H l s c hi=>⟨by simpa using hi,hs H (l.f.trans s) c⟩
 stop:=λi k H l s c hi=>⟨by simpa using hi,hs H (l.f.trans s) c⟩
 m8:=λi k H x H' l s c y d hd=>by
  obtain⟨p,us,rfl,hp,hw,rfl⟩:=y;have hi:i<n:=by have:=(eU.mp hd).1;simpa using this
  rw[fW,y0 hi] at hd;cases hd;have hF:=s.free hp;refine⟨upd k.F p (.tup us),qJ hF,qJ hp,λb u z=>?_,λb z1 z2=>?_,.tup (.inl (.inl aH)) ((hv i us hi hw).mono ⟨l.f.trans (qJ hF),l.a⟩) .nil⟩
  .by_cases z3:b=p
   .subst z3;rw[aH] at z ⊢;exact z
   .rw[c_ z3] at z ⊢;exact s b u z
  grind [c_]
def WG(h:∀H',az k1.F H'->Kept q H1 H'->cT K H' a ws)(r:ag K k1 ws ds):gA K k1 H1 q (GR K a) ds:=
 .old r.length.symm (λi H s c hi=>⟨ws,ws[i],h H s c,gz _⟩) (λi H s c hi=>⟨ws,h H s c,hi⟩) λi H x H' d s c y hd=>by
  obtain⟨rfl,y⟩:=y;obtain⟨v,h1,h2⟩:=r.get hd
  simp_all
def Zc(h:∀H',az k1.F H'->Kept q H1 H'->ie K H' a ws)(r:ag K k1 ws ds):gA K k1 H1 q (GU K a) ds:=
 .old r.length.symm (λi H s c hi=>⟨ws,ws[i],h H s c,gz _⟩) (λi H s c hi=>⟨ws,h H s c,hi⟩) λi H x H' d s c y hd=>by
  obtain⟨rfl,y⟩:=y;obtain⟨v,h1,h2⟩:=r.get hd
  simp_all
def Zd(h:∀H',az k1.F H'->Kept q H1 H'->cT K H' a ws)(r:ag K k1 ws ds):gA K k1 H1 q (qB K a ws.length) ds.reverse:=
 .old (by rw[List.length_reverse,r.length]) (λi H s c hi=>⟨hi,ws,h H s c,rfl⟩) (λi H s c hi=>hi) λi H x H' d s c y hd=>by
  obtain⟨rfl,y⟩:=y;have hi:=(eU.mp hd).1;rw[List.length_reverse] at hi;rw[List.getElem?_reverse hi,<-r.length] at hd;obtain⟨v,h1,h2⟩:=r.get hd
  simp_all
def WH{es:List (TK×V×V)}{ep:Nat}(h:∀H',az k1.F H'->Kept q H1 H'->H' a=some (.dG es ep))(r:ag K k1 (es.map (·.2.1)) ds):gA K k1 H1 q (GQ a es.length ep) ds:=
 .old (by rw[<-r.length,bJ]) (λi H s c hi=>⟨es,h H s c,rfl,hi⟩) (λi H s c hi=>⟨es,h H s c,rfl,hi⟩) λi H x H' d s c y hd=>by
  obtain⟨rfl,y⟩:=y;obtain⟨v,h1,h2⟩:=r.get hd;rw[fW] at h1;obtain⟨e,h3,rfl⟩:=cW.mp h1;obtain⟨e',h4,rfl⟩:=y es (h _ s c);cases h3.symm.trans h4;exact⟨rfl,h2⟩
def Ze{z:Str}:gA K k1 H1 q (DQ z) (z.cps.toList.map λc=>.str (ja c)):=
 .old (by rw[bJ,yW]) (λi H s _ hi=>hi) (λi H s _ hi=>hi) λi H x H' d s _ y hd=>by
  obtain⟨rfl,c,h1,rfl⟩:=y;rw[fW,uS,h1] at hd;cases hd;exact⟨rfl,.flat rfl .nil⟩
def lP(lo c:Int)(n:Nat):List D:=(List.range n).map λ(i:Nat)=>D.int (lo+(i:Int)*c)
def WI:gA K k1 H1 q (GP lo c n) (lP lo c n):=
 .old (by unfold lP;rw[bJ,v8]) (λi H s _ hi=>hi) (λi H s _ hi=>hi) λi H x H' d s _ y hd=>by
  obtain⟨rfl,rfl⟩:=y;have hi:=(eU.mp hd).1;unfold lP at hi hd;rw[bJ,v8] at hi;rw[fW,y0 hi] at hd;cases hd;exact⟨rfl,.flat rfl .nil⟩
def iC(lo:Int)(n:Nat):List D:=(List.range n).map λ(i:Nat)=>D.int (lo+(i:Int))
theorem Zf:gA K k1 H1 q (DP lo n) (iC lo n):=
 .old (by unfold iC;rw[bJ,v8]) (λi H s _ hi=>hi) (λi H s _ hi=>hi) λi H x H' d s _ y hd=>by
  obtain⟨rfl,rfl⟩:=y;have hi:=(eU.mp hd).1;unfold iC at hi hd;rw[bJ,v8] at hi;rw[fW,y0 hi] at hd;cases hd;exact⟨rfl,.flat rfl .nil⟩
end
abbrev k_:=Gx (Nat×List D)
def bG(fz:Bool)(o:D->aj (List D))(g:GE):k_:=λU S=>bd (vk fz g U S) λp S1=>(o p.2).map λds=>.ok (p.1,ds) S1
noncomputable def eS:D->aj (List D)
 |.lst ds=>some ds
 |.tup ds=>some ds
 |.ay kvs=>some (kvs.map (·.1.d))
 |.str z=>some (z.cps.toList.map λc=>.str (ja c))
 |_=>none
noncomputable def yM:D->aj (List D)
 |.lst ds=>some ds.reverse
 |_=>none
def eB(ds:List D):List D:=(List.range ds.length).map λi=>.tup [.int (i:Nat),(ds[i]?).getD .aJ]
def Jr:D->aj (List D)
 |.lst ds=>some (eB ds)
 |_=>none
noncomputable def mJ:List Val->aj (List D)
 |[.d (.int j)]=>if Nat.ble j.natAbs 1000000000000=true then some (iC 0 j.toNat) else none
 |_=>none
noncomputable def iV:Val->aj Int
 |.d (.int i)=>some i
 |_=>none
def Ji{v:Val}(h:iV v=some i):v=.d (.int i):=by
 cases v with
 |d x=>cases x <;> cases h;rfl
 |c n=>cases h
def uw:List Val->aj (List D)
 |[a,b,c]=>(iV a).bind λi=>(iV b).bind λj=>(iV c).bind λc=>if c=2/\(Nat.ble i.natAbs 1000000&&Nat.ble j.natAbs 1000000)=true then some (lP i 2 (fK i j)) else none
 |_=>none
noncomputable def jP(o:List Val->aj (List D))(g:GA):k_:=λU S=>bd (g U S) λvs S1=>(o vs).map λds=>.ok (0,ds) S1
section
variable{X:Cx}{K:aI}{W:XW}{q:Nat}{g:GE}{ga:GA}{fz:Bool}{Z:St}{H:Hp}{R:It->Hp->Prop}
def Ez{o:D->aj (List D)}(t:tX (RI K q) K W q (bG fz o g) Z H R):(∀Q:VK,tE K W q g Z H Q)\/∃d ds n,o d=some ds/\∀Q:VK,(∀k1 H1 x,az k1.F H1->i9 K k1 H1 n x d->(∀J,gA K k1 H1 n J ds->R J H1)->Q x H1)->tE K W q g Z H Q:=by
 obtain⟨k,U,S,res,ok,gk,e,w⟩:=t;rcases zR e with⟨⟨n,d⟩,S1,e1,e2⟩|⟨C,l,S1,e1,rfl⟩
 .obtain⟨ds,e3,rfl⟩:=cW.mp e2;exact .inr ⟨d,ds,max q n,e3,λQ h=>OG ⟨k,U,S,_,ok,gk,e1,λx k1 H1 u bI r=>h k1 H1 x bI.le r λJ j=>w J k1 H1 u bI j⟩⟩
 .exact .inl λQ=>OG ⟨k,U,S,_,ok,gk,e1,w⟩
def i9.now{x:V}{P:Hp->Prop}{n:Nat}(h:∀H',az k.F H'->Kept n H H'->P H')(le:az k.F H):P H:=h H le λ_ _ _ z=>z
def Cg(K:aI)(te:TE):TI:=λZ H R=>vv K te Z H R\/Ck K te Z H R\/vq te Z H R\/Cj te Z H R
def Zg{tg l:Expr}{te:TE}(h:PE X l te):PI X tg l (Cg X.K te):=Jh (V9 h) (Jh (YQ h) (Jh (WC h) (Y4 h)))
def Zh(t:tX (RI K q) K W q (bG fz eS g) Z H R):Cg K (tE K W q g) Z H R:=by
 rcases Ez t with h|⟨d,ds,n,e,h⟩
 .exact .inl (h _)
 .cases d with
  |lst _=>
   cases e;refine .inl (h _ λk1 H1 x le hd j=>?_)
   obtain⟨a,ws,rfl,q2,q1⟩:=hd;exact⟨a,rfl,⟨ws,i9.now (x:=.aJ) q1 le⟩,j _ (WG q1 q2)⟩
  |tup _=>
   cases e;refine .inr (.inl (h _ λk1 H1 x le hd j=>?_))
   obtain⟨a,ws,rfl,q2,q1⟩:=hd;exact⟨a,rfl,⟨ws,i9.now (x:=.aJ) q1 le⟩,j _ (Zc q1 q2)⟩
  |ay kvs=>
   cases e;refine .inr (.inr (.inl (h _ λk1 H1 x le hd j=>?_)))
   obtain⟨a,es,ep,rfl,q2,q3,q4,q1⟩:=hd;exact⟨a,es,ep,rfl,i9.now (x:=.aJ) q1 le,j _ (WH q1 q3)⟩
  |str z=>
   cases e;exact .inr (.inr (.inr (h _ λk1 H1 x le hd j=>⟨z,hd,j _ Ze⟩)))
  |_=>cases e
def WJ(t:tX (RI K q) K W q (bG fz yM g) Z H R):Ci K (rX (tE K W q g) uA) Z H R:=by
 rcases Ez t with h|⟨d,ds,n,e,h⟩
 .exact h _
 .cases d with
  |lst _=>
   cases e;refine h _ λk1 H1 x le hd j=>?_
   obtain⟨a,ws,rfl,q2,q1⟩:=hd;exact⟨a,ws,rfl,i9.now (x:=.aJ) q1 le,j _ (Zd q1 q2)⟩
  |_=>cases e
def Zi(t:tX (RI K q) K W q (bG fz Jr g) Z H R):vt K (rX (tE K W q g) uA) Z H R:=by
 rcases Ez t with h|⟨d,ds,n,e,h⟩
 .exact h _
 .cases d with
  |lst es=>
   cases e;refine h _ λk1 H1 x le hd j=>?_
   obtain⟨a,ws,rfl,q2,q1⟩:=hd;refine⟨a,ws,rfl,i9.now (x:=.aJ) q1 le,j _ ?_⟩;unfold eB;rw[<-q2.length];refine .CB q1 λi us hi hv=>?_
   obtain⟨x,h1,rfl⟩:=hv;obtain⟨d,hd⟩:∃d,es[i]?=some d:=⟨es[i]'(by rw[<-q2.length];exact hi),gz _⟩
   obtain⟨v,h3,h4⟩:=q2.get hd;cases h1.symm.trans h3;rw[hd];exact .flat rfl h4
  |_=>cases e
theorem rep1{xs:List V}(h:Paired (cV K k) xs [.d (.int j)]):xs=[.int j]:=by
 cases h with
 |cons r t=>cases t;rw[(show ag K k [_] [_] from r).a_ rfl]
def rep2{xs:List V}(h:Paired (cV K k) xs [.d (.int i),.d (.int j)]):xs=[.int i,.int j]:=by
 cases h with
 |cons r t=>rw[(show ag K k [_] [_] from r).a_ rfl,rep1 t]
def rep3{xs:List V}(h:Paired (cV K k) xs [.d (.int i),.d (.int j),.d (.int c)]):xs=[.int i,.int j,.int c]:=by
 cases h with
 |cons r t=>rw[(show ag K k [_] [_] from r).a_ rfl,rep2 t]
def M_{o:List Val->aj (List D)}{Q:List V->Hp->Prop}(t:tX (RI K q) K W q (jP o ga) Z H R)(h:∀vs ds k1 H1 xs,o vs=some ds->(∀J,gA K k1 H1 (max q 0) J ds->R J H1)->Paired (cV K k1) xs vs->Q xs H1):fV K W q ga Z H Q:=by
 obtain⟨k,U,S,res,ok,gk,e,w⟩:=t;rcases zR e with⟨vs,S1,e1,e2⟩|⟨C,l,S1,e1,rfl⟩
 .obtain⟨ds,e3,rfl⟩:=cW.mp e2;exact⟨k,U,S,_,ok,gk,e1,λxs k1 H1 u bI r=>h vs ds k1 H1 xs e3 (λJ j=>w J k1 H1 u bI j) r⟩
 .exact⟨k,U,S,_,ok,gk,e1,w⟩
def WK(t:tX (RI K q) K W q (jP mJ ga) Z H R):vw (fV K W q ga) Z H R:=M_ t λvs ds k1 H1 xs e j r=>by
 unfold mJ at e;split at e
 .split at e
  .rename_i h
   have h:=y6 h
   grind [rep1,Zf]
  .cases e
 .cases e
def WL(t:tX (RI K q) K W q (jP uw ga) Z H R):vx (fV K W q ga) Z H R:=M_ t λvs ds k1 H1 xs e j r=>by
 unfold uw at e;split at e
 .obtain⟨_,e1,e4⟩:=cw.mp e;obtain⟨_,e2,e5⟩:=cw.mp e4;obtain⟨_,e3,e6⟩:=cw.mp e5;clear e e4 e5;cases Ji e1;cases Ji e2;cases Ji e3;split at e6
  .rename_i h
   obtain⟨rfl,h⟩:=h;obtain⟨h1,h2⟩:=Ar.mp h;have h1:=y6 h1;have h2:=y6 h2;cases e6;exact⟨_,_,rep3 r,⟨by lia,by lia,by lia,by lia⟩,j _ WI⟩
  .cases e6
 .cases e
end
def aL(g:GG)(f:GS):List D->GS
 |[]=>λU S=>some (.nx U S)
 |d::ds=>λU S=>(g d U).bind λU1=>(f U1 S).bind λr=>match r with
   |.nx U2 S2=>aL g f ds U2 S2
   |.ct U2 S2=>aL g f ds U2 S2
   |.bk U2 S2=>some (.nx U2 S2)
   |r=>some r
noncomputable def bO(q:Nat)(src:k_)(g:GG)(f:Nat->GS):GS:=λU S=>kb U (src U S) λp S1=>aL g (f (max q p.1)) p.2 U S1
def Up.kept{k':Kn}(u:Up q k H k' H'):Kept q H H':=u.h
def Kept.refl:Kept q H H:=λ_ _ _ z=>z
def Kept.trans{AD:Hp}(a:Kept q H H')(b:Kept q H' AD):Kept q H AD:=λx o z h=>b x o z (a x o z h)
theorem Kept.same(a:az H H'):Kept q H H':=λx o _ h=>a x o h
section
variable{X:Cx}{K:aI}{W:XW}{q:Nat}{tg iter:Expr}{body:List Stmt}{wi:TI}{t:TG}{gg:GG}{f:Nat->GS}{src:k_}{pos:Pos}
def Zj(hp:PassesOwn (model X.prog X.w) X.A X.env X.xe)(hc:X.calm=true)(hi:PI X tg iter wi)(pF:∀Z H R,tX (RI K q) K W q src Z H R->wi Z H R)(hg:PG X tg t)(ht:jF K t gg)(hb:∀n,iP X body (tS K W n (f n)))(hs:∀x,foldedSetIterable iter X.env x=pure x):
  PS X (.For tg iter body [] pos) (tS K W q (bO q src gg f)):=by
 intro aa s Z H De I t;obtain⟨k,U,S,fr,ok,gk,e,w⟩:=t;unfold bO kb at e;split at e
 .cases e
 .rename_i p S1 e1
  obtain⟨n,ds⟩:=p;refine PF hp hc hi hg (hb (max q n)) hs aa s Z H De I (pF _ _ _ ⟨k,U,S,_,ok,gk,e1,λJ k1 H1 u1 bI r1=>?_⟩)
  have w1:=(w.up u1).weak (Nat.le_max_left q n);have g1:=gk.up u1;clear w gk ok e1 u1;refine⟨λi m Z H=>m=ds.length - i/\i<=ds.length/\∃k U S,cf K k H S/\gj K k Z U/\k1.le k/\Kept (max q n) H1 H/\aL gg (f (max q n)) (ds.drop i) U S=some fr/\Done K W (max q n) De k H fr,⟨_,rfl,kg _,k1,U,S1,bI,g1,.refl,.refl,e,w1⟩,?_⟩
  rintro i m Z H ⟨rfl,hi,k,U,S,ok,gk,l,c,e,w⟩;rcases Nat.lt_or_ge i ds.length with h|h
  .rw[LF h] at e;refine .inr ⟨r1.go i k H l ok.le c h,λZ' H'=>∃k U S,cf K k H' S/\gj K k Z' U/\k1.le k/\Kept (max q n) H1 H'/\aL gg (f (max q n)) (ds.drop (i+1)) U S=some fr/\Done K W (max q n) De k H' fr,λZ' H' z=>⟨_,by lia,rfl,h,z⟩,λx H' y=>?_⟩
   obtain⟨F',s1,s2,s3,s4,rp⟩:=r1.m8 i k H x H' l ok.le c y _ (gz h);have u:Up (max q n) k H ⟨F',k.A,k.T⟩ H':=.of s1 s2;obtain⟨U1,e1,e2⟩:=cw.mp e;obtain⟨r,e3,e4⟩:=cw.mp e2;have fq:cf K ⟨F',k.A,k.T⟩ H' S:=ok.new s1 (λp _ o z=>s2 p o z) s3 λp m=>s4 p (ok.there p m)
   have l':k1.le ⟨F',k.A,k.T⟩:=⟨l.f.trans s1,l.a⟩;refine ht _ H' Z U U1 x ds[i] _ s3 (gk.up u) rp e1 λZ1 g1=>⟨_,U1,S,r,fq,g1,e3,?_⟩
   have w':=w.up u;have c':Kept (max q n) H1 H':=c.trans (.same s2);cases r with
   |nx U2 S2=>exact λZ' k2 H2 u2 cO g2=>⟨k2,U2,S2,cO,g2,⟨l'.f.trans u2.f,l'.a.trans u2.a⟩,c'.trans u2.kept,e4,w'.up u2⟩
   |ct U2 S2=>exact λZ' k2 H2 u2 cO g2=>⟨k2,U2,S2,cO,g2,⟨l'.f.trans u2.f,l'.a.trans u2.a⟩,c'.trans u2.kept,e4,w'.up u2⟩
   |bk U2 S2=>cases e4;exact w'
   |rt r S2=>cases e4;exact w'
   |ex C l U2 S2=>cases e4;exact w'
  .rw[Gu h] at e;cases e;exact .inl ⟨r1.stop i k H l ok.le c h,bY.now w ok gk⟩
 .rename_i C l S1 e1
  cases e;exact PF hp hc hi hg (hb q) hs aa s Z H De I (pF _ _ _ ⟨k,U,S,_,ok,gk,e1,λdx k' H' u fq r=>w dx Z k' H' u fq (gk.up u) r⟩)
end
end L2
set_option autoImplicit false
namespace L2
open PySem PySem.Spec PyProof.Rows
variable{ds:List D}{U:Gm}{Z:St}
def sG{α β:Type}(x:aj (Rs α))(f:α->aR->aj (Rs β)):aj (Rs β):=match x with
 |some (.ok a S)=>f a S
 |_=>none
def W0:XW:=λ_ _ _ _=>False
def bf(gg:GG)(tt:GT)(te:GE):List D->Gm->aR->List D->aj (Rs (List D))
 |[],_,S,aW=>some (.ok aW S)
 |d::ds,U,S,aW=>(gg d U).bind λU1=>sG (tt U1 S) λb S1=>if b=true then sG (gD te U1 S1) λx S2=>if aW.length<1000000 then bf gg tt te ds U1 S2 (aW++[x]) else none else bf gg tt te ds U1 S1 aW
def tU(n:Nat)(cY:List Nat)(U:Gm):Gm:=List.replicate n none++cY.map λi=>(U[i]?).join
def bZ(q:Nat)(src:k_)(gg:GG)(tt:Nat->GT)(te:Nat->GE)(n:Nat)(cY:List Nat):GE:=λU S=>bd (src U S) λp S1=>bd (bf gg (tt (max q p.1)) (te (max q p.1)) p.2 (tU n cY U) S1 []) λds S2=>some (.ok (.o (.lst ds)) S2)
section
variable{X:Cx}{K:aI}{W:XW}{q:Nat}{tg iter elt:Expr}{ifs:List Expr}{scope:Scope}{wi:TI}{t:TG}{gg:GG}{tt:Nat->GT}{te:Nat->GE}{src:k_}{pos:Pos}{M:List Str}{n:Nat}{cY:List Nat}
def E1{α β:Type}{x:aj (Rs α)}{f:α->aR->aj (Rs β)}{res:Rs β}(e:sG x f=some res):∃a S,x=some (.ok a S)/\f a S=some res:=by
 unfold sG at e;split at e
 .exact⟨_,_,rfl,e⟩
 .cases e
def UT{gg:GG}{tt:GT}{te:GE}{S:aR}{aW:List D}{res:Rs (List D)}(e:bf gg tt te ds U S aW=some res):∃l S',res=.ok l S':=by
 induction ds generalizing U S aW with
 |nil=>cases e;exact⟨_,_,rfl⟩
 |cons d ds ih=>
  obtain⟨U1,_,e⟩:=cw.mp e;obtain⟨b,S1,_,e⟩:=E1 e;cases b with
  |false=>exact ih e
  |true=>
   obtain⟨x,S2,_,e⟩:=E1 (show sG _ _=some res from e);split at e
   .exact ih e
   .cases e
def WM{k:Kn}(g:gj K k Z U):gj K k (jK n cY Z) (tU n cY U):=by
 refine⟨by unfold jK tU;rw[dw,dw,bJ,bJ,oP,oP],λi v e=>?_⟩
 unfold tU at e;unfold jK;by_cases hi:i<n
 .rw[uQ (by rw[oP];exact hi),LB,bL hi] at e;cases e
 .have hi:=Nat.le_of_not_lt hi;rw[sV (by rw[oP];exact hi),oP,fW] at e ⊢
  obtain⟨j,h1,h2⟩:=cW.mp e;obtain⟨x,h3,h4⟩:=g.at' j v (M6 h2)
  simp_all
def Zk{J:It}{k1:Kn}{H1:Hp}{m:Nat}{out:List D}{S1 S2:aR}{τ:St}{gt:GT}{ge:GE}{fX:List V->Hp->Prop}(ht:jF K t gg)(r1:gA K k1 H1 m J ds)(bI:cf K k1 H1 S1)(g1:gj K k1 τ U)(e:bf gg gt ge ds U S1 []=some (.ok out S2))
  (w:∀k H vs,Up m k1 H1 k H->cf K k H S2->ag K k vs out->fX vs H):nV J t (tT K W0 m gt) (tE K W0 m ge) τ H1 fX:=by
 refine⟨ds.length,λi τ vs H=>i<=ds.length/\∃k U S aW,cf K k H S/\gj K k τ U/\ag K k vs aW/\Up m k1 H1 k H/\bf gg gt ge (ds.drop i) U S aW=some (.ok out S2),⟨kg _,k1,U,S1,[],bI,g1,.nil,.refl,e⟩,?_⟩
 rintro i τ vs H hi ⟨_,k,U,S,aW,ok,gk,rv,u,e⟩;rcases Nat.lt_or_ge i ds.length with h|h
 .rw[LF h] at e;refine .inr ⟨h,r1.go i k H u.le ok.le u.kept h,λx H' y=>?_⟩
  obtain⟨F',s1,s2,s3,s4,rp⟩:=r1.m8 i k H x H' u.le ok.le u.kept y _ (gz h);have u2:Up m k H ⟨F',k.A,k.T⟩ H':=.of s1 s2;have fq:cf K ⟨F',k.A,k.T⟩ H' S:=ok.new s1 (λp _ o z=>s2 p o z) s3 λp m=>s4 p (ok.there p m)
  obtain⟨U1,e1,e2⟩:=cw.mp e;refine ht _ H' τ U U1 x ds[i] _ s3 (gk.up u2) rp e1 λτ1 g1=>?_
  obtain⟨b,S3,e3,e4⟩:=E1 e2;refine⟨_,U1,S,_,fq,g1,e3,λb' k3 H3 u3 jj r3=>?_⟩
  cases r3;have u4:=(u.trans u2).trans u3;cases b with
  |false=>exact rB ⟨h,k3,U1,S3,aW,jj,g1.up u3,rv.mono (u2.trans u3).le,u4,e4⟩
  |true=>
   obtain⟨y,S4,e5,e6⟩:=E1 (show sG _ _=some _ from e4);refine rC (Lk ⟨_,U1,S3,_,jj,g1.up u3,e5,λv k5 H5 u5 lI r5=>?_⟩)
   split at e6
   .rename_i hl
    refine⟨fy (by rw[rv.length];exact hl) (by decide),h,k5,U1,S4,aW++[y],lI,(g1.up u3).up u5,(rv.mono ((u2.trans u3).trans u5).le).append r5,u4.trans u5,e6⟩
   .cases e6
 .rw[Gu h] at e;cases e;exact .inl ⟨r1.stop i k H u.le ok.le u.kept h,w k H vs u ok rv⟩
def OH{H:Hp}{Q:VK}(ht:jF K t gg)(h:tE K W q (bZ q src gg tt te n cY) Z H Q):∃m,tX (RI K q) K W q src Z H λJ H1=>nV J t (tT K W0 m (tt m)) (tE K W0 m (te m)) (jK n cY Z) H1 λaW H'=>∀l,H' l=none->Q (.ref l) (upd H' l (.lst aW)):=by
 obtain⟨k,U,S,res,ok,gk,e,w⟩:=h;rcases zR e with⟨⟨m,ds⟩,S1,e1,e2⟩|⟨C,l,S1,e1,rfl⟩
 .refine⟨max q m,k,U,S,_,ok,gk,e1,λJ k1 H1 u1 bI r1=>?_⟩
  rcases zR e2 with⟨out,S2,e3,e4⟩|⟨C,l,S2,e3,rfl⟩
  .cases e4;refine Zk ht r1 bI (WM (gk.up u1)) e3 λk2 H2 vs u2 cO rv l hl=>?_
   exact kr.lst (.fin cO ((w.up u1).up (u2.weak (Nat.le_max_left q m)))) cO.le rv hl
  .obtain⟨_,_,z⟩:=UT e3;cases z
 .exact⟨0,k,U,S,_,ok,gk,e1,w⟩
def WN(hc:X.calm=true)(ok:dQ X scope M n cY)(hi:PI X tg iter wi)(pF:∀Z H R,tX (RI K q) K W q src Z H R->wi Z H R)(ht:jF K t gg)
  (hg:∀C s H fp,PG (eY X scope M C s H fp) tg t) (hT:∀m C s H fp,qD (eY X scope M C s H fp) ifs (tT K W0 m (tt m))) (hE:∀m C s H fp,PE (eY X scope M C s H fp) elt (tE K W0 m (te m)))
  (hs:∀x,foldedSetIterable iter X.env x=pure x):PE X (.ListComp elt [⟨tg,iter,ifs,0⟩] scope pos) (tE K W q (bZ q src gg tt te n cY)):=λaa s Z H Q I h=>by
 obtain⟨m,h⟩:=OH ht h;exact Wq hc ok hi hg (hT m) (hE m) hs aa s Z H Q I (pF _ _ _ h)
def WO{mu:Bool}{i:Nat}{x:Str}{px mP:Pos}(hc:X.calm=true)(ok:dQ X scope M n cY)(hN:X.N.Nodup)(x8:X.N[i]?=some x)(hx:Loc X.env.scope x)(hi:PI X tg iter wi)(pF:∀Z H R,tX (RI K q) K W q src Z H R->wi Z H R)(ht:jF K t gg)
  (hg:∀C s H fp,PG (eY X scope M C s H fp) tg t) (hT:∀m C s H fp,qD (eY X scope M C s H fp) ifs (tT K W0 m (tt m))) (hE:∀m C s H fp,PE (eY X scope M C s H fp) elt (tE K W0 m (te m)))
  (Cd:swapsWith (.ListComp elt [⟨tg,iter,ifs,0⟩] scope pos) (some (.Name x px)) mP.line X.env=pure true) (hs:∀x,foldedSetIterable iter X.env x=pure x) (hf:X.fn x=true\/X.env.scope.names.lookup x=some .local) :
  PS X (.Assign [.Name x px] (.ListComp elt [⟨tg,iter,ifs,0⟩] scope pos) mP) (tS K W q (aq i mu (bZ q src gg tt te n cY))):=λaa s Z H D I h=>by
 obtain⟨m,h⟩:=OH ht (PN h);exact Wr hc ok hN x8 hx hi hg (hT m) (hE m) Cd hs hf aa s Z H D I (pF _ _ _ h)
end
end L2
namespace L2
open PySem PySem.Spec PySem.W PySem.Calls PyProof.Rows
variable{hs:List ExceptHandler}
noncomputable def mS(C:ai)(fe:GE):GS:=λU S=>kb U (fe U S) λ_ S1=>some (.ex C none U S1)
section
variable{X:Cx}{K:fm}{W:XW}{q:Nat}{C B0:ai}{x:Str}{p cp pos:Pos}{e:Expr}{fe:GE}
def UU(G:fD K C (.ref B0::p7) none)(G0:fD K B0 p7 none)(hk:keepIn K (.ref C)=true)(hm:X.mg x=some (.ref C))(hp:eV X W)(he:PE X e (tE K W q fe))(hc:X.calm=true)(hg:Gl X x)(kB:(x == ("__debug__":Str))=false)
  (jT:starEach [e] X.env=(false,eval e X.env)::starEach [] X.env) (hK:X.K=K):PS X (.Raise (some (.Call (.Name x p) [e] [] cp)) none pos) (tS K W q (mS C fe)):=by
 subst hK;intro aa s Z H D I t;have t1:tE X.K W q fe Z H λ_ H1=>W C none Z H1:=by
  obtain⟨k,U,S,fr,ok,gk,e,w⟩:=t;refine tS.bd ok gk e w λr S1 v k1 H1 bI g1 r1 e1 w1=>?_
  cases e1;exact w1 none Z k1 H1 .refl bI g1 rfl
 obtain⟨nm,qq,N,bs,sn,sub,ab,col,dd,k0,k1,k2,k3,k5,on,Af,es,ep,Ag,g1,g2,g3,g4⟩:=id G;rw[arm_exec_Raise];show wpAny _ _ (do standAt pos;raiseStmt X.env (some (do let v <-eval (.Call (.Name x p) [e] [] cp) X.env;standAt pos;pure v)) none) _ _ _
 refine ax (wpAny_standAt (wpAny_raiseStmt_made_sub (C:=C) (nm:=nm) (q:=qq) (N:=N) (bs:=bs) (bm:=.ref B0::p7) (hdct:=true) (sn:=sn) (sub:=sub) (ab:=ab) (col:=col) (dd:=dd) (k0:=k0) (k1:=k1) (k2:=k2) (k3:=k3) (k5:=k5) (newId:="ValueError.__new__") rfl (I.ok.hd hc) (ax (bM ?_ λv s3 h3=>ax (wpAny_standAt (aP h3))))))
 refine wpAny_Call_Name_kw (zH I hg hm ?_ kB);have jr:(backTo cp (starEach [] X.env)).any (·.1)=false:=rfl
 refine PySem.W.callWith_K (h₀:=X.base) I.ok.mod.Ac hk (bM ((EX he lK jT) cp aa s Z H (λvs H1=>vs.length=1/\W C none Z H1) I (nB t1 λ_ H1 h=>⟨rfl,h⟩)) λus s1 hh=>?_) jT jr
 obtain⟨vs,H1,I1,r,hl,pp⟩:=hh;refine⟨I1.jt,?_⟩;obtain⟨u,rfl⟩:∃u,us=[u]:=by
  have l:=r.length;rw[hl] at l;cases us with
  |nil=>cases l
  |cons u us=>cases us with
   |nil=>exact⟨u,rfl⟩
   |cons _ _=>cases l
 refine UP G G0 I1 λh' t kp g=>⟨_,t,rfl,kp _ _ (I1.jt _ _ g1),g,?_⟩
 exact hp aa Z H1 s1 H1 _ _ C none I1 ⟨rfl,I1.bare,Un.kept kp,I1.bw.kept kp,uP _,I1.bw.fresh (uP _),_,_,g,rfl,rfl,rfl,by show 1<6;decide,.inl rfl⟩ pp
end
abbrev GH:=(ai->aj Bool)×GS
variable{gs:List GH}
noncomputable def CD:Fr->aj Fr
 |.ex _ _ _ _=>none
 |r=>some r
def uF:List GH->ai->GS
 |[],_=>λ_ _=>none
 |h::hs,C=>λU S=>(h.1 C).bind λb=>if b=true then(h.2 U S).bind CD else uF hs C U S
def qZ(f:GS)(hs:List GH):GS:=λU S=>(f U S).bind λr=>match r with
 |.ex C _ U1 S1=>uF hs C U1 S1
 |r=>some r
section
variable{X:Cx}{K:fm}{W:XW}{q:Nat}
theorem SP.eG{aa:List (ai×Obj)}{D:Ends}{f:Flow}{s':ao}{e:ah}(h:SP (X.dN e) aa D f s')(hd:X.calm=true->X.A.handled=none):SP X aa D f s':=by
 cases f with
 |next=>obtain⟨Z',H',I,q⟩:=h;exact⟨Z',H',I.eG hd,q⟩
 |brk=>obtain⟨Z',H',I,q⟩:=h;exact⟨Z',H',I.eG hd,q⟩
 |cont=>obtain⟨Z',H',I,q⟩:=h;exact⟨Z',H',I.eG hd,q⟩
 |ret u=>obtain⟨v,Z',H',I,r,q⟩:=h;exact⟨v,Z',H',I.eG hd,r,q⟩
def Done.CD{D:Ends}{k:Kn}{H:Hp}{r fr:Fr}(w:Done K W q D k H fr)(e:L2.CD r=some fr):Done K W0 q D k H r:=by
 cases r with
 |ex _ _ _ _=>cases e
 |_=>cases e;exact w
def HB(X:Cx)(K:fm)(W:XW)(q:Nat)(hs:List ExceptHandler)(gs:List GH):Prop:=∀(aa:List (ai×Obj)) (Z:St) (H:Hp) (s:ao) (D:Ends) (e C:ai) (dx:aj ai) (k:Kn) (U:Gm) (S:aR) (fr:Fr) (n:Nat),Inv X aa Z H s->AI X aa n->h_ n s.heap H e C dx->cf K k H S->gj K k Z U->uF gs C U S=some fr->Done K W q D k H fr->
 wpAny (model X.prog X.w) X.A (handleBy (.ref e) X.env hs) (SP X aa D) X.xe s
def Zl:HB X K W q [] []:=λ_ _ _ _ _ _ _ _ _ _ _ _ _ _ _ _ _ _ e _=>nomatch e
def WQ{x:Str}{np hp:Pos}{b0:Stmt}{mQ:List Stmt}{wh:ai->aj Bool}{g:GS}{Cc:ai}(hm:X.mg x=some (.ref Cc))(hw:∀C b,wh C=some b->exmOne K (.ref C) (.ref Cc)=some b)(hS:∀e,iP (X.dN e) (b0::mQ) (tS K W0 q g))(rest:HB X K W q hs gs)(hg:Gl X x)(kB:(x == ("__debug__":Str))=false)(hK:X.K=K):
  HB X K W q (.ExceptHandler (some (.Name x np)) none (b0::mQ) hp::hs) ((wh,g)::gs):=by
 subst hK;intro aa Z H s D e C dx k U S fr n I y f ok gk ee w;obtain⟨bb,q1,ee⟩:=cw.mp ee;dsimp only at q1 ee;refine wpAny_handleBy_cons (codeAny_handlers_test (zH (I.dN (e:=.ref e)) hg hm ?_ kB)) (by intro q;cases q)
 obtain⟨fU,sL,oe,vs,he,hc,hr⟩:=id f;have LT:Looks (model X.prog X.w) s.heap (typeOf (.ref e)) (.ref C):=by
  rw[<-hc];exact(Looks.ld he).andThen .now
 refine(exm_one I.jt LT (hw C bb q1)).here ?_;cases bb with
 |true=>
  obtain⟨r,e2,e3⟩:=cw.mp (show(g U S).bind L2.CD=some fr from ee);refine codeAny_handlers_suite (UQ (X:=X) f λh' ch kc lx f2=>?_)
  have I2:Inv X aa Z H { s with heap:=h',toks:=s.toks}:=I.left y lx kc;refine wpAny_mono (hS (.ref e) aa _ Z H D I2.dN ⟨k,U,S,r,ok,gk,e2,w.CD e3⟩) (λfl s2 q=>?_) λ_ _ z=>z.elim
  exact q.eG I.ok.hd
 |false=>exact rest aa Z H s D e C dx k U S fr n I y f ok gk ee w
theorem SP.dY{aa:List (ai×Obj)}{E:ah->ao->Prop}{D:Ends}{f:Flow}{s':ao}(h:SP (X.dO (X.pn++aa) E) [] D f s'):SP X aa D f s':=by
 cases f with
 |next=>obtain⟨Z',H',I,q⟩:=h;exact⟨Z',H',I.dY,q⟩
 |brk=>obtain⟨Z',H',I,q⟩:=h;exact⟨Z',H',I.dY,q⟩
 |cont=>obtain⟨Z',H',I,q⟩:=h;exact⟨Z',H',I.dY,q⟩
 |ret u=>obtain⟨v,Z',H',I,r,q⟩:=h;exact⟨v,Z',H',I.dY,r,q⟩
def Zm{body:List Stmt}{h0:ExceptHandler}{f:GS}{pos:Pos}(hb:∀(pn:List (ai×Obj)) (E:ah->ao->Prop) (W:XW),eV (X.dO pn E) W->iP (X.dO pn E) body (tS K W q f))(hh:HB X K W q (h0::hs) gs)(jT:X.stack=X.env::X.outer)(hf:X.env.frame=some X.env.locals):
  PS X (.Try body (h0::hs) [] [] pos) (tS K W q (qZ f gs)):=by
 intro aa s Z H D I t;obtain⟨k,U,S,fr,ok,gk,e,w⟩:=t;obtain⟨r1,e1,e⟩:=cw.mp e;refine wpAny_Try_except ?_;have hp:eV (X.dO (X.pn++aa) λe s₁=>wpAny (model X.prog X.w) X.A (noteFrame e X.env) (λ_ s₂=>wpAny (model X.prog X.w) X.A (setFlight e none) (λ_ s₃=>wpAny (model X.prog X.w) X.A (handleBy e X.env (h0::hs)) (SP X aa D) X.xe s₃) X.xe s₂) X.xe s₁)
   (λC dx Z' H'=>∃k' U1 S1 fr,cf K k' H' S1/\gj K k' Z' U1/\uF gs C U1 S1=some fr/\Done K W q D k' H' fr):=by
  intro mG Z' H1 s1 H' s' e C dx I1 c q;obtain⟨k',U2,S2,fr2,cO,gk2,e2,w2⟩:=q;have I':Inv X aa Z' H' s':=(c.inv I1).dY;have J:Inv X aa Z' H1 s1:=I1.dY;refine PM (base:=X.base) (n:=s1.heap.objs.size) (by rw[<-jT];exact I.ok.frames) (by rw[<-jT];exact I'.stack) hf c.FF.lt (λa z=>I'.bw.fresh z) c.FF λh' ch kc lx fl=>?_
  rw[<-jT] at lx;have I3:Inv X aa Z' H' { s' with heap:=h',toks:=s'.toks}:=I'.left J.RG lx kc;exact hh aa Z' H' _ D e C dx k' U2 S2 fr2 _ I3 J.RG fl cO gk2 e2 w2
 refine wpAny_mono (hb _ _ _ hp [] s Z H D I.dO ⟨k,U,S,r1,ok,gk,e1,?_⟩) (λff s1 z=>?_) λe s1 z=>z
 .cases r1 with
  |ex C l U1 S1=>exact λdx Z' k' H' u fq g' el=>⟨k',U1,S1,fr,fq,g',e,w.up u⟩
  |_=>cases e;exact w
 .have z:=z.dY;cases ff with
  |next=>
   obtain⟨Z',H',J,r⟩:=z;exact oG aa s1 Z' H' D J r
  |brk=>exact z
  |cont=>exact z
  |ret u=>exact z
end
end L2
namespace L2
open PySem PySem.Spec PyProof.Rows
variable{K:aI}{es:List D}{j n:Nat}
abbrev aV(K:aI)(H:Hp):List V->List D->Prop:=ag K ⟨H,[],[]⟩
def ag.Gq{H H1:Hp}{vs:List V}{ds:List D}(h:ag K ⟨H,[],[]⟩ vs ds)(s:az H H1):ag K ⟨H1,[],[]⟩ vs ds:=ag.mono (k:=⟨H,[],[]⟩) ⟨s,kH ([]:List ai)⟩ h
section
variable{X:Cx}
mutual
def eL:D->D->Bool
 |.lst xs,.lst ys=>eP xs ys
 |.tup xs,.tup ys=>eP xs ys
 |.aJ,.aJ=>true
 |.bl a,.bl b=>a == b
 |.bl a,.int b=>(if a then 1 else 0) == b
 |.int a,.bl b=>a == (if b then 1 else 0)
 |.int a,.int b=>a == b
 |.str a,.str b=>a == b
 |_,_=>false
def eP:List D->List D->Bool
 |[],[]=>true
 |x::xs,y::ys=>eL x y&&eP xs ys
 |_,_=>false
end
noncomputable def dZ:Nat->D->Bool
 |n+1,.lst xs=>xs.all (dZ n)
 |n+1,.tup xs=>xs.all (dZ n)
 |_,.aJ=>true
 |_,.bl _=>true
 |_,.int _=>true
 |_,.str _=>true
 |_,_=>false
theorem A5:∀{xs ys:List D},xs.length≠ys.length->eP xs ys=false
 |[],[],h=>bQ rfl h
 |[],_::_,_=>rfl
 |_::_,[],_=>rfl
 |x::xs,y::ys,h=>by show(eL x y&&eP xs ys)=false;rw[A5 (by simpa using h),Gw]
theorem A6:∀{xs ys:List D} (n:Nat),xs.length=n->ys.length=n->eP xs ys=(List.range n).all λj=>eL (xs.getD j .aJ) (ys.getD j .aJ)
 |[],[],0,_,_=>rfl
 |x::xs,y::ys,n+1,h1,h2=>by
  show(eL x y&&eP xs ys)=_;rw[A6 n (by simpa using h1) (by simpa using h2),List.range_succ_eq_map,qf,As]
  rfl
 |[],_,_+1,h,_=>by simp at h
 |_::_,[],_+1,_,h=>by simp at h
 |_::_,_,0,h,_=>by simp at h
 |[],_::_,0,_,h=>by simp at h
variable{aa:List (ai×Obj)}{Z:St}{H:Hp}{s:ao}
def vc{F:Hp}{ws:List V}(r:aV K F ws es){aA:List ah}(rv:Vals ws aA)(h:j<aA.toArray.size):∃x,RelV x aA.toArray[j]/\aV K F [x] [es.getD j .aJ]/\j<es.length:=by
 obtain⟨x,hx,rx⟩:=rv.at h;have hl:=r.length;have hj:j<es.length:=by
  grind
 obtain⟨y,hy,ry⟩:=r.get (i:=j) (d:=es[j]) (by simp[hj])
 rw[hx] at hy;cases hy;refine⟨x,rx,?_,hj⟩;rw[show es.getD j .aJ=es[j] by simp[hj]]
 exact ry
def u0{p:D->Bool}(h:es.all p=true)(hj:j<es.length):p (es.getD j .aJ)=true:=by
 simp_all
inductive wm (K:aI) (H:Hp) (s:ao):ah->D->Prop
 |none:wm K H s .none .aJ
 |bool (b:Bool):wm K H s (.bool b) (.bl b)
 |int (i:Int) (t:Tok):wm K H s (.int i t) (.int i)
 |str (x:Str) (t:Tok):wm K H s (.str x t) (.str x)
 |list {a:ai} {aA:List ah} {ws:List V} {es:List D}:s.heap.IsList a aA.toArray->Vals ws aA->aV K H ws es->wm K H s (.ref a) (.lst es)
 |tuple {a:ai} {aA:List ah} {ws:List V} {es:List D}:s.heap.IsTuple a aA.toArray->Vals ws aA->aV K H ws es->wm K H s (.ref a) (.tup es)
def Fh(I:Inv X aa Z H s){x:V}{u:ah}{d:D}(r:aV X.K H [x] [d])(ru:RelV x u)(ok:dZ n d=true):wm X.K H s u d:=by
 cases r with
 |lst q i _=>
  cases ru;obtain⟨aA,rv,pl,_⟩:=I.list q;exact .list pl.isList rv i
 |tup q i _=>
  cases ru;obtain⟨aA,rv,pl,_⟩:=I.tuple q;exact .tuple pl rv i
 |ay _ _ _ _ _=>cases n <;> cases ok
 |ref _ _=>cases n <;> cases ok
 |flat q _=>
  cases d with
  |aJ=>cases q;cases ru;exact .none
  |bl b=>cases q;cases ru;exact .bool b
  |int i=>cases q;obtain⟨t,rfl⟩:=ru;exact .int i t
  |str z=>cases q;obtain⟨t,rfl⟩:=ru;exact .str z t
  |ty _=>cases n <;> cases ok
  |lst _=>cases q
  |tup _=>cases q
  |ay _=>cases q
  |ref _=>cases q
def wN(h:dZ n (.lst es)=true):∃m,n=m+1/\es.all (dZ m)=true:=by
 cases n with
 |zero=>cases h
 |succ n=>exact⟨n,rfl,h⟩
def wO(h:dZ n (.tup es)=true):∃m,n=m+1/\es.all (dZ m)=true:=by
 cases n with
 |zero=>cases h
 |succ n=>exact⟨n,rfl,h⟩
def M'(h:∀d∈es,eL d d=true):eP es es=true:=by
 induction es with
 |nil=>rfl
 |cons d es ih=>show(eL d d&&eP es es)=true;rw[h d (by simp),ih λd m=>h d (by simp[m])];rfl
theorem HZ:∀(n:Nat) {d:D},dZ n d=true->eL d d=true:=by
 intro n
 induction n with
 |zero=>intro d h;cases d <;> first|(cases h;done)|exact rfl|exact dP _
 |succ n ih=>
  intro d h;cases d with
  |lst es=>exact M' λd m=>ih (kj.mp h d m)
  |tup es=>exact M' λd m=>ih (kj.mp h d m)
  |ay _=>cases h
  |ref _=>cases h
  |ty _=>cases h
  |_=>first|exact rfl|exact dP _
def R7{xs ys:List D}(hl:xs.length=ys.length)(h:∀j,j<xs.length->xs.getD j .aJ=ys.getD j .aJ):xs=ys:=by
 apply List.ext_getElem hl;intro j h1 h2;have:=h j h1;simpa[h1,h2] using this
noncomputable def Ln:V->D
 |.bl b=>.bl b
 |.int i=>.int i
 |.str x=>.str x
 |.ty n=>.ty n
 |_=>.aJ
def Na{d:D}{v:V}(h:vb d=some v):d=Ln v:=by cases d <;> cases h <;> rfl
def zE{d:D}{a:ai}(h:vb d=some (.ref a)):False:=by cases d <;> cases h
theorem E2(I:Inv X aa Z H s):∀(n m:Nat) {x:V} {d e:D},aV X.K H [x] [d]->aV X.K H [x] [e]->dZ n d=true->dZ m e=true->d=e:=by
 intro n
 induction n using Nat.strongRecOn with
 |ind n ih=>
 intro m x d e rd re od oe;have go:∀{ws:List V} {es jq:List D} {n' m':Nat},n'<n->aV X.K H ws es->aV X.K H ws jq->es.all (dZ n')=true->jq.all (dZ m')=true->es=jq:=by
  intro ws es jq n' m' hn r1 r2 o1 o2;have l1:=r1.length;have l2:=r2.length;refine R7 (by lia) λj hj=>?_
  have FV:j<jq.length:=by lia
  obtain⟨v,g1,g2⟩:=r1.get (i:=j) (d:=es[j]) (by simp[hj])
  obtain⟨v',p1,p2⟩:=r2.get (i:=j) (d:=jq[j]) (by simp[FV])
  rw[g1] at p1;cases p1;rw[show es.getD j .aJ=es[j] by simp[hj],show jq.getD j .aJ=jq[j] by simp[FV]]
  exact ih n' hn m' g2 p2 (kj.mp o1 _ (Gs hj)) (kj.mp o2 _ (Gs FV))
 cases rd with
 |flat q _=>
  cases re with
  |flat q' _=>
   rw[Na q,Na q']
  |lst _ _ _=>exact(zE q).elim
  |tup _ _ _=>exact(zE q).elim
  |ay _ _ _ _ _=>exact(zE q).elim
  |ref _ _=>exact(zE q).elim
 |lst q i _=>
  obtain⟨n',rfl,rK⟩:=wN od;cases re with
  |flat q' _=>exact(zE q').elim
  |lst q' i' _=>
   obtain⟨m',rfl,rL⟩:=wN oe;cases I.jW q q';rw[go (pS _) i i' rK rL]
  |tup q' i' _=>
   obtain⟨_,_,p1,_⟩:=I.list q;obtain⟨_,_,p2,_⟩:=I.tuple q';exact bQ rfl (SeqAt.ne_of_list_tuple p1.isList p2)
  |ay _ _ _ _ _=>cases m <;> cases oe
  |ref _ _=>cases m <;> cases oe
 |tup q i _=>
  obtain⟨n',rfl,rK⟩:=wO od;cases re with
  |flat q' _=>exact(zE q').elim
  |tup q' i' _=>
   obtain⟨m',rfl,rL⟩:=wO oe;cases I.kS q q';rw[go (pS _) i i' rK rL]
  |lst q' i' _=>
   obtain⟨_,_,p1,_⟩:=I.list q';obtain⟨_,_,p2,_⟩:=I.tuple q;exact bQ rfl (SeqAt.ne_of_list_tuple p1.isList p2)
  |ay _ _ _ _ _=>cases m <;> cases oe
  |ref _ _=>cases m <;> cases oe
 |ay _ _ _ _ _=>cases n <;> cases od
 |ref _ _=>cases n <;> cases od
def b2i(I:Inv X aa Z H s):∀(n m:Nat) {A:cK} {x y:V} {u v:ah} {d e:D},aV X.K H [x] [d]->aV X.K H [y] [e]->dZ n d=true->dZ m e=true->RelV x u->RelV y v->A.units+n<cLine->
  SeqAt.EqAt A s u v (eL d e)/\SeqAt.RcAt A s u v (eL d e):=by
 intro n
 induction n using Nat.strongRecOn with
 |ind n ih=>
 intro m A x y u v d e rd re od oe ru rv hu;have cN:A.units<cLine:=by lia
 have s1:=Fh I rd ru od;have s2:=Fh I re rv oe;cases s1 with
 |none=>
  cases s2 with
  |none=>
   exact⟨SeqAt.EqAt.same _,SeqAt.RcAt.none_none⟩
  |bool a2=>
   exact⟨SeqAt.EqAt.none_bool a2,SeqAt.RcAt.none_bool a2⟩
  |int a2 t2=>
   exact⟨SeqAt.EqAt.none_int a2 t2,SeqAt.RcAt.none_int a2 t2⟩
  |str a2 t2=>
   exact⟨SeqAt.EqAt.none_str a2 t2,SeqAt.RcAt.none_str a2 t2⟩
  |list l2 v2 r2=>
   exact⟨SeqAt.EqAt.none_list l2 cN,SeqAt.RcAt.none_list l2 cN⟩
  |tuple l2 v2 r2=>
   exact⟨SeqAt.EqAt.none_tuple l2 cN,SeqAt.RcAt.none_tuple l2 cN⟩
 |bool a1=>
  cases s2 with
  |none=>
   exact⟨SeqAt.EqAt.bool_none a1,SeqAt.RcAt.bool_none a1⟩
  |bool a2=>
   exact⟨SeqAt.EqAt.bool_bool a1 a2,SeqAt.RcAt.bool_bool a1 a2⟩
  |int a2 t2=>
   exact⟨SeqAt.EqAt.bool_int a1 a2 t2,SeqAt.RcAt.bool_int a1 a2 t2⟩
  |str a2 t2=>
   exact⟨SeqAt.EqAt.bool_str a1 a2 t2,SeqAt.RcAt.bool_str a1 a2 t2⟩
  |list l2 v2 r2=>
   exact⟨SeqAt.EqAt.bool_list a1 l2 cN,SeqAt.RcAt.bool_list a1 l2 cN⟩
  |tuple l2 v2 r2=>
   exact⟨SeqAt.EqAt.bool_tuple a1 l2 cN,SeqAt.RcAt.bool_tuple a1 l2 cN⟩
 |int a1 t1=>
  cases s2 with
  |none=>
   exact⟨SeqAt.EqAt.int_none a1 t1,SeqAt.RcAt.int_none a1 t1⟩
  |bool a2=>
   exact⟨SeqAt.EqAt.int_bool a1 t1 a2,SeqAt.RcAt.int_bool a1 t1 a2⟩
  |int a2 t2=>
   exact⟨SeqAt.EqAt.int_int a1 t1 a2 t2,SeqAt.RcAt.int_int a1 t1 a2 t2⟩
  |str a2 t2=>
   exact⟨SeqAt.EqAt.int_str a1 t1 a2 t2,SeqAt.RcAt.int_str a1 t1 a2 t2⟩
  |list l2 v2 r2=>
   exact⟨SeqAt.EqAt.int_list a1 t1 l2 cN,SeqAt.RcAt.int_list a1 t1 l2 cN⟩
  |tuple l2 v2 r2=>
   exact⟨SeqAt.EqAt.int_tuple a1 t1 l2 cN,SeqAt.RcAt.int_tuple a1 t1 l2 cN⟩
 |str a1 t1=>
  cases s2 with
  |none=>
   exact⟨SeqAt.EqAt.str_none a1 t1,SeqAt.RcAt.str_none a1 t1⟩
  |bool a2=>
   exact⟨SeqAt.EqAt.str_bool a1 t1 a2,SeqAt.RcAt.str_bool a1 t1 a2⟩
  |int a2 t2=>
   exact⟨SeqAt.EqAt.str_int a1 t1 a2 t2,SeqAt.RcAt.str_int a1 t1 a2 t2⟩
  |str a2 t2=>
   exact⟨SeqAt.EqAt.str_str a1 t1 a2 t2,SeqAt.RcAt.str_str a1 t1 a2 t2⟩
  |list l2 v2 r2=>
   exact⟨SeqAt.EqAt.str_list a1 t1 l2 cN,SeqAt.RcAt.str_list a1 t1 l2 cN⟩
  |tuple l2 v2 r2=>
   exact⟨SeqAt.EqAt.str_tuple a1 t1 l2 cN,SeqAt.RcAt.str_tuple a1 t1 l2 cN⟩
 |list l1 v1 r1=>
  cases s2 with
  |none=>
   exact⟨SeqAt.EqAt.list_none l1 cN,SeqAt.RcAt.list_none l1 cN⟩
  |bool a2=>
   exact⟨SeqAt.EqAt.list_bool a2 l1 cN,SeqAt.RcAt.list_bool a2 l1 cN⟩
  |int a2 t2=>
   exact⟨SeqAt.EqAt.list_int a2 t2 l1 cN,SeqAt.RcAt.list_int a2 t2 l1 cN⟩
  |str a2 t2=>
   exact⟨SeqAt.EqAt.list_str a2 t2 l1 cN,SeqAt.RcAt.list_str a2 t2 l1 cN⟩
  |list l2 v2 r2=>
   rename_i a aA ws es b iy Dw jq
   obtain⟨n',rfl,rK⟩:=wN od;obtain⟨m',rfl,rL⟩:=wN oe;have la:=v1.length;have lb:=v2.length;have Ki:=r1.length;have Kj:=r2.length;have rc:SeqAt.RcAt A s (.ref a) (.ref b) (eL (.lst es) (.lst jq)):=by
    show SeqAt.RcAt A s _ _ (eP es jq);by_cases hl:es.length=jq.length
    .rw[A6 aA.toArray.size (by simp only[dH];lia) (by simp only[dH];lia)]
     refine SeqAt.RcAt.lists (A:=A) l1 l2 (by simp only[dH];lia) cN λj h1 h2=>?_
     obtain⟨x1,q1,q2,q3⟩:=vc r1 v1 h1;obtain⟨y1,p1,p2,p3⟩:=vc r2 v2 h2;exact(ih n' (pS _) m' q2 p2 (u0 rK q3) (u0 rL p3) q1 p1 (by show A.units+1+n'<cLine;lia)).1
    grind [A5,PySem.SeqAt.RcAt.lists_lengths]
   grind [RelV.inj,E2,HZ,PySem.SeqAt.EqAt.same,PySem.SeqAt.EqAt.of_refs]
  |tuple l2 v2 r2=>
   exact⟨SeqAt.EqAt.list_tuple l1 l2 cN,SeqAt.RcAt.list_tuple l1 l2 cN⟩
 |tuple l1 v1 r1=>
  cases s2 with
  |none=>
   exact⟨SeqAt.EqAt.tuple_none l1 cN,SeqAt.RcAt.tuple_none l1 cN⟩
  |bool a2=>
   exact⟨SeqAt.EqAt.tuple_bool a2 l1 cN,SeqAt.RcAt.tuple_bool a2 l1 cN⟩
  |int a2 t2=>
   exact⟨SeqAt.EqAt.tuple_int a2 t2 l1 cN,SeqAt.RcAt.tuple_int a2 t2 l1 cN⟩
  |str a2 t2=>
   exact⟨SeqAt.EqAt.tuple_str a2 t2 l1 cN,SeqAt.RcAt.tuple_str a2 t2 l1 cN⟩
  |list l2 v2 r2=>
   exact⟨SeqAt.EqAt.tuple_list l1 l2 cN,SeqAt.RcAt.tuple_list l1 l2 cN⟩
  |tuple l2 v2 r2=>
   rename_i a aA ws es b iy Dw jq
   obtain⟨n',rfl,rK⟩:=wO od;obtain⟨m',rfl,rL⟩:=wO oe;have la:=v1.length;have lb:=v2.length;have Ki:=r1.length;have Kj:=r2.length;have rc:SeqAt.RcAt A s (.ref a) (.ref b) (eL (.tup es) (.tup jq)):=by
    have z:=SeqAt.RcAt.tuples (A:=A) (e:=λj=>eL (es.getD j .aJ) (jq.getD j .aJ)) l1 l2 cN λj h1 h2=>by
     obtain⟨x1,q1,q2,q3⟩:=vc r1 v1 h1;obtain⟨y1,p1,p2,p3⟩:=vc r2 v2 h2;exact(ih n' (pS _) m' q2 p2 (u0 rK q3) (u0 rL p3) q1 p1 (by show A.units+1+n'<cLine;lia)).1
    show SeqAt.RcAt A s _ _ (eP es jq);by_cases hl:es.length=jq.length
    .rw[A6 aA.toArray.size (by simp only[dH];lia) (by simp only[dH];lia)]
     have e1:iy.toArray.size=aA.toArray.size:=by simp only[dH];lia
     rw[e1,Nat.min_self,dP,Gy] at z;exact z
    .rw[A5 hl];have e1:(aA.toArray.size == iy.toArray.size)=false:=by rw[m7];simp only[dH];lia
     rw[e1,Gw] at z;exact z
   grind [RelV.inj,E2,HZ,PySem.SeqAt.EqAt.same,PySem.SeqAt.EqAt.of_refs]
end
mutual
theorem E3:∀k j:TK,eL k.d j.d=decide (k=j)
 |.inl a,.inl b=>by show(a == b)=_;rw[yX];simp
 |.inr a,.inr b=>by show(a == b)=_;rw[yX];simp
 |.tp l,.tp m=>by show eP (TK.dl l) (TK.dl m)=_;rw[mB l m,yX];simp
 |.inl _,.inr _=>rfl
 |.inl _,.tp _=>rfl
 |.inr _,.inl _=>rfl
 |.inr _,.tp _=>rfl
 |.tp _,.inl _=>rfl
 |.tp _,.inr _=>rfl
 |.aJ,.aJ=>rfl
 |.aJ,.inl _=>rfl
 |.aJ,.inr _=>rfl
 |.aJ,.tp _=>rfl
 |.inl _,.aJ=>rfl
 |.inr _,.aJ=>rfl
 |.tp _,.aJ=>rfl
theorem mB:∀l m:List TK,eP (TK.dl l) (TK.dl m)=decide (l=m)
 |[],[]=>rfl
 |a::l,b::m=>by show(eL a.d b.d&&eP (TK.dl l) (TK.dl m))=_;rw[E3 a b,mB l m,yX];simp
 |[],_::_=>rfl
 |_::_,[]=>rfl
end
theorem zT:∀l:List TK,TK.dl l=l.map TK.d
 |[]=>by simp[TK.dl]
 |a::l=>by simp[TK.dl,zT l]
theorem tJ:∀(n:Nat) {k:TK},k.ok n=true->dZ n k.d=true
 |n,.inl i,_=>by cases n <;> rfl
 |n,.inr i,_=>by cases n <;> rfl
 |n,.aJ,_=>by cases n <;> rfl
 |0,.tp l,h=>by simp[TK.ok] at h
 |n+1,.tp l,h=>by
  show(TK.dl l).all (dZ n)=true;rw[zT,As];refine kj.mpr λa m=>?_
  exact tJ n (kj.mp (by simpa only[TK.ok] using h) a m)
def Tv{α:Type}{M:Model}{A:cK}{E:ah->ao->Prop}{s:ao}{c:Prop}[Decidable c]{a b:Sem α}{Q:α->ao->Prop}(h1:wpAny M A a Q E s)(h2:wpAny M A b Q E s):wpAny M A (if c then a else b) Q E s:=by
 split
 .exact h1
 .exact h2
theorem Mj(w:cA):∀l m:List TK,TK.dI w (l++m)=TK.dI w l++TK.dI w m
 |[],m=>by simp[TK.dI]
 |a::l,m=>by simp[TK.dI,Mj w l m]
section
variable{X:Cx}{aa:List (ai×Obj)}{Z:St}{H:Hp}
def OI{A:cK}{E:ah->ao->Prop}{s:ao}{y:V}{u:ah}{i:Int}{Q:Int->ao->Prop}(r:aV X.K H [y] [TK.d (.inl i)])(ru:RelV y u)(h:∀t,Q (TK.hash X.w (.inl i)) { s with toks:=t}):wpAny (model X.prog X.w) A (pyHash u) Q E s:=by
 simp only[TK.d] at r;cases r with
 |flat q _=>cases q;obtain⟨t,rfl⟩:=ru;exact wpAny_pyHash_int (by simpa only[TK.hash] using h _)
def OJ{A:cK}{E:ah->ao->Prop}{s:ao}{y:V}{u:ah}{i:Str}{Q:Int->ao->Prop}(r:aV X.K H [y] [TK.d (.inr i)])(ru:RelV y u)(h:∀t,Q (TK.hash X.w (.inr i)) { s with toks:=t}):wpAny (model X.prog X.w) A (pyHash u) Q E s:=by
 simp only[TK.d] at r;cases r with
 |flat q _=>cases q;obtain⟨t,rfl⟩:=ru;exact wpAny_pyHash_str (by simpa only[TK.hash] using h _)
theorem OK{A:cK}{E:ah->ao->Prop}{s:ao}{y:V}{u:ah}{Q:Int->ao->Prop}(r:aV X.K H [y] [TK.d .aJ])(ru:RelV y u)(h:∀t,Q (TK.hash X.w .aJ) { s with toks:=t}):wpAny (model X.prog X.w) A (pyHash u) Q E s:=by
 simp only[TK.d] at r;cases r with
 |flat q _=>
  cases q;cases ru;have hT:s.TypeIs .none "NoneType":=rfl;unfold pyHash;have hv:[Value.none].any Value.onHeap=false:=rfl;refine ax ?_;rw[cRoomFor,br (by rw[hv];exact sd)];refine aP ?_
  refine ax (wpAny_specialOf hT F.slot_NoneType_hash.lookup ?_);show wpAny _ _ (if(some (Value.builtin "NoneType.__hash__") == some Value.none)=true then _ else _) Q E s
  rw[br (by rw[beq_builtin_none];exact sd)]
  refine ax (wpAny_specialOf hT F.slot_NoneType_hash.lookup ?_);show wpAny _ _ (callSpecialIfBoundUnlessNone? .none "__hash__" _ >>= _) Q E s;refine ax (wpAny_callSpecialIfBoundUnlessNone?_slot hT F.slot_NoneType_hash (wpAny_call_entry F.slot_NoneType_hash hT F.entry_NoneType_hash (show wpAny _ _ (do ret (<-mkInt 4238894112)) _ _ s from wpAny_ret_mkInt ?_) (F.args_NoneType_hash_1 _)))
  refine aP ?_
  grind [TK.hash]
theorem H0:∀(n:Nat) {A:cK} {E:ah->ao->Prop} {s:ao} {y:V} {u:ah} {k:TK} {Q:Int->ao->Prop},Inv X aa Z H s->aV X.K H [y] [k.d]->k.ok n=true->RelV y u->A.units+n<cLine->
  (∀t,Q (k.hash X.w) { s with toks:=t})->wpAny (model X.prog X.w) A (pyHash u) Q E s:=by
 intro n
 induction n with
 |zero=>
  intro A E s y u k Q I r ok ru hu h;cases k with
  |tp l=>simp[TK.ok] at ok
  |inl i=>exact OI r ru h
  |inr x=>exact OJ r ru h
  |aJ=>exact OK r ru h
 |succ n ih=>
  intro A E s y u k Q I r ok ru hu h;cases k with
  |inl i=>exact OI r ru h
  |inr x=>exact OJ r ru h
  |aJ=>exact OK r ru h
  |tp l=>
   simp only[TK.d] at r;cases r with
   |flat q _=>cases q
   |@tup a ws _ _ _ q i _=>
    cases ru;obtain⟨aA,rv,pl,_⟩:=I.tuple q;have hT:s.TypeIs (.ref a) "tuple":=pl.typeIs;obtain⟨o,g1,g2,nn,g3⟩:=pl;have ok:l.all (TK.ok n)=true:=by simpa only[TK.ok] using ok
    show wpAny _ _ (pyHashByItsType (.ref a)) Q E s;unfold pyHashByItsType;refine ax (wpAny_cRoomFor_or (.inr (by lia)) (ax (wpAny_specialOf hT F.slot_tuple_hash.lookup ?_)))
    dsimp only;rw[br (by rw[beq_builtin_none];exact sd)]
    refine ax (wpAny_specialOf hT F.slot_tuple_hash.lookup (ax ?_));refine wpAny_callSpecialIfBoundUnlessNone?_slot hT F.slot_tuple_hash (wpAny_call_entry F.slot_tuple_hash hT F.entry_tuple_hash ?_ (F.args_tuple_hash_1 _));show wpAny _ _ (Builtin.Tuple.tupleItemsOf (.ref a) >>= λz=>_) _ _ s
    refine ax (wpAny_tupleItemsOf g1 g3 (ax ?_));rw[<-LG];refine wpAny_forIn_list _ (λrest (b:Array Int) s'=>∃done left wl t,l=done++left/\aV X.K H wl (TK.dl left)/\Vals wl rest/\b.toList=TK.dI X.w done/\s'={ s with toks:=t}) _ ?_ ?_ _ _ ⟨[],l,ws,s.toks,rfl,i,rv,by simp[TK.dI],rfl⟩
    .rintro x rest b s' ⟨done,left,wl,t,e,r',v',hb,rfl⟩;cases v' with
     |@cons w1 _ wl _ KW v'=>
      cases left with
      |nil=>have:=r'.length;simp[TK.dl] at this
      |cons k1 left=>
       simp only[TK.dl] at r';have bI:k1.ok n=true:=kj.mp ok k1 (by rw[e];simp)
       have fin:∀t',∃vh vF RF Ak,l=vh++vF/\aV X.K H RF (TK.dl vF)/\Vals RF rest/\(b.push (k1.hash X.w)).toList=TK.dI X.w vh/\({ s with toks:=t'}:ao)={ s with toks:=Ak}:=
        λt'=>⟨done++[k1],left,wl,t',by simp[e],r'.inv.2,v',by rw[Mj,<-hb];simp[TK.dI],rfl⟩
       exact ax (ih (I.tok t) r'.inv.1 bI KW (by show A.units+1+n<cLine;lia) λt'=>by
        first
         |exact aP (fin t')
         |exact ax (aP (aP (fin t'))))
    .rintro b s' ⟨done,left,wl,t,e,r',v',hb,rfl⟩;cases v';have hl:left=[]:=by
      cases left with
      |nil=>rfl
      |cons _ _=>have:=r'.length;simp[TK.dl] at this
     subst hl;rw[kT] at e;subst e;show wpAny _ _ (retInt (Builtin.Tuple.tupleHashOf b.toList)) _ _ _;rw[hb];refine wpAny_ret_mkInt ?_;have h':∀t,Q (reduceHash (Builtin.Tuple.tupleHashOf (TK.dI X.w l))) { s with toks:=t}:=λt=>by simpa only[TK.hash] using h t
     unfold reduceHash at h';show wpAny _ _ (if(decide (-(2:Int)^63<=Builtin.Tuple.tupleHashOf (TK.dI X.w l))&&decide (Builtin.Tuple.tupleHashOf (TK.dI X.w l)<2^63))=true then _ else _) Q E _
     split
     .rename_i hc
      rw[bL hc] at h';exact aP (h' _)
     .rename_i hc
      rw[br hc] at h';exact ax (wpAny_rule (aP (h' _)))
theorem EA:∀(n:Nat) {A:cK} {E:ah->ao->Prop} {s:ao} {y:V} {u:ah} {k:TK} {Q:Bool->ao->Prop},Inv X aa Z H s->aV X.K H [y] [k.d]->k.ok n=true->RelV y u->Q true s->
  wpAny (model X.prog X.w) A (eqIsQuiet n u) Q E s:=by
 intro n
 induction n with
 |zero=>
  intro A E s y u k Q I r ok ru h;cases k with
  |tp l=>simp[TK.ok] at ok
  |inl i=>simp only[TK.d] at r;cases r with|flat q _=>cases q;obtain⟨t,rfl⟩:=ru;rw[eqIsQuiet_byValue 0 rfl];exact aP h
  |inr i=>simp only[TK.d] at r;cases r with|flat q _=>cases q;obtain⟨t,rfl⟩:=ru;rw[eqIsQuiet_byValue 0 rfl];exact aP h
  |aJ=>simp only[TK.d] at r;cases r with|flat q _=>cases q;cases ru;rw[eqIsQuiet_byValue 0 rfl];exact aP h
 |succ n ih=>
  intro A E s y u k Q I r ok ru h;cases k with
  |inl i=>simp only[TK.d] at r;cases r with|flat q _=>cases q;obtain⟨t,rfl⟩:=ru;rw[eqIsQuiet_byValue (n+1) rfl];exact aP h
  |inr i=>simp only[TK.d] at r;cases r with|flat q _=>cases q;obtain⟨t,rfl⟩:=ru;rw[eqIsQuiet_byValue (n+1) rfl];exact aP h
  |aJ=>simp only[TK.d] at r;cases r with|flat q _=>cases q;cases ru;rw[eqIsQuiet_byValue (n+1) rfl];exact aP h
  |tp l=>
   simp only[TK.d] at r;cases r with
   |flat q _=>cases q
   |@tup a ws _ _ _ q i _=>
    cases ru;obtain⟨aA,rv,pl,_⟩:=I.tuple q;have hT:s.TypeIs (.ref a) "tuple":=pl.typeIs;obtain⟨o,g1,g2,nn,g3⟩:=pl;have ok:l.all (TK.ok n)=true:=by simpa only[TK.ok] using ok
    unfold eqIsQuiet;refine ax (wpAny_specialOf hT F.slot_tuple_eq.lookup (ax (wpAny_isInstance hT isSubtype_tuple_tuple ?_)));simp only[fB,kh,fS];refine ax (wpAny_seqItems g1 g3 (ax ?_));show wpAny _ _ (forIn aA.toArray _ _) _ _ s;rw[<-LG];refine wpAny_forIn_list _ (λrest r s'=>r.1=none/\s'=s/\∃left wl,aV X.K H wl (TK.dl left)/\Vals wl rest/\∀x∈left,x.ok n=true) _ ?_ ?_ _ _ ⟨rfl,rfl,l,ws,i,rv,λx m=>kj.mp ok x m⟩
    .rintro v rest r s' ⟨hr,rfl,left,wl,r',v',hk⟩;cases v' with
     |@cons w1 _ wl _ KW v'=>
      cases left with
      |nil=>have:=r'.length;simp[TK.dl] at this
      |cons k1 left=>
       simp only[TK.dl] at r';refine ax (ih I r'.inv.1 (hk k1 (by simp)) KW ?_)
       simp only[fB,kh,fS];exact aP ⟨rfl,rfl,left,wl,r'.inv.2,v',λx m=>hk x (by simp[m])⟩
    .rintro⟨r1,r2⟩ s' ⟨hr,rfl,_⟩;cases(show r1=none from hr);exact aP h
structure Ay (X:Cx) (A:cK) (E:ah->ao->Prop) (s:ao) (xs:Array DictEntry) (es:List (TK×V×V)) (k:TK) (u:ah):Prop where
 ent:∀(j:Nat) (x:DictEntry),xs[j]?=some x->∃e,es[j]?=some e/\iJ X.w e x/\(∀(R:Bool->ao->Prop),R (decide (e.1=k)) s->wpAny (model X.prog X.w) A (eqBool x.key u) R E s)/\
  ∀(R:Bool->ao->Prop),R true s->wpAny (model X.prog X.w) A (eqIsQuiet 8 x.key) R E s
 ents:∀(j:Nat) (e:TK×V×V),es[j]?=some e->∃x:DictEntry,xs[j]?=some x/\iJ X.w e x
 uniq:∀(i j:Nat) (e f:TK×V×V),es[i]?=some e->es[j]?=some f->e.1=k->f.1=k->i=j
def Zn{A:cK}{E:ah->ao->Prop}{s:ao}{xs:Array DictEntry}{es:List (TK×V×V)}{k:TK}{y:V}{u:ah}(I:Inv X aa Z H s)(g3:Paired (iJ X.w) es xs.toList)(g4:(es.map (·.1)).Nodup)
  (rk:aV X.K H (es.map (·.2.1)) (es.map (·.1.d))) (ry:aV X.K H [y] [k.d]) (ok:k.ok 8=true) (ru:RelV y u) (hu:A.units+8<cLine):Ay X A E s xs es k u where
 ent:=λj x hx=>by
  obtain⟨e,e1,e2⟩:=Ey j g3 (by rw[uS];exact hx)
  obtain⟨v,v1,v2⟩:=rk.get (i:=j) (d:=e.1.d) (by rw[fW,e1];rfl)
  rw[fW,e1] at v1;cases v1;refine⟨e,e1,e2,λR hR=>?_,λR hR=>EA 8 I v2 e2.2.2.2 e2.2.1 hR⟩
  refine(b2i I 8 8 v2 ry (tJ 8 e2.2.2.2) (tJ 8 ok) e2.2.1 ru hu).1 X.prog X.w E R ?_;rw[E3];exact hR
 ents:=λj e he=>by
  obtain⟨x,x1,x2⟩:=A1 j g3 he
  simp_all
 uniq:=λi j e f he hf ek fk=>by
  have hi:(es.map (·.1))[i]?=some k:=by rw[fW,he,<-ek];rfl
  have hj:(es.map (·.1))[j]?=some k:=by rw[fW,hf,<-fk];rfl
  exact(List.getElem?_inj (eU.mp hi).1 g4).mp (hi.trans hj.symm)
section
variable{A:cK}{E:ah->ao->Prop}{s:ao}{d:ai}{o:Obj}{xs:Array DictEntry}{ep:Nat}{es:List (TK×V×V)}{k:TK}{u:ah}{Q:aj Nat->ao->Prop}
noncomputable abbrev mH(xs:Array DictEntry)(h:Int):List Nat:=placesWithHash xs.size (λi=>xs[i]?.map (·.hash)) h
def lL{h:Int}{i:Nat}:i∈mH xs h↔∃x,xs[i]?=some x/\x.hash=h:=by
 unfold mH placesWithHash;rw[sU,pR];constructor
 .rintro⟨h1,h2⟩;refine⟨xs[i],qe h1,?_⟩;dsimp only at h2;rw[qe h1] at h2;simpa using h2
 .rintro⟨x,h1,h2⟩;refine⟨(uR.mp h1).1,?_⟩;dsimp only;rw[h1,Au,h2];simp
def Tw{h:Int}:(mH xs h).Nodup:=List.Nodup.sublist DK LH
def Ay.mH(D:Ay X A E s xs es k u){j:Nat}{e:TK×V×V}(he:es[j]?=some e)(ek:e.1=k):j∈mH xs (k.hash X.w):=by
 obtain⟨x,x1,x2⟩:=D.ents j e he;exact lL.mpr ⟨x,x1,by rw[x2.1,ek]⟩
def Tz(D:Ay X A E s xs es k u)(g1:s.heap.get? d=some o)(g2:o.data=.dict xs ep)
  (q0:(∀(j:Nat) (e:TK×V×V),es[j]?=some e->e.1≠k)->Q none s) (q1:∀(j:Nat) (e:TK×V×V),es[j]?=some e->e.1=k->Q (some j) s) :
  wpAny (model X.prog X.w) A (dictWalkPlain d u (k.hash X.w) xs (mH xs (k.hash X.w))) Q E s:=by
 unfold dictWalkPlain;refine ax (wpAny_forIn_list _ (λrest b s'=>s'=s/\b=(none,())/\∃done,mH xs (k.hash X.w)=done++rest/\∀j e,j∈done->es[j]?=some e->e.1≠k) _ ?_ ?_ _ _ ⟨rfl,rfl,[],rfl,λ_ _ m=>by cases m⟩)
 .rintro i rest b s' ⟨rfl,rfl,done,hd,sN⟩;obtain⟨x,x1,x2⟩:=lL.mp (show i∈mH xs (k.hash X.w) by rw[hd];simp)
  obtain⟨e,e1,e2,eq,_⟩:=D.ent i x x1;simp only[x1];rw[bL (by rw[x2];simp)]
  refine ax (wpAny_dictEpoch g1 g2 (ax (eq _ (ax (wpAny_dictEpoch g1 g2 ?_)))));rw[br (by simp)]
  by_cases ek:e.1=k
  .rw[qg ek];exact ax (wpAny_rule (aP (aP (q1 i e e1 ek))))
  .rw[pV ek];refine ax (wpAny_rule (aP ⟨rfl,rfl,done++[i],by simp[hd],λj f m hf=>?_⟩))
   rcases gw.mp m with m|m
   .exact sN j f m hf
   .simp at m;subst m;rw[e1] at hf;cases hf;exact ek
 .rintro b s' ⟨rfl,rfl,done,hd,sN⟩;refine aP (q0 λj e he ek=>sN j e ?_ he ek)
  have:=D.mH he ek
  simp_all
def idv(u:ah):ah:=u
def UW(D:Ay X A E s xs es k u)(g1:s.heap.get? d=some o)(g2:o.data=.dict xs ep)(hq:∀(R:Bool->ao->Prop),R true s->wpAny (model X.prog X.w) A (eqIsQuiet 8 u) R E s)
  (hs:∀z t,u=.str z t->k=.inr z) (jT:∀(j:Nat) (x:DictEntry) (e:TK×V×V) z t,xs[j]?=some x->es[j]?=some e->x.key=.str z t->e.1=.inr z) (hh:∀a (j:Nat) (x:DictEntry) (e:TK×V×V),u=.ref a->xs[j]?=some x->es[j]?=some e->x.key=u->e.1=k)
  (q0:(∀(j:Nat) (e:TK×V×V),es[j]?=some e->e.1≠k)->Q none s) (q1:∀(j:Nat) (e:TK×V×V),es[j]?=some e->e.1=k->Q (some j) s) :
  wpAny (model X.prog X.w) A (dictFind d u (k.hash X.w)) Q E s:=by
 have walk:=Tz D g1 g2 q0 q1;have stored:∀v∈(mH xs (k.hash X.w)).filterMap (λi=>xs[i]?.map (·.key)),∀(R:Bool->ao->Prop),R true s->wpAny (model X.prog X.w) A (eqIsQuiet 8 v) R E s:=by
  intro v hv R hR;obtain⟨i,_,hi⟩:=nP.mp hv;cases hx:xs[i]? with
  |none=>rw[hx] at hi;cases hi
  |some x=>
   rw[hx] at hi;obtain rfl:x.key=v:=by simpa using hi
   obtain⟨e,_,_,_,h⟩:=D.ent i x hx;exact h R hR
 have tell:∀(R:Bool->ao->Prop),R false s->wpAny (model X.prog X.w) A (tableMayTell u ((mH xs (k.hash X.w)).filterMap λi=>xs[i]?.map (·.key))) R E s:=by
  intro R hR;unfold tableMayTell;split
  .exact aP hR
  .refine ax (hq _ ?_);simp only[fB,kh,fS];refine ax (wpAny_forIn_list _ (λrest r s'=>s'=s/\r=(none,())/\∀v∈rest,∀(R:Bool->ao->Prop),R true s->wpAny (model X.prog X.w) A (eqIsQuiet 8 v) R E s) _ ?_ ?_ _ _ ⟨rfl,rfl,stored⟩)
   .rintro x rest r s' ⟨rfl,rfl,hr⟩;refine ax (hr x (by simp) _ ?_)
    simp only[fB,kh,fS];exact aP ⟨rfl,rfl,λv hv=>hr v (by simp[hv])⟩
   .rintro r s' ⟨rfl,rfl,_⟩;exact aP hR
 have tell2:∀(R:Bool->ao->Prop),R false s->wpAny (model X.prog X.w) A (if((mH xs (k.hash X.w)).filterMap (λi=>xs[i]?.map (·.key)) == [u])=true then pure false else tableMayTell u ((mH xs (k.hash X.w)).filterMap λi=>xs[i]?.map (·.key))) R E s:=by
  intro R hR;split
  .exact aP hR
  .exact tell R hR
 have fin:∀(i:Nat) (x:DictEntry) (e:TK×V×V),xs[i]?=some x->es[i]?=some e->iJ X.w e x->(x.hash == k.hash X.w)=false->e.1≠k:=λi x e _ _ he hf ek=>by
  rw[he.1,ek] at hf;simp at hf
 unfold dictFind
 (try with_reducible refine i5 ?_);refine ax (wpAny_dictEntries g1 g2 ?_)
 dsimp only;by_cases je:((u::(mH xs (k.hash X.w)).filterMap λi=>xs[i]?.map (·.key)).all carriedByValue)=true
 .rw[bL je];split;next z t=>
   split;next J6=>
    unfold foundByValue;cases hf:xs.findIdx? (λe=>e.key.isStr z) with
    |none=>
     refine aP (q0 λj e he ek=>?_)
     obtain⟨x,x1,x2⟩:=D.ents j e he;have n1:=Array.findIdx?_eq_none_iff.mp hf x (Array.mem_of_getElem? x1);have e2:=x2.2.1;have n2:isExactStrKey x.key=true:=by
      have h:=Array.all_eq_true.mp J6 j (uR.mp x1).1;rw[(uR.mp x1).2] at h;exact h
     cases hk:x.key with
     |str z2 t2=>
      have e3:=jT j x e z2 t2 x1 he hk;rw[ek,hs z t rfl] at e3;cases e3;rw[hk] at n1;simp[Value.isStr] at n1
     |_=>rw[hk] at n2;cases n2
    |some i=>
     obtain⟨lF,hi,_⟩:=Array.findIdx?_eq_some_iff_getElem.mp hf;obtain⟨e,e1,e2,eq,_⟩:=D.ent i xs[i] (qe lF);have ek:e.1=k:=by
      cases hk:xs[i].key with
      |str z2 t2=>
       rw[hk] at hi;have:z2=z:=by simpa[Value.isStr] using hi
       subst this;rw[jT i _ e z2 t2 (qe lF) e1 hk,hs z2 t rfl]
      |_=>rw[hk] at hi;simp[Value.isStr] at hi
     simp only[qe lF];refine ax (wpAny_dictEpoch g1 g2 (ax (eq _ (ax (wpAny_dictEpoch g1 g2 ?_)))));rw[br (by simp),qg ek]
     exact ax (wpAny_rule (aP (q1 i e e1 ek)))
   next=>exact walk
  next=>exact walk
 .rw[br je];have CF:∀z t,u=.str z t->¬(xs.all λe=>isExactStrKey e.key)=true:=by
   intro z t hu hx;refine je (kj.mpr λv hv=>?_)
   rcases y0a.mp hv with rfl|hv
   .rw[hu];rfl
   .obtain⟨i,_,hi⟩:=nP.mp hv;cases sP:xs[i]? with
    |none=>rw[sP] at hi;cases hi
    |some x=>
     rw[sP] at hi;obtain rfl:x.key=v:=by simpa using hi
     have h:=Array.all_eq_true.mp hx i (uR.mp sP).1;rw[(uR.mp sP).2] at h;cases hk:x.key with
     |str _ _=>rfl
     |_=>rw[hk] at h;cases h
  have vG:∀a,u=.ref a->¬(xs.any λe=>e.key == u&&e.hash != k.hash X.w)=true:=by
   intro a hu hx;rw[Array.any_eq_true] at hx;obtain⟨i,hi,hc⟩:=hx;rw[jy,beq_iff_eq,bne_iff_ne] at hc;obtain⟨e,e1,e2,_⟩:=D.ent i xs[i] (qe hi);have:=hh a i _ e hu (qe hi) e1 hc.1;exact hc.2 (by rw[e2.1,this])
  have JS:u=idv u:=rfl;refine(λ(key:?P)=>?main) ?k
  case main=>
   rw(occs:=.pos [1]) [JS];split
   .rename_i z t hz
    rw[br (CF z t hz)];rw(occs:=.pos [1]) [JS];split
    .rename_i a ha
     rw[br (vG a ha)];exact key
    .exact key
   .rw(occs:=.pos [1]) [JS];split
    .rename_i a ha
     rw[br (vG a ha)];exact key
    .exact key
  refine(λ(pJ:?P2)=>?Cu) ?k2
  case Cu=>
   refine Tv ?_ ?_
   .refine ax (aP ?_);exact pJ
   .refine ax (tell _ ?_);exact pJ
  all_goals (
   show wpAny _ _ (if(false&&_)=true then _ else _) _ _ _
   rw[br (by rw[Bool.false_and];exact sd)]
   refine ax (wpAny_forIn_list _ (λrest b s'=>s'=s/\∃hit done,b=(none,hit)/\mH xs (k.hash X.w)=done++rest/\((hit=none/\∀(j:Nat) (e:TK×V×V),j∈done->es[j]?=some e->e.1≠k)\/∃(j:Nat) (e:TK×V×V),hit=some j/\j∈done/\es[j]?=some e/\e.1=k)) _ ?_ ?_ _ _
    ⟨rfl,none,[],rfl,rfl,.inl ⟨rfl,λ_ _ m=>by cases m⟩⟩)
   .rintro i rest b s' ⟨rfl,hit,done,rfl,hd,hH⟩;obtain⟨x,x1,x2⟩:=lL.mp (show i∈mH xs (k.hash X.w) by rw[hd];simp)
    obtain⟨e,e1,e2,eq,_⟩:=D.ent i x x1;have hni:i∉done:=λm=>by
     have:=Tw (xs:=xs) (h:=k.hash X.w);rw[hd] at this;exact(lY.mp this).2.2 i m i (by simp) rfl
    simp only[x1];rw[bL (by rw[x2];simp)]
    refine ax (wpAny_dictEpoch g1 g2 (ax (eq _ (ax (wpAny_dictEpoch g1 g2 ?_)))));rw[br (by simp)]
    by_cases ek:e.1=k
    .rw[qg ek];rcases hH with⟨rfl,sN⟩|⟨j,f,rfl,jd,jf,fk⟩
     .first|rw[bL rfl]|skip
      simp only[y7,kh,fS];first|refine ax (aP ?_)|skip
      refine ax (wpAny_rule ?_);split
      .exact aP (aP (q1 i e e1 ek))
      .exact aP ⟨rfl,some i,done++[i],rfl,by simp[hd],.inr ⟨i,e,rfl,by simp,e1,ek⟩⟩
     .exact bQ (D.uniq i j e f e1 jf ek fk) λz=>hni (by rw[z];exact jd)
    .rw[pV ek];have nx:(hit=none/\∀(j:Nat) (e:TK×V×V),j∈done++[i]->es[j]?=some e->e.1≠k)\/∃(j:Nat) (e:TK×V×V),hit=some j/\j∈done++[i]/\es[j]?=some e/\e.1=k:=by
      rcases hH with⟨h0,sN⟩|⟨j,f,h0,jd,jf,fk⟩
      .refine .inl ⟨h0,λj f m hf=>?_⟩
       rcases gw.mp m with m|m
       .exact sN j f m hf
       .simp at m;subst m;rw[e1] at hf;cases hf;exact ek
      .exact .inr ⟨j,f,h0,by simp[jd],jf,fk⟩
     simp only[kh,fS];refine ax (wpAny_rule ?_);first|rw[br (by simp)]|skip
     first
      |exact aP ⟨rfl,hit,done++[i],rfl,by simp[hd],nx⟩
      |exact ax (aP (aP ⟨rfl,hit,done++[i],rfl,by simp[hd],nx⟩))
   .rintro b s' ⟨rfl,hit,done,rfl,hd,hH⟩;rcases hH with⟨rfl,sN⟩|⟨j,f,rfl,jd,jf,fk⟩
    .refine aP (q0 λj e he ek=>sN j e ?_ he ek)
     have:=D.mH he ek;rw[hd] at this;simpa using this
    .exact aP (q1 j f jf fk))
end
end
variable{k:TK}{y:V}{o:aj V}{Q:ah->ao->Prop}{H':Hp}
noncomputable def jl(es:List (TK×V×V))(k:TK):aj V:=(es.find? λe=>decide (e.1=k)).map (·.2.2)
noncomputable def dh:List (TK×V×V)->TK->V->V->List (TK×V×V)
 |[],k,y,v=>[(k,y,v)]
 |e::es,k,y,v=>if e.1=k then(e.1,e.2.1,v)::es else e::dh es k y v
noncomputable def pL(es:List (TK×V×V))(k:TK)(ep:Nat):Nat:=if(es.any λe=>decide (e.1=k))=true then ep else ep+1
def gE(K:aI)(H:Hp)(a:ai)(y:V)(r:aj V):Prop:=∃es ep k,H a=some (.dG es ep)/\aV K H (es.map (·.2.1)) (es.map (·.1.d))/\aV K H [y] [k.d]/\k.ok 8=true/\r=jl es k
def wt(K:aI)(H:Hp)(a:ai)(y v:V)(H':Hp):Prop:=∃es ep k,H a=some (.dG es ep)/\aV K H (es.map (·.2.1)) (es.map (·.1.d))/\aV K H [y] [k.d]/\k.ok 8=true/\es.length<sizeLine/\H'=upd H a (.dG (dh es k y v) (pL es k ep))
def WR{j:TK}(e:k.d=j.d)(h:k.ok 8=true):k=j:=by
 have h1:=E3 k j;rw[<-e,HZ 8 (tJ 8 h)] at h1
 lia
section
variable{X:Cx}{aa:List (ai×Obj)}{Z:St}{H:Hp}
def OL{z:Str}{t:Tok}(r:aV X.K H [y] [k.d])(ru:RelV y (.str z t)):k=.inr z:=by
 cases k with
 |inl i=>simp only[TK.d] at r;cases r with|flat q _=>cases q;obtain⟨t,e⟩:=ru;cases e
 |inr i=>simp only[TK.d] at r;cases r with|flat q _=>cases q;obtain⟨t,e⟩:=ru;cases e;rfl
 |tp l=>simp only[TK.d] at r;cases r with|flat q _=>cases q|tup q _ _=>cases ru
 |aJ=>simp only[TK.d] at r;cases r with|flat q _=>cases q;cases ru
def ON{a:ai}(ru:RelV y (.ref a)):y=.ref a:=by
 cases y with
 |ref b=>cases ru;rfl
 |aJ=>cases ru
 |bl _=>cases ru
 |ty _=>cases ru
 |_=>obtain⟨t,e⟩:=ru;cases e
section
variable{A:cK}{E:ah->ao->Prop}{s:ao}{d:ai}{es:List (TK×V×V)}{k:TK}{y v:V}{u r:ah}
def PQ{o:Obj}{xs:Array DictEntry}{ep:Nat}{Q:aj Nat->ao->Prop}(I:Inv X aa Z H s)(g1:s.heap.get? d=some o)(g2:o.data=.dict xs ep)(g3:Paired (iJ X.w) es xs.toList)(g4:(es.map (·.1)).Nodup)
  (rk:aV X.K H (es.map (·.2.1)) (es.map (·.1.d))) (ry:aV X.K H [y] [k.d]) (ok:k.ok 8=true) (ru:RelV y u) (hu:A.units+8<cLine)
  (q0:(∀(j:Nat) (e:TK×V×V),es[j]?=some e->e.1≠k)->Q none s) (q1:∀(j:Nat) (e:TK×V×V),es[j]?=some e->e.1=k->Q (some j) s):wpAny (model X.prog X.w) A (dictFind d u (k.hash X.w)) Q E s:=by
 have at':∀(j:Nat) (x:DictEntry) (e:TK×V×V),xs[j]?=some x->es[j]?=some e->iJ X.w e x/\aV X.K H [e.2.1] [e.1.d]:=by
  intro j x e hx he;obtain⟨e',e1,e2⟩:=Ey j g3 (by rw[uS];exact hx)
  rw[he] at e1;cases e1;obtain⟨v,v1,v2⟩:=rk.get (i:=j) (d:=e.1.d) (by rw[fW,he];rfl)
  simp_all
 refine UW (Zn I g3 g4 rk ry ok ru hu) g1 g2 (λR hR=>EA 8 I ry ok ru hR) (λz t e=>OL ry (by rw[<-e];exact ru)) (λj x e z t hx he hk=>?_) (λa j x e rq hx he hk=>?_) q0 q1
 .obtain⟨g,r'⟩:=at' j x e hx he;exact OL r' (by rw[<-hk];exact g.2.1)
 .obtain⟨g,r'⟩:=at' j x e hx he;have h1:=g.2.1;rw[hk,rq] at h1;rw[rq] at ru;rw[ON h1] at r';rw[ON ru] at ry;exact WR (E2 I 8 8 r' ry (tJ 8 g.2.2.2) (tJ 8 ok)) g.2.2.2
def TB(h:∀(j:Nat) (e:TK×V×V),es[j]?=some e->e.1≠k):jl es k=none:=by
 unfold jl;rw[Gz.mpr λe m z=>?_,Option.map_none]
 obtain⟨j,hj⟩:=yY.mp m;exact h j e hj (wa z)
def TC(hn:(es.map (·.1)).Nodup){j:Nat}{e:TK×V×V}(he:es[j]?=some e)(ek:e.1=k):jl es k=some e.2.2:=by
 induction es generalizing j with
 |nil=>simp at he
 |cons x es ih=>
  rw[cR,sf] at hn;unfold jl;rw[Av];cases j with
  |zero=>
   simp only[List.getElem?_cons_zero,Option.some.injEq] at he;subst he;rw[qg ek];rfl
  |succ j=>
   simp only[List.getElem?_cons_succ] at he;have ne:¬x.1=k:=λz=>hn.1 (by rw[z,<-ek];exact fQ.mpr ⟨e,pT he,rfl⟩)
   rw[pV ne];exact ih hn.2 he
def HM{Q:aj ah->ao->Prop}(hu:A.units+8<cLine)(I:Inv X aa Z H s)(g:gE X.K H d y o)(ru:RelV y u)(h:∀w t,ib o w->Q w { s with toks:=t}):
  wpAny (model X.prog X.w) A (dictGet d u) Q E s:=by
 obtain⟨es,ep,k,hd,rk,ry,ok,rfl⟩:=g;obtain⟨_,_,ob,xs,g1,_,g2,g3,g4⟩:=(show bD X.prog X.w H s.heap d (.dG es ep) from I.bw d _ hd);unfold dictGet
 (try with_reducible refine i5 ?_);refine ax (H0 8 I ry ok ru hu λt=>ax (PQ (I.tok t) g1 g2 g3 g4 rk ry ok ru hu (λq0=>?_) (λj e he ek=>?_)))
 .exact aP (h none t (by rw[TB q0];exact sg))
 .obtain⟨x,x1,x2⟩:=A1 j g3 he;refine ax (wpAny_dictEntries (s:={ s with toks:=t}) g1 g2 (aP ?_));rw[<-uS,x1];exact h (some x.val) t (by rw[TC g4 he ek];exact x2.2.2.1)
def gE.ty(I:Inv X aa Z H s)(g:gE X.K H d y o):s.TypeIs (.ref d) "dict"/\(d == sysModules)=false:=by
 obtain⟨es,ep,k,hd,_⟩:=g;obtain⟨_,z,ob,xs,g1,g5,_⟩:=(show bD X.prog X.w H s.heap d (.dG es ep) from I.bw d _ hd);exact⟨⟨ob,g1,g5.1⟩,z⟩
def Nb(hu:A.units+9<cLine)(I:Inv X aa Z H s)(g:gE X.K H d y (some v))(ru:RelV y u)(h:∀w' s',Inv X aa Z H s'->RelV v w'->Q w' s'):wpAny (model X.prog X.w) A (getItem (.ref d) u) Q E s:=by
 have hT:=(g.ty I).1;unfold getItem
 (try with_reducible refine i5 ?_);refine ax (wpAny_sequenceKey hT (by decide) (ax (wpAny_callSpecial?_slot (name:=Str.ofString "__getitem__") hT slot_dict_getitem (wpAny_call_entry slot_dict_getitem hT entry_dict_getitem ?_ (args_dict_getitem _ _)))))
 show wpAny _ _ (dictGet d u >>= _) _ _ s;refine ax (HM (by show A.units+1+8<cLine;lia) I g ru λw t lQ=>?_)
 obtain⟨w',rfl,r'⟩:=ib.some_of lQ;exact aP ⟨w',rfl,aP (h w' _ (I.tok t) r')⟩
def MK{Q:Bool->ao->Prop}(hu:A.units+9<cLine)(I:Inv X aa Z H s)(g:gE X.K H d y o)(ru:RelV y u)(h:∀s',Inv X aa Z H s'->Q o.isSome s'):wpAny (model X.prog X.w) A (contains (.ref d) u) Q E s:=by
 obtain⟨hT,hd⟩:=g.ty I;unfold contains
 (try with_reducible refine i5 ?_);refine ax (wpAny_specialOf hT slot_dict_contains.lookup ?_)
 dsimp only;rw[br (by rw[beq_builtin_none];exact sd)]
 refine ax (wpAny_callSpecialUnlessNone?_slot (name:=Str.ofString "__contains__") hT slot_dict_contains (wpAny_call_entry slot_dict_contains hT entry_dict_contains ?_ (args_dict_contains _ _)));show wpAny _ _ (dictGet d u >>= _) _ _ s;refine ax (HM (by show A.units+1+8<cLine;lia) I g ru λw t lQ=>?_)
 have e:=lQ.pH;cases w with
 |some w=>
  show wpAny _ _ (ret (.bool true)) _ _ _;refine aP ⟨_,rfl,wpAny_truthy_bool ?_⟩;have:=h _ (I.tok t)
  simp_all
 |none=>
  show wpAny _ _ (Builtin.Dict.pendingKey? d u >>= _) _ _ _;refine ax (wpAny_pendingKey_other hd (aP ⟨_,rfl,wpAny_truthy_bool ?_⟩));have:=h _ (I.tok t)
  simp_all
def Ly(hu:A.units+9<cLine)(I:Inv X aa Z H s)(g:gE X.K H d y o)(ru:RelV y u)(h:∀s',Inv X aa Z H s'->Q (.bool o.isSome) s'):wpAny (model X.prog X.w) A (compareOp .In u (.ref d)) Q E s:=
 ax (MK hu I g ru λs' I'=>aP (h s' I'))
def WS(hu:A.units+9<cLine)(I:Inv X aa Z H s)(g:gE X.K H d y o)(ru:RelV y u)(h:∀s',Inv X aa Z H s'->Q (.bool (!o.isSome)) s'):wpAny (model X.prog X.w) A (compareOp .NotIn u (.ref d)) Q E s:=
 ax (MK hu I g ru λs' I'=>aP (h s' I'))
theorem Eh(k:TK)(y v:V):∀es:List (TK×V×V),(dh es k y v).length<=es.length+1
 |[]=>by simp[dh]
 |e::es=>by
  unfold dh;have:=Eh k y v es;split <;> simp <;> lia
theorem NJ:∀{es:List (TK×V×V)},(∀(j:Nat) (e:TK×V×V),es[j]?=some e->e.1≠k)->dh es k y v=es++[(k,y,v)]
 |[],_=>rfl
 |e::es,h=>by
  unfold dh;rw[br (h 0 e rfl),NJ λj x hx=>h (j+1) x (by simpa using hx)]
  rfl
def WT{w:cA}{xs:List DictEntry}(g3:Paired (iJ w) es xs)(ry:RelV y u)(rv:RelV v r)(ok:k.ok 8=true):Paired (iJ w) (es++[(k,y,v)]) (xs++[⟨k.hash w,u,r⟩]):=by
 induction g3 with
 |nil=>exact .cons ⟨rfl,ry,rv,ok⟩ .nil
 |cons a _ ih=>exact .cons a ih
theorem OO{w:cA}:∀{es:List (TK×V×V)} {xs:List DictEntry} {j:Nat} {e:TK×V×V},Paired (iJ w) es xs->(es.map (·.1)).Nodup->es[j]?=some e->e.1=k->RelV v r->
  Paired (iJ w) (dh es k y v) (xs.modify j λx=>{ x with val:=r})/\(dh es k y v).map (·.1)=es.map (·.1)
 |_,_,_,_,.nil,_,he,_,_=>by simp at he
 |_::es,_::xs,0,e,.cons a t,hn,he,ek,rv=>by
  simp only[List.getElem?_cons_zero,Option.some.injEq] at he;subst he;unfold dh;rw[bL ek];exact⟨.cons ⟨a.1,a.2.1,rv,a.2.2.2⟩ t,rfl⟩
 |x::es,_::xs,j+1,e,.cons a t,hn,he,ek,rv=>by
  simp only[List.getElem?_cons_succ] at he;rw[cR,sf] at hn;have ne:¬x.1=k:=λz=>hn.1 (by rw[z,<-ek];exact fQ.mpr ⟨e,pT he,rfl⟩)
  unfold dh;rw[br ne];have ih:=OO t hn.2 he ek rv;exact⟨.cons a ih.1,by rw[cR,cR,ih.2]⟩
def HN{Q:Unit->ao->Prop}(hu:A.units+8<cLine)(I:Inv X aa Z H s)(g:wt X.K H d y v H')(ru:RelV y u)(rv:RelV v r)(h:∀s',Inv X aa Z H' s'->Q () s'):
  wpAny (model X.prog X.w) A (dictSet d u r) Q E s:=by
 obtain⟨es,ep,k,hd,rk,ry,ok,hl,rfl⟩:=g;obtain⟨_,z,ob,xs,g1,g5,g2,g3,g4⟩:=(show bD X.prog X.w H s.heap d (.dG es ep) from I.bw d _ hd);have hz:xs.size<=sizeLine:=by have:=Paired.length g3;simp at this;lia
 have FX:(dh es k y v).length<=sizeLine:=by have:=Eh k y v es;lia
 unfold dictSet
 (try with_reducible refine i5 ?_);refine ax (H0 8 I ry ok ru hu λt=>?_)
 unfold dictSetHashed
 (try with_reducible refine i5 ?_);refine ax (PQ (I.tok t) g1 g2 g3 g4 rk ry ok ru hu (λq0=>?_) (λj e he ek=>?_))
 .have QN:dh es k y v=es++[(k,y,v)]:=NJ q0;have Js:pL es k ep=ep+1:=br (by
   rw[List.any_eq_true];rintro⟨e,m,q⟩;obtain⟨j,hj⟩:=yY.mp m;exact q0 j e hj (wa q))
  rw[Js] at h;refine ax (wpAny_rule (wpAny_updateDictKeys (hz:=hz) (s:={ s with toks:=t}) g1 g2 (h _ ?_)));refine Iz (I.tok t) (by rw[hd];exact sg) (Heap.SameBut.update ..) ⟨_,pU _ g1 (Obj.isFreed_of_dict (Obj.data_mapDictKeys g2 _))⟩ ⟨FX,z,_,_,pU _ g1 (Obj.isFreed_of_dict (Obj.data_mapDictKeys g2 _)),g5.mapDictKeys _,Obj.data_mapDictKeys g2 _,?_,?_⟩
  .rw[QN,Array.toList_push];exact WT g3 ru rv ok
  .rw[QN,gf,lY];refine⟨g4,by simp,λa m b m' e=>?_⟩
   simp at m';subst m';obtain⟨x,mx,rfl⟩:=fQ.mp m;obtain⟨j,hj⟩:=yY.mp mx;exact q0 j x hj e
 .have em:=OO (y:=y) g3 g4 he ek rv;have Js:pL es k ep=ep:=bL (List.any_eq_true.mpr ⟨e,pT he,qg ek⟩);rw[Js] at h;refine ax (wpAny_rule (ax (wpAny_updateDict (s:={ s with toks:=t}) g1 g2 (wpAny_point (h _ ?_)))));refine Iz (I.tok t) (by rw[hd];exact sg) (Heap.SameBut.update ..) ⟨_,pU _ g1 (Obj.isFreed_of_dict (Obj.data_mapDict g2 _))⟩ ⟨FX,z,_,_,pU _ g1 (Obj.isFreed_of_dict (Obj.data_mapDict g2 _)),g5.mapDict _,Obj.data_mapDict g2 _,?_,?_⟩
  all_goals simp_all
def TF{Q:Unit->ao->Prop}(hu:A.units+9<cLine)(I:Inv X aa Z H s)(g:wt X.K H d y v H')(ru:RelV y u)(rv:RelV v r)(h:∀s',Inv X aa Z H' s'->Q () s'):
  wpAny (model X.prog X.w) A (setItem (.ref d) u r) Q E s:=by
 have hT:s.TypeIs (.ref d) "dict":=by
  obtain⟨es,ep,k,hd,rk,ry,ok,_⟩:=g;exact(gE.ty I ⟨es,ep,k,hd,rk,ry,ok,rfl⟩).1
 unfold setItem
 (try with_reducible refine i5 ?_);refine ax (wpAny_sequenceKey hT (by decide) (ax (wpAny_callSpecial?_slot (name:=Str.ofString "__setitem__") hT slot_dict_setitem (wpAny_call_entry slot_dict_setitem hT entry_dict_setitem ?_ (args_dict_setitem _ _ _)))))
 show wpAny _ _ (Builtin.Dict.notOrdered "__setitem__" ⟨[.ref d,u,r],[]⟩ >>= _) _ _ s;refine ax (wpAny_notOrdered_dict hT ?_);show wpAny _ _ (dictSet d u r >>= λz=>_) _ _ s
 exact ax (HN (by show A.units+1+8<cLine;lia) I g ru rv λs' I'=>aP ⟨.none,rfl,aP (h s' I')⟩)
def Zo(hu:A.units+9<cLine)(I:Inv X aa Z H s)(g:gE X.K H d y o)(ru:RelV y u)(h:∀w' s',Inv X aa Z H s'->RelV (o.getD .aJ) w'->Q w' s'):
  wpAny (model X.prog X.w) A (call (.builtin "dict.get") [.ref d,u]) Q E s:=by
 obtain⟨hT,hd⟩:=g.ty I;refine wpAny_call_entry PySem.F.slot_dict_get hT PySem.F.entry_dict_get ?_ (PySem.F.args_dict_get_2 _ _);show wpAny _ _ (dictGet d u >>= _) _ _ s;refine ax (HM (by show A.units+1+8<cLine;lia) I g ru λw t lQ=>?_)
 cases o with
 |none=>
  cases w with
  |none=>
   show wpAny _ _ (Builtin.Dict.missed d u >>= _) _ _ _;exact ax (wpAny_missed_other hd (aP ⟨.none,rfl,h .none _ (I.tok t) rfl⟩))
  |some w=>exact lQ.elim
 |some v'=>
  cases w with
  |none=>exact lQ.elim
  |some w=>exact aP ⟨w,rfl,h w _ (I.tok t) lQ⟩
end
end
section
variable{X:Cx}
def rS(K:aI):R2:=λx y H Q=>∃l b xs zs,x=.ref l/\y=.ref b/\cT K H l xs/\cT K H b zs/\xs.length+zs.length<=sizeLine/\∀p,H p=none->Q (.ref p) (upd H p (.lst (xs++zs)))
def WU:dB X (binaryOp .Add) (rS X.K):=by
 intro aa s Z H x y v u Q I rx ry h;obtain⟨l,b,xs,zs,rfl,rfl,hH,hB,hz,q⟩:=h;cases rx;cases ry;obtain⟨aA,r,pl,_⟩:=I.list hH;obtain⟨iy,r2,KJ,_⟩:=I.list hB;have hl:=r.length;have FX:=r2.length;obtain⟨⟨cls,dd,data,sl⟩,ho,hc,n,hd⟩:=id pl.isList;obtain⟨⟨cls2,YJ,data2,Gg⟩,Q4,q9,n2,hd2⟩:=id KJ.isList;simp only at hc hd q9 hd2;subst hc hd q9 hd2;have ea:aA.toArray++iy.toArray=(aA++iy).toArray:=by simp
 refine concat_meets ⟨_,ho,rfl⟩ ⟨_,Q4,rfl⟩ noFill_list_add seq_list_add PySem.F.slot_list_add PySem.F.entry_list_add (PySem.F.args_list_add_2 _ _) (list_addW l b aA.toArray iy.toArray n n2 dd YJ sl Gg (by simp only[dH];lia)) ⟨ho,Q4,?_⟩
 rw[ea];exact⟨.ref _,_,I.Kl (t':=s.toks) (r.append r2) (by rw[dw];lia),rfl,q _ I.fresh⟩
def UX(K:aI)(hK:X.K=K:=by rfl):dB X (binaryOp .Add) (rS K):=hK ▸ WU
end
variable{n:Nat}
instance (z:Str) (n:Int):Decidable (MulOk z n):=by unfold MulOk;infer_instance
abbrev rd(x:D):Rv:=.v (.d x)
section
variable{K:aI}{k:Kn}{H:Hp}{x:V}{xs:List V}{d e:D}{vs:List V}{ds:List D}
def ag.sR(h:ag K k vs ds)(ok:ds.all (dZ n)=true):ag K ⟨k.F,[],[]⟩ vs ds:=by
 induction h generalizing n with
 |nil=>exact .nil
 |flat e _ ih=>rw[qf,jy] at ok;exact .flat e (ih ok.2)
 |ref _ _ _=>rw[qf,jy] at ok;obtain⟨ok,_⟩:=ok;cases n <;> cases ok
 |lst e _ _ i1 i2=>
  rw[qf,jy] at ok;obtain⟨m,rfl,o⟩:=wN ok.1;exact .lst e (i1 o) (i2 ok.2)
 |tup e _ _ i1 i2=>
  rw[qf,jy] at ok;obtain⟨m,rfl,o⟩:=wO ok.1;exact .tup e (i1 o) (i2 ok.2)
 |ay _ _ _ _ _ _ _ _=>rw[qf,jy] at ok;obtain⟨ok,_⟩:=ok;cases n <;> cases ok
theorem Top.sR{n:Nat}(h:Top K k H x d)(le:az k.F H)(ok:dZ n d=true):aV K H [x] [d]:=ag.sR (k:=k.all H) (n:=n) (h.rep le) (by rw[qf,ok];rfl)
def Top.Kv(r:ag K k vs ds)(le:az k.F H)(ok:ds.all (dZ n)=true):aV K H vs ds:=ag.sR (k:=k.all H) (n:=n) (r.all le) ok
mutual
theorem rE:∀{v:V} (j:TK),ag K k [v] [j.d]->ag K ⟨k.F,[],[]⟩ [v] [j.d]
 |_,.inl i,h=>by simp only[TK.d] at h ⊢;rw[h.a_ rfl];exact .flat rfl .nil
 |_,.inr x,h=>by simp only[TK.d] at h ⊢;rw[h.a_ rfl];exact .flat rfl .nil
 |_,.aJ,h=>by simp only[TK.d] at h ⊢;rw[h.a_ rfl];exact .flat rfl .nil
 |_,.tp l,h=>by
  simp only[TK.d] at h ⊢;obtain⟨a,ws,rfl,q,r⟩:=h.isTup;exact .tup q (rF l r) .nil
theorem rF:∀{vs:List V} (l:List TK),ag K k vs (TK.dl l)->ag K ⟨k.F,[],[]⟩ vs (TK.dl l)
 |_,[],h=>by simp only[TK.dl] at h ⊢;rw[h.fP];exact .nil
 |_,j::l,h=>by
  simp only[TK.dl] at h ⊢;obtain⟨w,us,rfl,h1,h2⟩:=h.cg;exact .cons (rE j h1) (rF l h2)
end
def OP{es:List (TK×V×V)}{kvs:List (TK×D)}(q:es.map (·.1)=kvs.map (·.1))(r:ag K k (es.map (·.2.1)) (kvs.map (·.1.d)))(le:az k.F H):aV K H (es.map (·.2.1)) (es.map (·.1.d)):=by
 have e1:kvs.map (·.1.d)=TK.dl (kvs.map (·.1)):=by rw[zT,fR];rfl
 have e2:es.map (·.1.d)=TK.dl (es.map (·.1)):=by rw[zT,fR];rfl
 rw[e1,<-q] at r;rw[e2];exact rF (k:=k.all H) _ (r.all le)
def OQ(h:Paired (Top K k H) xs [d]):∃x,xs=[x]/\Top K k H x d:=by
 cases h with
 |cons r t=>cases t;exact⟨_,rfl,r⟩
def WV(h:Paired (Top K k H) xs [d,e]):∃x y,xs=[x,y]/\Top K k H x d/\Top K k H y e:=by
 cases h with
 |cons r t=>obtain⟨y,rfl,r'⟩:=OQ t;exact⟨_,_,rfl,r,r'⟩
end
noncomputable def o1(f:D->aj Rv):List D->aj Rv
 |[a]=>f a
 |_=>none
noncomputable def o2(f:D->D->aj Rv):List D->aj Rv
 |[a,b]=>f a b
 |_=>none
section
variable{X:Cx}{K:aI}
def sS{r:List V->Hp->VK->Prop}{f:D->aj Rv}(h:∀k H x a y Q,az k.F H->Top K k H x a->f a=some y->kr K k H y Q->r [x] H Q):cb K r (o1 f):=λk H xs ds y Q le t e res=>by
 unfold o1 at e;split at e
 .obtain⟨x,rfl,t1⟩:=OQ t;exact h k H x _ y Q le t1 e res
 .cases e
def uk{r:List V->Hp->VK->Prop}{f:D->D->aj Rv}(h:∀k H x z a b y Q,az k.F H->Top K k H x a->Top K k H z b->f a b=some y->kr K k H y Q->r [x,z] H Q):cb K r (o2 f):=λk H xs ds y Q le t e res=>by
 unfold o2 at e;split at e
 .obtain⟨x,z,rfl,t1,t2⟩:=WV t;exact h k H x z _ _ y Q le t1 t2 e res
 .cases e
def vH{r:R2}{f:D->D->aj Rv}(h:∀k H x z a b y Q,az k.F H->Top K k H x a->Top K k H z b->f a b=some y->kr K k H y Q->r x z H Q):cb K (lM r) (o2 f):=uk λk H x z a b y Q le t1 t2 e res=>⟨x,z,rfl,h k H x z a b y Q le t1 t2 e res⟩
noncomputable def wZ:D->D->aj Rv
 |.int i,.int j=>some (rd (.int (i+j)))
 |.str x,.str y=>if x.length+y.length<=1000000 then some (rd (.str (x++y))) else none
 |.lst xs,.lst ys=>if xs.length+ys.length<=1000000 then some (.o (.lst (xs++ys))) else none
 |_,_=>none
def vL(K:aI):R2:=λx y H Q=>oH (λi j=>.int (i+j)) x y H Q\/(∃i j,x=.str i/\y=.str j/\i.length+j.length<=sizeLine/\Q (.str (i++j)) H)\/rS K x y H Q
def WW(K:aI)(hK:X.K=K):dB X (binaryOp .Add) (vL K):=yz.or (nN.or (UX K hK))
def Zp:cb K (lM (vL K)) (o2 wZ):=vH λk H x z a b y Q le t1 t2 e res=>by
 cases a with
 |int _=>cases b with
  |int _=>cases e;cases t1.flat rfl;cases t2.flat rfl;exact .inl ⟨_,_,rfl,rfl,res.flat le rfl⟩
  |_=>cases e
 |str _=>cases b with
  |str _=>
   have e:(if _ then _ else _)=_:=e
   split at e
   .cases e;cases t1.flat rfl;cases t2.flat rfl;exact .inr (.inl ⟨_,_,rfl,rfl,ml (by assumption),res.flat le rfl⟩)
   .cases e
  |_=>cases e
 |lst _=>cases b with
  |lst _=>
   have e:(if _ then _ else _)=_:=e
   split at e
   .cases e;obtain⟨a1,ws1,rfl,s1,r1⟩:=t1.lst le;obtain⟨a2,Dw,rfl,s2,r2⟩:=t2.lst le;exact .inr (.inr ⟨a1,a2,ws1,Dw,rfl,rfl,s1,s2,ml (by rw[r1.length,r2.length];assumption),λp hp=>res.lst le (r1.append r2) hp⟩)
   .cases e
  |_=>cases e
 |_=>cases e
noncomputable def dX(C:Int->Int->Bool)(f:Int->Int->D):D->D->aj Rv
 |.int i,.int j=>if C i j=true then some (rd (f i j)) else none
 |_,_=>none
def Bt{r:R2}{C:Int->Int->Bool}{f:Int->Int->D}{g:Int->Int->V}(hf:∀i j,vb (f i j)=some (g i j))(hr:∀i j H Q,C i j=true->Q (g i j) H->r (.int i) (.int j) H Q):cb K (lM r) (o2 (dX C f)):=vH λk H x z a b y Q le t1 t2 e res=>by
 unfold dX at e;split at e
 .split at e
  .cases e;cases t1.flat rfl;cases t2.flat rfl;exact hr _ _ _ _ (by assumption) (res.flat le (hf _ _))
  .cases e
 .cases e
noncomputable abbrev sT:Int->Int->Bool:=λ_ _=>true
def Zr:cb K (lM (oH λi j=>.int (i - j))) (o2 (dX sT λi j=>.int (i - j))):=Bt (λ_ _=>rfl) λ_ _ _ _ _ q=>⟨_,_,rfl,rfl,q⟩
def WX:cb K (lM (rI wb λi j=>.int (i / j))) (o2 (dX (λ_ j=>decide (0<j/\j<1073741824)) λi j=>.int (i / j))):=Bt (λ_ _=>rfl) λi j _ _ c q=>⟨_,_,rfl,rfl,show wb i j from wa (p:=0<j/\j<1073741824) c,q⟩
def Zs:cb K (lM (rI (λ_ j=>0<j) λi j=>.int (i%j))) (o2 (dX (λ_ j=>decide (0<j)) λi j=>.int (i%j))):=Bt (λ_ _=>rfl) λ_ _ _ _ c q=>⟨_,_,rfl,rfl,wa c,q⟩
def Zt:cb K (lM (rI wc λi j=>.int (i^j.toNat))) (o2 (dX (λi j=>decide (0<=j/\j<=1000000/\i.natAbs<2^64)) λi j=>.int (i^j.toNat))):=Bt (λ_ _=>rfl) λi j _ _ c q=>⟨_,_,rfl,rfl,show wc i j from wa (p:=0<=j/\j<=1000000/\i.natAbs<2^64) c,q⟩
def IP{f:Int->Int->Bool}:cb K (lM (oH λi j=>.bl (f i j))) (o2 (dX sT λi j=>.bl (f i j))):=Bt (λ_ _=>rfl) λ_ _ _ _ _ q=>⟨_,_,rfl,rfl,q⟩
noncomputable def ug:D->D->aj Rv
 |.int i,.int j=>if(-(2^64)<i/\i<2^64)\/(-(2^64)<j/\j<2^64) then some (rd (.int (i*j))) else none
 |.str z,.int j=>if MulOk z j then some (rd (.str (Txt.mul z j))) else none
 |_,_=>none
def vP:R2:=λx y H Q=>rI sZ (λi j=>.int (i*j)) x y H Q\/∃z n,x=.str z/\y=.int n/\MulOk z n/\Q (.str (Txt.mul z n)) H
def WY:dB X (binaryOp .Mult) vP:=yB.or Su
def Zu:cb K (lM vP) (o2 ug):=vH λk H x z a b y Q le t1 t2 e res=>by
 unfold ug at e;split at e
 .split at e
  .cases e;cases t1.flat rfl;cases t2.flat rfl;exact .inl ⟨_,_,rfl,rfl,by assumption,res.flat le rfl⟩
  .cases e
 .split at e
  .cases e;cases t1.flat rfl;cases t2.flat rfl;exact .inr ⟨_,_,rfl,rfl,by assumption,res.flat le rfl⟩
  lia
 lia
noncomputable def ui:D->aj Rv
 |.int i=>some (rd (.int (-i)))
 |_=>none
def Zv:cb K (KO (rU λi=>.int (-i))) (o1 ui):=sS λk H x a y Q le t e res=>by
 unfold ui at e;split at e
 .cases e;cases t.flat rfl;exact⟨_,rfl,_,rfl,res.flat le rfl⟩
 .cases e
end
section
variable{X:Cx}{aa:List (ai×Obj)}{s:ao}{Z:St}{H:Hp}
def Zw(I:Inv X aa Z H s){n m:Nat}{A:cK}{x y:V}{u v:ah}{d e:D}(rd:aV X.K H [x] [d])(re:aV X.K H [y] [e])(od:dZ n d=true)(oe:dZ m e=true)(ru:RelV x u)(rv:RelV y v)(hu:A.units+n<cLine):SeqAt.RcNeAt A s u v (!eL d e):=by
 have cN:A.units<cLine:=by lia
 have s1:=Fh I rd ru od;have s2:=Fh I re rv oe;cases s1 with
 |none=>
  cases s2 with
  |none=>
   exact SeqAt.RcNeAt.none_none
  |bool a2=>
   exact SeqAt.RcNeAt.none_bool a2
  |int a2 t2=>
   exact SeqAt.RcNeAt.none_int a2 t2
  |str a2 t2=>
   exact SeqAt.RcNeAt.none_str a2 t2
  |list l2 v2 r2=>
   exact SeqAt.RcNeAt.none_list l2 cN
  |tuple l2 v2 r2=>
   exact SeqAt.RcNeAt.none_tuple l2 cN
 |bool a1=>
  cases s2 with
  |none=>
   exact SeqAt.RcNeAt.bool_none a1
  |bool a2=>
   exact SeqAt.RcNeAt.bool_bool a1 a2
  |int a2 t2=>
   exact SeqAt.RcNeAt.bool_int a1 a2 t2
  |str a2 t2=>
   exact SeqAt.RcNeAt.bool_str a1 a2 t2
  |list l2 v2 r2=>
   exact SeqAt.RcNeAt.bool_list a1 l2 cN
  |tuple l2 v2 r2=>
   exact SeqAt.RcNeAt.bool_tuple a1 l2 cN
 |int a1 t1=>
  cases s2 with
  |none=>
   exact SeqAt.RcNeAt.int_none a1 t1
  |bool a2=>
   exact SeqAt.RcNeAt.int_bool a1 t1 a2
  |int a2 t2=>
   exact SeqAt.RcNeAt.int_int a1 t1 a2 t2
  |str a2 t2=>
   exact SeqAt.RcNeAt.int_str a1 t1 a2 t2
  |list l2 v2 r2=>
   exact SeqAt.RcNeAt.int_list a1 t1 l2 cN
  |tuple l2 v2 r2=>
   exact SeqAt.RcNeAt.int_tuple a1 t1 l2 cN
 |str a1 t1=>
  cases s2 with
  |none=>
   exact SeqAt.RcNeAt.str_none a1 t1
  |bool a2=>
   exact SeqAt.RcNeAt.str_bool a1 t1 a2
  |int a2 t2=>
   exact SeqAt.RcNeAt.str_int a1 t1 a2 t2
  |str a2 t2=>
   exact SeqAt.RcNeAt.str_str a1 t1 a2 t2
  |list l2 v2 r2=>
   exact SeqAt.RcNeAt.str_list a1 t1 l2 cN
  |tuple l2 v2 r2=>
   exact SeqAt.RcNeAt.str_tuple a1 t1 l2 cN
 |list l1 v1 r1=>
  cases s2 with
  |none=>
   exact SeqAt.RcNeAt.list_none l1 cN
  |bool a2=>
   exact SeqAt.RcNeAt.list_bool a2 l1 cN
  |int a2 t2=>
   exact SeqAt.RcNeAt.list_int a2 t2 l1 cN
  |str a2 t2=>
   exact SeqAt.RcNeAt.list_str a2 t2 l1 cN
  |list l2 v2 r2=>
   rename_i a aA ws es b iy Dw jq
   obtain⟨n',rfl,rK⟩:=wN od;obtain⟨m',rfl,rL⟩:=wN oe;have la:=v1.length;have lb:=v2.length;have Ki:=r1.length;have Kj:=r2.length;show SeqAt.RcNeAt A s _ _ (!eP es jq);by_cases hl:es.length=jq.length
   .rw[A6 aA.toArray.size (by simp only[dH];lia) (by simp only[dH];lia)]
    refine SeqAt.RcNeAt.lists (A:=A) l1 l2 (by simp only[dH];lia) cN λj h1 h2=>?_
    obtain⟨x1,q1,q2,q3⟩:=vc r1 v1 h1;obtain⟨y1,p1,p2,p3⟩:=vc r2 v2 h2;exact(b2i I n' m' q2 p2 (u0 rK q3) (u0 rL p3) q1 p1 (by show A.units+1+n'<cLine;lia)).1
   grind [A5,PySem.SeqAt.RcNeAt.lists_lengths]
  |tuple l2 v2 r2=>
   exact SeqAt.RcNeAt.list_tuple l1 l2 cN
 |tuple l1 v1 r1=>
  cases s2 with
  |none=>
   exact SeqAt.RcNeAt.tuple_none l1 cN
  |bool a2=>
   exact SeqAt.RcNeAt.tuple_bool a2 l1 cN
  |int a2 t2=>
   exact SeqAt.RcNeAt.tuple_int a2 t2 l1 cN
  |str a2 t2=>
   exact SeqAt.RcNeAt.tuple_str a2 t2 l1 cN
  |list l2 v2 r2=>
   exact SeqAt.RcNeAt.tuple_list l1 l2 cN
  |tuple l2 v2 r2=>
   rename_i a aA ws es b iy Dw jq
   obtain⟨n',rfl,rK⟩:=wO od;obtain⟨m',rfl,rL⟩:=wO oe;have la:=v1.length;have lb:=v2.length;have Ki:=r1.length;have Kj:=r2.length;have z:=SeqAt.RcNeAt.tuples (A:=A) (e:=λj=>eL (es.getD j .aJ) (jq.getD j .aJ)) l1 l2 cN λj h1 h2=>by
    obtain⟨x1,q1,q2,q3⟩:=vc r1 v1 h1;obtain⟨y1,p1,p2,p3⟩:=vc r2 v2 h2;exact(b2i I n' m' q2 p2 (u0 rK q3) (u0 rL p3) q1 p1 (by show A.units+1+n'<cLine;lia)).1
   show SeqAt.RcNeAt A s _ _ (!eP es jq);by_cases hl:es.length=jq.length
   .rw[A6 aA.toArray.size (by simp only[dH];lia) (by simp only[dH];lia)]
    have e1:iy.toArray.size=aA.toArray.size:=by simp only[dH];lia
    rw[e1,Nat.min_self,dP,Gy] at z;exact z
   .rw[A5 hl];have e1:(aA.toArray.size == iy.toArray.size)=false:=by rw[m7];simp only[dH];lia
    rw[e1,Gw] at z;exact z
end
section
variable{X:Cx}{K:aI}
def CP(K:aI):R2:=λx y H Q=>∃d e,aV K H [x] [d]/\aV K H [y] [e]/\dZ 40 d=true/\dZ 40 e=true/\Q (.bl (!eL d e)) H
def Zx(K:aI)(hu:X.A.units+40<cLine)(hK:X.K=K:=by rfl):dB X (compareOp .NotEq) (CP K):=by
 subst hK;intro aa s Z H x y v u Q I rx ry h;obtain⟨d,e,r1,r2,o1,o2,q⟩:=h;exact(Zw I r1 r2 o1 o2 rx ry hu) X.prog X.w _ _ ⟨.bl _,H,I,rfl,q⟩
end
end L2
namespace L2
open PySem PySem.Spec PySem.W PySem.Calls PyProof.Rows
variable{P:cX}{w:cA}{o:Expr}{to:TE}{apos cy pos:Pos}{elts:List Expr}{x1:Nat}
def ig(es:List (TK×V×V)):Prop:=∀e∈es,∃x,e.1=.inr x/\e.2.1=.str x
def WZ{es:List (TK×V×V)}{xs:List DictEntry}(p:Paired (iJ w) es xs)(h:ig es):∃kvs:List (Str×ah),(∀x∈xs,∃k,(strKind P w).is k x.key=true/\x.hash=(strKind P w).hash k)/\Pairs (strKind P w) xs kvs/\kvs.map (λp=>TK.inr p.1)=es.map (·.1)/\Vals (es.map (·.2.2)) (kvs.map (·.2)):=by
 induction p with
 |nil=>exact⟨[],by simp,.nil,rfl,.nil⟩
 |@cons e x es xs r t ih=>
  obtain⟨kvs,h1,h2,h3,h4⟩:=ih λe m=>h e (mY _ m)
  obtain⟨z,e1,e2⟩:=h e (uN ..);obtain⟨r1,r2,r3,r4⟩:=r;rw[e2] at r2;obtain⟨t',r2⟩:=r2;have hk:(strKind P w).is z x.key=true:=by rw[r2];show Value.isStrOf z (.str z t')=true;simp[Value.isStrOf]
  refine⟨(z,x.val)::kvs,λy m=>?_,.cons hk rfl h2,by rw[cR,cR,h3,e1],.cons r3 h4⟩
  rcases y0a.mp m with rfl|m
  .exact⟨z,hk,by rw[r1,e1];rfl⟩
  .exact h1 y m
section
variable{X:Cx}{aa:List (ai×Obj)}{Z:St}{H:Hp}{s:ao}{d:ai}{es:List (TK×V×V)}{ep:Nat}
def zJ(I:Inv X aa Z H s)(hd:H d=some (.dG es ep))(ht:ig es):∃kvs,s.heap.DictAt (strKind X.prog X.w) d kvs ep/\Vals (es.map (·.2.2)) (kvs.map (·.2))/\kvs.map (λp=>TK.inr p.1)=es.map (·.1)/\kvs.length<=sizeLine/\(d == sysModules)=false:=by
 obtain⟨hz,lo,ob,xs,g1,g5,g2,g3,g4⟩:=(show bD X.prog X.w H s.heap d (.dG es ep) from I.bw d _ hd);obtain⟨kvs,h1,h2,h3,h4⟩:=WZ (P:=X.prog) g3 ht;refine⟨kvs,⟨ob,xs,g1,g5,g2,λx m=>h1 x (LA.mpr m),h2,?_⟩,h4,h3,?_,lo⟩
 all_goals grind [List.length_map]
def E4(I:Inv X aa Z H s)(hd:H d=some (.dG es ep)):s.TypeIs (.ref d) "dict"/\∀a,Value.ref d=.ref a->∃ob,s.heap.get? a=some ob/\ob.dict=none:=
 PK (x:=.ref d) I rfl (.inr (.inr (.inl ⟨rfl,.inr (.inr ⟨es,ep,hd⟩)⟩)))
def Sw{ys:List V}{kvs:List (Str×ah)}{aW:Array ah}(rv:Vals ys (kvs.map (·.2)))(h:ItemsOf (λi v=>∃k,kvs[i]?=some (k,v)) aW kvs.length):Vals ys aW.toList:=by
 have e:aW.toList=kvs.map (·.2):=by
  apply LI;intro i;by_cases hi:i<aW.toList.length
  .have B6:i<aW.size:=by simpa using hi
   obtain⟨k,hk⟩:=h.2 i aW[i] (qe B6)
   simp_all
  .rw[y8 (by lia),y8 (by rw[bJ];have:=h.1;simp at hi;lia)]
 rw[e];exact rv
def Zy(to:TE):TE:=λZ H Q=>to Z H λx H1=>∃d es ep,x=.ref d/\H1 d=some (.dG es ep)/\ig es/\∀q,H1 q=none->Q (.ref q) (upd H1 q (.lst (es.map (·.2.2))))
def UY{p:Pos}(t9:Gl X "list")(x9:X.mg "list"=none)(ho:PE X o to)(hc:X.calm=true)
  (hs:starEach [.Call (.Attribute o "values" apos) [] [] cy] X.env=[(false,eval (.Call (.Attribute o "values" apos) [] [] cy) X.env)]:=by rfl)
  (eE:attributeBase o "values" X.env (eval o X.env)=eval o X.env:=by rfl) (eF:(apos.endLine == cy.line)=true:=by rfl):PE X (.Call (.Name "list" p) [.Call (.Attribute o "values" apos) [] [] cy] [] pos) (Zy to):=by
 intro aa s Z H Q I h;refine Call_ (sC I t9 x9 n8 (PyProof.Rows.callWith_type1 ?_ hs rfl));rw[hs];show wpAny _ _ (spliced ((false,eval (.Call (.Attribute o "values" apos) [] [] cy) X.env)::[])) _ _ s;refine Calls.spliced_cons (wpAny_Call_method0_late eE eF (bM (ho aa s Z H _ I h) λv s1 hh=>?_))
 obtain⟨x,H1,I1,r1,d,es,ep,rfl,hd,ht,q⟩:=hh;cases r1;obtain⟨t1,t2⟩:=E4 I1 hd;obtain⟨kvs,D1,D2,D3,D4,lo⟩:=zJ I1 hd ht;refine⟨"dict","dict.values",PySem.F.plainAttrs_dict,PySem.F.slot_dict_values,PySem.F.type_dict_values,t1,t2,Calls.callWith_builtin rfl (PySem.evalArgs_none ?_)⟩;refine call_meetsIn PySem.F.slot_dict_values t1 PySem.F.entry_dict_values (PySem.F.args_dict_values_1 _) (meets_dict_values (strKind X.prog X.w) d lo) ⟨⟨kvs,D1.dictOf⟩,?_⟩;refine Calls.spliced_nil ?_;refine kdl_call (kdl_values (knd:=strKind X.prog X.w) (r:=s1.heap.objs.size) (d:=d) (kvs:=kvs) (ep:=ep)) (I1.ok.hd hc) ⟨⟨_,iI _ rfl,rfl,rfl⟩,D1.push _⟩ D4 λh' tk aW c kp hg hi=>?_
 have sz:(s1.heap.push { cls:=.type "dict_values",data:=.fields #[.ref d]}).objs.size=s1.heap.objs.size+1:=by simp[Heap.push]
 rw[show({ s1 with heap:=s1.heap.push { cls:=.type "dict_values",data:=.fields #[.ref d]}}:ao).heap.objs.size=s1.heap.objs.size+1 from sz] at hg ⊢;have rv:=Sw D2 hi;refine⟨.ref (s1.heap.objs.size+1),_,I1.laid (t':=tk) (λb o e=>kp b o (cU _ e)) (uP _) (show bD X.prog X.w _ h' _ (.lst (es.map (·.2.2))) from⟨?_,aW.toList,c,rv,by simpa using hg⟩),rfl,q _ (I1.bw.fresh (uP _))⟩
 grind [List.length_map]
noncomputable def vB:TK->Bool
 |.inr _=>true
 |_=>false
theorem PR{K:fm}{F:Kn}:∀{ws:List (TK×V×V)} {ks:List TK},ws.map (·.1)=ks->ag K F (ws.map (·.2.1)) (ks.map (·.d))->ks.all vB=true->ig ws
 |[],_,_,_,_=>λe m=>nomatch m
 |w::ws,[],e,_,_=>by cases e
 |w::ws,k::ks,e,r,a=>by
  rw[cR,List.cons.injEq] at e;obtain⟨e1,e2⟩:=e;rw[qf,jy] at a;rw[cR,cR] at r;intro y m;rcases y0a.mp m with rfl|m
  .cases k with
   |inr x=>
    refine⟨x,e1,?_⟩;have:=r.inv.1;obtain⟨y1,y2,y3⟩:=y;dsimp only at this ⊢;cases this with
    |flat z _=>cases z;rfl
   |inl _=>cases a.1
   |tp _=>cases a.1
   |aJ=>cases a.1
  .exact PR e2 r.inv.2 a.2 y m
end
def RP:entryFor table "dict_itemiterator.__iter__"=some Builtin.«dict_keyiterator.__iter__»:=
 entryFor_alias (id':="dict_keyiterator.__iter__") (by kernel_rfl) rfl (by decide +kernel) (by kernel_rfl)
section
variable{prog:cX}{w:cA}{A:cK}{E:ah->ao->Prop}{s:ao}{it d:ai}{kvs:List (Str×ah)}{ep:Nat}
def Ml{i n ep:Nat}{ok ov:ah}{Q:ah->ao->Prop}(hit:IsItemIter s.heap it d i n ep ok ov)(h:Q (.ref it) s):wpAny (model prog w) A (pyIter (.ref it)) Q E s:=by
 have hT:s.TypeIs (.ref it) "dict_itemiterator":=⟨_,hit,rfl⟩;refine wpAny_pyIter_slot hT PySem.F.slot_dict_itemiterator_iter (wpAny_call_entry PySem.F.slot_dict_itemiterator_iter hT RP ?_ (PySem.F.args_dict_itemiterator_iter_1 _));show wpAny _ _ (ret (.ref it)) _ _ s;exact aP ⟨_,rfl,"dict_itemiterator",_,hT,PySem.F.slot_dict_itemiterator_next.lookup,h⟩
def Sg(hh:A.handled=none)(it d:ai)(fU:d≠it)(kvs:List (Str×ah))(ep:Nat):
  WalksT prog w A it [it,d] [it] kvs.length (λi vals=>∃k x key,kvs[i]?=some (k,x)/\(PySem.strKind prog w).is k key=true/\vals=#[key,x])
   (λi h=>(∃ok ov,IsItemIter h it d i kvs.length ep ok ov)/\h.DictAt (PySem.strKind prog w) d kvs ep)
   (λi T h=>(∃ok ov,IsItemIterOut h it d (i+1) kvs.length ep ok ov T)/\T≠it/\h.DictAt (PySem.strKind prog w) d kvs ep) where
 sub:=λb hb=>by simp at hb;simp[hb]
 frame:=λi h h' ⟨⟨ok,ov,a⟩,b⟩ k=>⟨⟨ok,ov,k it (by simp) _ a⟩,b.at' λo e=>k d (by simp) o e⟩
 item:=λi s Q E hi ⟨⟨ok,ov,a⟩,b⟩ hQ=>by
  obtain⟨⟨k,x⟩,hx⟩:∃p,kvs[i]?=some p:=⟨kvs[i],by simp[hi]⟩
  have lt:it<s.heap.objs.size:=cP a;refine wpAny_pyNext_items_item a b hx λkey h' hk o1 o2 o3 kp=>?_
  exact hQ s.heap.objs.size #[key,x] h' s.toks ⟨k,x,key,hx,hk,rfl⟩ (bU _) ⟨_,o2,rfl,_,rfl⟩ ⟨⟨_,_,o1⟩,vZ lt,b.at' λo e=>kp d o fU e⟩ λb o hb e=>kp b o (λz=>hb (by simp[z])) e
 go:=λelts k pos i T s Q E ⟨⟨ok,ov,a⟩,b,c⟩ hQ=>wpAny_letOwnedTupleGo_items a λh' a' sb=>hQ h' ⟨⟨ok,ov,a'⟩,c.at' λo e=>(sb.2 d fU).trans e⟩ λb o hb e=>(sb.2 b (λz=>hb (by simp[z]))).trans e
 apart:=λi T h ⟨_,b,_⟩=>by simpa using b
 done:=λs Q E ⟨⟨ok,ov,a⟩,b⟩ hQ=>wpAny_pyNext_items_end hh a b (by simp) λh' eb=>hQ h' s.toks λb o hb e=>eb b o (λz=>hb (by simp[z])) e
 self:=λi s Q E ⟨⟨ok,ov,a⟩,_⟩ hQ=>Ml a hQ
end
def Dv(es:List (TK×V×V))(i:Nat)(ws:List V):Prop:=∃e,es[i]?=some e/\ws=[e.2.1,e.2.2]
def Sx{K:fm}{it d:ai}(fU:d≠it)(es:List (TK×V×V))(ep:Nat):
  Turn P w K (.Tuple elts x1 pos) (ze (λH=>H d=some (.dG es ep)/\ig es) es.length (Dv es)) [it] it (λi h=>i<=es.length/\∃ok ov,IsItemIter h it d i es.length ep ok ov):=by
 refine M8 (FP:=[it]) (wr:=[it]) (by simp) (λb hb=>hb) (λi h st b hb=>?_) (λi h h' st k=>?_) (λX hP hw hK hc aa s Z H I hS=>?_) (λA i s Q E st h=>?_)
 .grind
 .obtain⟨ok,ov,a⟩:=st;exact⟨ok,ov,k it (by simp) _ a⟩
 .subst hP hw hK;obtain⟨kvs,D1,D2,D3,D4,lo⟩:=zJ I hS.1 hS.2;have l1:kvs.length=es.length:=by have:=congrArg List.length D3;simpa using this
  have W:=Sg (prog:=X.prog) (w:=X.w) (A:=X.A) (I.ok.hd hc) it d fU kvs ep;rw[l1] at W;refine⟨_,_,_,_,W,λi st=>⟨st,D1⟩,λi h st=>st.1,λi vals hp=>?_⟩
  obtain⟨k,x,key,k1,k2,rfl⟩:=hp;have hi:i<es.length:=by have:=(eU.mp k1).1;lia
  have e3:es[i]?=some es[i]:=gz hi;refine⟨[es[i].2.1,es[i].2.2],⟨_,e3,rfl⟩,.cons ?_ (.cons ?_ .nil),by show 2<=10;decide⟩
  .obtain⟨z,z1,z2⟩:=hS.2 es[i] (Gs hi);have k3:(kvs.map (λp=>TK.inr p.1))[i]?=(es.map (·.1))[i]?:=by rw[D3]
   rw[fW,fW,k1,e3] at k3;have k4:TK.inr k=es[i].1:=Option.some.inj k3;rw[z1] at k4;cases k4;rw[z2];exact Value.isStrOf_shape k2
  .obtain⟨u,u1,u2⟩:=D2.get (i:=i) (x:=es[i].2.2) (by rw[fW,e3];rfl)
   rw[fW,k1] at u1;cases u1;exact u2
 .obtain⟨ok,ov,a⟩:=st;exact Ml a h
def PU(to:TE):TI:=λZ H R=>to Z H λx H1=>∃d es ep,x=.ref d/\H1 d=some (.dG es ep)/\ig es/\R (ze (λH=>H d=some (.dG es ep)/\ig es) es.length (Dv es)) H1
section
variable{X:Cx}{K:fm}
def UZ{e_:Pos}(ho:PE X o to)(eE:attributeBase o "items" X.env (eval o X.env)=eval o X.env:=by rfl)(eF:(apos.endLine == cy.line)=true:=by rfl):
  PI X (.Tuple elts x1 e_) (.Call (.Attribute o "items" apos) [] [] cy) (PU to):=by
 intro aa s Z H R I h;refine wpAny_Call_method0_late eE eF (bM (ho aa s Z H _ I h) λv s1 hh=>?_)
 obtain⟨x,H1,I1,r1,d,es,ep,rfl,hd,ht,q⟩:=hh;cases r1;obtain⟨t1,t2⟩:=E4 I1 hd;obtain⟨kvs,D1,D2,D3,D4,lo⟩:=zJ I1 hd ht;have l1:kvs.length=es.length:=by have:=congrArg List.length D3;simpa using this
 have ld:d<s1.heap.objs.size:=D1.lt_size;refine⟨"dict","dict.items",PySem.F.plainAttrs_dict,PySem.F.slot_dict_items,PySem.F.type_dict_items,t1,t2,Calls.callWith_builtin rfl (PySem.evalArgs_none ?_)⟩;refine call_meetsIn PySem.F.slot_dict_items t1 PySem.F.entry_dict_items (PySem.F.args_dict_items_1 _) (meets_dict_items (PySem.strKind X.prog X.w) d lo) ⟨⟨kvs,D1.dictOf⟩,?_⟩;refine wpAny_pyIter_items (knd:=PySem.strKind X.prog X.w) (v:=s1.heap.objs.size) (d:=d) (kvs:=kvs) (ep:=ep) ⟨_,iI _ rfl,rfl,rfl⟩ (D1.push _) ?_;have sz:(s1.heap.push { cls:=.type "dict_items",data:=.fields #[.ref d]}).objs.size=s1.heap.objs.size+1:=by simp[Heap.push]
 have hg:=iI (s1.heap.push { cls:=.type "dict_items",data:=.fields #[.ref d]}) (o:={ cls:=.type "dict_itemiterator",data:=.fields #[.none,.bool false,.ref d,.int 0 0,.int kvs.length 0,.int ep 0,.none,.none]}) rfl;rw[l1] at hg ⊢;refine⟨(s1.heap.push { cls:=.type "dict_items",data:=.fields #[.ref d]}).objs.size,[(s1.heap.push { cls:=.type "dict_items",data:=.fields #[.ref d]}).objs.size],_,_,H1,rfl,I1.kept (t':=s1.toks) λb o e=>cU _ (cU _ e),Sx (it:=(s1.heap.push { cls:=.type "dict_items",data:=.fields #[.ref d]}).objs.size) (d:=d) (by rw[sz];exact gd (sX ld)) es ep,⟨kg _,.none,.none,hg⟩,λb hb=>?_,q⟩
 cases lW.mp hb;have mT:s1.heap.objs.size<=(s1.heap.push { cls:=.type "dict_items",data:=.fields #[.ref d]}).objs.size:=by rw[sz];exact uP _
 exact I1.kA mT (I1.bw.fresh mT)
end
end L2
namespace L2
open PySem PySem.Spec PyProof.Rows
section
variable{X:Cx}{K:aI}
def CK(K:aI):R2:=λx y H Q=>∃d e,aV K H [x] [d]/\aV K H [y] [e]/\dZ 40 d=true/\dZ 40 e=true/\Q (.bl (eL d e)) H
def Zz(K:aI)(hu:X.A.units+40<cLine)(hK:X.K=K:=by rfl):dB X (compareOp .Eq) (CK K):=by
 subst hK;intro aa s Z H x y v u Q I rx ry h;obtain⟨d,e,r1,r2,o1,o2,q⟩:=h;exact(b2i I 40 40 r1 r2 o1 o2 rx ry hu).2 X.prog X.w _ _ ⟨.bl _,H,I,rfl,q⟩
open Classical in
noncomputable def mV (K:aI) (H:Hp) (dx:D) (u:ah):Bool:=decide (∃x d,RelV x u/\aV K H [x] [d]/\dZ 40 d=true/\eL d dx=true)
open Classical in
def PV{aa:List (ai×Obj)}{s:ao}{Z:St}{H:Hp}(I:Inv X aa Z H s){dx d:D}{x:V}{u:ah}(rx:RelV x u)(r:aV X.K H [x] [d])(ok:dZ 40 d=true):mV X.K H dx u=eL d dx:=by
 unfold mV;rw[yX,y9a];constructor
 .rintro⟨x',d',rx',r',fq,e⟩;have:=RelV.inj rx rx';subst this;rw[E2 I 40 40 r r' ok fq];exact e
 .exact λe=>⟨x,d,rx,r,ok,e⟩
def Fi{aa:List (ai×Obj)}{s:ao}{Z:St}{H:Hp}(I:Inv X aa Z H s){dx:D}{ws:List V}{aA:List ah}{ds:List D}(t:Vals ws aA)(rp:aV X.K H ws ds)(ok:ds.all (dZ 40)=true):aA.any (mV X.K H dx)=ds.any λd=>eL d dx:=by
 induction t generalizing ds with
 |nil=>
  cases ds with
  |nil=>rfl
  |cons _ _=>have:=rp.length;simp at this
 |cons r t ih=>
  cases ds with
  |nil=>have:=rp.length;simp at this
  |cons d ds=>
   rw[qf,jy] at ok;rw[List.any_cons,List.any_cons,PV I r rp.inv.1 ok.1,ih rp.inv.2 ok.2]
def Fj{aa:List (ai×Obj)}{s:ao}{Z:St}{H:Hp}(I:Inv X aa Z H s){dx:D}{y:V}{v:ah}{A:cK}(rv:RelV y v)(ry:aV X.K H [y] [dx])(oy:dZ 40 dx=true)(hu:A.units+40<cLine):
  ∀{ws:List V} {aA:List ah} {ds:List D},Vals ws aA->aV X.K H ws ds->ds.all (dZ 40)=true->∀u∈aA,SeqAt.EqAt A s u v (mV X.K H dx u):=by
 intro ws aA ds t
 induction t generalizing ds with
 |nil=>intro _ _ u m;cases m
 |cons r t ih=>
  intro rp ok u' m;cases ds with
  |nil=>have:=rp.length;simp at this
  |cons d ds=>
   rw[qf,jy] at ok;rcases y0a.mp m with rfl|m
   .rw[PV I r rp.inv.1 ok.1];exact(b2i I 40 40 rp.inv.1 ry ok.1 oy r rv hu).1
   .exact ih rp.inv.2 ok.2 u' m
noncomputable def yO:D->aj (List D)
 |.lst ds=>some ds
 |.tup ds=>some ds
 |_=>none
def yG(K:aI)(neg:Bool):R2:=λx y H Q=>
 (∃d e ds,aV K H [x] [d]/\aV K H [y] [e]/\yO e=some ds/\dZ 40 d=true/\ds.all (dZ 40)=true/\Q (.bl (if neg then !ds.any λz=>eL z d else ds.any λz=>eL z d)) H)\/
 (∃i j,x=.str i/\y=.str j/\Q (.bl (if neg then !(!(Builtin.Str.occurrences j i 0 j.length 1).isEmpty) else !(Builtin.Str.occurrences j i 0 j.length 1).isEmpty)) H)\/
 ∃a o,y=.ref a/\gE K H a x o/\Q (.bl (if neg then !o.isSome else o.isSome)) H
def ZA(K:aI)(hu:X.A.units+41<cLine)(hK:X.K=K:=by rfl):dB X (compareOp .In) (yG K false):=by
 subst hK;intro aa s Z H x y v u Q I rx ry h;rcases h with⟨d,e,ds,r1,r2,es,o1,o2,q⟩|⟨i,j,rfl,rfl,q⟩|⟨a,o,rfl,g,q⟩
 .have rq:X.A.in1.units+40<cLine:=by show X.A.units+1+40<cLine;lia
  cases r2 with
  |flat z _=>cases e <;> first|(cases z;done)|cases es
  |lst sq i _=>
   cases es;cases ry;obtain⟨aA,r,pl,hz⟩:=I.list sq;refine SeqAt.in_listAt (mV X.K H d) pl.isList (λw hw=>Fj I rx r1 o1 rq r i o2 w (by simpa using hw)) ⟨.bl _,H,I,rfl,?_⟩
   rw[show aA.toArray.any (mV X.K H d)=aA.any (mV X.K H d) by simp,Fi I r i o2]
   exact q
  |tup sq i _=>
   cases es;cases ry;obtain⟨aA,r,pl,hz⟩:=I.tuple sq;refine SeqAt.in_tupleAt (mV X.K H d) pl (λw hw=>Fj I rx r1 o1 rq r i o2 w (by simpa using hw)) ⟨.bl _,H,I,rfl,?_⟩
   rw[show aA.toArray.any (mV X.K H d)=aA.any (mV X.K H d) by simp,Fi I r i o2]
   exact q
  |ay _ _ _ _ _=>cases es
  |ref _ _=>cases es
 .exact S7 aa s Z H _ _ v u Q I rx ry ⟨i,j,rfl,rfl,q⟩
 .cases ry;exact Ly (by lia) I g rx λs3 I3=>⟨.bl o.isSome,H,I3,rfl,q⟩
def TH(K:aI)(hu:X.A.units+41<cLine)(hK:X.K=K:=by rfl):dB X (compareOp .NotIn) (yG K true):=by
 subst hK;intro aa s Z H x y v u Q I rx ry h;rcases h with⟨d,e,ds,r1,r2,es,o1,o2,q⟩|⟨i,j,rfl,rfl,q⟩|⟨a,o,rfl,g,q⟩
 .have rq:X.A.in1.units+40<cLine:=by show X.A.units+1+40<cLine;lia
  cases r2 with
  |flat z _=>cases e <;> first|(cases z;done)|cases es
  |lst sq i _=>
   cases es;cases ry;obtain⟨aA,r,pl,hz⟩:=I.list sq;refine SeqAt.notIn_listAt (mV X.K H d) pl.isList (λw hw=>Fj I rx r1 o1 rq r i o2 w (by simpa using hw)) ⟨.bl _,H,I,rfl,?_⟩
   rw[show aA.toArray.any (mV X.K H d)=aA.any (mV X.K H d) by simp,Fi I r i o2]
   exact q
  |tup sq i _=>
   cases es;cases ry;obtain⟨aA,r,pl,hz⟩:=I.tuple sq;refine SeqAt.notIn_tupleAt (mV X.K H d) pl (λw hw=>Fj I rx r1 o1 rq r i o2 w (by simpa using hw)) ⟨.bl _,H,I,rfl,?_⟩
   rw[show aA.toArray.any (mV X.K H d)=aA.any (mV X.K H d) by simp,Fi I r i o2]
   exact q
  |ay _ _ _ _ _=>cases es
  |ref _ _=>cases es
 .exact R3 aa s Z H _ _ v u Q I rx ry ⟨i,j,rfl,rfl,q⟩
 .cases ry;exact WS (by lia) I g rx λs3 I3=>⟨.bl (!o.isSome),H,I3,rfl,q⟩
def vi(ne:Bool)(a b:D):aj Rv:=if(dZ 40 a&&dZ 40 b)=true then some (rd (.bl (if ne=true then !eL a b else eL a b))) else none
def e6i:cb K (lM (CK K)) (o2 (vi false)):=vH λk H x z a b y Q le t1 t2 e res=>by
 unfold vi at e;split at e
 .rename_i h
  obtain⟨h1,h2⟩:=Ar.mp h;cases e;exact⟨_,_,t1.sR le h1,t2.sR le h2,h1,h2,res.flat le rfl⟩
 .cases e
def e6j:cb K (lM (CP K)) (o2 (vi true)):=vH λk H x z a b y Q le t1 t2 e res=>by
 unfold vi at e;split at e
 .rename_i h
  obtain⟨h1,h2⟩:=Ar.mp h;cases e;exact⟨_,_,t1.sR le h1,t2.sR le h2,h1,h2,res.flat le rfl⟩
 .cases e
mutual
def pQ:D->aj TK
 |.int i=>some (.inl i)
 |.str x=>some (.inr x)
 |.aJ=>some .aJ
 |.tup l=>(jk l).map .tp
 |_=>none
def jk:List D->aj (List TK)
 |[]=>some []
 |d::l=>(pQ d).bind λk=>(jk l).map λks=>k::ks
end
def jh:D->aj TK
 |.int i=>some (.inl i)
 |.str x=>some (.inr x)
 |.aJ=>some .aJ
 |.tup l=>(jk l).bind λks=>if TK.ok 8 (.tp ks)=true then some (.tp ks) else none
 |_=>none
mutual
theorem e6k:∀{d:D} {k:TK},pQ d=some k->k.d=d
 |.int i,k,e=>by simp only[pQ] at e;cases e;simp[TK.d]
 |.str i,k,e=>by simp only[pQ] at e;cases e;simp[TK.d]
 |.tup l,k,e=>by
  simp only[pQ] at e;obtain⟨ks,h1,rfl⟩:=cW.mp e;simp only[TK.d];rw[lT h1]
 |.aJ,k,e=>by simp only[pQ] at e;cases e;simp[TK.d]
 |.ref _,k,e=>by simp[pQ] at e
 |.bl _,k,e=>by simp[pQ] at e
 |.ty _,k,e=>by simp[pQ] at e
 |.lst _,k,e=>by simp[pQ] at e
 |.ay _,k,e=>by simp[pQ] at e
theorem lT:∀{l:List D} {ks:List TK},jk l=some ks->TK.dl ks=l
 |[],ks,e=>by simp only[jk] at e;cases e;simp[TK.dl]
 |d::l,ks,e=>by
  simp only[jk] at e;obtain⟨k,h1,e⟩:=cw.mp e;obtain⟨vE,h2,rfl⟩:=cW.mp e;simp only[TK.dl];rw[e6k h1,lT h2]
end
def zK{d:D}{k:TK}(e:jh d=some k):k.d=d/\k.ok 8=true:=by
 cases d with
 |int i=>cases e;exact⟨by simp[TK.d],rfl⟩
 |str i=>cases e;exact⟨by simp[TK.d],rfl⟩
 |aJ=>cases e;exact⟨by simp[TK.d],rfl⟩
 |tup l=>
  simp only[jh] at e;obtain⟨ks,h1,e⟩:=cw.mp e
  grind [TK.d,lT]
 |_=>cases e
def aN(kvs:List (TK×D))(k:TK):aj D:=(kvs.find? λkv=>decide (kv.1=k)).map (·.2)
theorem IC{F:Kn}{k:TK}:∀{ws:List (TK×V×V)} {kvs:List (TK×D)},ws.map (·.1)=kvs.map (·.1)->ag K F (ws.map (·.2.2)) (kvs.map (·.2))->(jl ws k=none/\aN kvs k=none)\/∃v d,jl ws k=some v/\aN kvs k=some d/\ag K F [v] [d]
 |[],[],_,_=>.inl ⟨rfl,rfl⟩
 |w::ws,p::kvs,h,r=>by
  rw[cR,cR] at h;injection h with h1 h2;unfold jl aN;rw[Av,Av,h1];by_cases e:p.1=k
  .rw[qg e];exact .inr ⟨w.2.2,p.2,rfl,rfl,r.inv.1⟩
  .rw[pV e];exact IC h2 r.inv.2
 |[],_::_,h,_=>by simp at h
 |_::_,[],h,_=>by simp at h
def uM{k:Kn}{H:Hp}{x y:V}{kvs:List (TK×D)}{d:D}{j:TK}(le:az k.F H)(t1:Top K k H x (.ay kvs))(t2:Top K k H y d)(hk:jh d=some j):∃a o,x=.ref a/\gE K H a y o/\((o=none/\aN kvs j=none)\/∃v e,o=some v/\aN kvs j=some e/\ag K k [v] [e]):=by
 obtain⟨a,es,ep,rfl,h1,h2,h3,h4⟩:=t1.ay le;obtain⟨k1,k2⟩:=zK hk;refine⟨a,jl es j,rfl,⟨es,ep,j,h1,OP h2 h3 le,?_,k2,rfl⟩,IC h2 h4⟩;have:=t2.rep le;rw[<-k1] at this;exact rE (k:=k.all H) j this
def Aa(neg:Bool)(a b:D):aj Rv:=match b with
 |.ay kvs=>(jh a).map λj=>rd (.bl (if neg=true then !(aN kvs j).isSome else(aN kvs j).isSome))
 |.str j=>(match a with
  |.str i=>some (rd (.bl (if neg=true then !(!(Builtin.Str.occurrences j i 0 j.length 1).isEmpty) else !(Builtin.Str.occurrences j i 0 j.length 1).isEmpty)))
  |_=>none)
 |e=>(yO e).bind λds=>if(dZ 40 a&&ds.all (dZ 40))=true then some (rd (.bl (if neg=true then !ds.any λz=>eL z a else ds.any λz=>eL z a))) else none
def W4{k:Kn}{H:Hp}{x:V}{e:D}{ds:List D}(le:az k.F H)(t:Top K k H x e)(h:yO e=some ds)(ok:ds.all (dZ 40)=true):aV K H [x] [e]:=by
 cases e with
 |lst _=>cases h;obtain⟨p,ws,rfl,q,r⟩:=t.lst le;exact .lst q (Top.Kv r le ok) .nil
 |tup _=>cases h;obtain⟨p,ws,rfl,q,r⟩:=t.tup le;exact .tup q (Top.Kv r le ok) .nil
 |_=>cases h
def Qx(neg:Bool):cb K (lM (yG K neg)) (o2 (Aa neg)):=vH λk H x z a b y Q le t1 t2 e res=>by
 unfold Aa at e;split at e
 .obtain⟨j,hj,rfl⟩:=cW.mp e;obtain⟨p,o,rfl,g,h⟩:=uM le t2 t1 hj;refine .inr (.inr ⟨p,o,rfl,g,?_⟩);have z:=res.flat le rfl;rcases h with⟨rfl,h⟩|⟨v,e,rfl,h,_⟩ <;> rw[h] at z <;> exact z
 .split at e
  .cases e;cases t1.flat rfl;cases t2.flat rfl;exact .inr (.inl ⟨_,_,rfl,rfl,res.flat le rfl⟩)
  .cases e
 .obtain⟨ds,h1,e⟩:=cw.mp e;split at e
  .rename_i h
   obtain⟨h2,h3⟩:=Ar.mp h;cases e;exact .inl ⟨_,_,ds,t1.sR le h2,W4 le t2 h1 h3,h1,h2,h3,res.flat le rfl⟩
  .cases e
def yH(neg:Bool):R2:=λx y H Q=>(y=.aJ/\Q (.bl (if neg then !decide (x=.aJ) else decide (x=.aJ))) H)\/∃a b,x=.bl a/\y=.bl b/\Q (.bl (if neg then a != b else a == b)) H
def ZC:dB X (compareOp .Is) (yH false):=yA.or Y5
def W5:dB X (compareOp .IsNot) (yH true):=um.or Ws
noncomputable def rJ:D->Bool
 |.aJ=>true
 |_=>false
def Ab(neg:Bool)(a b:D):aj Rv:=match b with
 |.aJ=>some (rd (.bl (if neg=true then !rJ a else rJ a)))
 |.bl b=>(match a with
  |.bl a=>some (rd (.bl (if neg=true then a != b else a == b)))
  |_=>none)
 |_=>none
def U0{k:Kn}{H:Hp}{x:V}{d:D}(h:Top K k H x d):decide (x=.aJ)=rJ d:=by
 rcases h with h|⟨p,c,rfl,rfl,h⟩
 .cases h with
  |flat q _=>cases d <;> cases q <;> rfl
  |_=>rfl
 .cases c <;> rfl
def Qy(neg:Bool):cb K (lM (yH neg)) (o2 (Ab neg)):=vH λk H x z a b y Q le t1 t2 e res=>by
 unfold Ab at e;split at e
 .cases e;cases t2.flat rfl;refine .inl ⟨rfl,?_⟩;rw[U0 t1];exact res.flat le rfl
 .split at e
  .cases e;cases t1.flat rfl;cases t2.flat rfl;exact .inr ⟨_,_,rfl,rfl,res.flat le rfl⟩
  .cases e
 .cases e
def CM(K:aI):R2:=λx y H Q=>yI K x y H Q\/yJ K x y H Q\/CN x y H Q\/∃a v,x=.ref a/\gE K H a y (some v)/\Q v H
def W6(hu:X.A.units+9<cLine):o6 X (λx y H Q=>∃a v,x=.ref a/\gE X.K H a y (some v)/\Q v H):=by
 intro value slice aa s Z H x y v u Q I rx ry h hs;obtain⟨a,w,rfl,g,q⟩:=h;cases rx;exact tail_any (g.ty I).1 PySem.F.slot_dict_getitem.lookup (Nb hu I g ry λw' s3 I3 lQ=>⟨w,H,I3,lQ,q⟩) hs
def Ka(K:aI)(hu:X.A.units+41<cLine)(hK:X.K=K):o6 X (CM K):=by
 subst hK;exact(UL X.K rfl).or ((Wt X.K rfl).or (yj.or (W6 (by lia))))
noncomputable def intD:D->aj Int
 |.int k=>some k
 |_=>none
def E5{i:D}{k:Int}(h:intD i=some k):i=.int k:=by
 cases i with
 |int _=>cases h;rfl
 |_=>cases h
def OR{F:Kn}{ws:List V}{ds:List D}{i:Int}{d:D}(r:ag K F ws ds)(e:dR ds i=some d):∃v,dR ws i=some v/\ag K F [v] [d]:=by
 unfold dR at e ⊢;rw[r.length];cases q:ue ds.length i with
 |none=>rw[q] at e;cases e
 |some j=>
  rw[q] at e;exact r.get e
def F7(a i:D):aj Rv:=match a with
 |.lst ds=>(intD i).bind λk=>(dR ds k).map rd
 |.tup ds=>(intD i).bind λk=>(dR ds k).map rd
 |.str z=>(intD i).bind λk=>if z.length<=1000000 then(dR z.cps.toList k).map λc=>rd (.str ⟨#[c]⟩) else none
 |.ay kvs=>(jh i).bind λj=>(aN kvs j).map rd
 |_=>none
def e6l:cb K (lM (CM K)) (o2 F7):=vH λk H x z a b y Q le t1 t2 e res=>by
 unfold F7 at e;split at e
 .obtain⟨i,hi,e⟩:=cw.mp e;cases E5 hi;cases t2.flat rfl;obtain⟨d,h1,rfl⟩:=cW.mp e;obtain⟨p,ws,rfl,q,r⟩:=t1.lst le;obtain⟨v,h2,h3⟩:=OR r h1;exact .inl ⟨p,ws,i,v,rfl,rfl,q,h2,res.rep le h3⟩
 .obtain⟨i,hi,e⟩:=cw.mp e;cases E5 hi;cases t2.flat rfl;obtain⟨d,h1,rfl⟩:=cW.mp e;obtain⟨p,ws,rfl,q,r⟩:=t1.tup le;obtain⟨v,h2,h3⟩:=OR r h1;exact .inr (.inl ⟨p,ws,i,v,rfl,rfl,q,h2,res.rep le h3⟩)
 .obtain⟨i,hi,e⟩:=cw.mp e;cases E5 hi;cases t2.flat rfl;cases t1.flat rfl;split at e
  .obtain⟨c,h1,rfl⟩:=cW.mp e;exact .inr (.inr (.inl ⟨_,i,c,rfl,rfl,ml (by assumption),h1,res.flat le rfl⟩))
  .cases e
 .obtain⟨j,hj,e⟩:=cw.mp e;obtain⟨d,h1,rfl⟩:=cW.mp e;obtain⟨p,o,rfl,g,h⟩:=uM le t1 t2 hj;rcases h with⟨_,h⟩|⟨v,e,rfl,h,r⟩
  .lia
  .rw[h] at h1;cases h1;exact .inr (.inr (.inr ⟨p,v,rfl,g,res.rep le r⟩))
 .cases e
noncomputable def cutD(ds:List D)(lo hi:aj Int):List D:=(ds.drop (HT.cG ds.length 0 lo)).take (HT.cG ds.length ds.length hi - HT.cG ds.length 0 lo)
def CQ(K:aI):V->aj Int->aj Int->Hp->VK->Prop:=λx lo hi H Q=>CS x lo hi H Q\/yK K x lo hi H Q\/yL K x lo hi H Q
def K6(K:aI)(hK:X.K=K):qF X (CQ K):=yP.or ((UM K hK).or (Wu K hK))
def K5(a:D)(lo hi:aj Int):aj Rv:=match a with
 |.str z=>if z.length<=1000000 then some (rd (.str (Txt.slice z lo hi))) else none
 |.lst ds=>some (.o (.lst (cutD ds lo hi)))
 |.tup ds=>if HT.cG ds.length 0 lo=0/\HT.cG ds.length ds.length hi=ds.length then none else some (rd (.tup (cutD ds lo hi)))
 |_=>none
def OS{k:Kn}{ws:List V}{ds:List D}{lo hi:aj Int}(r:ag K k ws ds):ag K k (mr ws lo hi) (cutD ds lo hi):=by
 unfold mr cutD;rw[r.length];exact(r.drop _).take _
def e6m{k:Kn}{H:Hp}{x:V}{a:D}{y:Rv}{Q:VK}{lo hi:aj Int}(le:az k.F H)(t:Top K k H x a)(e:K5 a lo hi=some y)(res:kr K k H y Q):CQ K x lo hi H Q:=by
 unfold K5 at e;split at e
 .split at e
  .cases e;cases t.flat rfl;exact .inl ⟨_,rfl,ml (by assumption),res.flat le rfl⟩
  .cases e
 .cases e;obtain⟨p,ws,rfl,q,r⟩:=t.lst le;exact .inr (.inl ⟨p,ws,rfl,q,λl hl=>res.lst le (OS r) hl⟩)
 .split at e
  .cases e
  .rename_i fU
   cases e;obtain⟨p,ws,rfl,q,r⟩:=t.tup le;exact .inr (.inr ⟨p,ws,rfl,q,by rw[r.length];exact fU,λl hl=>res.tup le (OS r) hl⟩)
 .cases e
abbrev GO:=Gx (aj Int)
abbrev zh:Rp (aj Int) (aj Int):=λ_ _ b a=>b=a
noncomputable def xg:GO:=λ_ S=>some (.ok none S)
noncomputable def Rv.int:Rv->aj Int
 |.v (.d (.int i))=>some i
 |_=>none
noncomputable def xh(g:GE):GO:=λU S=>bd (g U S) λr S1=>r.int.map λi=>.ok (some i) S1
def vd(f:GE)(lo hi:GO):GE:=λU S=>bd (f U S) λr S1=>bd (lo U S1) λl S2=>bd (hi U S2) λu S3=>((ux S3 (lS r)).bind λd=>K5 d l u).map λy=>.ok y S3
def Rv.iR{r:Rv}{i:Int}(h:r.int=some i):r=rd (.int i):=by
 unfold Rv.int at h;split at h
 .cases h;rfl
 .cases h
section
variable{W:XW}{q:Nat}{e:Expr}{lo hi:aj Expr}{f:GE}{fl fh:GO}{pos p2:Pos}
def tW:PO X none (tX zh K W q xg):=λaa s Z H Q I t=>Wj aa s Z H Q I (BF t λ_ _=>rfl)
def tY(h:PE X e (tE K W q f)):PO X (some e) (tX zh K W q (xh f)):=λaa s Z H Q I t=>Wk h aa s Z H Q I (by
 obtain⟨k,U,S,res,ok,gk,e,w⟩:=t;refine tX.bd ok gk e w λr S1 x k1 H1 bI g1 r1 e1 w1 _=>?_
 obtain⟨i,e2,rfl⟩:=cW.mp e1;cases Rv.iR e2;exact⟨i,(show ag K k1 [x] [.int i] from r1).a_ rfl,w1.now bI rfl⟩)
def U3(he:PE X e (tE K W q f))(hl:PO X lo (tX zh K W q fl))(hu:PO X hi (tX zh K W q fh))(hK:X.K=K):PE X (.Subscript e (.Slice lo hi none p2) pos) (tE K W q (vd f fl fh)):=(UE (K6 K hK) he hl hu).mono λZ H Q t=>by
 obtain⟨k,U,S,res,ok,gk,e,w⟩:=t;refine tX.bd ok gk e w λr S1 x k1 H1 bI g1 r1 e1 w1 _=>?_
 obtain⟨k2,u2,cO,r2⟩:=p6 bI r1;refine tX.bd cO (g1.up (u2 q)) e1 (w1.up (u2 q)) λl S3 l' k3 H3 jj g3 r3 e3 w3 u3=>?_
 cases r3;refine tX.bd jj g3 e3 w3 λu S4 u' k4 H4 pK g4 r4 e4 w4 u4=>?_
 cases r4;obtain⟨y,e5,rfl⟩:=cW.mp e4;obtain⟨d,e6,e7⟩:=cw.mp e5;exact e6m pK.le (Fg pK ((r2.up u3).up u4) e6) e7 (.fin pK w4)
end
end
section
variable{X:Cx}{K:aI}
def iA:List Int->Int
 |[]=>0
 |x::xs=>xs.foldl (λa b=>if b<a then b else a) x
def TL(xs:List Int):∀x:Int,(xs.foldl (λa b=>if b<a then b else a) x<=x/\∀y∈xs,xs.foldl (λa b=>if b<a then b else a) x<=y)/\(xs.foldl (λa b=>if b<a then b else a) x=x\/xs.foldl (λa b=>if b<a then b else a) x∈xs):=by
 induction xs with
 |nil=>intro x;exact⟨⟨LJ _,λy m=>by cases m⟩,.inl rfl⟩
 |cons z xs ih=>
  grind
def Nc{xs:List Int}(h:xs≠[]):iA xs∈xs/\∀y∈xs,iA xs<=y:=by
 cases xs with
 |nil=>exact bQ rfl h
 |cons x xs=>
  obtain⟨⟨h1,h2⟩,h3⟩:=TL xs x;refine⟨?_,λy m=>?_⟩
  .rcases h3 with h3|h3
   .show List.foldl _ x xs∈_
    simp_all
   .exact .tail _ h3
  .rcases y0a.mp m with rfl|m
   .exact h1
   .exact h2 y m
theorem ML:∀{is:List Int} {aA:List ah},Vals (is.map V.int) aA->∃ps:List (Int×Tok),aA=ps.map (λp=>Value.int p.1 p.2)/\ps.map (·.1)=is
 |[],aA,h=>by
  rw[DH] at h;cases h;exact⟨[],rfl,rfl⟩
 |i::is,aA,h=>by
  rw[cR] at h;cases h with
  |cons r t=>
   obtain⟨ps,e1,e2⟩:=ML t;obtain⟨tk,rfl⟩:=r;exact⟨(i,tk)::ps,by rw[e1];rfl,by rw[cR,e2]⟩
def U4(K:aI)(hc:X.calm=true:=by rfl)(hK:X.K=K:=by rfl):bX X (.builtin "min") (λxs H Q=>∃(a:ai) (is:List Int),xs=[.ref a]/\cT K H a (is.map V.int)/\is≠[]/\Q (.int (iA is)) H):=by
 subst hK;intro aa s Z H xs us Q I r h;obtain⟨a,is,rfl,hs,fU,q⟩:=h;obtain⟨u,rfl,ru⟩:=vals1 r;cases ru;obtain⟨aA,rv,p,hz⟩:=I.list hs;obtain⟨ps,e1,e2⟩:=ML rv;subst e1;have hl:0<ps.length:=by
  grind
 have el:(ps.map λp=>Value.int p.1 p.2).toArray=intItems ps.toArray:=by unfold intItems;simp
 have pl:=p.isList;rw[el] at pl;refine min_intList (I.ok.hd hc) pl (by simpa using hl) λv h' tk hv hk=>?_
 obtain⟨b1,b2⟩:=argBest_lt (numAt ps.toArray) (ps.toArray.size - 1);generalize argBest (λi j=>decide (numAt ps.toArray i<numAt ps.toArray j)) (ps.toArray.size - 1)=n at *
 have hn:n<ps.length:=by simp at b1;lia
 have B_:∀j (hj:j<ps.length),numAt ps.toArray j=(ps[j]).1:=λj hj=>by unfold numAt;simp[hj]
 have J7:v=Value.int (ps[n]).1 (ps[n]).2:=by
  unfold intItems at hv;simp[hn] at hv;exact hv.symm
 have hm:iA is=(ps[n]).1:=by
  obtain⟨m1,m2⟩:=Nc fU;have i1:(ps[n]).1∈is:=by rw[<-e2];exact lU (f:=(·.1)) (Gs hn)
  have c1:=m2 _ i1;rw[<-e2] at m1;obtain⟨pp,J5,hp2⟩:=fQ.mp m1;obtain⟨j,hj,ej⟩:=List.mem_iff_getElem.mp J5;have c2:=b2 j (by simp;lia)
  rw[B_ n hn,B_ j hj,ej] at c2;rw[e2] at hp2;lia
 rw[J7];exact⟨.int (iA is),H,I.kept (h':=h') (t':=tk) λb o e=>hk b o e,⟨(ps[n]).2,by rw[hm]⟩,q⟩
def jU:List D->aj (List Int)
 |[]=>some []
 |.int i::ds=>(jU ds).map λis=>i::is
 |_=>none
theorem Nd:∀is:List Int,jU (is.map .int)=some is
 |[]=>rfl
 |i::is=>by rw[cR];show(jU (is.map .int)).map _=_;rw[Nd is];rfl
theorem Nf:∀{ds:List D} {is:List Int},jU ds=some is->ds=is.map .int
 |[],is,e=>by cases e;rfl
 |d::ds,is,e=>by
  cases d with
  |int i=>
   obtain⟨js,e1,e2⟩:=cW.mp (show(jU ds).map _=some is from e);rw[<-e2,Nf e1];rfl
  |_=>cases e
theorem Mx{F:Kn}:∀{ws:List V} {is:List Int},ag K F ws (is.map .int)->ws=is.map .int
 |[],[],_=>rfl
 |[],_::_,h=>by have:=h.length;simp at this
 |_::_,[],h=>by have:=h.length;simp at this
 |w::ws,i::is,h=>by
  rw[cR] at h;have h1:=h.inv.1;have h2:=Mx h.inv.2;rw[h2,cR];cases h1 with
  |flat e _=>cases e;rfl
end
section
variable{X:Cx}{K:aI}
end
end L2
namespace L2
open PySem PySem.Spec PySem.W PyProof.Rows
section
variable{X:Cx}{K:aI}
def Lm(k:String):Bool:=k == "tuple" || k == "list"
def vN(K:fm):List V->Hp->VK->Prop:=λxs H Q=>∃x k q,xs=[x,.ref q]/\Br K H x k/\ie K H q [.ty "tuple",.ty "list"]/\Q (.bl (Lm k)) H
def TM(K:fm)(hK:X.K=K:=by rfl):bX X (.builtin "isinstance") (vN K):=by
 subst hK;intro aa s Z H xs us Q I r h;obtain⟨x,k,q,rfl,hk,hq,qq⟩:=h;obtain⟨u,w',rfl,rx,ry⟩:=vals2 r;cases ry;obtain⟨aA,rv,⟨ot,h1,h2,n,h3⟩,_⟩:=I.tuple hq;obtain⟨oc,odd,odt,oB⟩:=ot;dsimp only at h2 h3;subst h2;subst h3;obtain⟨u1,u2,rfl,r1,r2⟩:=vals2 rv;cases r1;cases r2;have fin:∀b,b=Lm k->∀tk,EP X aa Z Q (.bool b) { s with toks:=tk}:=λb e tk=>tN (I.tok _) qq e.symm
 cases x with
 |aJ=>
  cases rx;have hk:k="NoneType":=hk;subst hk;exact kia_tup (b:=false) kitx_none I.jt sg h1 (by rfl) (λz=>nomatch z) (fin _ rfl)
 |bl b=>
  cases rx;have hk:k="bool":=hk;subst hk;exact kia_tup (b:=false) kitx_bool I.jt sg h1 (by rfl) (λz=>nomatch z) (fin _ rfl)
 |int i=>
  obtain⟨t,rfl⟩:=rx;have hk:k="int":=hk;subst hk;exact kia_tup (b:=false) kitx_int I.jt sg h1 (by rfl) (λz=>nomatch z) (fin _ rfl)
 |str z=>
  obtain⟨t,rfl⟩:=rx;have hk:k="str":=hk;subst hk;exact kia_tup (b:=false) kitx_str I.jt sg h1 (by rfl) (λz=>nomatch z) (fin _ rfl)
 |ref a=>
  cases rx;rcases hk with⟨hk,ys,hs⟩|⟨hk,ys,hs⟩
  .subst hk;obtain⟨aA,_,⟨o,n,e,hc,_⟩,_⟩:=I.list hs;exact kia_tup (b:=true) kitx_list I.jt ⟨o,e,hc⟩ h1 (by rfl) (λz=>nomatch z) (fin _ rfl)
  .subst hk;obtain⟨aA,_,⟨o,e,hc,_⟩,_⟩:=I.tuple hs;exact kia_tup (b:=true) kitx_tuple I.jt ⟨o,e,hc⟩ h1 (by rfl) (λz=>nomatch z) (fin _ rfl)
 |vf _=>exact False.elim hk
 |zZ _=>exact False.elim hk
 |ty _=>exact False.elim hk
end
end L2
namespace L2
open PySem PySem.Spec PyProof.Rows
variable{A:cK}{E:ah->ao->Prop}{s:ao}{ep:Nat}
theorem Sh{Q:Bool->ao->Prop}{P:cX}{w:cA}{d:ai}(hT:s.TypeIs (.ref d) "dict")(h:Q false s):wpAny (model P w) A (Builtin.List.listLengthHint (.ref d)) Q E s:=by
 unfold Builtin.List.listLengthHint;refine ax (wpAny_specialOf hT F.slot_dict_len.lookup ?_);dsimp only;rw[show splitId "dict.__len__"=some ("dict","__len__") from by decide +kernel]
 dsimp only;refine ax (wpAny_isInstance (b:=true) hT (by rw[isSubtype_type];kernel_rfl) ?_)
 rw[br (by decide)]
 refine wpAny_ite_true (by decide +kernel) (ax (wpAny_typeOf hT ?_))
 exact aP h
section
variable{P:cX}{w:cA}{A:cK}{E:ah->ao->Prop}{s:ao}
def TN{n:Nat}{ob:Obj}{xs:Array DictEntry}(hh:A.handled=none)(J d:ai)(fU:d≠J)(g2:ob.data=.dict xs ep)(hl:xs.size=n):
  Walks P w A J [J,d] [J] n (λi v=>xs[i]?.map (·.key)=some v) (λi h=>h.IsKeyIter J d i n ep/\h.get? d=some ob) where
 sub:=λb hb=>by simp at hb;simp[hb]
 frame:=λ_ _ _ st hk=>⟨st.1.at λo e=>hk J (by simp) o e,hk d (by simp) _ st.2⟩
 item:=λi s Q E hi st hQ=>by
  have lt:i<xs.size:=by lia
  refine MJ st.2 g2 hl st.1 lt λh' vC sb=>?_
  exact hQ _ h' s.toks (by rw[qe lt];rfl) ⟨vC,(sb.2 d fU).trans st.2⟩ λb o hb e=>sb.extBut b o (λh=>hb (by simp[h])) e
 done:=λs Q E st hQ=>M7 hh st.2 g2 hl st.1 (bU _) λh' FT=>hQ h' s.toks λb o hb e=>FT b o (λh=>hb (by simp[h])) e
 self:=λ_ _ _ _ st hQ=>wpAny_pyIter_keyiter st.1 hQ
end
theorem OT:∀{ys:List V} {us:List ah},ys.length=us.length->(∀(j:Nat) (y:V) (u:ah),ys[j]?=some y->us[j]?=some u->RelV y u)->Vals ys us
 |[],[],_,_=>.nil
 |y::ys,u::us,hl,h=>.cons (h 0 y u rfl rfl) (OT (by simpa using hl) λj y' u' e1 e2=>h (j+1) y' u' (by simpa using e1) (by simpa using e2))
 |[],_::_,h,_=>by simp at h
 |_::_,[],h,_=>by simp at h
section
variable{X:Cx}{aa:List (ai×Obj)}{Z:St}{H:Hp}
theorem RV{d:ai}{es:List (TK×V×V)}{Q:ah->ao->Prop}(hh:A.handled=none)(I:Inv X aa Z H s)(hd:H d=some (.dG es ep))
  (hQ:∀s',(∀b u,s.heap.get? b=some u->s'.heap.get? b=some u)->s'={ s with heap:=s'.heap,toks:=s'.toks}->(∃aA c,Vals (es.map (·.2.1)) aA/\s'.heap.get? s.heap.objs.size=some { cls:=.type "list",data:=.seq aA.toArray c})->Q (.ref s.heap.objs.size) s') :
  wpAny (model X.prog X.w) A (call (.type "list") [.ref d]) Q E s:=by
 obtain⟨hz,z,ob,xs,g1,g5,g2,g3,g4⟩:=(show bD X.prog X.w H s.heap d (.dG es ep) from I.bw d _ hd);have hl:xs.size=es.length:=by have:=Paired.length g3;simpa using this.symm
 have ld:d<s.heap.objs.size:=cP g1;refine callType_codes (Q₁:=λobj s₁=>obj=.ref s.heap.objs.size/\s₁={ s with heap:=s.heap.push { cls:=.type "list",data:=.seq #[]}}) F.called_list (F.typeCall_list_1 _) F.entry_list_init (code_list_new _ ⟨rfl,rfl⟩) λobj s₁ q₁=>?_
 obtain⟨rfl,rfl⟩:=q₁;have gS:(s.heap.push { cls:=.type "list",data:=.seq #[]}).get? s.heap.objs.size=some { cls:=.type "list",data:=.seq #[]}:=iI _ rfl;refine⟨⟨_,gS,rfl⟩,F.args_list_init_2 _ _,?_⟩;show wpAny _ _ (do let old <-Builtin.List.listItems (.ref s.heap.objs.size);Builtin.List.listUpdate (.ref s.heap.objs.size) (λ_=>#[]);letGo old.toList.reverse;Builtin.List.listExtendWith (.ref s.heap.objs.size) (.ref d) .none) _ _ _
 refine ax ?_;unfold Builtin.List.listItems;refine ax (wpAny_seqItems gS rfl (aP ?_));show wpAny _ _ (updateSeq s.heap.objs.size (λ_=>#[]) >>= λ_=>letGo (#[]:Array ah).toList.reverse >>= λ_=>Builtin.List.listExtendWith (.ref s.heap.objs.size) (.ref d) .none) _ _ _
 refine ax (wpAny_updateSeq gS rfl ?_);have gT:=pU (Obj.mapSeq (λ_=>(#[]:Array ah))) gS rfl
 refine ax (wpAny_letGo ?_);have nS:∀b u,s.heap.get? b=some u->b≠s.heap.objs.size:=λb u e z=>by rw[z] at e;exact jz _ (cP e)
 have k1:∀b u,s.heap.get? b=some u->((s.heap.push { cls:=.type "list",data:=.seq #[]}).update s.heap.objs.size (Obj.mapSeq (λ_=>(#[]:Array ah)))).get? b=some u:=
  λb u e=>(nQ _ _ (Ne.symm (nS b u e))).trans (cU _ e)
 have Aj:((s.heap.push { cls:=.type "list",data:=.seq #[]}).update s.heap.objs.size (Obj.mapSeq (λ_=>(#[]:Array ah)))).objs.size=s.heap.objs.size+1:=by simp[Heap.update,Heap.push]
 generalize(s.heap.push { cls:=.type "list",data:=.seq #[]}).update s.heap.objs.size (Obj.mapSeq (λ_=>(#[]:Array ah)))=h1 at *
 have I1:Inv X aa Z H { s with heap:=h1,toks:=s.toks}:=I.kept k1;have hT1:Shared.TypeIs { s with heap:=h1} (.ref d) "dict":=⟨ob,k1 _ _ g1,g5.1⟩;unfold Builtin.List.listExtendWith;refine ax (wpAny_typeOf hT1 ?_);have ne:s.heap.objs.size≠d:=λe=>jz _ (e ▸ ld)
 have c1:Builtin.List.listSameRef (.ref s.heap.objs.size) (.ref d)=false:=by simp[Builtin.List.listSameRef,ne]
 have c2:(Value.type "dict" == Value.type "list")=false:=by decide
 have c3:(Value.type "dict" == Value.type "tuple")=false:=by decide
 simp only[c1,c2,c3,Bool.or_false,kh,fS];refine ax (NI I1 hd ?_);have JJ:Shared.TypeIs { s with heap:=h1.push { cls:=.type "dict_keyiterator",data:=.fields #[.ref d,.int 0 0,.int es.length 0,.int ep 0]}} (.ref d) "dict":=⟨ob,cU _ (k1 _ _ g1),g5.1⟩;refine ax (i5 (Sh JJ ?_));refine wpAny_ite_true (by decide +kernel) (ax (wpAny_rule (ax ?_)))
 show wpAny _ _ (updateSeq s.heap.objs.size (·.push .none) >>= λ_=>updateSeq s.heap.objs.size (·.pop)) _ _ _
 have gU:=cU { cls:=.type "dict_keyiterator",data:=.fields #[.ref d,.int 0 0,.int es.length 0,.int ep 0]} gT;refine ax (wpAny_updateSeq gU rfl ?_);have gV:=pU (Obj.mapSeq (·.push Value.none)) gU rfl
 refine wpAny_updateSeq (hz:=by seq_fits) gV rfl ?_
 have gW:=pU (Obj.mapSeq (·.pop)) gV rfl
 have gJ:(h1.push { cls:=.type "dict_keyiterator",data:=.fields #[.ref d,.int 0 0,.int es.length 0,.int ep 0]}).get? h1.objs.size=some { cls:=.type "dict_keyiterator",data:=.fields #[.ref d,.int 0 0,.int es.length 0,.int ep 0]}:=iI _ rfl;have Kw:∀b o,b≠s.heap.objs.size->(h1.push { cls:=.type "dict_keyiterator",data:=.fields #[.ref d,.int 0 0,.int es.length 0,.int ep 0]}).get? b=some o->
   (((h1.push { cls:=.type "dict_keyiterator",data:=.fields #[.ref d,.int 0 0,.int es.length 0,.int ep 0]}).update s.heap.objs.size (Obj.mapSeq (·.push Value.none))).update s.heap.objs.size (Obj.mapSeq (·.pop))).get? b=some o:=
  λb o hb e=>(nQ _ _ (Ne.symm hb)).trans ((nQ _ _ (Ne.symm hb)).trans e)
 have hJ:h1.objs.size≠s.heap.objs.size:=by rw[Aj];exact Nat.succ_ne_self _
 have dJ:d≠h1.objs.size:=gd (by rw[Aj];exact sX ld)
 have W:=(TN (P:=X.prog) (w:=X.w) (A:=A.in1.in1) (n:=es.length) (ep:=ep) hh h1.objs.size d dJ g2 hl).toS;have hSf:s.heap.objs.size∉[h1.objs.size,d]:=λm=>by
  grind
 refine aP ⟨plainId_quiet F.plain_extend_loop _,codeAny_extend_loopS W hz _ hSf _ es.length 0 _ _ _ rfl (kg _) ⟨⟨_,Kw _ _ hJ gJ,rfl,rfl⟩,Kw _ _ (Ne.symm ne) (cU _ (k1 _ _ g1))⟩ gW (ItemsOf.nil _) λs' Bf c' hm hS' t6=>?_⟩
 obtain⟨m1,m2,m3,m4,m5⟩:=hm;have es':s'={ s with heap:=s'.heap,toks:=s'.toks}:=by
  cases s'
  lia
 refine⟨rfl,hQ s' (λb u e=>m1 b u (λq=>?_) (Kw b u (nS b u e) (cU _ (k1 b u e)))) es' ⟨Bf.toList,c',?_,by simpa using hS'⟩⟩
 .rcases y0a.mp q with q|q
  .exact nS b u e q
  .rw[lW] at q;have:=cP e
   lia
 .have h2:Bf.size=es.length:=t6.1;refine OT (by simp[h2]) λj y u e1 e2=>?_
  rw[fW] at e1;obtain⟨e,e3,rfl⟩:=cW.mp e1;obtain⟨x,x1,x2⟩:=A1 j g3 e3;have h3:=t6.2 j u (by rw[<-uS];exact e2)
  have x1:xs[j]?=some x:=by rw[<-uS];exact x1
  have h3:Option.map (λx=>x.key) xs[j]?=some u:=h3
  rw[x1] at h3;cases h3;exact x2.2.1
def Rn(K:aI):List V->Hp->VK->Prop:=λxs H Q=>∃d es ep,xs=[.ref d]/\H d=some (.dG es ep)/\∀l,H l=none->Q (.ref l) (upd H l (.lst (es.map (·.2.1))))
def Sy(hc:X.calm=true):bX X (.type "list") (Rn X.K):=by
 intro aa s Z H xs us Q I r h;obtain⟨d,es,ep,rfl,hd,q⟩:=h;obtain⟨u,rfl,ru⟩:=vals1 r;cases ru;refine RV (I.ok.hd hc) I hd λs' kp es' hh=>?_
 obtain⟨aA,c,rv,g⟩:=hh;have hz:=(show bD X.prog X.w H s.heap d (.dG es ep) from I.bw d _ hd).1;rw[es'];exact⟨.ref s.heap.objs.size,_,I.laid kp (bU _) (show bD X.prog X.w _ s'.heap _ (.lst (es.map (·.2.1))) from⟨by rw[bJ];exact hz,aA,c,rv,g⟩),rfl,q _ (I.bw.fresh (bU _))⟩
end
section
variable{X:Cx}{K:aI}
def oI(r:V->List V->Hp->VK->Prop):List V->Hp->VK->Prop:=λvs H Q=>∃x xs,vs=x::xs/\r x xs H Q
def eX:List D->aj (List Str)
 |[]=>some []
 |.str x::ds=>(eX ds).map λxs=>x::xs
 |_=>none
theorem Ng:∀xs:List Str,eX (xs.map .str)=some xs
 |[]=>rfl
 |i::is=>by rw[cR];show(eX (is.map .str)).map _=_;rw[Ng is];rfl
theorem HP:∀{ds:List D} {xs:List Str},eX ds=some xs->ds=xs.map .str
 |[],xs,e=>by cases e;rfl
 |d::ds,xs,e=>by
  cases d with
  |str i=>
   obtain⟨js,e1,e2⟩:=cW.mp (show(eX ds).map _=some xs from e);rw[<-e2,HP e1];rfl
  |_=>cases e
theorem Hs{F:Kn}:∀{ws:List V} {xs:List Str},ag K F ws (xs.map .str)->ws=xs.map .str
 |[],[],_=>rfl
 |[],_::_,h=>by have:=h.length;simp at this
 |_::_,[],h=>by have:=h.length;simp at this
 |w::ws,i::is,h=>by
  rw[cR] at h;have h1:=h.inv.1;have h2:=Hs h.inv.2;rw[h2,cR];cases h1 with
  |flat e _=>cases e;rfl
theorem Hy:∀{xs:List Str} {aA:List ah},Vals (xs.map V.str) aA->∃ps:List (Str×Tok),aA=ps.map (λp=>Value.str p.1 p.2)/\ps.map (·.1)=xs
 |[],aA,h=>by
  rw[DH] at h;cases h;exact⟨[],rfl,rfl⟩
 |i::is,aA,h=>by
  rw[cR] at h;cases h with
  |cons r t=>
   obtain⟨ps,e1,e2⟩:=Hy t;obtain⟨tk,rfl⟩:=r;exact⟨(i,tk)::ps,by rw[e1];rfl,by rw[cR,e2]⟩
end
section
variable{X:Cx}{K:aI}
def gL:List D->aj (List Bool)
 |[]=>some []
 |.bl b::ds=>(gL ds).map λbs=>b::bs
 |_=>none
theorem MM:∀{ds:List D} {bs:List Bool},gL ds=some bs->ds=bs.map .bl
 |[],bs,e=>by cases e;rfl
 |d::ds,bs,e=>by
  cases d with
  |bl i=>
   obtain⟨js,e1,e2⟩:=cW.mp (show(gL ds).map _=some bs from e);rw[<-e2,MM e1];rfl
  |_=>cases e
theorem MN{F:Kn}:∀{ws:List V} {bs:List Bool},ag K F ws (bs.map .bl)->ws=bs.map .bl
 |[],[],_=>rfl
 |[],_::_,h=>by have:=h.length;simp at this
 |_::_,[],h=>by have:=h.length;simp at this
 |w::ws,i::is,h=>by
  rw[cR] at h;have h1:=h.inv.1;have h2:=MN h.inv.2;rw[h2,cR];cases h1 with
  |flat e _=>cases e;rfl
def TQ(K:aI)(hc:X.calm=true:=by rfl)(hK:X.K=K:=by rfl):bX X (.builtin "all") (λxs H Q=>∃(a:ai) (bs:List Bool),xs=[.ref a]/\cT K H a (bs.map V.bl)/\Q (.bl (bs.all id)) H):=hK ▸ Tg hc
noncomputable def zU(z:Str):ah->Bool
 |.str y _=>y == z
 |_=>false
def PX(K:aI):V->List V->Hp->VK->Prop:=λx xs H Q=>∃(a:ai) (ys:List Str) (z:Str) (j:Nat),x=.ref a/\xs=[.str z]/\cT K H a (ys.map V.str)/\ys[j]?=some z/\(∀i y,i<j->ys[i]?=some y->y≠z)/\Q (.int (j:Nat)) H
theorem U5(K:aI)(hK:X.K=K:=by rfl):zf X "list.index" (PX K):=by
 subst hK;intro aa s Z H x xs v us Q I rx rs h;obtain⟨a,ys,z,j,rfl,rfl,hq,hj,fU,q⟩:=h;cases rx;obtain⟨u,rfl,ru⟩:=vals1 rs;obtain⟨t,rfl⟩:=ru;obtain⟨aA,rv,p,hz⟩:=I.list hq;obtain⟨ps,e1,e2⟩:=Hy rv;subst e1;obtain⟨ob,n,eo,pD,hdi,hda⟩:=p;have hlen:ps.length=ys.length:=by rw[<-e2,bJ]
 have hjl:j<ys.length:=(eU.mp hj).1;have hit:∀i (hi:i<ps.length),(ps.map λp=>Value.str p.1 p.2)[i]?=some (Value.str ps[i].1 ps[i].2):=λi hi=>by simp[hi]
 have F1:∀i (hi:i<ps.length),ys[i]?=some ps[i].1:=λi hi=>by rw[<-e2];simp[hi]
 have hsz:(ps.map λp=>Value.str p.1 p.2).toArray.size=ps.length:=by simp
 have JT:ps[j].1=z:=by
  simp_all
 obtain⟨cl,di,da,sl⟩:=ob;cases pD;cases hda;have F2:ys.length<=16777216:=by rw[bJ,sizeLine_eq] at hz;exact hz
 refine call_meets F.slot_list_index ⟨_,eo,rfl⟩ F.entry_list_index (F.args_list_index_2 _ _) (SeqAt.list_indexAt a _ n di sl (.str z t) (zU z) j (by rw[hsz];lia) (by lia) ?_ ?_) ⟨eo,?_,?_⟩
 .simp[zU,JT]
 .intro i hi oo;rw[hsz] at hi;have:=fU i _ oo (F1 i hi);simp[zU];exact this
 .intro y hy;simp at hy;obtain⟨b,t',_,rfl⟩:=hy;exact SeqAt.EqAt.str_str b t' z t
 .exact⟨.int (j:Nat),H,I.tok _,⟨_,rfl⟩,q⟩
def findS(ys:List Str)(z:Str):aj Nat:=ys.findIdx? (· == z)
def AX{ys:List Str}{z:Str}{j:Nat}(e:findS ys z=some j):ys[j]?=some z/\∀i y,i<j->ys[i]?=some y->y≠z:=by
 unfold findS at e;rw[List.findIdx?_eq_some_iff_getElem] at e;obtain⟨h,h1,h2⟩:=e;refine⟨by rw[gz h];congr 1;exact eq_of_beq h1,λi y hi ey=>?_⟩
 have:=h2 i hi;obtain⟨hl,e3⟩:=eU.mp ey;rw[e3] at this;intro z';subst z';simp at this
end
section
variable{X:Cx}{K:aI}
def OU:V->List V->Hp->VK->Prop:=λx xs H Q=>∃(l:ai) (ys:List Str) (z:Str) (j:Nat),x=.ref l/\xs=[.str z]/\H l=some (.lst (ys.map V.str))/\ys[j]?=some z/\(∀i y,i<j->ys[i]?=some y->y≠z)/\Q .aJ (upd H l (.lst ((ys.eraseIdx j).map V.str)))
theorem EB{α β:Type}(f:α->β):∀(xs:List α) (j:Nat),(xs.map f).eraseIdx j=(xs.eraseIdx j).map f
 |[],j=>by simp
 |_::_,0=>rfl
 |x::xs,j+1=>by show f x::(xs.map f).eraseIdx j=f x::(xs.eraseIdx j).map f;rw[EB f xs j]
theorem Mc:∀{ps:List (Str×Tok)},Vals ((ps.map (·.1)).map V.str) (ps.map λp=>Value.str p.1 p.2)
 |[]=>.nil
 |p::ps=>.cons ⟨p.2,rfl⟩ Mc
theorem TR:zf X "list.remove" OU:=by
 intro aa s Z H x xs v us Q I rx rs h;obtain⟨l,ys,z,j,rfl,rfl,hH,hj,fU,q⟩:=h;cases rx;obtain⟨u,rfl,ru⟩:=vals1 rs;obtain⟨t,rfl⟩:=ru;obtain⟨hz,aA,n,rv,hl,eo⟩:=I.yo hH;obtain⟨ps,e1,e2⟩:=Hy rv;subst e1;have hlen:ps.length=ys.length:=by rw[<-e2,bJ]
 have hjl:j<ys.length:=(eU.mp hj).1;have F1:∀i (hi:i<ps.length),ys[i]?=some ps[i].1:=λi hi=>by rw[<-e2];simp[hi]
 have hsz:(ps.map λp=>Value.str p.1 p.2).toArray.size=ps.length:=by simp
 have JT:ps[j].1=z:=by
  have:=F1 j (by lia)
  rw[hj] at this;exact(Option.some.inj this).symm
 refine call_meets F.slot_list_remove ⟨_,eo,rfl⟩ F.entry_list_remove (F.args_list_remove_2 _ _) (MeetsSeq.list_remove l _ n (.str z t) (zU z) ?_ j (by rw[hsz];lia) ?_ ?_ (by rw[hsz,hlen];simpa using hz)) ⟨eo,?_⟩
 .intro y hy;simp at hy;obtain⟨b,t',_,rfl⟩:=hy;show MeetsSeq.EqGives _ _ (b == z);rw[<-SeqAt.str_beq];exact SeqRoads2.EqGives.str b z t' t
 .simp[zU,JT]
 .intro i hi oo;rw[hsz] at hi;have:=fU i _ oo (F1 i hi);simp[zU];exact this
 .refine⟨.aJ,_,I.ym (its':=(ps.eraseIdx j).map λp=>Value.str p.1 p.2) hH eo ?_ ?_ ?_,rfl,q⟩
  .apply Array.toList_inj.mp;simp[Array.toList_eraseIdxIfInBounds,EB]
  .rw[<-e2,EB];exact Mc
  .rw[bJ];have:=List.length_eraseIdx_le ys j;rw[bJ] at hz;lia
end
end L2
namespace L2
open PySem PySem.Spec PySem.W PyProof.Rows
def U6{P:cX}{w:cA}{xs:List DictEntry}{kvs:List (Str×ah)}(p:Pairs (strKind P w) xs kvs):∀{es:List (TK×V×V)},(∀x∈xs,∃k,(strKind P w).is k x.key=true/\x.hash=(strKind P w).hash k)->kvs.map (λp=>TK.inr p.1)=es.map (·.1)->Vals (es.map (·.2.2)) (kvs.map (·.2))->ig es->Paired (iJ w) es xs:=by
 induction p with
 |nil=>
  intro es _ e _ _;cases es with
  |nil=>exact .nil
  |cons _ _=>cases e
 |@cons x kv xs kvs h1 h2 _ ih=>
  intro es hk e v t;cases es with
  |nil=>cases e
  |cons a es=>
   rw[cR,cR,List.cons.injEq] at e;cases v with
   |cons v1 v2=>
    refine .cons ?_ (ih (λy m=>hk y (.tail _ m)) e.2 v2 λy m=>t y (.tail _ m))
    obtain⟨k,k1,k2⟩:=hk x (.head _);obtain⟨z,t1,t2⟩:=t a (.head _);have i1:Value.isStrOf kv.1 x.key=true:=h1;have i2:Value.isStrOf k x.key=true:=k1;cases hx:x.key with
    |str s tk=>
     rw[hx] at i1 i2;have j1:s=kv.1:=by simpa[Value.isStrOf] using i1
     have j2:s=k:=by simpa[Value.isStrOf] using i2
     have j3:kv.1=z:=by
      lia
     refine⟨?_,?_,by rw[h2];exact v1,by rw[t1];rfl⟩
     .rw[k2,t1,<-j2,j1,j3];rfl
     .rw[t2,hx,j1,j3];exact⟨tk,rfl⟩
    |_=>rw[hx] at i1;cases i1
noncomputable def iB(z:Str)(k:TK):Bool:=decide (k≠.inr z)
theorem OV(z:Str):∀{es:List (TK×V×V)} {kvs:List (Str×ah)},kvs.map (λp=>TK.inr p.1)=es.map (·.1)->Vals (es.map (·.2.2)) (kvs.map (·.2))->(without kvs z).map (λp=>TK.inr p.1)=(es.filter λe=>iB z e.1).map (·.1)/\Vals ((es.filter λe=>iB z e.1).map (·.2.2)) ((without kvs z).map (·.2))
 |[],[],_,_=>⟨rfl,.nil⟩
 |[],_::_,e,_=>by cases e
 |_::_,[],e,_=>by cases e
 |a::es,kv::kvs,e,v=>by
  rw[cR,cR,List.cons.injEq] at e;cases v with
  |cons v1 v2=>
   obtain⟨i1,i2⟩:=OV z e.2 v2;unfold without at *;by_cases h:kv.1=z
   .grind [iB]
   .have h':iB z a.1=true:=by unfold iB;rw[<-e.1];simpa using h
    rw[DI,DI,bL (by simpa using h),bL h']
    exact⟨by rw[cR,cR,i1,e.1],.cons v1 i2⟩
theorem PY(z:Str){v:V}:∀{es:List (TK×V×V)} {kvs:List (Str×ah)},kvs.map (λp=>TK.inr p.1)=es.map (·.1)->Vals (es.map (·.2.2)) (kvs.map (·.2))->jl es (.inr z)=some v->∃u,valueAt kvs z=some u/\RelV v u
 |[],[],_,_,h=>by cases h
 |[],_::_,e,_,_=>by cases e
 |_::_,[],e,_,_=>by cases e
 |a::es,kv::kvs,e,vs,h=>by
  rw[cR,cR,List.cons.injEq] at e;cases vs with
  |cons v1 v2=>
   unfold jl at h;unfold valueAt;rw[Av] at h ⊢;by_cases g:kv.1=z
   .simp_all
   .have g':¬a.1=.inr z:=by rw[<-e.1];intro x;cases x;exact g rfl
    rw[pV g'] at h;rw[pV g];exact PY z e.2 v2 h
def vQ(K:aI):V->List V->Hp->VK->Prop:=λx vs H Q=>∃d es ep z v,x=.ref d/\vs=[.str z]/\H d=some (.dG es ep)/\ig es/\jl es (.inr z)=some v/\∀kP,Q v (upd H d (.dG (es.filter λe=>iB z e.1) kP))
def W7{X:Cx}(K:aI):zf X "dict.pop" (vQ K):=by
 intro aa s Z H x xs v us Q I rx rs h;obtain⟨d,es,ep,z,v',rfl,rfl,hd,ht,hv,q⟩:=h;cases rx;obtain⟨u,rfl,ru⟩:=rs.one;obtain⟨tk,rfl⟩:=ru;obtain⟨kvs,D1,D2,D3,D4,lo⟩:=zJ I hd ht;obtain⟨w,hw,lQ⟩:=PY z D3 D2 hv;refine call_meetsIn PySem.F.slot_dict_pop (E4 I hd).1 PySem.F.entry_dict_pop (PySem.F.args_dict_pop_2 _ _) (meets_dict_pop_there (strKind X.prog X.w) d (k:=z) (by show Value.isStrOf z (.str z tk)=true;simp[Value.isStrOf]) [] (.inl rfl) (by rfl)) ⟨kvs,w,D1.dictOf,D4,hw,λh' hD hs=>?_⟩
 obtain⟨o,xs,kP,g1,g2,g3,g4,g5,g6⟩:=hD;obtain⟨f1,f2⟩:=OV z D3 D2;obtain⟨hz,_⟩:=(show bD X.prog X.w H s.heap d (.dG es ep) from I.bw d _ hd);refine⟨v',_,Iz (ob:=.dG (es.filter λe=>iB z e.1) kP) I (by rw[hd];exact sg) hs ⟨_,g1⟩ ⟨?_,lo,o,xs,g1,g2,g3,U6 g5 (λx m=>g4 x (LA.mp m)) f1 f2 λe m=>ht e (sU.mp m).1,?_⟩,lQ,q kP⟩
 .exact iU (v9 _ _) hz
 .rw[<-f1,show(λp:Str×ah=>TK.inr p.1)=TK.inr∘(·.1) from rfl,<-fR]
  exact List.Pairwise.map _ (λa b ne z=>ne (by cases z;rfl)) g6
end L2
namespace L2
open PySem PySem.Spec PyProof.Rows
section
variable{X:Cx}{K:aI}
def vM(K:aI):V->List V->Hp->VK->Prop:=λx xs H Q=>∃a y o,x=.ref a/\xs=[y]/\gE K H a y o/\Q (o.getD .aJ) H
def W8(K:aI)(hu:X.A.units+41<cLine)(hK:X.K=K:=by rfl):zf X "dict.get" (vM K):=by
 subst hK;intro aa s Z H x xs v us Q I r rs h;obtain⟨a,y,o,rfl,rfl,g,q⟩:=h;obtain⟨u,rfl,ru⟩:=Vals.one rs;cases r;exact Zo (by lia) I g ru λw' s' I' lQ=>⟨o.getD .aJ,H,I',lQ,q⟩
end
end L2
namespace L2
open PySem PySem.Spec PySem.W PyProof.Rows
section
variable{X:Cx}{A:cK}{E:ah->ao->Prop}{aa:List (ai×Obj)}{Z:St}{H:Hp}{s:ao}{d:ai}{y v2:V}{u r:ah}
end
section
variable{X:Cx}{K:aI}
end
end L2
namespace L2
open PySem PySem.Spec PyProof.Rows
def H9{P:cX}{w:cA}{H:Hp}(h:bS)(hb:sysModules<h.objs.size):bD P w H (h.push { cls:=.type "dict",data:=.dict #[]}) h.objs.size (.dG [] 0):=
 ⟨kg _,m7.mpr (Ne.symm (gd hb)),_,#[],iI _ rfl,⟨rfl,rfl,rfl⟩,rfl,.nil,GC⟩
def ZD:TE:=λ_ H Q=>∀p,H p=none->Q (.ref p) (upd H p (.dG [] 0))
end L2
namespace L2
open PySem PySem.Spec PySem.W PyProof.Rows
variable{H:Hp}{ps:List (TK×V×V)}{A:cK}{l:ai}{ys:List V}{E:ah->ao->Prop}{s:ao}
def L4:entryFor table "dict.update.loop"=some Builtin.«dict.update.loop»:=entryFor_of_tree (by kernel_rfl)
def DY:plainId "dict.update.loop"=true:=by decide +kernel
def eO(es:List (TK×V×V))(ps:List (TK×V×V)):List (TK×V×V):=ps.foldl (λes p=>dh es p.1 p.2.1 p.2.2) es
def EL{d:ai}{o:HO}(h:H d=none):az H (upd H d o):=λb u e=>by
 grind [c_]
section
variable{X:Cx}{aa:List (ai×Obj)}{Z:St}{H:Hp}
structure jm (K:aI) (H:Hp) (ys:List V) (ps:List (TK×V×V)):Prop where
 len:ys.length=ps.length
 item:∀(i:Nat) p,ps[i]?=some p->∃a,ys[i]?=some (.ref a)/\ie K H a [p.2.1,p.2.2]/\aV K H [p.2.1] [p.1.d]/\p.1.ok 8=true
def Sz(es ps:List (TK×V×V)):(eO es ps).length<=es.length+ps.length:=by
 induction ps generalizing es with
 |nil=>exact bU _
 |cons p ps ih=>
  grind [Eh,eO]
def MO(K:aI)(h:∀p∈ps,aV K H [p.2.1] [p.1.d]):∀{es:List (TK×V×V)},aV K H (es.map (·.2.1)) (es.map (·.1.d))->aV K H ((eO es ps).map (·.2.1)) ((eO es ps).map (·.1.d)):=by
 induction ps with
 |nil=>exact λr=>r
 |cons p ps ih=>
  intro es r;refine ih (λq m=>h q (.tail _ m)) ?_
  have hp:=h p (.head _);clear ih h
  induction es with
  |nil=>exact hp
  |cons e es ih=>
   obtain⟨r1,r2⟩:=ag.inv r;show aV K H ((if e.1=p.1 then(e.1,e.2.1,p.2.2)::es else e::dh es p.1 p.2.1 p.2.2).map (·.2.1)) ((if e.1=p.1 then(e.1,e.2.1,p.2.2)::es else e::dh es p.1 p.2.1 p.2.2).map (·.1.d))
   split
   .exact .cons r1 r2
   .exact .cons r1 (ih r2)
def SA{R:Result->ao->Prop}{d J:ai}(hd:H d=none)(hl:cT X.K H l ys)(hp:jm X.K H ys ps)(hh:A.handled=none)(hu:A.units+12<cLine)(hn:ps.length<1000)
  (hJ:∀u,iN X aa (upd H d u) J)
  (fin:∀s ep,Inv X aa Z (upd H d (.dG (eO [] ps) ep)) s->R (.ok (.ret .none)) s) :
  ∀(n i:Nat) (ep:Nat) (s:ao) (tk:Tok),ps.length - i=n->i<=ps.length->Inv X aa Z (upd H d (.dG (eO [] (ps.take i)) ep)) s->s.heap.IsListIter J l i->codeAny (model X.prog X.w) A (.builtin "dict.update.loop" ⟨[.ref d,.ref J,.int (i:Int) tk,.none],[]⟩) R s:=by
 intro n
 induction n with
 |zero=>
  intro i ep s tk hi hi2 I it;have e:i=ps.length:=by lia
  subst e;refine codeAny_builtin L4 ?_;rw[Around.under_plainId DY _];show wpAny _ A.in1 (pyNext (.ref J) >>= _) _ _ s;have kD:=(EL (o:=.dG (eO [] (ps.take ps.length)) ep) hd).seq hl;obtain⟨aA,rv,p,hz⟩:=I.list kD;obtain⟨f0,f1,f2,f3,f4,f5⟩:=hJ (.dG (eO [] (ps.take ps.length)) ep);have hlen:=rv.length;have B9:=hp.len;refine ax (wpAny_pyNext_list_end hh it p.isList (by simp;lia) λh' eb=>?_)
  have I1:=I.turned (t':=s.toks) (λb o hb e=>eb b o hb e) f0 f1 f3 f4 f5
  rw[List.take_length] at I1;exact ax (aP (aP (fin _ ep I1)))
 |succ n ih=>
  intro i ep s tk hi hi2 I it;have lt:i<ps.length:=by lia
  obtain⟨a,ya,sq,rk,ok⟩:=hp.item i ps[i] (gz lt);refine codeAny_builtin L4 ?_;rw[Around.under_plainId DY _];show wpAny _ A.in1 (pyNext (.ref J) >>= _) _ _ s;have sm:=EL (o:=.dG (eO [] (ps.take i)) ep) hd;obtain⟨aA,rv,p,hz⟩:=I.list (sm.seq hl);obtain⟨u,hu1,ru⟩:=rv.get ya;obtain rfl:u=Value.ref a:=ru;obtain⟨f0,f1,f2,f3,f4,f5⟩:=hJ (.dG (eO [] (ps.take i)) ep);refine ax (wpAny_pyNext_list_item it p.isList (x:=.ref a) (by simpa using hu1) λh' vC sb=>?_)
  have I1:Inv X aa Z (upd H d (.dG (eO [] (ps.take i)) ep)) { s with heap:=h'}:=I.turned (t':=s.toks) (λb o hb e=>(sb.2 b hb).trans e) f0 f1 f3 f4 f5
  obtain⟨iy,Gf,tp,_⟩:=I1.tuple (sm.yQ sq);obtain⟨w1,w2,rfl,r1,r2⟩:∃w1 w2,iy=[w1,w2]/\RelV ps[i].2.1 w1/\RelV ps[i].2.2 w2:=by
   cases Gf with
   |cons r1 t=>
    cases t with
    |cons r2 t=>cases t;exact⟨_,_,rfl,r1,r2⟩
  obtain⟨o,ho,hc,n0,t8⟩:∃o,h'.get? a=some o/\o.cls=.type "tuple"/\∃n,o.data=.seq #[w1,w2] n:=by
   obtain⟨o,h1,h2,h3⟩:=tp;exact⟨o,h1,h2,h3⟩
  have hT:({ s with heap:=h'}:ao).TypeIs (.ref a) "tuple":=⟨o,ho,hc⟩;refine ax (i5 (ax (wpAny_tryCatch ?_)));unfold Builtin.Dict.pairItems;refine ax (wpAny_typeOf hT ?_);rw[bL (by decide)]
  refine ax (m:=seqItems? (.ref a)) (ax (wpAny_load ho ?_));rw[t8];refine aP (aP ?_);show wpAny _ _ (holding [w1,w2] (dictSet d w1 w2)) _ _ _;refine i5 ?_;have I2:=I1.pinned (fp:=[J]) (λb hb=>by rw[lW.mp hb];exact hJ _) (λb hb=>by
   rw[lW.mp hb];obtain⟨oj,ej,_,dj⟩:=vC
   simp_all)
  have tk1:ps.take (i+1)=ps.take i++[ps[i]]:=(List.take_append_getElem lt).symm;have hpa:dh (eO [] (ps.take i)) ps[i].1 ps[i].2.1 ps[i].2.2=eO [] (ps.take (i+1)):=by rw[tk1];unfold eO;rw[LK];rfl
  have hlen:=Sz [] (ps.take i);rw[v5,Aq] at hlen;refine HN (H':=upd (upd H d (.dG (eO [] (ps.take i)) ep)) d (.dG (eO [] (ps.take (i+1))) (pL (eO [] (ps.take i)) ps[i].1 ep))) (show A.in1.units+8<cLine from ?_) I2 ⟨_,ep,ps[i].1,aH,?_,(ag.Gq rk sm),ok,?_,by rw[hpa]⟩ r1 r2 λs' I3=>?_
  .lia
  .exact ag.Gq (H:=H) (MO X.K (λq m=>by
    obtain⟨j,hj⟩:=yY.mp (List.mem_of_mem_take m);obtain⟨_,_,_,r,_⟩:=hp.item j q hj;exact r) .nil) sm
  .exact fy (by lia:(eO [] (ps.take i)).length<1000000) (by decide)
  .have eu:upd (upd H d (.dG (eO [] (ps.take i)) ep)) d (.dG (eO [] (ps.take (i+1))) (pL (eO [] (ps.take i)) ps[i].1 ep))=upd H d (.dG (eO [] (ps.take (i+1))) (pL (eO [] (ps.take i)) ps[i].1 ep)):=by
    funext b;unfold upd;split <;> rfl
   rw[eu] at I3;obtain⟨oj,ej,cj,dj⟩:=id vC;have ej':s'.heap.get? J=some oj:=(I3.pin (J,oj) (mZ _ (mZ _ (AW (by simp) ej)))).1
   refine aP ⟨plainId_quiet DY _,?_⟩;exact ih (i+1) _ s' _ (by lia) lt I3.eI ⟨oj,ej',cj,dj⟩
theorem TU{aA:Array ah}{Q:aj ah->ao->Prop}(pl:PlainL s.heap l aA)(hA:A.handled=none)
  (h:∀h' tk,(∀b u,s.heap.get? b=some u->h'.get? b=some u)->Q none { s with heap:=h',toks:=tk}):wpAny (model X.prog X.w) A (getAttr? (.ref l) "keys") Q E s:=by
 obtain⟨o,n,hx,hc,hd,t8⟩:=pl;obtain⟨c,ay,dat,sl⟩:=o;simp only at hc t8 hd;subst hc t8 hd;obtain⟨hp,g,d,tk,os⟩:=s;have hT:∀RC,(⟨hp,g,d,RC,os⟩:ao).TypeIs (.ref l) "list":=λ_=>⟨_,hx,rfl⟩
 have f1:=sub_AttributeError;have f3:=F.slot_list_getattribute.lookup;have f4:=F.slot_list_getattribute.bind (.ref l);have f5:=am_list_getattr_none;unfold getAttr? getAttrBy? getAttrBy
 repeat (any_goals (first|assumption|exact hT _|((with_reducible show wpAny _ _ (call (Value.builtin "list.__getattribute__") _ _) _ _ _);refine call_meets F.slot_list_getattribute (hT _) am_entry_list_getattribute (F.args_list_getattribute_2 _ _) (meets_getattribute_miss_list l aA n sl "keys" _ (by rw[typeLookup_type,builtinLookup_eq_fast];kernel_rfl) (by decide) (by size_fits)) ⟨hx,hA,λh' RC e sO=>?_⟩)|wp_step))
 obtain⟨t',u',he⟩:=sO.there;show wpAny _ _ (getattributeRaised _ _ _ _ _ _ _) _ _ _;unfold getattributeRaised
 repeat (any_goals (first|assumption|wp_step))
 exact h _ _ sO.keeps
theorem RU{Q:ah->ao->Prop}(I:Inv X aa Z H s)(hl:cT X.K H l ys)(hp:jm X.K H ys ps)(hh:A.handled=none)(hu:A.units+20<cLine)(hn:ps.length<1000)
  (q:∀s' ep,Inv X aa Z (upd H s.heap.objs.size (.dG (eO [] ps) ep)) s'->Q (.ref s.heap.objs.size) s'):wpAny (model X.prog X.w) A (call (.type "dict") [.ref l]) Q E s:=by
 refine callType_codes (Q₁:=λobj s₁=>obj=.ref s.heap.objs.size/\s₁={ s with heap:=s.heap.push { cls:=.type "dict",data:=.dict #[]}}) F.kt_called_dict (F.kt_typeCall_dict_1 _) F.entry_dict_init (kt_code_dict_new _ ⟨rfl,rfl⟩) ?_
 rintro obj s₁ ⟨rfl,rfl⟩;have hd:H s.heap.objs.size=none:=I.bw.fresh (bU _);have I1:=I.laid (a:=s.heap.objs.size) (o:=.dG [] 0) (h':=s.heap.push { cls:=.type "dict",data:=.dict #[]}) (t':=s.toks) (λ_ _ q=>cU _ q) (bU _) (H9 s.heap I.big)
 generalize s.heap.objs.size=d at *;generalize s.heap.push { cls:=.type "dict",data:=.dict #[]}=J5 at *;have hT:=(E4 I1 aH).1;obtain⟨aA,rv,pl,hz⟩:=I1.list ((EL hd).seq hl);have hTl:({ s with heap:=J5,toks:=s.toks}:ao).TypeIs (.ref l) "list":=by
  obtain⟨o,n,h1,h2,_⟩:=pl;exact⟨o,h1,h2⟩
 refine⟨hT,F.args_dict_init_2 _ _,?_⟩;unfold Builtin.«dict.__init__»;refine ax ?_;unfold Builtin.Dict.selfAndRest;refine ax (wpAny_notOrdered_dict hT ?_);show wpAny _ _ (pure (d,[Value.ref l])) _ _ _;refine aP ?_;show wpAny _ _ (Builtin.Dict.updateFrom "dict.__init__" d (.ref l) [] .none) _ _ _;unfold Builtin.Dict.updateFrom;refine ax (wpAny_typeOf hTl ?_);rw[bL (by decide)]
 refine ax (TU (X:=X) pl (show A.in1.in1.handled=none from hh) λh' tk kp=>?_)
 have I2:Inv X aa Z (upd H d (.dG [] 0)) { s with heap:=h',toks:=tk}:=I1.kept (t':=tk) kp;obtain⟨iy,Gf,KJ,_⟩:=I2.list ((EL hd).seq hl);show wpAny _ _ (rule _ >>= _) _ _ _;refine ax (wpAny_rule ?_);refine ax (wpAny_pyIter_list KJ.isList ?_);have I3:=I2.kept (h':=h'.push { cls:=.type "list_iterator",data:=.fields #[.ref l,.int 0 0]}) (t':=tk) (λ_ _ e=>cU _ e)
 have Qu:d<h'.objs.size:=by
  obtain⟨_,_,o,xs,g1,_⟩:=(show bD X.prog X.w _ h' d (.dG [] 0) from I2.bw d _ aH);exact cP g1
 refine aP ⟨plainId_quiet DY _,?_⟩;refine SA (A:=A.in1) (J:=h'.objs.size) hd hl hp hh (show A.units+1+12<cLine by lia) hn (λu=>I2.kA (bU _) ?_) (λs' ep I4=>⟨rfl,q s' ep I4⟩) ps.length 0 0 _ _ rfl (kg _) I3 ⟨_,iI _ rfl,rfl,rfl⟩
 rw[c_ (vZ Qu)];have:=I2.bw.fresh (bU _)
 rwa[c_ (vZ Qu)] at this
def PZ(K:aI):List V->Hp->VK->Prop:=λvs H Q=>∃a ys ps,vs=[.ref a]/\cT K H a ys/\jm K H ys ps/\ps.length<1000/\∀p ep,H p=none->Q (.ref p) (upd H p (.dG (eO [] ps) ep))
def SD(K:aI)(hu:X.A.units+41<cLine)(hc:X.calm=true:=by rfl)(hK:X.K=K:=by rfl):bX X (.type "dict") (PZ K):=by
 subst hK;intro aa s Z H xs us Q I r h;obtain⟨a,ys,ps,rfl,hl,hp,hn,q⟩:=h;obtain⟨u,rfl,ru⟩:=vals1 r;cases ru;exact RU I hl hp (I.ok.hd hc) (by lia) hn λs' ep I'=>⟨.ref s.heap.objs.size,_,I',rfl,q _ ep (I.bw.fresh (bU _))⟩
end
end L2
namespace L2
open PySem PySem.Spec PySem.W PySem.Calls PyProof.Rows
section
variable{prog:cX}{w:cA}{A:cK}{E:ah->ao->Prop}{s:ao}
def P1{vs:List ah}(h:vs.length<2):(arrOf (SortSt.mk' general' (vs.toArray.zip vs.toArray) #[] 7 none)).map (·.2)=vs.toArray:=by
 grind
def SE{a:ai}{vs:List ah}{n:Nat}{P:Fin->ao->Prop}(ho:s.heap.get? a=some (seqObj "list" vs.toArray n))(h1:vs.length<2)
  (h:P (.done (.ret .none)) { s with heap:=sortedHeap s.heap a vs vs.toArray}):wpAny (model prog w) A (Builtin.«list.sort» ⟨[.ref a],[]⟩) P E s:=by
 rw[list_sort_plain];have ha:a<s.heap.objs.size:=cP ho;have hz:vs.length<=sizeLine:=by rw[sizeLine_eq];lia
 refine ax (listItems_at ho rfl ?_);refine ax (listUpdate_at ho rfl ?_ (by rw[dH];exact hz) (kg _))
 obtain⟨e1,yb⟩:∃e1,(s.heap.update a (Obj.mapSeq λ_=>#[])).get? a=some (seqObj "list" #[] e1):=⟨_,get?_update_seq ho (λ_=>#[])⟩
 refine ax (seqEpoch_at yb rfl ?_);refine ax (wpAny_newTuple ?_ (by show vs.length<=_;exact hz))
 refine ax (wpAny_newList ?_ (kg _));refine i5 ?_;have yd:(((s.heap.update a (Obj.mapSeq λ_=>#[])).push (seqObj "tuple" vs.toArray 0)).push (seqObj "list" #[] 0)).get? a=some (seqObj "list" #[] e1):=by
  rw[DL _ _ _ (by rw[size_push',LL];exact gd (sX ha)),DL _ _ _ (by rw[LL];exact gd ha)]
  exact yb
 show wpAny (model prog w) A _ P E { s with heap:=((s.heap.update a (Obj.mapSeq λ_=>#[])).push (seqObj "tuple" vs.toArray 0)).push (seqObj "list" #[] 0)}
 dsimp only;have h2:vs.toArray.size<2:=by simpa using h1
 rw[bL h2,bL h2];refine ax (aP ?_);rw[StateT.run_pure];refine ax (aP ?_);dsimp only;refine ax (seqEpoch_at yd rfl ?_);refine ax (listUpdate_at yd rfl ?_ (kg _) (by rw[P1 h1,dH];first|exact hz|exact LM hz))
 simp only[bne_self_eq_false,kh,fS];rw[P1 h1];exact aP h
def U7{vs:List ah}{h0:bS}{Q:ah->ao->Prop}(h1:vs.length<2)(h:∀h' c,(∀b o,h0.get? b=some o->h'.get? b=some o)->h'.get? h0.objs.size=some (seqObj "list" vs.toArray c)->Q (.ref h0.objs.size) { s with heap:=h'}):
  wpAny (model prog w) A (call (.builtin "list.sort") [.ref h0.objs.size]) (λ_ s'=>Q (.ref h0.objs.size) s') E { s with heap:=h0.push (seqObj "list" vs.toArray 0)}:=by
 have ho:(h0.push (seqObj "list" vs.toArray 0)).get? h0.objs.size=some (seqObj "list" vs.toArray 0):=iI _ rfl;refine wpAny_call_entry slot_list_sort ⟨_,ho,rfl⟩ entry_list_sort ?_ (args_list_sort _);refine SE (s:={ s with heap:=h0.push (seqObj "list" vs.toArray 0)}) ho h1 ⟨_,rfl,?_⟩;have lt:h0.objs.size<(h0.push (seqObj "list" vs.toArray 0)).objs.size:=cP ho;obtain⟨e1,yb⟩:∃e1,((h0.push (seqObj "list" vs.toArray 0)).update h0.objs.size (Obj.mapSeq λ_=>#[])).get? h0.objs.size=some (seqObj "list" #[] e1):=⟨_,get?_update_seq ho (λ_=>#[])⟩
 have yd:((((h0.push (seqObj "list" vs.toArray 0)).update h0.objs.size (Obj.mapSeq λ_=>#[])).push (seqObj "tuple" vs.toArray 0)).push (seqObj "list" #[] 0)).get? h0.objs.size=some (seqObj "list" #[] e1):=cU _ (cU _ yb)
 have ho7:=get?_update_seq yd (λ_=>vs.toArray)
 refine h _ _ (λb o e=>?_) ho7
 have nb:b≠h0.objs.size:=gd (cP e);unfold sortedHeap;rw[GD _ _ _ _ nb];refine cU _ (cU _ ?_);rw[GD _ _ _ _ nb];exact cU _ e
def TV{P:List ah->Prop}{r:ai}{Q:ah->ao->Prop}(h1:∀vs,P vs->vs.length<2)(hc:∀R:List ah->ao->Prop,(∀vs (h':bS) (tk:Nat),P vs->(∀b o,s.heap.get? b=some o->h'.get? b=some o)->R vs { s with heap:=h',toks:=tk})->wpAny (model prog w) A.in1 (collect (.ref r)) R E s)
  (h:∀vs (h0:bS) (tk:Nat),P vs->(∀b o,s.heap.get? b=some o->h0.get? b=some o)->∀(h':bS) (c:Nat),(∀b o,h0.get? b=some o->h'.get? b=some o)->h'.get? h0.objs.size=some (seqObj "list" vs.toArray c)->Q (.ref h0.objs.size) { s with heap:=h',toks:=tk}):wpAny (model prog w) A (call (.builtin "sorted") [.ref r]) Q E s:=by
 refine Calls.call_function_entry kind_sorted plain_sorted entry_sorted (args_sorted1 _) ?_;unfold Builtin.«sorted»;refine ax (m:=checkCount "sorted" 1 1 _) (aP ?_);refine ax (hc _ λvs h' tk hP kp=>?_)
 have hl:=h1 vs hP;refine ax (wpAny_newList ?_ (by rw[sizeLine_eq];lia))
 refine ax (i5 (wpAny_mono (U7 (s:={ s with heap:=h',toks:=tk}) (h0:=h') (vs:=vs) (Q:=λv s'=>Q v s') hl λh2 c Kg hg=>h vs h' tk hP kp h2 c Kg hg) (λ_ s' x=>?_) λ_ _ e=>e))
 exact aP ⟨_,rfl,x⟩
end
section
variable{X:Cx}{K:fm}
theorem NK:∀{ys:List V} {us:List ah},ys.length=us.length->(∀(j:Nat) (y:V) (u:ah),ys[j]?=some y->us[j]?=some u->RelV y u)->Vals ys us
 |[],[],_,_=>.nil
 |[],_::_,h,_=>by simp at h
 |_::_,[],h,_=>by simp at h
 |y::ys,u::us,h,r=>.cons (r 0 y u rfl rfl) (NK (by simpa using h) λj y' u' e1 e2=>r (j+1) y' u' (by simpa using e1) (by simpa using e2))
def P4(K:fm):List V->Hp->VK->Prop:=λxs H Q=>∃a ys,xs=[.ref a]/\(cT K H a ys\/∃es ep,H a=some (.dG es ep)/\ig es/\ys=es.map (·.2.1))/\ys.length<2/\∀l,H l=none->Q (.ref l) (upd H l (.lst ys))
def R8(hc:X.calm=true):bX X (.builtin "sorted") (P4 X.K):=by
 intro aa s Z H xs us Q I r h;obtain⟨a,ys,rfl,hq,hl,q⟩:=h;obtain⟨u,rfl,ru⟩:=Vals.one r;cases ru;refine TV (P:=Vals ys) (λvs rv=>by have:=rv.length;lia) ?_ λvs h0 tk rv kp h' c Kg hg=>?_
 .intro R hR;rcases hq with hq|⟨es,ep,hd,ht,rfl⟩
  .obtain⟨aA,rv,pl,hz⟩:=I.list hq;refine collect_list pl.isList (hR aA _ s.toks rv λb o e=>?_) (by have:=rv.length;rw[sizeLine_eq];lia)
   have nb:b≠s.heap.objs.size:=gd (cP e);rw[GD _ _ _ _ nb];exact cU _ e
  .obtain⟨kvs,D1,D2,D3,D4,lo⟩:=zJ I hd ht;have l1:kvs.length=es.length:=by have:=congrArg List.length D3;simpa using this
   refine kdu_collect (kdl_dict (knd:=strKind X.prog X.w) (kvs:=kvs) (ep:=ep) lo) (I.ok.hd hc) D1 D4 λh' tk aW kp hi=>hR _ h' tk ?_ kp
   refine NK (by have:=hi.1;rw[bJ,<-l1,<-this];simp) λj y u e1 e2=>?_
   rw[fW] at e1;obtain⟨e,e3,rfl⟩:=cW.mp e1;obtain⟨z,z1,z2⟩:=ht e (pT e3);obtain⟨k,v,k1,k2⟩:=hi.2 j u (by rw[<-uS];exact e2)
   have k3:(kvs.map (λp=>TK.inr p.1))[j]?=(es.map (·.1))[j]?:=by rw[D3]
   rw[fW,fW,k1,e3] at k3;have k4:TK.inr k=e.1:=Option.some.inj k3;rw[z1] at k4;cases k4;rw[z2];exact Value.isStrOf_shape k2
 .have e:=rv.length;have I0:Inv X aa Z H { s with heap:=h0,toks:=tk}:=I.kept kp;have I1:=I0.laid (h':=h') (t':=tk) (o:=.lst ys) Kg (bU _) (show bD X.prog X.w _ h' _ (.lst ys) from⟨by rw[sizeLine_eq];lia,vs,c,rv,hg⟩)
  exact⟨.ref h0.objs.size,_,I1,rfl,q _ (I0.bw.fresh (bU _))⟩
end
end L2
namespace L2
open PySem PySem.Spec PySem.W PyProof.Rows
variable{p:Array Nat}{i m k l:Nat}
def pw(lt:Nat->Nat->Bool)(n:Nat){α:Type}:KasT α->(α->Prop)->Prop
 |.ret a,P=>P a
 |.ask i j k,P=>i<n/\j<n/\i≠j/\pw lt n (k (lt i j)) P
section
variable{lt:Nat->Nat->Bool}{n:Nat}
theorem E6{α:Type}{P Q:α->Prop}(h:∀a,P a->Q a):∀{t:KasT α},pw lt n t P->pw lt n t Q
 |.ret a,p=>h a p
 |.ask i j k,p=>⟨p.1,p.2.1,p.2.2.1,E6 h p.2.2.2⟩
theorem zL{α β:Type}{P:α->Prop}{Q:β->Prop}{f:α->KasT β}(h:∀a,P a->pw lt n (f a) Q):∀{t:KasT α},pw lt n t P->pw lt n (t.bind f) Q
 |.ret a,p=>h a p
 |.ask i j k,p=>⟨p.1,p.2.1,p.2.2.1,zL h p.2.2.2⟩
structure Ord (lt:Nat->Nat->Bool) (n:Nat):Prop where
 vY:∀i j,i<n->j<n->i≠j->lt i j=false->lt j i=true
 asy:∀i j,i<n->j<n->lt i j=true->lt j i=false
 tr:∀i j k,i<n->j<n->k<n->lt i j=true->lt j k=true->lt i k=true
structure pW (n:Nat) (p:Array Nat):Prop where
 pm:p.Perm (List.toArray (List.range n))
def pW.size{p:Array Nat}(h:pW n p):p.size=n:=by have:=h.pm.size_eq;simpa using this
def pW.below(h:pW n p)(hi:i<n):p.getD i 0<n:=by
 have hs:=h.size;have e:p.getD i 0=p[i]'(by lia):=by simp[Array.getD,hs,hi]
 rw[e];have:p[i]'(by lia)∈p:=Array.getElem_mem _
 have:=h.pm.mem_iff.mp this
 simp_all
theorem pW.inj(h:pW n p){j:Nat}(hi:i<n)(hj:j<n)(e:p.getD i 0=p.getD j 0):i=j:=by
 have hs:=h.size;have nd:p.toList.Nodup:=(Array.perm_iff_toList_perm.mp h.pm).nodup_iff.mpr (by simpa using LH)
 have ei:p.getD i 0=p.toList[i]'(by simp;lia):=by simp[Array.getD,hs,hi]
 have ej:p.getD j 0=p.toList[j]'(by simp;lia):=by simp[Array.getD,hs,hj]
 rw[ei,ej] at e;exact(An nd).mp e
def pX(lt:Nat->Nat->Bool)(p:Array Nat)(k:Nat):Prop:=∀i j,i<j->j<k->lt (p.getD i 0) (p.getD j 0)=true
def y_(lt:Nat->Nat->Bool)(p:Array Nat)(k:Nat):Prop:=∀i j,i<j->j<k->lt (p.getD j 0) (p.getD i 0)=true
variable(O:Ord lt n){p:Array Nat}(hp:pW n p)
include O hp
theorem U8(h1:1<=m)(hm:m<n)(h:pX lt p m)(e:lt (p.getD (m - 1) 0) (p.getD m 0)=true):pX lt p (m+1):=by
 intro i j oo hj;by_cases z:j=m
 .subst z;by_cases z2:i=j - 1
  .rw[z2];exact e
  .exact O.tr _ _ _ (hp.below (by lia)) (hp.below (by lia)) (hp.below hm) (h i (j - 1) (by lia) (by lia)) e
 .exact h i j oo (by lia)
theorem U9(h1:1<=m)(hm:m<n)(h:y_ lt p m)(e:lt (p.getD m 0) (p.getD (m - 1) 0)=true):y_ lt p (m+1):=by
 intro i j oo hj;by_cases z:j=m
 .subst z;by_cases z2:i=j - 1
  .rw[z2];exact e
  .exact O.tr _ _ _ (hp.below hm) (hp.below (by lia)) (hp.below (by lia)) e (h i (j - 1) (by lia) (by lia))
 .exact h i j oo (by lia)
theorem IS:∀(f m:Nat),1<=m->m+f<=n->pX lt p m->pw lt n (kas_asc p f m) λr=>m<=r/\r<=m+f/\pX lt p r/\(r<m+f->lt (p.getD r 0) (p.getD (r - 1) 0)=true)
 |0,m,_,_,h=>⟨bU _,bU _,h,λz=>bQ z (jz _)⟩
 |f+1,m,h1,hm,h=>by
  refine⟨hp.below (by lia),hp.below (by lia),λz=>by have:=hp.inj (by lia) (by lia) z;lia,?_⟩
  cases e:lt (p.getD m 0) (p.getD (m - 1) 0) with
  |true=>exact⟨bU _,by lia,h,λ_=>e⟩
  |false=>
   have:=O.vY _ _ (hp.below (by lia)) (hp.below (by lia)) (λz=>by have:=hp.inj (by lia) (by lia) z;lia) e
   exact E6 (λr hr=>⟨by lia,by lia,hr.2.2.1,λz=>hr.2.2.2 (by lia)⟩) (IS f (m+1) (by lia) (by lia) (U8 O hp h1 (by lia) h this))
theorem OW:∀(f m:Nat),1<=m->m+f<=n->y_ lt p m->pw lt n (kas_desc f p m 0) λr=>r.1=p/\r.2.2=0/\m<=r.2.1/\r.2.1<=m+f/\y_ lt p r.2.1
 |0,m,_,_,h=>⟨rfl,rfl,bU _,bU _,h⟩
 |f+1,m,h1,hm,h=>by
  refine⟨hp.below (by lia),hp.below (by lia),λz=>by have:=hp.inj (by lia) (by lia) z;lia,?_⟩
  cases e:lt (p.getD m 0) (p.getD (m - 1) 0) with
  |true=>exact E6 (λr hr=>⟨hr.1,hr.2.1,by lia,by lia,hr.2.2.2.2⟩) (OW f (m+1) (by lia) (by lia) (U9 O hp h1 (by lia) h e))
  |false=>
   have:=O.vY _ _ (hp.below (by lia)) (hp.below (by lia)) (λz=>by have:=hp.inj (by lia) (by lia) z;lia) e
   refine⟨hp.below (by lia),hp.below (by lia),λz=>by have:=hp.inj (by lia) (by lia) z;lia,?_⟩
   rw[this];exact⟨rfl,rfl,bU _,Gv _ _,h⟩
omit O in
theorem P5(hm:m<=n)(i:Nat):(kas_rev p 0 m).getD i 0=if i<m then p.getD (m - 1 - i) 0 else p.getD i 0:=by
 have hs:=hp.size;have:=getElem?_mirror_all (xs:=p) (i:=0) (j:=m) (by lia) i
 have g:∀(q:Array Nat) (j:Nat),q.getD j 0=(q[j]?).getD 0:=λq j=>by
  simp_all
 unfold kas_rev;rw[g,this];simp only[kg,true_and,DM];split
 .rw[g]
 .rw[g]
omit O in
theorem OX(m:Nat):pW n (kas_rev p 0 m):=⟨(mirror_perm _ _ _ _).trans hp.pm⟩
theorem W9(hm:m<=n)(h:y_ lt p m):pX lt (kas_rev p 0 m) m:=by
 intro i j oo hj;rw[P5 hp hm,P5 hp hm,bL (by lia),bL hj]
 exact h _ _ (by lia) (by lia)
theorem H_{k:Nat}(hk:k<n)(hs:pX lt p k):∀(f l r:Nat),l<=r->r<=k->r - l<=f->(∀i,i<l->lt (p.getD i 0) (p.getD k 0)=true)->(∀i,r<=i->i<k->lt (p.getD k 0) (p.getD i 0)=true)->
  pw lt n (kas_place p k f l r) λx=>x<=k/\(∀i,i<x->lt (p.getD i 0) (p.getD k 0)=true)/\∀i,x<=i->i<k->lt (p.getD k 0) (p.getD i 0)=true
 |0,l,r,h1,h2,h3,a,b=>⟨by lia,a,λi hi hk=>b i (by lia) hk⟩
 |f+1,l,r,h1,h2,h3,a,b=>by
  unfold kas_place;split
  .exact⟨by lia,a,λi hi hk=>b i (by lia) hk⟩
  .refine⟨hp.below hk,hp.below (by lia),λz=>by have:=hp.inj hk (by lia) z;lia,?_⟩
   have hm:(l+r) / 2<k:=by lia
   cases e:lt (p.getD k 0) (p.getD ((l+r) / 2) 0) with
   |true=>
    refine H_ hk hs f l _ (by lia) (by lia) (by lia) a λi hi hik=>?_
    by_cases z:i=(l+r) / 2
    .rw[z];exact e
    .exact O.tr _ _ _ (hp.below hk) (hp.below (by lia)) (hp.below (by lia)) e (hs _ _ (by lia) hik)
   |false=>
    have e2:=O.vY _ _ (hp.below hk) (hp.below (by lia)) (λz=>by have:=hp.inj hk (by lia) z;lia) e
    refine H_ hk hs f _ r (by lia) (by lia) (by lia) (λi hi=>?_) b
    by_cases z:i=(l+r) / 2
    .rw[z];exact e2
    .exact O.tr _ _ _ (hp.below (by lia)) (hp.below (by lia)) (hp.below hk) (hs _ _ (by lia) (by lia)) e2
omit O in
theorem P6(hk:k<n)(hl:l<=k)(i:Nat):(bubble p k (k - l)).getD i 0=if i=l then p.getD k 0 else if l<i/\i<=k then p.getD (i - 1) 0 else p.getD i 0:=by
 have hs:=hp.size;have:=getElem?_bubble (xs:=p) (src:=k) (by lia) (k - l) (by lia) i
 have g:∀(q:Array Nat) (j:Nat),q.getD j 0=(q[j]?).getD 0:=λq j=>by
  simp_all
 rw[g,this,show k - (k - l)=l by lia]
 split
 .rw[g]
 .split
  .rw[g]
  .rw[g]
theorem W_(hk:k<n)(hl:l<=k)(hs:pX lt p k)(a:∀i,i<l->lt (p.getD i 0) (p.getD k 0)=true)(b:∀i,l<=i->i<k->lt (p.getD k 0) (p.getD i 0)=true):pX lt (bubble p k (k - l)) (k+1):=by
 intro i j oo hj;rw[P6 hp hk hl,P6 hp hk hl];by_cases j1:j=l
 .rw[bL j1,br (show ¬i=l by lia),br (show ¬(l<i/\i<=k) by lia)]
  exact a i (by lia)
 .rw[br j1];by_cases i1:i=l
  .grind
  .rw[br i1];by_cases j2:l<j
   .rw[bL (show l<j/\j<=k by lia)]
    by_cases i2:l<i
    .rw[bL (show l<i/\i<=k by lia)];exact hs _ _ (by lia) (by lia)
    .rw[br (show ¬(l<i/\i<=k) by lia)]
     by_cases z:i=j - 1
     .lia
     .exact hs _ _ (by lia) (by lia)
   .rw[br (show ¬(l<j/\j<=k) by lia),br (show ¬(l<i/\i<=k) by lia)]
    exact hs _ _ oo (by lia)
omit hp in
theorem P7:∀(f:Nat) (p:Array Nat) (k:Nat),pW n p->k+f=n->pX lt p k->pw lt n (kas_bin f p k) λq=>pW n q/\pX lt q n
 |0,p,k,hp,e,h=>by subst e;exact⟨hp,h⟩
 |f+1,p,k,hp,e,h=>by
  refine zL (λl hl=>?_) (H_ O hp (by lia) h k 0 k (kg _) (bU _) (by lia) (λi hi=>by lia) λi hi hk=>by lia)
  exact P7 f _ (k+1) ⟨(bubble_perm _ _ _).trans hp.pm⟩ (by lia) (W_ O hp (by lia) hl.1 h hl.2.1 hl.2.2)
theorem U_(h1:1<=n):pw lt n (kas_count n p) λr=>1<=r.1/\r.1<=n/\pW n r.2/\pX lt r.2 r.1:=by
 refine zL (λm hm=>?_) (IS O hp (n - 1) 1 (bU _) (by lia) λi j oo hj=>by lia)
 obtain⟨m1,m2,m3,m4⟩:=hm;by_cases e:m=n
 .rw[bL (by simpa using e)]
  exact⟨m1,by show m<=n;lia,hp,m3⟩
 .rw[br (by simpa using e)]
  by_cases g:m > 1
  .rw[bL g];refine⟨hp.below (by lia),hp.below (by lia),λz=>by have:=hp.inj (by lia) (by lia) z;lia,?_⟩
   rw[m3 0 (m - 1) (by lia) (by lia)]
   exact⟨m1,by show m<=n;lia,hp,m3⟩
  .rw[br g];have em:m=1:=by lia
   subst em;have d2:y_ lt p 2:=λi j oo hj=>by
    have:i=0/\j=1:=by lia
    rw[this.1,this.2];exact m4 (by lia)
   refine zL (λr hr=>?_) (OW O hp (n - (1+1)) (1+1) (by lia) (by lia) d2)
   obtain⟨r1,r2,r3,r4,r5⟩:=hr;rw[br (by rw[r2];exact jz 0),r1]
   refine zL (λx hx=>?_) (IS O (OX hp r.2.1) (n - r.2.1) r.2.1 (by lia) (by lia) (W9 O hp (by lia) r5))
   exact⟨by show 1<=x;lia,by show x<=n;lia,OX hp _,hx.2.2.1⟩
omit hp in
theorem OY(h1:1<=n):pw lt n (kas_sort n) λq=>pW n q/\pX lt q n:=by
 refine zL (λr hr=>?_) (U_ O ⟨Array.Perm.refl _⟩ h1)
 obtain⟨r1,r2,r3,r4⟩:=hr;have e:max r.1 1=r.1:=by lia
 rw[e];split
 .exact P7 O (n - r.1) r.2 r.1 r3 (by lia) r4
 .have:r.1=n:=by lia
  rw[this] at r4;exact⟨r3,r4⟩
end
variable{ks:List (Int×Int)}
def Al(lt:Nat->Nat->Bool){α:Type}:KasT α->α
 |.ret a=>a
 |.ask i j k=>Al lt (k (lt i j))
theorem Fl{lt:Nat->Nat->Bool}{n:Nat}{α:Type}{P:α->Prop}:∀{t:KasT α},pw lt n t P->P (Al lt t)/\pw lt n t λa=>a=Al lt t
 |.ret _,p=>⟨p,rfl⟩
 |.ask _ _ _,p=>⟨(Fl p.2.2.2).1,p.1,p.2.1,p.2.2.1,(Fl p.2.2.2).2⟩
theorem P8{lt:Nat->Nat->Bool}{n:Nat}{α:Type}{cmp:Nat->Nat->(Bool->ao->Prop)->ao->Prop}{Q:α->ao->Prop}{s:ao}(hc:∀i j C,i<n->j<n->i≠j->C (lt i j) s->cmp i j C s):∀{t:KasT α},pw lt n t (λa=>Q a s)->t.kasWp cmp Q s
 |.ret _,p=>p
 |.ask i j k,p=>hc i j _ p.1 p.2.1 p.2.2.1 (P8 hc p.2.2.2)
def F8(x y:Int×Int):Bool:=decide (x.1<y.1\/(x.1=y.1/\x.2<y.2))
def ltAt(ks:List (Int×Int))(i j:Nat):Bool:=F8 (ks.getD i (0,0)) (ks.getD j (0,0))
def P9(nd:ks.Nodup):Ord (ltAt ks) ks.length:=by
 refine⟨λi j hi hj hn h=>?_,λi j _ _ h=>?_,λi j k _ _ _ h1 h2=>?_⟩
 all_goals grind [List.getElem_inj,ltAt,F8]
def dc(ks:List (Int×Int)):List Nat:=(Al (ltAt ks) (kas_sort ks.length)).toList
def eM(h:bS)(vs:List ah)(ks:List (Int×Int)):Prop:=vs.length=ks.length/\∀i,i<ks.length->∃x o a b t t' z m,vs.getD i Value.none=.ref x/\h.get? x=some o/\o.cls=.type "tuple"/\o.data=.seq #[.int a t,.int b t',z] m/\ks.getD i (0,0)=(a,b)
def eM.keep{h h':bS}{vs:List ah}(T:eM h vs ks)(k:∀b o,h.get? b=some o->h'.get? b=some o):eM h' vs ks:=⟨T.1,λi hi=>by
 obtain⟨x,o,a,b,t,t',z,m,h1,h2,r⟩:=T.2 i hi;exact⟨x,o,a,b,t,t',z,m,h1,k _ _ h2,r⟩⟩
section
variable{prog:cX}{w:cA}{A:cK}{E:ah->ao->Prop}{s:ao}{vs:List ah}{ks:List (Int×Int)}
def Xa(T:eM s.heap vs ks)(nd:ks.Nodup)(i j:Nat)(C:Bool->ao->Prop)(hi:i<ks.length)(hj:j<ks.length)(ij:i≠j)(h:C (ltAt ks i j) s):kas_ask prog w A (tuples' true) vs i j C s:=by
 obtain⟨x,o,a,b,t,t',z,m,x1,x2,x3,x4,x5⟩:=T.2 i hi;obtain⟨y,p,c,d,u,u',z',m',y1,y2,y3,y4,y5⟩:=T.2 j hj;have hl:ltAt ks i j=decide (a<c\/(a=c/\b<d)):=by unfold ltAt F8;rw[x5,y5]
 rw[hl] at h;unfold kas_ask;rw[x1,y1];refine kat_lt x2 x4 y2 y4 ?_;show KatLex prog w A true _ C [(.int a t,.int c u),(.int b t',.int d u'),(z,z')] 0 s;refine kat_cons (wpAny_eqBool_int (kat_go (λe=>?_) λe=>?_))
 .have e:a=c:=by simpa using e
  refine kat_yes (kat_cons (wpAny_eqBool_int (kat_go (λe2=>?_) λe2=>?_)))
  .grind [List.getElem_inj]
  .have e2:b≠d:=by simpa using e2
   refine kat_no (kat_one _ _ (wpAny_lt_int ?_));rw[show decide (a<c\/(a=c/\b<d))=decide (b<d) by simp[e]] at h
   exact h
 .have e:a≠c:=by simpa using e
  refine kat_no (oneLt_int ?_);rw[show decide (a<c\/(a=c/\b<d))=decide (a<c) by simp[e]] at h
  exact h
theorem NL{h:bS}:∀{vs:List ah} {ks:List (Int×Int)},eM h vs ks->∃fs,KatTups h vs fs/\fs.length=vs.length/\∀v∈fs,∃a t,v=Value.int a t
 |[],_,_=>⟨[],.nil,rfl,λv m=>by cases m⟩
 |v::vs,[],T=>by have:=T.1;simp at this
 |v::vs,k::ks,T=>by
  obtain⟨fs,f1,f2,f3⟩:=NL (h:=h) (vs:=vs) (ks:=ks) ⟨by have:=T.1;simpa using this,λi hi=>by
   obtain⟨x,o,a,b,t,t',z,m,r⟩:=T.2 (i+1) (by simpa using hi)
   exact⟨x,o,a,b,t,t',z,m,by simpa using r⟩⟩
  obtain⟨x,o,a,b,t,t',z,m,h1,h2,h3,h4,_⟩:=T.2 0 (by simp)
  have h1:v=.ref x:=by simpa using h1
  subst h1;refine⟨.int a t::fs,.cons h2 h3 h4 (by simp) f1,by simp[f2],λv m=>?_⟩
  rcases y0a.mp m with rfl|m
  .exact⟨a,t,rfl⟩
  .exact f3 v m
def R0{a:ai}{n:Nat}{P:PySem.Fin->ao->Prop}(ho:s.heap.get? a=some (seqObj "list" vs.toArray n))(T:eM s.heap vs ks)(nd:ks.Nodup)(na:∀i x,i<ks.length->vs.getD i Value.none=.ref x->x≠a)(h2:2<=vs.length)(FG:vs.length<64)
  (h:P (.done (.ret .none)) { s with heap:=sortedHeap s.heap a vs (List.toArray ((dc ks).map λi=>vs.getD i Value.none))}):wpAny (model prog w) A (Builtin.«list.sort» ⟨[.ref a],[]⟩) P E s:=by
 rw[list_sort_plain];have ha:a<s.heap.objs.size:=cP ho;refine ax (listItems_at ho rfl ?_);refine ax (listUpdate_at ho rfl ?_ (by rw[dH,sizeLine_eq];lia) (kg _))
 obtain⟨e1,yb⟩:∃e1,(s.heap.update a (Obj.mapSeq λ_=>#[])).get? a=some (seqObj "list" #[] e1):=⟨_,get?_update_seq ho (λ_=>#[])⟩
 refine ax (seqEpoch_at yb rfl ?_);refine ax (wpAny_newTuple ?_ (by show vs.length<=_;rw[sizeLine_eq];lia))
 refine ax (wpAny_newList ?_ (kg _));refine i5 ?_;have yd:(((s.heap.update a (Obj.mapSeq λ_=>#[])).push (seqObj "tuple" vs.toArray 0)).push (seqObj "list" #[] 0)).get? a=some (seqObj "list" #[] e1):=by
  rw[DL _ _ _ (by rw[size_push',LL];exact gd (sX ha)),DL _ _ _ (by rw[LL];exact gd ha)]
  exact yb
 have T6:eM (((s.heap.update a (Obj.mapSeq λ_=>#[])).push (seqObj "tuple" vs.toArray 0)).push (seqObj "list" #[] 0)) vs ks:=⟨T.1,λi hi=>by
  obtain⟨x,o,b,c,t,t',z,m,y1,y2,r⟩:=T.2 i hi;refine⟨x,o,b,c,t,t',z,m,y1,cU _ (cU _ ?_),r⟩;rw[GD _ _ _ _ (na i x hi y1)];exact y2⟩
 show wpAny (model prog w) A _ P E { s with heap:=((s.heap.update a (Obj.mapSeq λ_=>#[])).push (seqObj "tuple" vs.toArray 0)).push (seqObj "list" #[] 0)}
 dsimp only;have x_:¬vs.toArray.size<2:=by rw[dH];lia
 rw[br x_,br x_];obtain⟨fs,f1,f2,f3⟩:=NL T6;refine ax (kat_kind (T:=.type "int") f1 (by lia) (λv hv=>?_) (by decide) ?_)
 .obtain⟨b,t,rfl⟩:=f3 v hv;exact λA Q E s' _ q=>wpAny_typeOf (typeIs_int s' b t) q
 .have O:=P9 nd;have pq:=OY O (show 1<=ks.length by have:=T.1;lia)
  obtain⟨⟨q1,q2⟩,q3⟩:=Fl pq;have hlen:=T.1;refine ax (wpAny_mono (kat_run (Q:=λjw s'=>s'={ s with heap:=((s.heap.update a (Obj.mapSeq λ_=>#[])).push (seqObj "tuple" vs.toArray 0)).push (seqObj "list" #[] 0)}/\arrOf jw=(Al (ltAt ks) (kas_sort ks.length)).map (kas_item (vs.toArray.zip vs.toArray))/\failedOf jw=none) rfl h2 FG (λp' jw s' a1 a2 a3 a4=>⟨a4.2,by rw[<-a4.1];exact a2,a3⟩) (G:=λp s'=>p=Al (ltAt ks) (kas_sort ks.length)/\s'=_) ?_) ?_ λ_ _ e=>e)
  .rw[hlen];exact P8 (λi j C hi hj ij hC=>Xa T6 nd i j C hi hj ij hC) (E6 (λp hp=>⟨hp,rfl⟩) q3)
  .rintro⟨⟨⟩,jw⟩ s' ⟨rfl,JN,hf⟩;dsimp only;have J4:=kat_snds rfl JN;rw[J4];refine ax (seqEpoch_at yd rfl ?_);refine ax (listUpdate_at yd rfl ?_ (kg _) (by rw[dH,bJ,yW,q1.size,sizeLine_eq];lia))
   rw[hf];simp only[bne_self_eq_false,kh,fS];exact aP h
def SF{l:ai}{Q:ah->ao->Prop}(hl:s.heap.IsList l vs.toArray)(T:eM s.heap vs ks)(nd:ks.Nodup)(h2:2<=vs.length)(FG:vs.length<64)
  (h:Q (.ref (s.heap.objs.size+1)) { s with heap:=sortedAll s.heap vs (List.toArray ((dc ks).map λi=>vs.getD i Value.none))}):wpAny (model prog w) A (call (.builtin "sorted") [.ref l]) Q E s:=by
 refine Calls.call_function_entry kind_sorted plain_sorted entry_sorted (args_sorted1 _) ?_;unfold Builtin.«sorted»;refine ax (m:=checkCount "sorted" 1 1 _) (aP ?_);refine ax (collect_list hl ?_ (by rw[sizeLine_eq];lia))
 refine ax (wpAny_newList ?_ (by rw[sizeLine_eq];lia))
 have hsz:((s.heap.push (seqObj "list" #[] 0)).update s.heap.objs.size (Obj.mapSeq (·++vs.toArray))).objs.size=s.heap.objs.size+1:=by
  simp_all
 have gZ:(((s.heap.push (seqObj "list" #[] 0)).update s.heap.objs.size (Obj.mapSeq (·++vs.toArray))).push (seqObj "list" vs.toArray 0)).get? (s.heap.objs.size+1)=some (seqObj "list" vs.toArray 0):=by
  rw[<-hsz];exact iI _ rfl
 have keep:∀b o,s.heap.get? b=some o->(((s.heap.push (seqObj "list" #[] 0)).update s.heap.objs.size (Obj.mapSeq (·++vs.toArray))).push (seqObj "list" vs.toArray 0)).get? b=some o:=λb o q=>by
  have lF:b<s.heap.objs.size:=cP q;rw[DL _ _ _ (by rw[hsz];exact gd (sX lF)),GD _ _ _ _ (gd lF),DL _ _ _ (gd lF)]
  exact q
 show wpAny _ _ _ _ _ { s with heap:=((s.heap.push (seqObj "list" #[] 0)).update s.heap.objs.size (Obj.mapSeq (·++vs.toArray))).push (seqObj "list" vs.toArray 0)}
 rw[hsz];refine ax (i5 (wpAny_call_entry slot_list_sort ⟨_,gZ,rfl⟩ entry_list_sort (R0 gZ (T.keep keep) nd (λi x hi e=>?_) h2 FG ⟨_,rfl,?_⟩) (args_list_sort _)))
 .obtain⟨y,o,_,_,_,_,_,_,y1,y2,_⟩:=T.2 i hi;rw[y1] at e;cases e;exact gd (sX (cP y2))
 .exact aP ⟨_,rfl,h⟩
end
section
variable{X:Cx}{K:aI}{H:Hp}
def uW(K:aI)(H:Hp)(ys:List V)(ks:List (Int×Int)):Prop:=ys.length=ks.length/\∀i,i<ks.length->∃p z,ys[i]?=some (.ref p)/\ie K H p [.int (ks.getD i (0,0)).1,.int (ks.getD i (0,0)).2,z]
def P_(K:aI):List V->Hp->VK->Prop:=λvs H Q=>∃a ys ks,vs=[.ref a]/\cT K H a ys/\uW K H ys ks/\ks.Nodup/\2<=ks.length/\ks.length<64/\∀l,H l=none->Q (.ref l) (upd H l (.lst ((dc ks).map λi=>ys.getD i .aJ)))
theorem Nh{ys:List V}{us:List ah}(r:Vals ys us):∀{is:List Nat},(∀i∈is,i<ys.length)->Vals (is.map λi=>ys.getD i .aJ) (is.map λi=>us.getD i Value.none)
 |[],_=>.nil
 |i::is,h=>by
  have hi:=h i (.head _);obtain⟨u,e,ru⟩:=r.get (gz hi);have e1:ys.getD i .aJ=ys[i]:=by simp[hi]
  have e2:us.getD i Value.none=u:=by rw[y9,e];rfl
  refine .cons ?_ (Nh r λj m=>h j (.tail _ m))
  lia
theorem A7(nd:ks.Nodup)(h:1<=ks.length):(dc ks).Perm (List.range ks.length)/\(dc ks).Pairwise λi j=>ltAt ks i j=true:=by
 obtain⟨⟨q1,q2⟩,_⟩:=Fl (OY (P9 nd) h);refine⟨by unfold dc;have:=Array.perm_iff_toList_perm.mp q1.pm;simpa using this,?_⟩
 rw[List.pairwise_iff_getElem];intro i j hi hj oo;have hs:=q1.size;have:=q2 i j oo (by unfold dc at hj;simp at hj;lia)
 unfold dc at hi hj ⊢;simp only[yW] at hi hj;simpa[Array.getD,hi,hj] using this
def SG(K:aI)(hK:X.K=K:=by rfl):bX X (.builtin "sorted") (P_ K):=by
 subst hK;intro aa s Z H xs us Q I r h;obtain⟨a,ys,ks,rfl,hl,T,nd,h2,FG,q⟩:=h;obtain⟨u,rfl,ru⟩:=vals1 r;cases ru;obtain⟨aA,rv,pl,hz⟩:=I.list hl;have hlen:=rv.length;have B9:=T.1;have T':eM s.heap aA ks:=⟨by lia,λi hi=>by
  obtain⟨p,z,y1,y2⟩:=T.2 i hi;obtain⟨u,e,ru⟩:=rv.get y1;obtain rfl:u=Value.ref p:=ru;obtain⟨it2,Gf,⟨o,g1,g2,n,g3⟩,_⟩:=I.tuple y2;cases Gf with
  |cons r1 t=>
   cases t with
   |cons r2 t=>
    cases t with
    |cons r3 t=>
     cases t;obtain⟨t1,rfl⟩:=r1;obtain⟨t2,rfl⟩:=r2;exact⟨p,o,_,_,t1,t2,_,n,by rw[y9,e];rfl,g1,g2,g3,rfl⟩⟩
 refine SF pl.isList T' nd (by lia) (by lia) ?_
 obtain⟨c,hc⟩:=sortedAll_at s.heap aA (List.toArray ((dc ks).map λi=>aA.getD i Value.none))
 obtain⟨s1,_⟩:=A7 nd (by lia)
 have hm:∀i∈dc ks,i<ys.length:=λi m=>by have:=s1.mem_iff.mp m;rw[pR] at this;lia
 have I3:=I.laid (h':=sortedAll s.heap aA (List.toArray ((dc ks).map λi=>aA.getD i Value.none))) (t':=s.toks) (o:=.lst ((dc ks).map λi=>ys.getD i .aJ)) (λb o g=>sortedAll_old g) (uP _) (show bD X.prog X.w _ _ _ (.lst _) from⟨by rw[bJ,s1.length_eq,v8,sizeLine_eq];lia,_,c,Nh rv hm,hc⟩)
 exact⟨.ref (s.heap.objs.size+1),_,I3,rfl,q _ (I.bw.fresh (uP _))⟩
end
end L2
set_option autoImplicit false
namespace L2
open PySem PySem.Spec PySem.W PySem.Calls PyProof.Rows
def f_(kvs:List (TK×D)):Bool:=kvs.all λp=>vB p.1
def uc:D->aj (List D)
 |.ay kvs=>if f_ kvs=true then some ((List.range kvs.length).map λi=>.tup (((kvs[i]?).map λp=>[p.1.d,p.2]).getD [])) else none
 |_=>none
section
variable{K:fm}{W:XW}{q:Nat}{g:GE}{fz:Bool}{Z:St}{H:Hp}{R:It->Hp->Prop}{k:Kn}{es:List (TK×V×V)}{kvs:List (TK×D)}
def Jj(h1:es.map (·.1)=kvs.map (·.1))(h2:ag K k (es.map (·.2.1)) (kvs.map (·.1.d)))(h:f_ kvs=true):ig es:=PR h1 (by rw[fR];exact h2) (by rw[As];exact h)
def Xb(t:tX (RI K q) K W q (bG fz uc g) Z H R):PU (tE K W q g) Z H R:=by
 rcases Ez t with h|⟨d,ds,n,e,h⟩
 .exact h _
 .cases d with
  |ay kvs=>
   unfold uc at e;dsimp only at e;split at e
   .rename_i ht
    cases e;refine h _ λk1 H1 x le hd j=>?_
    obtain⟨a,es,ep,rfl,q2,q3,q4,q1⟩:=hd;have tx:=Jj q2 q3 ht;refine⟨a,es,ep,rfl,i9.now (x:=.aJ) q1 le,tx,j _ ?_⟩;have hl:kvs.length=es.length:=by have:=q4.length;rw[bJ,bJ] at this;exact this.symm
    rw[hl];refine .CB (λH s c=>⟨q1 H s c,tx⟩) λi us hi hv=>?_
    obtain⟨e,h1,rfl⟩:=hv;have B6:i<kvs.length:=by lia
    obtain⟨v,h3,h4⟩:=q4.get (i:=i) (d:=kvs[i].2) (by rw[fW,gz B6];rfl)
    obtain⟨v',h5,h6⟩:=q3.get (i:=i) (d:=kvs[i].1.d) (by rw[fW,gz B6];rfl)
    rw[fW,h1] at h3 h5;cases h3;cases h5;rw[gz B6];exact .cons h6 h4
   .cases e
  |_=>cases e
end
end L2
namespace L2
open PySem PySem.Spec PyProof.Rows
section
variable{X:Cx}{K:aI}{k:Kn}{H:Hp}{x:V}{d:D}
def Top.txt{kvs:List (TK×D)}(t:Top K k H x (.ay kvs))(le:az k.F H)(h:f_ kvs=true):∃p es ep,x=.ref p/\H p=some (.dG es ep)/\ig es/\es.map (·.1)=kvs.map (·.1)/\ag K k (es.map (·.2.1)) (kvs.map (·.1.d))/\ag K k (es.map (·.2.2)) (kvs.map (·.2)):=by
 obtain⟨p,es,ep,rfl,h1,h2,h3,h4⟩:=t.ay le;exact⟨p,es,ep,rfl,h1,Jj h2 h3 h,h2,h3,h4⟩
def CO(K:aI):List V->Hp->VK->Prop:=λxs H Q=>(∃p ys,xs=[.ref p]/\(cT K H p ys\/ie K H p ys)/\Q (.int ys.length) H)\/(∃z,xs=[.str z]/\z.length<=sizeLine/\Q (.int z.length) H)\/∃p es ep,xs=[.ref p]/\H p=some (.dG es ep)/\ig es/\Q (.int es.length) H
def TX(hK:X.K=K):bX X (.builtin "len") (CO K):=(RY K hK).or (lu.or (by
 intro aa s Z H xs us Q I r h;obtain⟨p,es,ep,rfl,hp,ht,q⟩:=h;obtain⟨u,rfl,ru⟩:=vals1 r;cases ru;obtain⟨kvs,D1,D2,D3,D4,lo⟩:=zJ I hp ht;have l1:kvs.length=es.length:=by have:=congrArg List.length D3;simpa using this
 refine call_len_dict lo D1.dictOf (by rw[sizeLine_eq] at D4;lia) ?_
 rw[l1];exact⟨.int es.length,H,I.tok _,⟨_,rfl⟩,q⟩))
def eZ:D->aj Rv
 |.lst ds=>some (rd (.int ds.length))
 |.tup ds=>some (rd (.int ds.length))
 |.str z=>if z.length<=1000000 then some (rd (.int z.length)) else none
 |.ay kvs=>if f_ kvs=true then some (rd (.int kvs.length)) else none
 |_=>none
def ZE:cb K (CO K) (o1 eZ):=sS λk H x a y Q le t e res=>by
 unfold eZ at e;split at e
 .cases e;obtain⟨p,ws,rfl,q,r⟩:=t.lst le;exact .inl ⟨p,ws,rfl,.inl q,by rw[r.length];exact res.flat le rfl⟩
 .cases e;obtain⟨p,ws,rfl,q,r⟩:=t.tup le;exact .inl ⟨p,ws,rfl,.inr q,by rw[r.length];exact res.flat le rfl⟩
 .split at e
  .cases e;cases t.flat rfl;exact .inr (.inl ⟨_,rfl,ml (by assumption),res.flat le rfl⟩)
  .cases e
 .split at e
  .cases e;obtain⟨p,es,ep,rfl,h1,h2,h3,h4,h5⟩:=t.txt le (by assumption)
   refine .inr (.inr ⟨p,es,ep,rfl,h1,h2,?_⟩);have:=h5.length;rw[bJ,bJ] at this;rw[this];exact res.flat le rfl
  .cases e
 .cases e
def rG:D->aj String
 |.aJ=>some "NoneType"
 |.bl _=>some "bool"
 |.int _=>some "int"
 |.str _=>some "str"
 |.lst _=>some "list"
 |.tup _=>some "tuple"
 |_=>none
def NM{n:String}(le:az k.F H)(t:Top K k H x d)(e:rG d=some n):Br K H x n:=by
 cases d with
 |lst _=>cases e;obtain⟨p,ws,rfl,q,r⟩:=t.lst le;exact .inl ⟨rfl,_,q⟩
 |tup _=>cases e;obtain⟨p,ws,rfl,q,r⟩:=t.tup le;exact .inr ⟨rfl,_,q⟩
 |_=>cases e <;> cases t.flat rfl <;> rfl
def CL(K:aI):List V->Hp->VK->Prop:=λxs H Q=>(∃x k T,xs=[x,.ty T]/\Br K H x k/\(T="int"\/T="str"\/T="bool"\/T="list"\/T="tuple")/\Q (.bl (pI k T)) H)\/vN K xs H Q
def TY(hK:X.K=K):bX X (.builtin "isinstance") (CL K):=(Ti K hK).or (TM K hK)
def yi:List D->Bool
 |[.ty a,.ty b]=>decide (a="tuple"/\b="list")
 |_=>false
def Xc{ds:List D}(h:yi ds=true):ds=[.ty "tuple",.ty "list"]:=by
 unfold yi at h;split at h
 .obtain⟨rfl,rfl⟩:=wa h;rfl
 .cases h
def eR(a t:D):aj Rv:=match t with
 |.ty T=>if T="int"\/T="str"\/T="bool"\/T="list"\/T="tuple" then(rG a).map λk=>rd (.bl (pI k T)) else none
 |.tup ds=>if yi ds=true then(rG a).map λk=>rd (.bl (Lm k)) else none
 |_=>none
def ZF:cb K (CL K) (o2 eR):=uk λk H x z a b y Q le t1 t2 e res=>by
 unfold eR at e;split at e
 .split at e
  .obtain⟨n,h,rfl⟩:=cW.mp e;cases t2.flat rfl;exact .inl ⟨x,n,_,rfl,NM le t1 h,by assumption,res.flat le rfl⟩
  .cases e
 .split at e
  .rename_i ht
   cases Xc ht;obtain⟨n,h,rfl⟩:=cW.mp e;obtain⟨p,ws,rfl,q,r⟩:=t2.tup le;obtain⟨w1,us,rfl,r1,r2⟩:=r.cg;obtain⟨w2,us,rfl,r3,r4⟩:=r2.cg;cases r4.fP;cases r1.a_ rfl;cases r3.a_ rfl;exact .inr ⟨x,n,p,rfl,NM le t1 h,q,res.flat le rfl⟩
  .cases e
 .cases e
def vO(K:aI):List V->Hp->VK->Prop:=λxs H Q=>(∃p ys,xs=[.ref p]/\(cT K H p ys\/ie K H p ys)/\∀l,H l=none->Q (.ref l) (upd H l (.lst ys)))\/Rn K xs H Q
def SH(hc:X.calm=true)(hK:X.K=K):bX X (.type "list") (vO K):=(RZ K hK).or (hK ▸ Sy hc)
noncomputable def kQ:D->aj Rv
 |.lst ds=>some (.o (.lst ds))
 |.tup ds=>some (.o (.lst ds))
 |.ay kvs=>some (.o (.lst (kvs.map (·.1.d))))
 |_=>none
def Xd:cb K (vO K) (o1 kQ):=sS λk H x a y Q le t e res=>by
 unfold kQ at e;split at e
 .cases e;obtain⟨p,ws,rfl,q,r⟩:=t.lst le;exact .inl ⟨p,ws,rfl,.inl q,λl hl=>res.lst le r hl⟩
 .cases e;obtain⟨p,ws,rfl,q,r⟩:=t.tup le;exact .inl ⟨p,ws,rfl,.inr q,λl hl=>res.lst le r hl⟩
 .cases e;obtain⟨p,es,ep,rfl,h1,h2,h3,h4⟩:=t.ay le;exact .inr ⟨p,es,ep,rfl,h1,λl hl=>res.lst le h3 hl⟩
 .cases e
def oO:D->aj Rv
 |.ay kvs=>if f_ kvs=true then some (.o (.lst (kvs.map (·.2)))) else none
 |_=>none
def Xe:cb K (λxs H Q=>∃d es ep,xs=[.ref d]/\H d=some (.dG es ep)/\ig es/\∀q,H q=none->Q (.ref q) (upd H q (.lst (es.map (·.2.2))))) (o1 oO):=sS λk H x a y Q le t e res=>by
 unfold oO at e;split at e
 .split at e
  .cases e;obtain⟨p,es,ep,rfl,h1,h2,h3,h4,h5⟩:=t.txt le (by assumption)
   exact⟨p,es,ep,rfl,h1,h2,λl hl=>res.lst le h5 hl⟩
  .cases e
 .cases e
noncomputable def Fm(q:List Bool->Bool):D->aj Rv
 |.lst ds=>(gL ds).map λbs=>rd (.bl (q bs))
 |_=>none
def Va(q:List Bool->Bool):cb K (λxs H Q=>∃(a:ai) (bs:List Bool),xs=[.ref a]/\cT K H a (bs.map V.bl)/\Q (.bl (q bs)) H) (o1 (Fm q)):=sS λk H x a y Q le t e res=>by
 unfold Fm at e;split at e
 .obtain⟨bs,h,rfl⟩:=cW.mp e;obtain⟨p,ws,rfl,s,r⟩:=t.lst le;rw[MM h] at r;cases MN r;exact⟨p,bs,rfl,s,res.flat le rfl⟩
 .cases e
noncomputable def n6(f:List Int->Int):D->aj Rv
 |.lst ds=>(jU ds).bind λis=>if is=[] then none else some (rd (.int (f is)))
 |_=>none
def Xf(f:List Int->Int):cb K (λxs H Q=>∃(a:ai) (is:List Int),xs=[.ref a]/\cT K H a (is.map V.int)/\is≠[]/\Q (.int (f is)) H) (o1 (n6 f)):=sS λk H x a y Q le t e res=>by
 unfold n6 at e;split at e
 .obtain⟨is,h,e⟩:=cw.mp e;split at e
  .cases e
  .cases e;obtain⟨p,ws,rfl,s,r⟩:=t.lst le;rw[Nf h] at r;cases Mx r;exact⟨p,is,rfl,s,by assumption,res.flat le rfl⟩
 .cases e
def iD:D->aj Int
 |.int i=>some i
 |_=>none
def Qz{v:D}{i:Int}(h:iD v=some i):v=.int i:=by cases v <;> cases h;rfl
def pJ:List D->aj (Int×Int)
 |[a,b,_]=>(iD a).bind λi=>(iD b).map λj=>(i,j)
 |_=>none
def Cr:D->aj (Int×Int)
 |.tup l=>pJ l
 |_=>none
def jV:List D->aj (List (Int×Int))
 |[]=>some []
 |d::ds=>(Cr d).bind λk=>(jV ds).map λks=>k::ks
theorem NN:∀{ds:List D} {ks:List (Int×Int)} {ws:List V},jV ds=some ks->ag K k ws ds->az k.F H->uW K H ws ks
 |[],ks,ws,e,r,le=>by cases e;exact⟨by rw[r.length];rfl,λi hi=>nomatch hi⟩
 |d::ds,ks,ws,e,r,le=>by
  obtain⟨w,us,rfl,r1,r2⟩:=r.cg;obtain⟨k0,e0,e⟩:=cw.mp (show(Cr d).bind _=_ from e);obtain⟨vE,e1,rfl⟩:=cW.mp e;cases d with
  |tup l=>
   have e0:pJ l=some k0:=e0;unfold pJ at e0;split at e0
   case h_2=>cases e0
   obtain⟨a,z1,e0⟩:=cw.mp e0;obtain⟨b,z2,rfl⟩:=cW.mp e0;cases Qz z1;cases Qz z2;obtain⟨l1,l2⟩:=NN e1 r2 le;obtain⟨p,ws,rfl,q,r3⟩:=r1.isTup;obtain⟨w1,us1,rfl,t1,r3⟩:=r3.cg;obtain⟨w2,us2,rfl,t2,r3⟩:=r3.cg;obtain⟨w3,us3,rfl,t3,r3⟩:=r3.cg;cases r3.fP;cases t1.a_ rfl;cases t2.a_ rfl;refine⟨congrArg (·+1) l1,λi hi=>?_⟩
   cases i with
   |zero=>exact⟨p,w3,rfl,le.yQ q⟩
   |succ i=>exact l2 i (Nat.lt_of_succ_lt_succ hi)
  |_=>cases e0
def vS(K:aI):List V->Hp->VK->Prop:=λvs H Q=>P4 K vs H Q\/P_ K vs H Q
def SJ(hc:X.calm=true)(hK:X.K=K):bX X (.builtin "sorted") (vS K):=(hK ▸ R8 hc).or (SG K hK)
def kR(ds:List D)(is:List Nat):List D:=is.map λi=>ds.getD i .aJ
def oK:D->aj Rv
 |.lst ds=>if ds.length<2 then some (.o (.lst ds)) else(jV ds).bind λks=>if ks.Nodup/\ks.length<64 then some (.o (.lst (kR ds (dc ks)))) else none
 |.ay kvs=>if(f_ kvs&&Nat.blt kvs.length 2)=true then some (.o (.lst (kvs.map (·.1.d)))) else none
 |_=>none
theorem NO{ws:List V}{ds:List D}(r:ag K k ws ds):∀{is:List Nat},(∀i∈is,i<ds.length)->ag K k (is.map λi=>ws.getD i .aJ) (kR ds is)
 |[],_=>.nil
 |i::is,h=>by
  have hi:=h i (.head _);obtain⟨v,h1,h2⟩:=r.get (i:=i) (d:=ds[i]) (gz hi);unfold kR;rw[cR,cR,show ws.getD i .aJ=v by rw[y9,h1];rfl,show ds.getD i .aJ=ds[i] by rw[y9,gz hi];rfl]
  exact .cons h2 (NO r λj m=>h j (.tail _ m))
def Xg:cb K (vS K) (o1 oK):=sS λk H x a y Q le t e res=>by
 unfold oK at e;split at e
 .obtain⟨p,ws,rfl,s,r⟩:=t.lst le;split at e
  .cases e;exact .inl ⟨p,ws,rfl,.inl s,by rw[r.length];assumption,λl hl=>res.lst le r hl⟩
  .rename_i h2
   obtain⟨ks,h,e⟩:=cw.mp e;split at e
   .rename_i hk
    cases e;have T:=NN h r le;have l1:ks.length=ws.length:=T.1.symm;have l2:=r.length;refine .inr ⟨p,ws,ks,rfl,s,T,hk.1,by lia,hk.2,λl hl=>res.lst le (NO r λi m=>?_) hl⟩
    grind [A7]
   .cases e
 .split at e
  .rename_i hh
   obtain⟨h1,h2⟩:=Ar.mp hh;cases e;obtain⟨p,es,ep,rfl,h3,h4,h5,h6,h7⟩:=t.txt le h1;have:=h6.length;have l2:_<2:=fy (y6 h2) (bU _);exact .inl ⟨p,_,rfl,.inr ⟨es,ep,h3,h4,rfl⟩,by rw[this,bJ];exact l2,λl hl=>res.lst le h6 hl⟩
  .cases e
 .cases e
def bR{α:Type}:List (TK×α)->TK->α->List (TK×α)
 |[],k,v=>[(k,v)]
 |(j,w)::r,k,v=>if j=k then(j,v)::r else(j,w)::bR r k v
def gP:List D->aj (List (TK×D))
 |[]=>some []
 |.tup [a,b]::ds=>(jh a).bind λj=>(gP ds).map λps=>(j,b)::ps
 |_=>none
noncomputable def my:D->aj Rv
 |.lst ds=>(gP ds).bind λps=>if ps.length<1000 then some (.o (.ay (ps.foldl (λkvs p=>bR kvs p.1 p.2) []))) else none
 |_=>none
theorem ID{j:TK}{y v:V}{e:D}(ry:ag K k [y] [j.d])(rv:ag K k [v] [e]):∀{ws:List (TK×V×V)} {kvs:List (TK×D)},ws.map (·.1)=kvs.map (·.1)->ag K k (ws.map (·.2.1)) (kvs.map (·.1.d))->ag K k (ws.map (·.2.2)) (kvs.map (·.2))->
  (dh ws j y v).map (·.1)=(bR kvs j e).map (·.1)/\ag K k ((dh ws j y v).map (·.2.1)) ((bR kvs j e).map (·.1.d))/\ag K k ((dh ws j y v).map (·.2.2)) ((bR kvs j e).map (·.2))
 |[],[],_,_,_=>⟨rfl,ry,rv⟩
 |w::ws,p::kvs,h,r1,r2=>by
  obtain⟨h1,h2⟩:=List.cons.inj (show w.1::ws.map (·.1)=p.1::kvs.map (·.1) from h)
  obtain⟨a1,a2⟩:=ag.inv r1;obtain⟨b1,b2⟩:=ag.inv r2;unfold dh bR;by_cases q:p.1=j
  .rw[bL (h1.trans q),bL q];exact⟨congr (congrArg List.cons h1) h2,.cons a1 a2,.cons rv b2⟩
  .rw[br (λz=>q (h1.symm.trans z)),br q]
   obtain⟨c1,c2,c3⟩:=ID ry rv h2 a2 b2;exact⟨congr (congrArg List.cons h1) c1,.cons a1 c2,.cons b1 c3⟩
 |[],_::_,h,_,_=>nomatch h
 |_::_,[],h,_,_=>nomatch h
def qE(K:aI)(k:Kn)(q:TK×V×V)(p:TK×D):Prop:=q.1=p.1/\ag K k [q.2.1] [q.1.d]/\ag K k [q.2.2] [p.2]
theorem NP:∀{ds:List D} {ps:List (TK×D)} {ws:List V},gP ds=some ps->ag K k ws ds->az k.F H->∃qs:List (TK×V×V),jm K H ws qs/\Paired (qE K k) qs ps
 |[],ps,ws,e,r,le=>by cases e;cases r.fP;exact⟨[],⟨rfl,λi p h=>nomatch h⟩,.nil⟩
 |d::ds,ps,ws,e,r,le=>by
  obtain⟨a,b,rfl,e⟩:∃a b,d=.tup [a,b]/\((jh a).bind λj=>(gP ds).map ((j,b)::·))=some ps:=by
   cases d with
   |tup l=>
    rcases l with _|⟨a,_|⟨b,_|_⟩⟩
    case cons.cons.nil=>exact⟨a,b,rfl,e⟩
    all_goals cases e
   |_=>cases e
  .obtain⟨j,q1,e⟩:=cw.mp e;obtain⟨ps',q2,rfl⟩:=cW.mp e;obtain⟨w,us,rfl,r1,r2⟩:=r.cg;obtain⟨p,ws,rfl,sq,ri⟩:=r1.isTup;obtain⟨y,us1,rfl,t1,ri⟩:=ri.cg;obtain⟨v,us2,rfl,t2,ri⟩:=ri.cg;cases ri.fP;obtain⟨qs,h1,h3⟩:=NP q2 r2 le;have rk:ag K k [y] [j.d]:=by rw[(zK q1).1];exact t1
   refine⟨(j,y,v)::qs,⟨congrArg (·+1) h1.len,λi p h=>?_⟩,.cons ⟨rfl,rk,t2⟩ h3⟩
   cases i with
   |zero=>cases h;exact⟨_,rfl,le.yQ sq,rE (k:=k.all H) j (rk.all le),(zK q1).2⟩
   |succ i=>exact h1.item i p h
def OZ{qs:List (TK×V×V)}{ps:List (TK×D)}(p:Paired (qE K k) qs ps):∀{ws:List (TK×V×V)} {kvs:List (TK×D)},ws.map (·.1)=kvs.map (·.1)->ag K k (ws.map (·.2.1)) (kvs.map (·.1.d))->ag K k (ws.map (·.2.2)) (kvs.map (·.2))->
  (eO ws qs).map (·.1)=(ps.foldl (λkvs p=>bR kvs p.1 p.2) kvs).map (·.1)/\ag K k ((eO ws qs).map (·.2.1)) ((ps.foldl (λkvs p=>bR kvs p.1 p.2) kvs).map (·.1.d))/\ag K k ((eO ws qs).map (·.2.2)) ((ps.foldl (λkvs p=>bR kvs p.1 p.2) kvs).map (·.2)):=by
 induction p with
 |nil=>exact λa b c=>⟨a,b,c⟩
 |@cons q p qs ps h _ ih=>
  intro ws kvs a b c;obtain⟨h1,h2,h3⟩:=h;obtain⟨j1,j2,j3⟩:=ID h2 h3 a b c;rw[h1] at j1 j2 j3;have:=ih (ws:=dh ws p.1 q.2.1 q.2.2) (kvs:=bR kvs p.1 p.2) j1 j2 j3;rw[show eO ws (q::qs)=eO (dh ws p.1 q.2.1 q.2.2) qs by unfold eO;rw[GF,h1],GF]
  exact this
def Vb:cb K (PZ K) (o1 my):=sS λk H x a y Q le t e res=>by
 unfold my at e;split at e
 .obtain⟨ps,q1,e⟩:=cw.mp e;split at e
  .rename_i hn
   cases e;obtain⟨p,ws,rfl,s,r⟩:=t.lst le;obtain⟨qs,g1,g3⟩:=NP q1 r le;obtain⟨o1,o2,o3⟩:=OZ g3 (ws:=[]) (kvs:=[]) rfl .nil .nil;exact⟨p,ws,qs,rfl,s,g1,by rw[Paired.length g3];exact hn,λl ep hl=>res.ay le o1 o2 o3 hl⟩
  .cases e
 .cases e
noncomputable def Q_:D->aj String
 |.str _=>some "str"
 |.lst _=>some "list"
 |.ay _=>some "dict"
 |_=>none
def ZG{T:String}(le:az k.F H)(t:Top K k H x d)(e:Q_ d=some T):Gp K T x H:=by
 cases d with
 |str _=>cases e;cases t.flat rfl;rfl
 |lst _=>cases e;obtain⟨p,ws,rfl,q,r⟩:=t.lst le;exact .inl ⟨rfl,_,q⟩
 |ay _=>cases e;obtain⟨p,es,ep,rfl,h1,h2⟩:=t.ay le;exact .inr (.inr (.inl ⟨rfl,.inr (.inr ⟨es,ep,h1⟩)⟩))
 |_=>cases e
def xl(T:String)(o:List D->aj Rv)(f:GE)(g:GA):GE:=λU S=>bd (f U S) λr S1=>if(ux S1 (lS r)).bind Q_=some T then bd (g U S1) λvs S2=>(uy S2 (lS r::vs)).bind λds=>(o ds).map λy=>.ok y S2 else none
def Vc{W:XW}{q:Nat}{T:String}{o:List D->aj Rv}{r:V->List V->Hp->VK->Prop}{f:GE}{g:GA}{Z:St}{H:Hp}{Q:VK}(bw:cb K (oI r) o)(t:tE K W q (xl T o f g) Z H Q):La K T r (tE K W q f) (fV K W q g) Z H Q:=by
 obtain⟨k,U,S,res,ok,gk,e,w⟩:=t;refine tX.bd ok gk e w λr S1 x k1 H1 bI g1 r1 e1 w1 _=>?_
 obtain⟨k2,u2,cO,r2⟩:=p6 bI r1;split at e1
 .rename_i hT
  obtain⟨d,h1,h2⟩:=cw.mp hT;refine⟨ZG cO.le (Fg cO r2 h1) h2,tX.bd cO (g1.up (u2 q)) e1 (w1.up (u2 q)) λvs S3 xs k3 H3 jj g3 r3 e3 w3 u3=>?_⟩
  obtain⟨ds,e4,e5⟩:=cw.mp e3;obtain⟨y,e6,rfl⟩:=cW.mp e5;obtain⟨x',xs',z,rr⟩:=bw k3 H3 (x::xs) ds y Q jj.le (OC jj (.cons (r2.up u3) r3) e4) e6 (.fin jj w3)
  lia
 .cases e1
def fJ:D->D->aj Rv
 |.lst ds,.str z=>(eX ds).bind λys=>(findS ys z).map λj=>rd (.int (j:Nat))
 |_,_=>none
def Vd:cb K (oI (PX K)) (o2 fJ):=uk λk H x z a b y Q le t1 t2 e res=>by
 unfold fJ at e;split at e
 .obtain⟨ys,e1,e2⟩:=cw.mp e;obtain⟨j,e3,rfl⟩:=cW.mp e2;obtain⟨p,ws,rfl,s,r⟩:=t1.lst le;rw[HP e1] at r;cases Hs r;cases t2.flat rfl;obtain⟨s1,s2⟩:=AX e3;exact⟨_,_,rfl,p,ys,_,j,rfl,rfl,s,s1,s2,res.flat le rfl⟩
 .cases e
noncomputable def mC:D->D->aj Rv
 |.ay kvs,i=>(jh i).map λj=>rd ((aN kvs j).getD .aJ)
 |_,_=>none
def Xh:cb K (oI (vM K)) (o2 mC):=uk λk H x z a b y Q le t1 t2 e res=>by
 unfold mC at e;split at e
 .obtain⟨j,hj,rfl⟩:=cW.mp e;obtain⟨p,o,rfl,g,h⟩:=uM le t1 t2 hj;refine⟨_,_,rfl,p,_,o,rfl,rfl,g,?_⟩;rcases h with⟨rfl,h⟩|⟨v,e,rfl,h,r⟩
  .rw[h] at res;exact res.flat le rfl
  .rw[h] at res;exact res.rep le r
 .cases e
end
variable{k:Kn}{ws:List V}{ds:List D}{v:V}
noncomputable def Cell.box:Cell->aj Bx
 |.o b=>some b
 |_=>none
def pA(S:aR):Val->aj Bx
 |.c n=>(S.s[n]?).bind Cell.box
 |.d (.ref n)=>(S.r[n]?).bind Cell.box
 |_=>none
noncomputable def setB(S:aR)(b:Bx):Val->aR
 |.c n=>⟨S.s.set n (.o b),S.r⟩
 |.d (.ref n)=>⟨S.s,S.r.set n (.o b)⟩
 |_=>S
noncomputable def Bx.mb(q:Nat):Bx->Bool
 |.lst _=>Nat.ble q 1
 |.ay _=>q == 0
noncomputable def Bx.ty:Bx->String
 |.lst _=>"list"
 |.ay _=>"dict"
section
variable{K:aI}{k:Kn}{H:Hp}{S:aR}{x:V}{v:Val}{b:Bx}{a:ai}
def P'{c:Cell}(h:c.box=some b):c=.o b:=by
 cases c <;> cases h;rfl
def Qa{q:Nat}(h:dz K k H a b)(m:b.mb q=true):∀o,H a=some o->uf q o=false:=by
 intro o e;cases b with
 |lst xs=>
  obtain⟨ws,e1,_⟩:=h;rw[e] at e1;cases e1;have:=y6 m
  match q,this with
  |0,_=>rfl
  |1,_=>rfl
 |ay kvs=>cases(beq_iff_eq.mp m);rfl
def Bg(ok:cf K k H S)(r:cV K k x v)(e:pA S v=some b):∃a,x=.ref a/\dz K k H a b/\∀q b' H',kK H H' a->b.mb q=true->dz K k H' a b'->cf K k H' (setB S b' v)/\Up q k H k H':=by
 cases v with
 |c n=>
  obtain⟨a,rfl,h1⟩:=r;obtain⟨c,h2,h3⟩:=cw.mp e;cases P' h3;obtain⟨h4,h5⟩:=ok.s.at' n a _ h1 h2;exact⟨a,rfl,h5,λq b' H' o m h=>ok.K2 h1 o h4 (Qa h5 m) (c:=.o b') ⟨h4,h⟩⟩
 |d y=>
  cases y with
  |ref n=>
   obtain⟨a,rfl,h1⟩:=ag.isRef r;obtain⟨c,h2,h3⟩:=cw.mp e;cases P' h3;obtain⟨h4,h5⟩:=ok.r.at' n a _ h1 h2;exact⟨a,rfl,h5,λq b' H' o m h=>ok.CW h1 o h4 (Qa h5 m) (c:=.o b') ⟨h4,h⟩⟩
  |_=>cases e
def e6n{T:String}(h:dz K k H a b)(e:b.ty=T):Gp K T (.ref a) H:=by
 cases b with
 |lst xs=>obtain⟨ws,h1,_⟩:=h;exact .inl ⟨e.symm,ws,.inl (.inl h1)⟩
 |ay kvs=>obtain⟨es,ep,h1,_⟩:=h;exact .inr (.inr (.inl ⟨e.symm,.inr (.inr ⟨es,ep,h1⟩)⟩))
end
def kJ(K:aI)(r:V->List V->Hp->VK->Prop)(m:Bx->List D->aj (Bx×D)):Prop:=∀k H a b ds b' d xs Q,az k.F H->dz K k H a b->ag K k xs ds->m b ds=some (b',d)->(∀x o',dz K k (upd H a o') a b'->ag K k [x] [d]->Q x (upd H a o'))->r (.ref a) xs H Q
def f7(q:Nat)(T:String)(m:Bx->List D->aj (Bx×D))(f:GE)(g:GA):GE:=λU S=>bd (f U S) λr S1=>if(pA S1 (lS r)).map Bx.ty=some T then bd (g U S1) λvs S2=>(pz vs S2).bind λp=>(pA p.2 (lS r)).bind λb=>if b.mb q=true then(m b p.1).map λz=>.ok (rd z.2) (setB p.2 z.1 (lS r)) else none else none
section
variable{X:Cx}{K:aI}{W:XW}{q:Nat}{T:String}{m:Bx->List D->aj (Bx×D)}{r:V->List V->Hp->VK->Prop}{f:GE}{g:GA}{Z:St}{H:Hp}{Q:VK}
def ZH(hm:kJ K r m)(t:tE K W q (f7 q T m f g) Z H Q):La K T r (tE K W q f) (fV K W q g) Z H Q:=by
 obtain⟨k,U,S,res,ok,gk,e,w⟩:=t;refine tX.bd ok gk e w λr S1 x k1 H1 bI g1 r1 e1 w1 _=>?_
 obtain⟨k2,u2,cO,r2⟩:=p6 bI r1;split at e1
 .rename_i hT
  obtain⟨b0,h1,h2⟩:=cW.mp hT;obtain⟨a0,ea,h3,_⟩:=Bg cO r2 h1;refine⟨ea ▸ e6n h3 h2,tX.bd cO (g1.up (u2 q)) e1 (w1.up (u2 q)) λvs S3 xs k3 H3 jj g3 r3 e3 w3 u3=>?_⟩
  obtain⟨⟨ds,S4⟩,e4,e5⟩:=cw.mp e3;obtain⟨k4,u4,pK,r4⟩:=E0 jj r3 e4;obtain⟨b,e6,e7⟩:=cw.mp e5;obtain⟨a,rfl,h4,h5⟩:=Bg pK ((r2.up u3).up (u4 q)) e6;split at e7
  .rename_i hb
   obtain⟨⟨b',d⟩,e8,rfl⟩:=cW.mp e7;refine hm k4 H3 a b ds b' d xs Q pK.le h4 r4 e8 λy o' h6 h7=>?_
   obtain⟨lI,u5⟩:=h5 q b' _ A4 hb h6;exact(w3.up (u4 q)) y k4 _ u5 lI h7
  .cases e7
 .cases e1
noncomputable def tK:Bx->List D->aj (Bx×D)
 |.lst xs,[d]=>if xs.length<1000000 then some (.lst (xs++[d]),.aJ) else none
 |_,_=>none
def yN:ag K k [.aJ] [.aJ]:=.flat rfl .nil
def E7{xs:List V}{d:D}(h:ag K k xs [d]):∃x,xs=[x]/\ag K k [x] [d]:=by
 obtain⟨x,us,rfl,h1,h2⟩:=h.cg;cases h2.fP;exact⟨x,rfl,h1⟩
def TZ:kJ K Oz tK:=by
 intro k H a b ds b' d xs Q le hb r e h;unfold tK at e;split at e
 .split at e
  .rename_i hl
   cases e;obtain⟨ws,h1,h2⟩:=hb;obtain⟨y,rfl,r1⟩:=E7 r;exact⟨a,ws,y,rfl,rfl,h1,fy (by rw[h2.length];exact hl) (by decide),h .aJ _ ⟨_,aH,h2.append r1⟩ yN⟩
  .cases e
 .cases e
noncomputable def Bh:Bx->List D->aj (Bx×D)
 |.lst xs,[.int i,d]=>if 0<=i/\i<2^62/\xs.length<1000000 then some (.lst (xs.take i.toNat++d::xs.drop i.toNat),.aJ) else none
 |_,_=>none
def T1:kJ K OA Bh:=by
 intro k H a b ds b' d xs Q le hb r e h;unfold Bh at e;split at e
 .split at e
  .rename_i hl
   cases e;obtain⟨ws,h1,h2⟩:=hb;obtain⟨y,us,rfl,r1,r2⟩:=r.cg;obtain⟨z,rfl,r3⟩:=E7 r2;cases r1.a_ rfl;refine⟨a,ws,_,z,rfl,rfl,h1,hl.1,hl.2.1,fy (by rw[h2.length];exact hl.2.2) (by decide),h .aJ _ ⟨_,aH,?_⟩ yN⟩
   have:∀(n:Nat) (l:List V),pG l n z=l.take n++z::l.drop n:=λn l=>by unfold pG;rfl
   rw[this];exact(h2.take _).append (.cons r3 (h2.drop _))
  .cases e
 .cases e
noncomputable def E8:Bx->List D->aj (Bx×D)
 |.lst xs,[.str z]=>(eX xs).bind λys=>(findS ys z).map λj=>(.lst (xs.eraseIdx j),.aJ)
 |_,_=>none
def T2(h:ag K k ws ds)(j:Nat):ag K k (ws.eraseIdx j) (ds.eraseIdx j):=by
 rw[List.eraseIdx_eq_take_drop_succ,List.eraseIdx_eq_take_drop_succ];exact(h.take _).append (h.drop _)
def T3:kJ K OU E8:=by
 intro k H a b ds b' d xs Q le hb r e h;unfold E8 at e;split at e
 .obtain⟨ys,e1,e2⟩:=cw.mp e;obtain⟨j,e3,e4⟩:=cW.mp e2;cases e4;obtain⟨ws,h1,h2⟩:=hb;obtain⟨y,rfl,r1⟩:=E7 r;cases r1.a_ rfl;obtain⟨s1,s2⟩:=AX e3;have h3:=T2 h2 j;rw[HP e1] at h2;cases Hs h2;exact⟨a,ys,_,j,rfl,rfl,h1,s1,s2,h .aJ _ ⟨_,aH,by rw[<-EB];exact h3⟩ yN⟩
 .cases e
def dm{α:Type}(kvs:List (TK×α))(z:Str):List (TK×α):=kvs.filter λe=>iB z e.1
def iZ:Bx->List D->aj (Bx×D)
 |.ay kvs,[.str z]=>if f_ kvs=true then(aN kvs (.inr z)).map λd=>(.ay (dm kvs z),d) else none
 |_,_=>none
theorem NQ{k:Kn}(z:Str):∀{ws:List (TK×V×V)} {kvs:List (TK×D)},ws.map (·.1)=kvs.map (·.1)->ag K k (ws.map (·.2.1)) (kvs.map (·.1.d))->ag K k (ws.map (·.2.2)) (kvs.map (·.2))->
  (dm ws z).map (·.1)=(dm kvs z).map (·.1)/\ag K k ((dm ws z).map (·.2.1)) ((dm kvs z).map (·.1.d))/\ag K k ((dm ws z).map (·.2.2)) ((dm kvs z).map (·.2))
 |[],[],_,_,_=>⟨rfl,.nil,.nil⟩
 |w::ws,p::kvs,h,r1,r2=>by
  obtain⟨h1,h2⟩:=List.cons.inj (show w.1::ws.map (·.1)=p.1::kvs.map (·.1) from h)
  obtain⟨a1,a2⟩:=ag.inv r1;obtain⟨b1,b2⟩:=ag.inv r2;obtain⟨c1,c2,c3⟩:=NQ z h2 a2 b2;unfold dm at *;rw[DI,DI,h1];split
  .exact⟨congr (congrArg List.cons h1) c1,.cons a1 c2,.cons b1 c3⟩
  .exact⟨c1,c2,c3⟩
 |[],_::_,h,_,_=>nomatch h
 |_::_,[],h,_,_=>nomatch h
def Xi:kJ K (vQ K) iZ:=by
 intro k H a b ds b' d xs Q le hb r e h;unfold iZ at e;split at e
 .split at e
  .rename_i ht
   obtain⟨v0,e1,e2⟩:=cW.mp e;cases e2;obtain⟨es,ep,h1,h2,h3,h4⟩:=hb;obtain⟨y,rfl,r1⟩:=E7 r;cases r1.a_ rfl;obtain⟨f1,f2,f3⟩:=NQ (K:=K) _ h2 h3 h4;rcases IC (k:=.inr _) h2 h4 with⟨_,z⟩|⟨v,e,z1,z2,z3⟩
   .rw[z] at e1;cases e1
   .rw[z2] at e1;cases e1;exact⟨a,es,ep,_,v,rfl,rfl,h1,Jj h2 h3 ht,z1,λkP=>h v _ ⟨_,kP,aH,f1,f2,f3⟩ z3⟩
  .cases e
 .cases e
end
def oJ(K:aI):o7:=λo i v H Q=>vR o i v H Q\/∃a H4,o=.ref a/\wt K H a i v H4/\Q H4
def QA{X:Cx}(hu:X.A.units+41<cLine):tq X (oJ X.K):=by
 intro aa s Z H o i v ov iv u Q I ro ri rv h;rcases h with h|⟨a,H4,rfl,g,q⟩
 .exact UG aa s Z H o i v ov iv u Q I ro ri rv h
 .cases ro;exact TF (by lia) I g ri rv λs4 I4=>⟨H4,I4,q⟩
def uz(b:Bx)(i v:D):aj Bx:=match b with
 |.lst xs=>(intD i).bind λk=>(ue xs.length k).map λj=>.lst (xs.set j v)
 |.ay kvs=>(jh i).bind λj=>if kvs.length<1000000 then some (.ay (bR kvs j v)) else none
section
variable{X:Cx}{K:aI}{W:XW}{q:Nat}{fv fo fi:GE}{o e i:Expr}{pos pos':Pos}{Z:St}{H:Hp}
def Xj{d:D}(h:ag K k ws ds)(r:ag K k [v] [d])(j:Nat):ag K k (ws.set j v) (ds.set j d):=by
 induction ds generalizing ws j with
 |nil=>rw[h.fP];exact .nil
 |cons x ds ih=>
  obtain⟨w,us,rfl,h1,h2⟩:=h.cg;cases j with
  |zero=>exact .cons r h2
  |succ j=>exact .cons h1 (ih h2 j)
def Qb{a:ai}{b b':Bx}{di dv:D}{y:V}{Q:Hp->Prop}(le:az k.F H)(hb:dz K k H a b)(ri:ag K k [y] [di])(rv:ag K k [v] [dv])(e:uz b di dv=some b')(h:∀o',dz K k (upd H a o') a b'->Q (upd H a o')):oJ K (.ref a) y v H Q:=by
 unfold uz at e;split at e
 .obtain⟨j,h1,e⟩:=cw.mp e;obtain⟨n,h2,rfl⟩:=cW.mp e;cases E5 h1;cases ri.a_ rfl;obtain⟨ws,h3,h4⟩:=hb;exact .inl ⟨a,ws,j,n,rfl,rfl,h3,by rw[h4.length];exact h2,h _ ⟨_,aH,Xj h4 rv n⟩⟩
 .obtain⟨j,h1,e⟩:=cw.mp e;split at e
  .rename_i hl
   cases e;obtain⟨es,ep,h2,h3,h4,h5⟩:=hb;obtain⟨k1,k2⟩:=zK h1;have ry:ag K k [y] [j.d]:=by rw[k1];exact ri
   obtain⟨p1,p2,p3⟩:=ID ry rv h3 h4 h5;have kD:es.length<sizeLine:=by
    have:=h5.length;rw[bJ,bJ] at this;rw[this];exact fy hl (by decide)
   exact .inr ⟨a,_,rfl,⟨es,ep,j,h2,OP h3 h4 le,rE (k:=k.all H) j (ry.all le),k2,kD,rfl⟩,h _ ⟨_,_,aH,p1,p2,p3⟩⟩
  .cases e
def cq(q:Nat)(fv fo fi:GE):GS:=λU S=>kb U (ka fv (ka fo (ka fi gN)) U S) λvs S1=>match vs with
 |[v,o,i]=>(pz [v,i] S1).bind λp=>(pA p.2 o).bind λb=>if b.mb q=true then(match p.1 with
  |[dv,di]=>(uz b di dv).map λb'=>.nx U (setB p.2 b' o)
  |_=>none) else none
 |_=>none
def ZI{D:Ends}(t:tS K W q (cq q fv fo fi) D Z H):tE K W q fv Z H λv H1=>tE K W q fo Z H1 λo H2=>tE K W q fi Z H2 λi H3=>oJ K o i v H3 λH4=>D.nx Z H4:=by
 have t1:fV K W q (ka fv (ka fo (ka fi gN))) Z H λxs H3=>∃v o i,xs=[v,o,i]/\oJ K o i v H3 λH4=>D.nx Z H4:=by
  obtain⟨k,U,S,fr,ok,gk,e,w⟩:=t;refine tS.bd ok gk e w λvs S1 xs k1 H1 bI g1 r1 e1 w1=>?_
  split at e1
  .rename_i v o i
   cases r1 with
   |@cons xv _ _ _ rv t=>
    cases t with
    |@cons xo _ _ _ ro t=>
     cases t with
     |@cons xi _ _ _ ri t=>
      cases t;refine⟨xv,xo,xi,rfl,?_⟩;obtain⟨⟨ds,S2⟩,e2,e3⟩:=cw.mp e1;obtain⟨k2,u2,cO,r2⟩:=E0 bI (.cons rv (.cons ri .nil)) e2;obtain⟨b,e4,e5⟩:=cw.mp e3;obtain⟨a,rfl,h4,h5⟩:=Bg cO (ro.up (u2 q)) e4;split at e5
      .rename_i hb
       obtain _|⟨dv,_|⟨di,_|⟨_,_⟩⟩⟩:=ds
       .cases e5
       .cases e5
       .obtain⟨b',e6,rfl⟩:=cW.mp e5;obtain⟨s1,s2⟩:=r2.inv;refine Qb cO.le h4 s2 s1 e6 λo' h6=>?_
        obtain⟨lI,u5⟩:=h5 q b' _ A4 hb h6;exact bY.now (bY.up (bY.up w1 (u2 q)) u5) lI ((g1.up (u2 q)).up u5)
       .cases e5
      .cases e5
  .cases e1
 refine nB (tI t1) λv H1 h=>nB (tI h) λo H2 h=>nB (tI h) λi H3 h=>?_
 obtain⟨v',o',i',e,h⟩:=zS h;cases e;exact h
def ZJ(he:PE X e (tE K W q fv))(ho:PE X o (tE K W q fo))(hi:PE X i (tE K W q fi))(hu:X.A.units+41<cLine)(hK:X.K=K)
  (ha:∀v,assign (.Subscript o i pos') X.env v=(do
   let ov <-holding [v] (eval o X.env)
   let iv <-holding [v,ov] (eval i X.env)
   standAt pos'
   holding [v,ov,iv] (setItem ov iv v)
   release [v,ov,iv] []))
  (hs:swapsWithSole [.Subscript o i pos'] e pos.line X.env=pure false) (hw:swappedStores [.Subscript o i pos'] e X.env=pure none)
  (h1:(assignEach [.Subscript o i pos'] X.env).map (·.2)=[assign (.Subscript o i pos') X.env]):PS X (.Assign [.Subscript o i pos'] e pos) (tS K W q (cq q fv fo fi)):=by
 subst hK;exact(YI he (YH ho hi (QA hu) ha) hs hw h1).mono λD Z H t=>ZI t
end
end L2
namespace L2
open PySem PySem.Spec PySem.W PyProof.Rows
section
variable{X:Cx}{K:fm}{W:XW}{q:Nat}{pos:Pos}{aa:List (ai×Obj)}{Z:St}
def rO:PE X (.Dict [] [] pos) ZD:=λaa s Z H Q I h=>
 wpAny_Dict_empty ⟨.ref s.heap.objs.size,_,I.laid (a:=s.heap.objs.size) (o:=.dG [] 0) (t':=s.toks) (λ_ _ q=>cU _ q) (bU _) (H9 s.heap I.big),rfl,h _ (I.bw.fresh (bU _))⟩
noncomputable def ph:GE:=λ_ S=>some (.ok (.o (.ay [])) S)
def qR:PE X (.Dict [] [] pos) (tE K W q ph):=rO.mono λZ H Q t p hp=>by
 obtain⟨k,U,S,res,ok,gk,e,w⟩:=t;cases e;exact kr.ay (.fin ok w) ok.le rfl .nil .nil hp
def nW(K:fm)(F:Hp)(e:TK×V×V):Prop:=aV K F [e.2.1] [e.1.d]/\e.1.ok 8=true
def Qc(K:fm)(uE:List (TE×TE)):TE:=λZ H Q=>∀p,H p=none->Fe uE Z (upd H p (.dG [] 0)) λps H2=>(∃e0,H2 p=some (.dG [] e0))/\∃(F:Hp) (qs:List (TK×V×V)),F p=none/\az F H2/\ps=qs.map (·.2)/\(∀e∈qs,nW K F e)/\qs.length<=15/\∀ep,Q (.ref p) (upd H2 p (.dG (eO [] qs) ep))
def Ve{F:Hp}{qs:List (TK×V×V)}(h:∀e∈qs,nW K F e):∀{es:List (TK×V×V)},aV K F (es.map (·.2.1)) (es.map (·.1.d))->aV K F ((eO es qs).map (·.2.1)) ((eO es qs).map (·.1.d)):=λ{es} r=>MO K (λp m=>(h p m).1) r
theorem Ni{A:cK}{E:ah->ao->Prop}{F H2:Hp}{p:ai}(hF:F p=none)(le:az F H2)(hu:A.units+8<cLine){Q:Unit->ao->Prop}:∀{qs:List (TK×V×V)} {ws:List (ah×ah)} {es:List (TK×V×V)} {ep:Nat} {s:ao},VV (qs.map (·.2)) ws->(∀e∈qs,nW X.K F e)->aV X.K F (es.map (·.2.1)) (es.map (·.1.d))->es.length+qs.length<=1000->Inv X aa Z (upd H2 p (.dG es ep)) s->(∀ep s,Inv X aa Z (upd H2 p (.dG (eO es qs) ep)) s->Q () s)->
  wpAny (model X.prog X.w) A (forIn ws () λ(x:ah×ah) _=>do dictSet p x.1 x.2;pure (ForInStep.yield ())) Q E s
 |[],_,es,ep,s,v,_,_,_,I,h=>by
  rw[DH] at v;cases v;rw[List.forIn_nil];exact aP (h ep s I)
 |e::qs,_,es,ep,s,v,hk,r,hl,I,h=>by
  rw[cR] at v;cases v with
  |cons rv v=>
   rw[List.forIn_cons];have sm:az F (upd H2 p (.dG es ep)):=λb o z=>by rw[c_ (λy=>by rw[y,hF] at z;cases z)];exact le b o z
   have JV:=hk e (.head _);rw[j9] at hl;refine ax (ax (HN (by lia) I ⟨es,ep,e.1,aH,r.Gq sm,JV.1.Gq sm,JV.2,by rw[sizeLine_eq];lia,rfl⟩ rv.1 rv.2 λs' I'=>aP ?_))
   rw[V2] at I';have FX:=Eh e.1 e.2.1 e.2.2 es;have e3:(eO es [e]).length=(dh es e.1 e.2.1 e.2.2).length:=rfl;exact Ni (es:=eO es [e]) hF le hu v (λe m=>hk e (.tail _ m)) (Ve (qs:=[e]) (λx m=>by cases lW.mp m;exact JV) r) (by lia) I' h
def Vf{keys:List (aj Expr)}{values:List Expr}{uE:List (TE×TE)}(h:zg X pos keys values uE)(hu:X.A.units+41<cLine)(je:keys.all (·.isSome)=true)(hl:keys.length=values.length)(h0:keys≠[])(xW:keys.length<=15):PE X (.Dict keys values pos) (Qc X.K uE):=by
 intro aa s Z H Q I q;have hn:=I.bw.fresh (bU s.heap.objs.size);have I1:=I.laid (a:=s.heap.objs.size) (o:=.dG [] 0) (h':=s.heap.push { cls:=.type "dict",data:=.dict #[]}) (t':=s.toks) (λ_ _ q=>cU _ q) (bU _) (H9 s.heap I.big)
 have lp:∀(ks:List (aj Expr)) (vs:List Expr),ks.all (·.isSome)=true->ks.length=vs.length->(pairTrees ks vs X.env pos).length=ks.length:=by
  intro ks
  induction ks with
  |nil=>intro vs _ e;cases vs with
   |nil=>rfl
   |cons _ _=>cases e
  |cons k ks ih=>
   intro vs a e;rw[qf,jy] at a;cases k with
   |none=>cases a.1
   |some k=>cases vs with
    |nil=>cases e
    |cons v vs=>exact congrArg (·+1) (ih vs a.2 (Nat.succ.inj e))
 have Km:=lp keys values je hl;rw[arm_eval_Dict,zip_pairTrees keys values X.env pos je hl,dictDisplay_pairs _ (λz=>h0 (List.eq_nil_of_length_eq_zero (by rw[<-Km,z];rfl))) (by rw[Km];lia)]
 refine ax (wpAny_standAt (ax ?_));unfold subDict;refine ax (wpAny_alloc (ax (i5 ?_)));rw[bL (by rw[Km];exact xW)]
 refine ax (bM (h aa _ Z _ _ I1 (q _ hn)) λws s2 hh=>?_)
 obtain⟨ps,H2,I2,rel,⟨e0,e⟩,F,qs,hF,le,ep,hk,hq,q2⟩:=hh;subst ep;refine i5 (ax ?_);have eu:upd H2 s.heap.objs.size (.dG [] e0)=H2:=by
  grind [aH,c_]
 refine Ni hF le (by show X.A.units+8<cLine;lia) rel hk .nil (by rw[Aq];lia) (eu ▸ I2) λep s' I'=>?_
 exact aP (aP (aP ⟨.ref _,_,I',rfl,q2 ep⟩))
noncomputable def IT:List D->aj (List (TK×D))
 |[]=>some []
 |a::b::ds=>(jh a).bind λj=>(IT ds).map λps=>(j,b)::ps
 |_=>none
def n9(g:GA):GE:=λU S=>bd (g U ⟨S.s++[.o (.ay [])],S.r⟩) λvs S1=>(pz vs S1).bind λz=>if z.2.s.length=S.s.length+1 then(match z.2.s[S.s.length]? with
 |some (.o (.ay []))=>(IT z.1).bind λps=>if ps.length<=15 then some (.ok (.o (.ay (ps.foldl (λkvs p=>bR kvs p.1 p.2) []))) ⟨z.2.s.take S.s.length,z.2.r⟩) else none
 |_=>none) else none
def zM:List (GE×GE)->GA
 |[]=>gN
 |p::r=>ka p.1 (ka p.2 (zM r))
noncomputable def qV:List (V×V)->List V
 |[]=>[]
 |p::r=>p.1::p.2::qV r
noncomputable abbrev Gk(K:fm)(W:XW)(q:Nat)(gs:List (GE×GE)):List (TE×TE):=gs.map λp=>(tE K W q p.1,tE K W q p.2)
def Vg{gs:List (GE×GE)}:∀{H:Hp} {Q:List (V×V)->Hp->Prop},fV K W q (zM gs) Z H (λxs H2=>∀ps,qV ps=xs->Q ps H2)->Fe (Gk K W q gs) Z H Q:=by
 induction gs with
 |nil=>intro H Q t;exact zS t [] rfl
 |cons p gs ih=>intro H Q t;exact nB (tI t) λx H1 t=>nB (tI t) λy H2 t=>ih (nB t λxs H3 h ps e=>h _ (by rw[<-e];rfl))
theorem O0{k:Kn}:∀{ps:List (V×V)} {ds:List D} {es:List (TK×D)},IT ds=some es->ag K k (qV ps) ds->∃qs:List (TK×V×V),ps=qs.map (·.2)/\(∀e∈qs,nW K k.F e)/\Paired (qE K k) qs es
 |[],ds,es,e,r=>by
  cases ds with
  |nil=>cases e;exact⟨[],rfl,(λ_ m=>nomatch m),.nil⟩
  |cons _ _=>have:=r.length;cases this
 |p::ps,ds,es,e,r=>by
  cases ds with
  |nil=>have:=r.length;cases this
  |cons a ds=>cases ds with
   |nil=>have:=r.length;cases this
   |cons b ds=>
    obtain⟨j,q1,e⟩:=cw.mp e;obtain⟨ps',q2,rfl⟩:=cW.mp e;obtain⟨r1,r⟩:=ag.inv r;obtain⟨r2,r⟩:=ag.inv r;obtain⟨qs,h1,h2,h3⟩:=O0 q2 r;have rk:ag K k [p.1] [j.d]:=by rw[(zK q1).1];exact r1
    refine⟨(j,p.1,p.2)::qs,by rw[h1];rfl,λe m=>?_,.cons ⟨rfl,rk,r2⟩ h3⟩
    rcases y0a.mp m with rfl|m
    .exact⟨rE (k:=k) j rk,(zK q1).2⟩
    .exact h2 e m
def T4{α:Type}{l:List α}{n:Nat}{p:α}(h:l.length=n+1)(e:l[n]?=some p):l=l.take n++[p]:=by
 conv=>lhs;rw[<-List.take_append_drop n l]
 congr 1
 obtain⟨hn,e⟩:=eU.mp e;rw[LF hn,e,Gu (by lia)]
def Xk{gs:List (GE×GE)}{H:Hp}{Q:VK}(t:tE K W q (n9 (zM gs)) Z H Q):Qc K (Gk K W q gs) Z H Q:=by
 intro p hp;obtain⟨k,U,S,res,ok,gk,e,w⟩:=t;have sm:az H (upd H p (.dG [] 0)):=qJ hp;obtain⟨fx,nx⟩:=ok.fresh hp;have cO:cf K k _ S:=ok.new (az.refl _) (λa _ o z=>sm a o z) (ok.le.trans sm) λ_ _ z=>z
 obtain⟨jj,u3⟩:=cO.pushS (b:=.ay []) fx nx ⟨[],0,aH,rfl,.nil,.nil⟩;have u4:Up q k H ⟨k.F,k.A,k.T++[p]⟩ (upd H p (.dG [] 0)):=(Up.of (az.refl _) sm).trans (u3 q);refine Vg ?_;refine tX.bd (R':=RE K) (Q':=Q) jj (gk.up u4) e (w.up u4) λvs S1 xs k1 H1 bI g1 r1 e1 w1 u1 ps0 e0=>?_
 subst e0;obtain⟨z,e2,e1⟩:=cw.mp e1;obtain⟨k2,u2,lI,r5⟩:=E0 bI r1 e2;split at e1
 .rename_i hl
  split at e1
  .rename_i hc
   obtain⟨ps,e3,e1⟩:=cw.mp e1;split at e1
   .rename_i xW
    cases e1;have ep:k2.T[S.s.length]?=some p:=Ff (u2 q).t (Ff u1.t (by rw[<-ok.s.ln];exact EY))
    obtain⟨hF,es,e0,hH,hk,_,_⟩:=lI.s.at' _ _ _ ep hc;cases es with
    |cons _ _=>cases hk
    |nil=>
     obtain⟨qs,h1,h2,h3⟩:=O0 e3 r5;have hlT:k2.T.length=S.s.length+1:=lI.s.ln.trans hl;have eT:=T4 hlT ep;have np:p∉k2.A++k2.T.take S.s.length:=by
      have nd:=lI.nd;rw[eT,<-lX] at nd;exact λm=>(lY.mp nd).2.2 p m p (List.mem_singleton_self _) rfl
     refine⟨⟨e0,hH⟩,k2.F,qs,hF,lI.le,h1,h2,by rw[Paired.length h3];exact xW,λkP=>?_⟩
     obtain⟨o1,o2,o3⟩:=OZ h3 (ws:=[]) (kvs:=[]) rfl .nil .nil;have ho:kK H1 (upd H1 p (.dG (eO [] qs) kP)) p:=A4;have Ku:=lI.take S.s.length;have ok7:cf K ⟨k2.F,k2.A,k2.T.take S.s.length⟩ (upd H1 p (.dG (eO [] qs) kP)) ⟨z.2.s.take S.s.length,z.2.r⟩:=Ku.new (az.refl _) (λa m o y=>by rw[ho a λy=>np (y ▸ m)];exact y) (λb o y=>by rw[ho b λy'=>by rw[y',hF] at y;cases y];exact lI.le b o y) λ_ _ y=>y
     have uu:=u4.trans (u1.trans (u2 q));refine w (.ref p) ⟨k2.F,k2.A,k2.T.take S.s.length⟩ _ ⟨uu.f,uu.a,NG uu.t (DG ok.s.ln),λa o y1 y2=>?_⟩ ok7 ⟨p,rfl,hF,np,_,kP,aH,o1,ag.mono (k:=k2) ⟨az.refl k2.F,kH k2.A⟩ o2,ag.mono (k:=k2) ⟨az.refl k2.F,kH k2.A⟩ o3⟩
     rw[ho a λy=>by rw[y,hp] at y2;cases y2]
     exact uu.h a o y1 y2
   .cases e1
  .cases e1
 .cases e1
def Xl{keys:List (aj Expr)}{values:List Expr}{gs:List (GE×GE)}(hK:X.K=K)(h:zg X pos keys values (Gk K W q gs))(hu:X.A.units+41<cLine)(je:keys.all (·.isSome)=true)(hl:keys.length=values.length)(h0:keys≠[])(xW:keys.length<=15):PE X (.Dict keys values pos) (tE K W q (n9 (zM gs))):=(Vf h hu je hl h0 xW).mono λZ H Q t=>by
 rw[hK];exact Xk t
end
end L2
namespace L2
open PySem PySem.Spec PyProof.Rows
variable{aW:Str}{Z:St}{H:Hp}{Q:Str->Hp->Prop}
noncomputable def lC:D->aj Rv
 |.str x=>if x.length<=1000000 then some (rd (.str x)) else none
 |.int i=>if i.natAbs.log2<1920 then some (rd (.str (Str.ofString (toString i)))) else none
 |_=>none
def KQ:V->Hp->VK->Prop:=λx H Q=>(∃z:Str,x=.str z/\z.length<=sizeLine/\Q (.str z) H)\/∃i:Int,x=.int i/\i.natAbs.log2<1920/\Q (.str (Str.ofString (toString i))) H
abbrev TJ:=Str->St->Hp->(Str->Hp->Prop)->Prop
def vX:TJ:=λaW _ H Q=>Q aW H
def Qd(te:TE)(tj:TJ):TJ:=λaW Z H Q=>te Z H λx H1=>∃y,x=.str y/\(aW++y).length<=sizeLine/\tj (aW++y) Z H1 Q
def PJ(X:Cx)(es:List Expr)(tj:TJ):Prop:=∀(aW:Str) (aa:List (ai×Obj)) (s:ao) (Z:St) (H:Hp) (Q:Str->Hp->Prop) (R:Str->ao->Prop),Inv X aa Z H s->tj aW Z H Q->aW.length<=sizeLine->
 (∀out s' H',out.length<=sizeLine->Inv X aa Z H' s'->Q out H'->R out s')->Joins (model X.prog X.w) X.A X.xe (evalEach es X.env) aW R s
abbrev GJ:=Str->Gx Str
noncomputable def jQ:GJ:=λaW _ S=>some (.ok aW S)
noncomputable def Rv.str:Rv->aj Str
 |.v (.d (.str i))=>some i
 |_=>none
noncomputable def l5(f:GE)(j:GJ):GJ:=λaW U S=>bd (f U S) λr S1=>r.str.bind λy=>if(aW++y).length<=1000000 then j (aW++y) U S1 else none
noncomputable def wQ(j:GJ):GE:=λU S=>bd (j Str.empty U S) λz S1=>some (.ok (rd (.str z)) S1)
abbrev RS:Rp Str Str:=λ_ _ b a=>b=a
section
variable{X:Cx}{K:aI}{W:XW}{q:Nat}{f:GE}{e v:Expr}{es:List Expr}{j:GJ}{pos:Pos}{te:TE}{tj:TJ}
def Rv.yS{r:Rv}{i:Str}(h:r.str=some i):r=rd (.str i):=by
 unfold Rv.str at h;split at h
 .cases h;rfl
 .cases h
def ZK:cb K (KO KQ) (o1 lC):=sS λk H x a y Q le t e res=>by
 unfold lC at e;split at e
 .split at e
  .cases e;cases t.flat rfl;exact⟨_,rfl,.inl ⟨_,rfl,ml (by assumption),res.flat le rfl⟩⟩
  .cases e
 .split at e
  .cases e;cases t.flat rfl;exact⟨_,rfl,.inr ⟨_,rfl,by assumption,res.flat le rfl⟩⟩
  lia
 lia
def BJ(h:PE X v (tE K W q f)):PE X (.FormattedValue v (-1) none pos) (tE K W q (gO (o1 lC) (bA f))):=by
 intro aa s Z H Q I t;refine wpAny_FormattedValue_plain (bM (h aa s Z H _ I (Jq (sF ZK t))) λu s1 ⟨x,H1,I1,r1,q1⟩=>?_)
 rcases q1 with⟨z,rfl,hz,q⟩|⟨i,rfl,hi,q⟩
 .obtain⟨t',rfl⟩:=r1;exact PyProof.Rows.formatField_str (λt2 tk=>⟨.str z,H1,I1.tok _,⟨_,rfl⟩,q⟩) hz
 .obtain⟨t',rfl⟩:=r1;exact wpAny_formatField_int hi ⟨.str _,H1,I1.tok _,⟨_,rfl⟩,q⟩
def ZL:PJ X [] vX:=λaW aa s Z H Q R I t hl hR=>Joins_nil (hR _ _ _ hl I t)
def Xm(he:PE X e te)(hj:PJ X es tj):PJ X (e::es) (Qd te tj):=λaW aa s Z H Q R I t hl hR=>
 Joins_cons (bM (he aa s Z H _ I t) λu s1 h1=>by
  obtain⟨x,H1,I1,r1,y,rfl,Q1,q1⟩:=h1;obtain⟨t,rfl⟩:=r1;exact⟨y,t,rfl,Q1,hj (aW++y) aa s1 Z H1 Q R I1 q1 Q1 hR⟩)
def Xn(t:tX RS K W q (jQ aW) Z H Q):vX aW Z H Q:=BF t λ_ _=>rfl
def Vh(hj:∀aW Z H Q,tX RS K W q (j aW) Z H Q->tj aW Z H Q)(t:tX RS K W q (l5 f j aW) Z H Q):Qd (tE K W q f) tj aW Z H Q:=by
 obtain⟨k,U,S,res,ok,gk,e,w⟩:=t;refine tX.bd ok gk e w λr S1 x k1 H1 bI g1 r1 e1 w1 _=>?_
 obtain⟨y,e2,e3⟩:=cw.mp e1;cases Rv.yS e2;split at e3
 .exact⟨y,(show ag K k1 [x] [.str y] from r1).a_ rfl,ml (by assumption),hj _ _ _ _ ⟨k1,U,S1,res,bI,g1,e3,w1⟩⟩
 .cases e3
def T5{v1 v2:Expr}{rest:List Expr}(h:PJ X (v1::v2::rest) tj)(hj:∀aW Z H Q,tX RS K W q (j aW) Z H Q->tj aW Z H Q):PE X (.JoinedStr (v1::v2::rest) pos) (tE K W q (wQ j)):=by
 intro aa s Z H Q I t;refine wpAny_JoinedStr (h Str.empty aa s Z H (λout H'=>Q (.str out) H') _ I (hj _ _ _ _ ?_) (kg _) λout s' H' h1 I' hQ=>⟨h1,.str out,H',I'.tok _,⟨_,rfl⟩,hQ⟩)
 obtain⟨k,U,S,res,ok,gk,e,w⟩:=t;refine tX.bd ok gk e w λz S1 z' k1 H1 bI g1 r1 e1 w1 _=>?_
 cases e1;cases r1;exact w1.now bI (show ag K k1 [_] [_] from .flat rfl .nil)
end
variable{S:aR}{n:Nat}{op:Operator}{h:Int->Int->Int}
def jA(K:aI)(atr:List (ai×Str)):Prop:=∀p∈atr,Cls K p.1/\fG K p.1 p.2
noncomputable def rA(S:aR)(n:Nat):aj (ai×List (Str×D)):=(S.r[n]?).bind λc=>match c with
 |.ins C fs=>some (C,fs)
 |_=>none
def E9{p:ai×List (Str×D)}(h:rA S n=some p):S.r[n]?=some (.ins p.1 p.2):=by
 obtain⟨c,h1,h2⟩:=cw.mp h;cases c <;> cases h2;exact h1
def bx(atr:List (ai×Str))(g:Str)(f:GE):GE:=λU S=>bd (f U S) λr S1=>r.ref.bind λn=>(rA S1 n).bind λp=>if atr.contains (p.1,g)=true then(p.2.lookup g).map λd=>.ok (rd d) S1 else none
noncomputable def fM(f:Str)(v:D):List (Str×D)->List (Str×D)
 |[]=>[(f,v)]
 |(g,x)::r=>if g=f then(g,v)::r else(g,x)::fM f v r
section
variable{X:Cx}{K:aI}{W:XW}{q:Nat}{atr:List (ai×Str)}{g:Str}{f fv fo fe fi:GE}{e o value i:Expr}{pos pos' e_:Pos}{Z:St}{H:Hp}
theorem Ia{k:Kn}{g:Str}{d:D}:∀{gs:List (Str×V)} {fs:List (Str×D)},gs.map (·.1)=fs.map (·.1)->ag K k (gs.map (·.2)) (fs.map (·.2))->fs.lookup g=some d->∃v,gs.lookup g=some v/\ag K k [v] [d]
 |[],[],_,_,e=>nomatch e
 |(x,v)::gs,(y,c)::fs,h,r,e=>by
  obtain⟨h1,h2⟩:=List.cons.inj (show x::gs.map (·.1)=y::fs.map (·.1) from h)
  obtain⟨a1,a2⟩:=ag.inv r;subst h1;rw[List.lookup_cons] at e ⊢;split at e
  .cases e;exact⟨v,rfl,a1⟩
  .exact Ia h2 a2 e
 |[],_::_,h,_,_=>nomatch h
 |_::_,[],h,_,_=>nomatch h
theorem NR{k:Kn}{g:Str}{v:V}{d:D}(rv:ag K k [v] [d]):∀{gs:List (Str×V)} {fs:List (Str×D)},gs.map (·.1)=fs.map (·.1)->ag K k (gs.map (·.2)) (fs.map (·.2))->(dF g v gs).map (·.1)=(fM g d fs).map (·.1)/\ag K k ((dF g v gs).map (·.2)) ((fM g d fs).map (·.2))
 |[],[],_,_=>⟨rfl,rv⟩
 |(x,w)::gs,(y,c)::fs,h,r=>by
  obtain⟨h1,h2⟩:=List.cons.inj (show x::gs.map (·.1)=y::fs.map (·.1) from h)
  obtain⟨a1,a2⟩:=ag.inv r;subst h1;unfold dF fM;split
  .exact⟨congrArg (List.cons x) h2,.cons rv a2⟩
  .obtain⟨c1,c2⟩:=NR rv h2 a2;exact⟨congrArg (List.cons x) c1,.cons a1 c2⟩
 |[],_::_,h,_=>nomatch h
 |_::_,[],h,_=>nomatch h
def ZM(ha:jA K atr)(he:PE X e (tE K W q f))(hb:attributeBase e g X.env (eval e X.env)=eval e X.env)(hK:X.K=K):PE X (.Attribute e g pos) (tE K W q (bx atr g f)):=by
 subst hK;refine(YW he hb).mono λZ H Q t=>?_
 obtain⟨k,U,S,res,ok,gk,e,w⟩:=t;refine tX.bd ok gk e w λr S1 x k1 H1 bI g1 r1 e1 w1 _=>?_
 obtain⟨n,e2,e3⟩:=cw.mp e1;cases Rv.lO e2;obtain⟨p,e4,e5⟩:=cw.mp e3;split at e5
 .rename_i hc
  obtain⟨h1,h2⟩:=ha _ (lV.mp hc);obtain⟨d,e6,rfl⟩:=cW.mp e5;obtain⟨a,dx,gs,rfl,h3,h4,h5,h6,h7⟩:=Bs bI r1 (E9 e4);obtain⟨v,h8,h9⟩:=Ia h6 h7 e6;exact⟨a,_,dx,gs,v,rfl,h5,h1,h2,h8,w1.now bI h9⟩
 .cases e5
def cf.CV{k:Kn}{a C dx:ai}{gs:List (Str×V)}{fs:List (Str×D)}{v:V}{d:D}(ok:cf K k H S)(hA:k.A[n]?=some a)(hF:k.F a=none)(h5:H a=some (.ins C dx gs))(h6:gs.map (·.1)=fs.map (·.1))(h7:ag K k (gs.map (·.2)) (fs.map (·.2)))(rv:ag K k [v] [d])(hq:Nat.ble q 1=true):
  cf K k (upd H a (.ins C dx (dF g v gs))) ⟨S.s,S.r.set n (.ins C (fM g d fs))⟩/\Up q k H k (upd H a (.ins C dx (dF g v gs))):=by
 obtain⟨c1,c2⟩:=NR (g:=g) rv h6 h7;refine ok.CW hA A4 hF (λo z=>?_) ⟨hF,dx,_,aH,c1,c2⟩
 rw[h5] at z;cases z;have:=y6 hq
 match q,this with
 |0,_=>rfl
 |1,_=>rfl
def eW(q:Nat)(atr:List (ai×Str))(g:Str)(fv fo:GE):GS:=λU S=>kb U (fv U S) λr1 S1=>kb U (fo U S1) λr2 S2=>(nE S2 (lS r1)).bind λz=>r2.ref.bind λn=>(rA z.2 n).bind λp=>if(atr.contains (p.1,g)&&Nat.ble q 1&&Nat.blt p.2.length 1000)=true then some (.nx U ⟨z.2.s,z.2.r.set n (.ins p.1 (fM g z.1 p.2))⟩) else none
def ZN(ha:jA K atr)(ho:PE X o (tE K W q fo))(hv:PE X value (tE K W q fv))(hs:swapsWith value (some (.Attribute o g pos')) pos.line X.env=pure false)(hK:X.K=K):PS X (.Assign [.Attribute o g pos'] value pos) (tS K W q (eW q atr g fv fo)):=by
 subst hK;refine(YX ho hv hs).mono λD Z H t=>?_
 obtain⟨k,U,S,fr,ok,gk,e,w⟩:=t;refine tS.bd ok gk e w λr1 S1 y k1 H1 bI g1 q1 e1 w1=>?_
 obtain⟨k2,u2,cO,q2⟩:=p6 bI q1;refine tS.BC cO (g1.up (u2 q)) e1 (w1.up (u2 q)) λr2 S2 x k3 H3 jj g3 r3 e2 w3 u3=>?_
 obtain⟨⟨d,S3⟩,e3,e4⟩:=cw.mp e2;obtain⟨k4,u4,pK,r4⟩:=EZ jj (q2.up u3) e3;obtain⟨n,e5,e6⟩:=cw.mp e4;cases Rv.lO e5;obtain⟨p,e7,e8⟩:=cw.mp e6;split at e8
 .rename_i hc
  cases e8;simp only[jy] at hc;obtain⟨⟨FO,q9⟩,JO⟩:=hc;obtain⟨h1,h2⟩:=ha _ (lV.mp FO);obtain⟨a,dx,gs,rfl,h3,h4,h5,h6,h7⟩:=Bs pK (ag.mono (u4 q).le r3) (E9 e7);have hl:gs.length<1000:=by
   have:=h7.length;rw[bJ,bJ] at this;rw[this];exact y6 JO
  obtain⟨lI,u5⟩:=pK.CV (g:=g) h3 h4 h5 h6 h7 r4 q9;exact⟨a,_,dx,gs,rfl,h5,h1,h2,hl,bY.now (bY.up w3 ((u4 q).trans u5)) lI (g3.up ((u4 q).trans u5))⟩
 .cases e8
def IU(q:Nat)(h:Int->Int->Int)(atr:List (ai×Str))(g:Str)(fo fe:GE):GS:=λU S=>kb U (fo U S) λr S1=>r.ref.bind λn=>(rA S1 n).bind λp=>if atr.contains (p.1,g)=true then(match p.2.lookup g with
 |some (.int a)=>kb U (fe U S1) λr2 S2=>r2.int.bind λb=>(rA S2 n).bind λp2=>if(p2.1 == p.1&&Nat.ble q 1&&Nat.blt p2.2.length 1000)=true then some (.nx U ⟨S2.s,S2.r.set n (.ins p2.1 (fM g (.int (h a b)) p2.2))⟩) else none
 |_=>none) else none
def Xo(yf:wg X op λx y H Q=>∃i j,x=.int i/\y=.int j/\Q (.int (h i j)) H)(ha:jA K atr)(ho:PE X o (tE K W q fo))(hv:PE X value (tE K W q fe))(hK:X.K=K):PS X (.AugAssign (.Attribute o g e_) op value pos) (tS K W q (IU q h atr g fo fe)):=by
 subst hK;refine(S_ ho hv yf).mono λD Z H t=>?_
 obtain⟨k,U,S,fr,ok,gk,e,w⟩:=t;refine tS.bd ok gk e w λr S1 x k1 H1 bI g1 r1 e1 w1=>?_
 obtain⟨n,e2,e3⟩:=cw.mp e1;cases Rv.lO e2;obtain⟨p,e4,e5⟩:=cw.mp e3;split at e5
 case isFalse=>cases e5
 rename_i hc
 obtain⟨h1,h2⟩:=ha _ (lV.mp hc);obtain⟨a,dx,gs,rfl,h3,h4,h5,h6,h7⟩:=Bs bI r1 (E9 e4);split at e5
 case h_2=>cases e5
 rename_i iv hl
 obtain⟨v,h8,h9⟩:=Ia h6 h7 hl;cases h9.a_ rfl;refine⟨a,_,dx,gs,_,rfl,h5,h1,h2,h8,tS.BC bI g1 e5 w1 λr2 S2 y k2 H2 cO g2 q2 e6 w2 u2=>?_⟩
 obtain⟨b,e7,e8⟩:=cw.mp e6;cases Rv.iR e7;cases(show ag X.K k2 [y] [.int b] from q2).a_ rfl;obtain⟨p2,e9,Jp⟩:=cw.mp e8;split at Jp
 case isFalse=>cases Jp
 rename_i hc
 cases Jp;simp only[jy,beq_iff_eq] at hc;obtain⟨⟨FO,q9⟩,JO⟩:=hc;obtain⟨a',YM,iH,z,h3',h4',QQ,h6',QR⟩:=Bs cO (ag.mono u2.le r1) (E9 e9);cases z;have hl:iH.length<1000:=by
  have:=QR.length;rw[bJ,bJ] at this;rw[this];exact y6 JO
 obtain⟨lI,u5⟩:=cO.CV (g:=g) (v:=.int (h iv b)) (d:=.int (h iv b)) h3' h4' QQ h6' QR (.flat rfl .nil) q9;exact⟨_,_,rfl,rfl,YM,iH,FO ▸ QQ,hl,FO ▸ bY.now (bY.up w2 u5) lI (g2.up u5)⟩
def IV(q:Nat)(h:Int->Int->Int)(fo fi fe:GE):GS:=λU S=>kb U (fo U S) λr1 S1=>kb U (fi U S1) λr2 S2=>(match lS r2,pA S2 (lS r1) with
 |.d di,some (.ay kvs)=>(jh di).bind λj=>(match aN kvs j with
  |some (.int a)=>kb U (fe U S2) λr3 S3=>r3.int.bind λb=>(pA S3 (lS r1)).bind λc=>if c.mb q=true then(match c with
   |.ay rH=>if rH.length<1000000 then some (.nx U (setB S3 (.ay (bR rH j (.int (h a b)))) (lS r1))) else none
   |_=>none) else none
  |_=>none)
 |_,_=>none)
def Vi(hu:X.A.units+41<cLine):AG X (λo i H Q=>∃a v,o=.ref a/\gE X.K H a i (some v)/\Q v H):=by
 intro aa s Z H o i ov iv Q I ro ri h;obtain⟨p,v,rfl,g,q⟩:=h;cases ro;exact Nb (by lia) I g ri λw' s3 I3 lQ=>⟨v,H,I3,lQ,q⟩
def Xp(yf:DR X op (J_ h))(ho:PE X o (tE K W q fo))(hi:PE X i (tE K W q fi))(hv:PE X value (tE K W q fe))(hu:X.A.units+41<cLine)(hK:X.K=K)
  (ha:∀ov iv new,augStore i ov iv new=(do holding [new,ov,iv] (setItem ov iv new);release [new,ov,iv] [];pure .next)):PS X (.AugAssign (.Subscript o i e_) op value pos) (tS K W q (IV q h fo fi fe)):=by
 subst hK;refine(V8 ho hi (Vi hu) hv yf (QA hu) ha).mono λD Z H t=>?_
 obtain⟨k,U,S,fr,ok,gk,e,w⟩:=t;refine tS.bd ok gk e w λr1 S1 x k1 H1 bI g1 q1 e1 w1=>?_
 obtain⟨k2,u2,cO,q2⟩:=p6 bI q1;refine tS.BC cO (g1.up (u2 q)) e1 (w1.up (u2 q)) λr2 S2 y k3 H3 jj g3 r3 e2 w3 u3=>?_
 obtain⟨k4,u4,pK,q4⟩:=p6 jj r3;have q5:=(q2.up u3).up (u4 q);split at e2
 case h_2=>cases e2
 rename_i di kvs hd hg
 rw[hd] at q4;obtain⟨j,e3,e4⟩:=cw.mp e2;obtain⟨a,rfl,hb,_⟩:=Bg pK q5 hg;split at e4
 case h_2=>cases e4
 rename_i iv Ce
 have tp:Top X.K k4 H3 (.ref a) (.ay kvs):=.inr ⟨a,.ay kvs,rfl,rfl,hb⟩;obtain⟨p,o,z,g,hh⟩:=uM pK.le tp (.inl q4) e3;cases z;rcases hh with⟨_,z⟩|⟨v,d,rfl,z,rv⟩
 .rw[Ce] at z;cases z
 rw[Ce] at z;cases z;cases rv.a_ rfl;refine⟨a,_,rfl,g,tS.BC pK (g3.up (u4 q)) e4 (w3.up (u4 q)) λr5 S5 y5 k5 H5 lI g5 q6 e5 w5 u5=>?_⟩
 obtain⟨b,e6,e7⟩:=cw.mp e5;cases Rv.iR e6;cases(show ag X.K k5 [y5] [.int b] from q6).a_ rfl;obtain⟨c,e8,e9⟩:=cw.mp e7;obtain⟨a',z,mT,Lo⟩:=Bg lI (q5.up u5) e8;cases z;split at e9
 case isFalse=>cases e9
 rename_i hm
 cases c with
 |lst _=>cases e9
 |ay rH=>
  dsimp only at e9;split at e9
  case isFalse=>cases e9
  rename_i hl
  cases e9;refine⟨_,_,rfl,rfl,Qb (b:=.ay rH) (dv:=.int (h iv b)) (di:=di) (b':=.ay (bR rH j (.int (h iv b)))) lI.le mT ((show cV X.K k4 y (.d di) from q4).up u5) (.flat rfl .nil) ?_ λo' h6=>?_⟩
  .unfold uz;dsimp only;rw[e3,yZ,bL hl]
  .obtain⟨Ku,u6⟩:=Lo q _ _ A4 hm h6;exact bY.now (bY.up w5 u6) Ku (g5.up u6)
end
end L2
namespace L2
open PySem PySem.Spec PySem.W PyProof.Rows
variable{k k':Int->Int->Bool}{op:CmpOp}{j:GJ}{T:String}{m:Str}
def cx.le{k k':Nat}{A:PySem.Around}(h:cx k A)(e:k'<=k:=by decide):cx k' A:=h.mono e
def uq{X:Cx}:eV X W0:=λ_ _ _ _ _ _ _ _ _ _ _ z=>z.elim
def Ae:List Str->Bool
 |[]=>true
 |x::l => !l.contains x&&Ae l
theorem Fo:∀{l:List Str},Ae l=true->l.Nodup
 |[],_=>.nil
 |x::l,h=>by
  obtain⟨h1,h2⟩:=Ar.mp h;rw[Bool.not_eq_true',<-Bool.not_eq_true,lV] at h1;exact sf.mpr ⟨h1,Fo h2⟩
section
variable{X:Cx}{K:fm}{W:XW}{q:Nat}{a b c e o:Expr}{es rest:List Expr}{f g h:GE}{fs:GA}{ft fu:GT}{pos p apos cy:Pos}{x:Str}
def xv(i:Nat)(hN:X.N[i]?=some x)(hv:G3 X.env.scope x)(hd:(x == ("__debug__":Str))=false)(q_:(x == ("__classdict__":Str))=false):PE X (.Name x pos) (tE K W q (qY i)):=Y7 (Yx hN hv hd q_)
def xi{i:Int}{j}:PE X (.Constant (.int i) j pos) (tE K W q (gC (.int i))):=xE Yy
def xs{i:Str}{j}:PE X (.Constant (.str i) j pos) (tE K W q (gC (.str i))):=xE YA
def xb{i:Bool}{j}:PE X (.Constant (.bool i) j pos) (tE K W q (gC (.bl i))):=xE e5v
def xn{j}:PE X (.Constant .none j pos) (tE K W q (gC .aJ)):=xE Yz
def xty{n:String}(hm:X.mg x=none)(hv:bootBuiltins x=some (.type n))(hg:Gl X x)(hn:x≠"__name__")(hd:(x == ("__debug__":Str))=false):PE X (.Name x pos) (tE K W q (gC (.ty n))):=xE (e6d hg hm hv hn hd)
def m9(K:fm)(op:Operator)(o:List D->aj Rv):Prop:=∀X:Cx,X.K=K->∃r,dB X (binaryOp op) r/\cb K (lM r) o
def Ls:m9 K .Add (o2 wZ):=λX h=>⟨_,WW K h,Zp⟩
def Lx:m9 K .Sub (o2 (dX sT λi j=>.int (i - j))):=λX h=>⟨_,YR,Zr⟩
def Lv:m9 K .Mult (o2 ug):=λX h=>⟨_,WY,Zu⟩
def Dx:m9 K .FloorDiv (o2 (dX (λ_ j=>decide (0<j/\j<1073741824)) λi j=>.int (i / j))):=λX h=>⟨_,V_,WX⟩
def Lu:m9 K .Mod (o2 (dX (λ_ j=>decide (0<j)) λi j=>.int (i%j))):=λX h=>⟨_,YS,Zs⟩
def Lw:m9 K .Pow (o2 (dX (λi j=>decide (0<=j/\j<=1000000/\i.natAbs<2^64)) λi j=>.int (i^j.toNat))):=λX h=>⟨_,YT,Zt⟩
def xo{op:Operator}{o:List D->aj Rv}(c:m9 K op o)(ha:PE X a (tE K W q f))(hb:PE X b (tE K W q g))(hK:X.K=K):PE X (.BinOp a op b pos) (tE K W q (gO o (ck f g))):=by
 obtain⟨r,h1,h2⟩:=c X hK;exact e6f h1 h2 ha hb
def Lz(ha:PE X a (tE K W q f)):PE X (.UnaryOp .USub a pos) (tE K W q (gO (o1 ui) (bA f))):=e6g YU Zv ha
def jB(K:fm)(op:CmpOp)(o:List D->aj Rv):Prop:=∀X:Cx,X.K=K->X.A.units+41<cLine->∃r,dB X (compareOp op) r/\cb K (lM r) o
def Vn:jB K .Eq (o2 (vi false)):=λX h u=>⟨_,Zz K (by lia) h,e6i⟩
def Vt:jB K .NotEq (o2 (vi true)):=λX h u=>⟨_,Zx K (by lia) h,e6j⟩
def Vs:jB K .Lt (o2 (dX sT λi j=>.bl (decide (i<j)))):=λX h u=>⟨_,vJ,IP⟩
def Vr:jB K .LtE (o2 (dX sT λi j=>.bl (decide (i<=j)))):=λX h u=>⟨_,vI,IP⟩
def Vo:jB K .Gt (o2 (dX sT λi j=>.bl (decide (j<i)))):=λX h u=>⟨_,e6a,IP⟩
def Vp:jB K .In (o2 (Aa false)):=λX h u=>⟨_,ZA K u h,Qx false⟩
def Jf:jB K .NotIn (o2 (Aa true)):=λX h u=>⟨_,TH K u h,Qx true⟩
def Vq:jB K .Is (o2 (Ab false)):=λX h u=>⟨_,ZC,Qy false⟩
def Je:jB K .IsNot (o2 (Ab true)):=λX h u=>⟨_,W5,Qy true⟩
def xc{o:List D->aj Rv}(c:jB K op o)(ha:PE X a (tE K W q f))(hb:PE X b (tE K W q g))(hu:X.A.units+41<cLine)(hK:X.K=K)(hm:behindInMarks op b=false):PE X (.Compare a [op] [b] pos) (tE K W q (gO o (ck f g))):=by
 obtain⟨r,h1,h2⟩:=c X hK hu;exact Y8 h1 h2 ha hb hm
def yc{o:List D->aj Rv}(c:jB K op o)(ha:PE X a (tE K W q f))(hb:PE X b (tE K W q g))(hu:X.A.units+41<cLine)(hK:X.K=K)(hm:behindInMarks op b=false):PT X (.Compare a [op] [b] pos) (tT K W q (gB (gO o (ck f g)))):=by
 obtain⟨r,h1,h2⟩:=c X hK hu;exact QL (Wa h1 ha hb hm) λ_ _ _ t=>FD (sF h2 t)
noncomputable def IW(c c':Int->Int->Bool)(f g h:GE):GE:=λU S=>bd (f U S) λr1 S1=>bd (g U S1) λr2 S2=>r1.int.bind λi=>r2.int.bind λj=>if c i j=true then bd (h U S2) λr3 S3=>r3.int.map λl=>.ok (rd (.bl (c' j l))) S3 else some (.ok (rd (.bl false)) S2)
def Vj{Z:St}{H:Hp}{Q:VK}(t:tE K W q (IW k k' f g h) Z H Q):PH (oH λi j=>.bl (k i j)) (oH λi j=>.bl (k' i j)) (tE K W q f) (tE K W q g) (tE K W q h) Z H Q:=by
 obtain⟨n,U,S,res,ok,gk,e,w⟩:=t;refine tX.bd ok gk e w λr1 S1 x k1 H1 bI g1 q1 e1 w1 _=>tX.bd bI g1 e1 w1 λr2 S2 y k2 H2 cO g2 q2 e2 w2 _=>?_
 obtain⟨i,h1,e3⟩:=cw.mp e2;obtain⟨j,h2,e4⟩:=cw.mp e3;cases Rv.iR h1;cases Rv.iR h2;cases(show ag K k1 [x] [.int i] from q1).a_ rfl;cases(show ag K k2 [y] [.int j] from q2).a_ rfl;refine⟨i,j,rfl,rfl,k i j,rfl,?_⟩;split at e4
 .rename_i hk
  rw[hk];refine rC (tX.bd cO g2 e4 w2 λr3 S3 z k3 H3 jj g3 q3 e5 w3 _=>?_)
  obtain⟨l,h3,rfl⟩:=cW.mp e5;cases Rv.iR h3;cases(show ag K k3 [z] [.int l] from q3).a_ rfl;exact⟨_,_,rfl,rfl,w3.now jj (show ag K k3 [_] [_] from .flat rfl .nil)⟩
 .rename_i hk
  cases e4;rw[Bool.not_eq_true] at hk;rw[hk];exact rB (w2.now cO (show ag K k2 [_] [_] from .flat rfl .nil))
def ych{yx:CmpOp}(h1:∀X:Cx,dB X (compareOp op) (oH λi j=>.bl (k i j)))(h2:∀X:Cx,dB X (compareOp yx) (oH λi j=>.bl (k' i j)))(ha:PE X a (tE K W q f))(hb:PE X b (tE K W q g))(hc:PE X c (tE K W q h))(hm:lastMarks [op,yx] [b,c]=false):PT X (.Compare a [op,yx] [b,c] pos) (tT K W q (gB (IW k k' f g h))):=QL (Uw (h1 X) (h2 X) ha hb hc hm) λ_ _ _ t=>Vj t
def yt(ha:PE X a (tE K W q f))(hK:X.K=K)(ht:∀whole,isTrue a X.env whole=(do let v <-whole;standAt a.pos;holding [v] (truthy v))):PT X a (tT K W q (cH f)):=Y9 hK ha ht
def ya1(h:PT X a (tT K W q ft)):PW X (.BoolOp .And [a] pos) (tT K W q ft):=V5 h
def yo1(h:PT X a (tT K W q ft)):PW X (.BoolOp .Or [a] pos) (tT K W q ft):=YB h
def xix(ha:PE X a (tE K W q f))(hb:PE X b (tE K W q g))(hu:X.A.units+41<cLine)(hK:X.K=K)(hs:Iy b):PE X (.Subscript a b pos) (tE K W q (gO (o2 F7) (ck f g))):=e6h (Ka K hu hK) e6l ha hb hs
def xsl{lo hi:aj Expr}{p2:Pos}{fl fh}(he:PE X e (tE K W q f))(hl:PO X lo (tX zh K W q fl))(hu:PO X hi (tX zh K W q fh))(hK:X.K=K):PE X (.Subscript e (.Slice lo hi none p2) pos) (tE K W q (vd f fl fh)):=U3 he hl hu hK
def zc{g:GE}{h:GA}(ha:PE X e (tE K W q g))(hr:PA X es (fV K W q h))(hs:starEach (e::es) X.env=(false,eval e X.env)::starEach es X.env):PA X (e::es) (fV K W q (ka g h)):=Wv ha hr hs
def xd{keys:List (aj Expr)}{values:List Expr}{gs:List (GE×GE)}(h:zg X pos keys values (Gk K W q gs))(hu:X.A.units+41<cLine)(hK:X.K=K)(je:keys.all (·.isSome)=true)(hl:keys.length=values.length)(h0:keys≠[])(xW:keys.length<=15):PE X (.Dict keys values pos) (tE K W q (n9 (zM gs))):=Xl hK h hu je hl h0 xW
def DS(X:Cx)(K:fm)(W:XW)(q:Nat)(es:List Expr)(j:GJ):Prop:=∃tj,PJ X es tj/\∀aW Z H Q,tX RS K W q (j aW) Z H Q->tj aW Z H Q
def jn:DS X K W q [] jQ:=⟨_,ZL,λ_ _ _ _ t=>Xn t⟩
def jc(he:PE X e (tE K W q f))(hr:DS X K W q es j):DS X K W q (e::es) (l5 f j):=by
 obtain⟨tj,h1,h2⟩:=hr;exact⟨_,Xm he h1,λ_ _ _ _ t=>Vh h2 t⟩
def xj{v1 v2:Expr}(h:DS X K W q (v1::v2::rest) j):PE X (.JoinedStr (v1::v2::rest) pos) (tE K W q (wQ j)):=by
 obtain⟨tj,h1,h2⟩:=h;exact T5 h1 h2
def s9(K:fm)(v:ah)(o:List D->aj Rv):Prop:=∀X:Cx,X.K=K->X.calm=true->X.A.units+41<cLine->∃r,bX X v r/\cb K r o
def Kd:s9 K (.builtin "len") (o1 eZ):=λX h c u=>⟨_,TX h,ZE⟩
def Kc:s9 K (.builtin "isinstance") (o2 eR):=λX h c u=>⟨_,TY h,ZF⟩
def Kb:s9 K (.builtin "all") (o1 (Fm λbs=>bs.all id)):=λX h c u=>⟨_,TQ K c h,Va _⟩
def Ke:s9 K (.builtin "min") (o1 (n6 iA)):=λX h c u=>⟨_,U4 K c h,Xf _⟩
def Cq:s9 K (.builtin "sorted") (o1 oK):=λX h c u=>⟨_,SJ c h,Xg⟩
def Cp:s9 K (.type "list") (o1 kQ):=λX h c u=>⟨_,SH c h,Xd⟩
def Co:s9 K (.type "dict") (o1 my):=λX h c u=>⟨_,SD K u c h,Vb⟩
def xB{id:String}{o:List D->aj Rv}(k:s9 K (.builtin id) o)(hm:X.mg x=none)(hv:bootBuiltins x=some (.builtin id))(ha:PA X (e::es) (fV K W q fs))(hu:X.A.units+41<cLine)(hc:X.calm=true)(hK:X.K=K)(hg:Gl X x)(hn:x≠"__name__")(kB:(x == ("__debug__":Str))=false)
  (he:starEach (e::es) X.env=(false,eval e X.env)::starEach es X.env) (jr:(backTo pos (starEach es X.env)).any (·.1)=false):PE X (.Call (.Name x p) (e::es) [] pos) (tE K W q (gO o fs)):=by
 obtain⟨r,h1,h2⟩:=k X hK hc hu;exact(UC h1 hg hm hv ha hn kB he jr).mono λ_ _ _ t=>sF h2 t
def xT{o:List D->aj Rv}(k:s9 K (.type T) o)(hm:X.mg x=none)(hv:bootBuiltins x=some (.type T))(ha:PA X (e::es) (fV K W q fs))(hu:X.A.units+41<cLine)(hc:X.calm=true)(hK:X.K=K)(hg:Gl X x)(hn:x≠"__name__")(kB:(x == ("__debug__":Str))=false)
  (he:starEach (e::es) X.env=(false,eval e X.env)::starEach es X.env) (jr:(backTo pos (starEach es X.env)).any (·.1)=false):PE X (.Call (.Name x p) (e::es) [] pos) (tE K W q (gO o fs)):=by
 obtain⟨r,h1,h2⟩:=k X hK hc hu;exact(Tb h1 hg hm hv ha hn kB he jr).mono λ_ _ _ t=>sF h2 t
def GW(K:fm)(T:String)(m:Str)(o:List D->aj Rv):Prop:=∀X:Cx,X.K=K->X.A.units+41<cLine->∃id r,PlainAttrs T/\Slot T m id/\typeOf (.builtin id)=pure (.type "method_descriptor")/\GX X id r/\cb K (oI r) o
def yr:GW K "list" "index" (o2 fJ):=λX h u=>⟨_,_,PySem.F.plainAttrs_list,PySem.F.slot_list_index,PySem.F.type_list_index,U5 K h,Vd⟩
def Ct:GW K "dict" "get" (o2 mC):=λX h u=>⟨_,_,PySem.F.plainAttrs_dict,PySem.F.slot_dict_get,PySem.F.type_dict_get,W8 K u h,Xh⟩
def xM{o':List D->aj Rv}(k:GW K T m o')(ho:PE X o (tE K W q f))(ha:PA X (e::es) (fV K W q fs))(hu:X.A.units+41<cLine)(hK:X.K=K)
  (eE:attributeBase o m X.env (eval o X.env)=eval o X.env)
  (rh:((backTo cy (starEach (e::es) X.env)).all (λx => !x.1)&&(backToKw cy (keywordEach [] X.env)).all (λx=>x.1.isSome) && decide ((e::es).length+([]:List Keyword).length+(if([]:List Keyword).isEmpty then 0 else 1)<30))=true)
  (eF:(apos.endLine == cy.line)=true) (hs:starEach (e::es) X.env=(false,eval e X.env)::starEach es X.env) (jS:(backTo cy (starEach es X.env)).any (·.1)=false):PE X (.Call (.Attribute o m apos) (e::es) [] cy) (tE K W q (xl T o' f fs)):=by
 subst hK;obtain⟨id,r,h1,h2,h3,h4,h5⟩:=k X rfl hu;exact(Qw h1 h2 h3 h4 ho ha eE rh eF hs jS).mono λ_ _ _ t=>Vc h5 t
def AE(K:fm)(T:String)(m:Str)(o:Bx->List D->aj (Bx×D)):Prop:=∀X:Cx,X.K=K->∃id r,PlainAttrs T/\Slot T m id/\typeOf (.builtin id)=pure (.type "method_descriptor")/\GX X id r/\kJ K r o
def uI:AE K "list" "append" tK:=λX h=>⟨_,_,PySem.F.plainAttrs_list,PySem.F.slot_list_append,PySem.F.type_list_append,Tc,TZ⟩
def uJ:AE K "list" "insert" Bh:=λX h=>⟨_,_,PySem.F.plainAttrs_list,PySem.F.slot_list_insert,PySem.F.type_list_insert,Th,T1⟩
def uK:AE K "list" "remove" E8:=λX h=>⟨_,_,PySem.F.plainAttrs_list,PySem.F.slot_list_remove,PySem.F.type_list_remove,TR,T3⟩
def Dt:AE K "dict" "pop" iZ:=λX h=>⟨_,_,PySem.F.plainAttrs_dict,PySem.F.slot_dict_pop,PySem.F.type_dict_pop,W7 K,Xi⟩
def xU{o':Bx->List D->aj (Bx×D)}(k:AE K T m o')(ho:PE X o (tE K W q f))(ha:PA X (e::es) (fV K W q fs))(hK:X.K=K)
  (eE:attributeBase o m X.env (eval o X.env)=eval o X.env)
  (rh:((backTo cy (starEach (e::es) X.env)).all (λx => !x.1)&&(backToKw cy (keywordEach [] X.env)).all (λx=>x.1.isSome) && decide ((e::es).length+([]:List Keyword).length+(if([]:List Keyword).isEmpty then 0 else 1)<30))=true)
  (eF:(apos.endLine == cy.line)=true) (hs:starEach (e::es) X.env=(false,eval e X.env)::starEach es X.env) (jS:(backTo cy (starEach es X.env)).any (·.1)=false):PE X (.Call (.Attribute o m apos) (e::es) [] cy) (tE K W q (f7 q T o' f fs)):=by
 subst hK;obtain⟨id,r,h1,h2,h3,h4,h5⟩:=k X rfl;exact(Qw h1 h2 h3 h4 ho ha eE rh eF hs jS).mono λ_ _ _ t=>ZH h5 t
def xf{atr:List (ai×Str)}(ha:jA K atr)(he:PE X e (tE K W q f))(hb:attributeBase e m X.env (eval e X.env)=eval e X.env)(hK:X.K=K):PE X (.Attribute e m pos) (tE K W q (bx atr m f)):=ZM ha he hb hK
end
structure MethAt (K:fm) (C:ai) (m qual:Str) (st:Stmt) (f:ai) (fd:kI) (ps:List Str):Prop where
 fn:sk K m qual st f fd
 mt:Meth K C m f
 bd:Binds K fd ps []
section
variable{X:Cx}{K:fm}{W:XW}{q k n:Nat}{e o:Expr}{es:List Expr}{f:GE}{fs:GA}{m:GM}{pos p apos:Pos}{x y z:Str}{st:Stmt}{fa C:ai}{fd:kI}{ps:List Str}
def xC(D:uT K X.mg x st fa fd ps)(F:dA X.prog X.w X.K X.mg X.base (l7 X.prog X.w) k fa fd ps (sr K q n m))(ha:PA X (e::es) (fV K W q fs))(hr:cx k X.A)(hm:iW m n)(hp:eV X W)(hK:X.K=K)(hg:Gl X x)(kB:(x == ("__debug__":Str))=false)
  (he:starEach (e::es) X.env=(false,eval e X.env)::starEach es X.env) (jr:(backTo pos (starEach es X.env)).any (·.1)=false):PE X (.Call (.Name x p) (e::es) [] pos) (tE K W q (au m fs)):=by
 subst hK;exact(Wf F hr hg D.mg D.fn.kp D.bd .nil (oE hp) ha kB he jr).mono λ_ _ _ t=>Wy hm t
def xN(M:Mk K C fa)(hx:X.mg x=some (.ref C))(D:MethAt K C y z st fa fd ps)(F:dA X.prog X.w X.K X.mg X.base (l7 X.prog X.w) k fa fd ps (sr K q n m))(ha:PA X (e::es) (fV K W q fs))(hr:cx (k+1) X.A)(hm:iW m n)(hp:eV X W)(hK:X.K=K)(hg:Gl X x)(kB:(x == ("__debug__":Str))=false)
  (he:starEach (e::es) X.env=(false,eval e X.env)::starEach es X.env) (jr:(backTo pos (starEach es X.env)).any (·.1)=false):PE X (.Call (.Name x p) (e::es) [] pos) (tE K W q (qX C m fs)):=by
 subst hK;exact(Wh M F hr hg hx D.bd .nil (oE hp) ha kB he jr).mono λ_ _ _ t=>Wz hm t
end
section
variable{X:Cx}{K:fm}{W:XW}{q k n:Nat}{e o:Expr}{es:List Expr}{f:GE}{fs:GA}{m:GM}{pos p apos:Pos}{x y:Str}{st:Stmt}{fa C:ai}{fd:kI}{ps:List Str}{pl:Sem Bool}
def xH(c:Cls K C)(D:MethAt K C x y st fa fd ps)(F:dA X.prog X.w X.K X.mg X.base (l7 X.prog X.w) k fa fd ps (sr K q n m))(ho:PE X o (tE K W q f))(ha:PA X (e::es) (fV K W q fs))(hr:cx k X.A)(hm:iW m n)(hp:eV X W)(hK:X.K=K)
  (jT:starEach (e::es) X.env=(false,eval e X.env)::starEach es X.env) (jr:(backTo pos (starEach es X.env)).any (·.1)=false)
  (ht:eval (.Call (.Attribute o x apos) (e::es) [] pos) X.env=(do
   let ov <-eval o X.env
   standAt apos.atName
   let (f,first) <-holding [ov] (getMethod ov x pl)
   callWith pos f first (backTo pos (starEach (e::es) X.env)) (backToKw pos (keywordEach [] X.env)))):PE X (.Call (.Attribute o x apos) (e::es) [] pos) (tE K W q (bq C x m f fs)):=by
 subst hK;exact(Wg ho c D.mt F hr D.bd .nil (oE hp) ha jT jr ht).mono λ_ _ _ t=>OF hm t
def xH0(c:Cls K C)(D:MethAt K C x y st fa fd ps)(F:dA X.prog X.w X.K X.mg X.base (l7 X.prog X.w) k fa fd ps (sr K q n m))(ho:PE X o (tE K W q f))(hr:cx k X.A)(hm:iW m n)(hp:eV X W)(hK:X.K=K)
  (ht:eval (.Call (.Attribute o x apos) [] [] pos) X.env=(do
   let ov <-eval o X.env
   standAt apos.atName
   let (f,first) <-holding [ov] (getMethod ov x pl)
   callWith pos f first (backTo pos (starEach [] X.env)) (backToKw pos (keywordEach [] X.env)))):PE X (.Call (.Attribute o x apos) [] [] pos) (tE K W q (bq C x m f gN)):=by
 subst hK;refine(UA ho c D.mt F hr D.bd .nil (oE hp) ht).mono λZ H Q t=>?_
 refine nB (OF hm t) λz H1 h=>?_
 obtain⟨a,dx,fs,h1,h2,h3,h4⟩:=h;exact⟨a,dx,fs,h1,h2,h3,zS h4⟩
end
section
variable{X:Cx}{K:fm}{W:XW}{q:Nat}{a b c e o l tg:Expr}{es:List Expr}{f g:GE}{fz:Bool}{pos p apos cy:Pos}
def xLV(x9:X.mg "list"=none)(ho:PE X o (tE K W q f))(hc:X.calm=true)(t9:Gl X "list")(hs:starEach [.Call (.Attribute o "values" apos) [] [] cy] X.env=[(false,eval (.Call (.Attribute o "values" apos) [] [] cy) X.env)])
  (eE:attributeBase o "values" X.env (eval o X.env)=eval o X.env) (eF:(apos.endLine == cy.line)=true):PE X (.Call (.Name "list" p) [.Call (.Attribute o "values" apos) [] [] cy] [] pos) (tE K W q (gO (o1 oO) (bA f))):=(UY t9 x9 ho hc hs eE eF).mono λZ H Q t=>Jq (nB (sF Xe t) λxs H1 h=>by
 obtain⟨d,es,ep,rfl,h⟩:=h;exact⟨_,rfl,d,es,ep,rfl,h⟩)
def pgn(i:Nat){x:Str}(hN:Ae X.N=true)(hi:X.N[i]?=some x)(hx:Loc X.env.scope x)(hf:X.fn x=true\/X.env.scope.names.lookup x=some .local):PG X (.Name x pos) (n_ i):=V7 (Fo hN) hi hx hf
def pgt{es:List Expr}{k:Nat}{t:sv}{n:Nat}(h:AH X es t)(hn:(assignEach es X.env).length=n)(jT:(assignEach es X.env).findIdx? (·.1)=none)(hc:X.calm=true)(hK:X.K=K):PG X (.Tuple es k pos) (xV K n t):=hK ▸ YG hc h hn jT
def tm(X:Cx)(K:fm)(W:XW)(q:Nat)(tg iter:Expr)(src:k_):Prop:=∃wi,PI X tg iter wi/\∀Z H R,tX (RI K q) K W q src Z H R->wi Z H R
def sA(he:PE X l (tE K W q g))(hK:X.K=K):tm X K W q tg l (bG fz eS g):=⟨_,Zg he,λ_ _ _ t=>by rw[hK];exact Zh t⟩
def KZ(hm:X.mg "reversed"=none)(he:PE X l (tE K W q g))(hK:X.K=K)(hg:Gl X "reversed")(hs:starEach [l] X.env=[(false,eval l X.env)]):tm X K W q tg (.Call (.Name "reversed" p) [l] [] pos) (bG fz yM g):=⟨_,Zb hg hm (EX he lK (by rw[hs,starEach])) hs,λ_ _ _ t=>by rw[hK];exact WJ t⟩
def sEn{elts:List Expr}{x1:Nat}{e_:Pos}(hm:X.mg "enumerate"=none)(he:PE X l (tE K W q g))(hK:X.K=K)(hg:Gl X "enumerate")(hs:starEach [l] X.env=[(false,eval l X.env)]):tm X K W q (.Tuple elts x1 e_) (.Call (.Name "enumerate" p) [l] [] pos) (bG fz Jr g):=⟨_,WD hg hm (EX he lK (by rw[hs,starEach])) hs,λ_ _ _ t=>by rw[hK];exact Zi t⟩
def sI{elts:List Expr}{x1:Nat}{e_:Pos}(ho:PE X o (tE K W q g))(eE:attributeBase o "items" X.env (eval o X.env)=eval o X.env)(eF:(apos.endLine == cy.line)=true):tm X K W q (.Tuple elts x1 e_) (.Call (.Attribute o "items" apos) [] [] cy) (bG fz uc g):=⟨_,UZ ho eE eF,λ_ _ _ t=>Xb t⟩
def sR1{fs:GA}(hm:X.mg "range"=none)(ha:PA X [a] (fV K W q fs))(hg:Gl X "range")(hs:starEach [a] X.env=[(false,eval a X.env)]):tm X K W q tg (.Call (.Name "range" p) [a] [] pos) (jP mJ fs):=⟨_,SY hg hm ha hs,λ_ _ _ t=>WK t⟩
def sRT{fs:GA}(hm:X.mg "range"=none)(ha:PA X [a,b,c] (fV K W q fs))(hg:Gl X "range")(hs:starEach [a,b,c] X.env=[(false,eval a X.env),(false,eval b X.env),(false,eval c X.env)])(qa:starEach [b,c] X.env=[(false,eval b X.env),(false,eval c X.env)]):tm X K W q tg (.Call (.Name "range" p) [a,b,c] [] pos) (jP uw fs):=⟨_,Tu hg hm ha hs qa,λ_ _ _ t=>WL t⟩
def yn:qD X [] (tT K W0 q (gq true)):=λaa s Z H Q I t=>Wn aa s Z H Q I (by
 obtain⟨k,U,S,res,ok,gk,e,w⟩:=t;cases e;exact w.now ok rfl)
def y1{ft:GT}(h:PT X c (tT K W0 q ft)):qD X [c] (tT K W0 q ft):=Wo h
end
variable{x g:Str}{atr:List (ai×Str)}{mg:Str->aj ah}{tab:List (Str×ai)}{B0 C:ai}
section
variable{X:Cx}{K:fm}{W:XW}{q:Nat}{tg iter elt:Expr}{ifs:List Expr}{scope:Scope}{t:TG}{gg:GG}{tt:Nat->GT}{te:Nat->GE}{src:k_}{pos:Pos}{M:List Str}{n:Nat}{cY:List Nat}
def PC(h:fT scope.names X.env.scope.names X.N M n cY=true)(hk:scope.kind=.function):dQ X scope M n cY:=.of _ _ h rfl rfl hk
def xL(M:List Str)(s:tm X K W q tg iter src)(ht:jF K t gg)(hg:∀C s H fp,PG (eY X scope M C s H fp) tg t)(hT:∀m C s H fp,qD (eY X scope M C s H fp) ifs (tT K W0 m (tt m)))(hE:∀m C s H fp,PE (eY X scope M C s H fp) elt (tE K W0 m (te m)))
  (ok:fT scope.names X.env.scope.names X.N M n cY=true) (hk:scope.kind=.function) (hc:X.calm=true) (hs:∀x,foldedSetIterable iter X.env x=pure x):PE X (.ListComp elt [⟨tg,iter,ifs,0⟩] scope pos) (tE K W q (bZ q src gg tt te n cY)):=by
 obtain⟨wi,h1,h2⟩:=s;exact WN hc (PC ok hk) h1 h2 ht hg hT hE hs
def wL{mu:Bool}{i:Nat}{px mP:Pos}(M:List Str)(s:tm X K W q tg iter src)(ht:jF K t gg)(hg:∀C s H fp,PG (eY X scope M C s H fp) tg t)(hT:∀m C s H fp,qD (eY X scope M C s H fp) ifs (tT K W0 m (tt m)))(hE:∀m C s H fp,PE (eY X scope M C s H fp) elt (tE K W0 m (te m)))
  (ok:fT scope.names X.env.scope.names X.N M n cY=true) (hN:Ae X.N=true) (hk:scope.kind=.function) (x8:X.N[i]?=some x) (hx:Loc X.env.scope x) (hc:X.calm=true) (Cd:swapsWith (.ListComp elt [⟨tg,iter,ifs,0⟩] scope pos) (some (.Name x px)) mP.line X.env=pure true) (hs:∀x,foldedSetIterable iter X.env x=pure x) (hf:X.fn x=true\/X.env.scope.names.lookup x=some .local) :
  PS X (.Assign [.Name x px] (.ListComp elt [⟨tg,iter,ifs,0⟩] scope pos) mP) (tS K W q (aq i mu (bZ q src gg tt te n cY))):=by
 obtain⟨wi,h1,h2⟩:=s;exact WO hc (PC ok hk) (Fo hN) x8 hx h1 h2 ht hg hT hE Cd hs hf
end
section
variable{X:Cx}{K:fm}{W:XW}{q:Nat}{tg iter e o i value:Expr}{body:List Stmt}{t:TG}{gg:GG}{src:k_}{pos pos' e_:Pos}{f fv fo fi fe:GE}{x:Str}
def wF{fb:Nat->GS}(s:tm X K W q tg iter src)(ht:jF K t gg)(hg:PG X tg t)(hb:∀n,iP X body (tS K W n (fb n)))(hp:PassesOwn (model X.prog X.w) X.A X.env X.xe)(hc:X.calm=true)(hs:∀x,foldedSetIterable iter X.env x=pure x):PS X (.For tg iter body [] pos) (tS K W q (bO q src gg fb)):=by
 obtain⟨wi,h1,h2⟩:=s;exact Zj hp hc h1 h2 hg ht hb hs
def wS{mu:Bool}{i:Nat}(he:PE X e (tE K W q f))(hN:Ae X.N=true)(hi:X.N[i]?=some x)(hx:Loc X.env.scope x)(hs:swapsWith e (some (.Name x pos')) pos.line X.env=pure false)(hf:X.fn x=true\/X.env.scope.names.lookup x=some .local):PS X (.Assign [.Name x pos'] e pos) (tS K W q (aq i mu f)):=Y' (Fo hN) hi hx he hs hf
def wE(he:PE X e (tE K W q f))(hs:swapsWith e none pos.line X.env=pure false):PS X (.Expr e pos) (tS K W q (de f)):=WA he hs
def wP(he:PE X e (tE K W q fv))(ho:PE X o (tE K W q fo))(hi:PE X i (tE K W q fi))(hu:X.A.units+41<cLine)(hK:X.K=K)
  (ha:∀v,assign (.Subscript o i pos') X.env v=(do
   let ov <-holding [v] (eval o X.env)
   let iv <-holding [v,ov] (eval i X.env)
   standAt pos'
   holding [v,ov,iv] (setItem ov iv v)
   release [v,ov,iv] []))
  (hs:swapsWithSole [.Subscript o i pos'] e pos.line X.env=pure false) (hw:swappedStores [.Subscript o i pos'] e X.env=pure none)
  (h1:(assignEach [.Subscript o i pos'] X.env).map (·.2)=[assign (.Subscript o i pos') X.env]):PS X (.Assign [.Subscript o i pos'] e pos) (tS K W q (cq q fv fo fi)):=ZJ he ho hi hu hK ha hs hw h1
def wA(ha:jA K atr)(ho:PE X o (tE K W q fo))(hv:PE X value (tE K W q fv))(hs:swapsWith value (some (.Attribute o g pos')) pos.line X.env=pure false)(hK:X.K=K):PS X (.Assign [.Attribute o g pos'] value pos) (tS K W q (eW q atr g fv fo)):=ZN ha ho hv hs hK
def wAI(ha:jA K atr)(ho:PE X o (tE K W q fo))(hv:PE X value (tE K W q fe))(hK:X.K=K):PS X (.AugAssign (.Attribute o g e_) .Add value pos) (tS K W q (IU q (λi j=>i+j) atr g fo fe)):=Xo (λaa s Z H x y v u Q I r1 r2 h=>YY aa s Z H x y v u Q I r1 r2 (by
 obtain⟨i,j,rfl,rfl,h⟩:=h;exact⟨i,j,rfl,rfl,h⟩)) ha ho hv hK
def wAD{op:Operator}{h:Int->Int->Int}(yf:∀X:Cx,DR X op (J_ h))(ho:PE X o (tE K W q fo))(hi:PE X i (tE K W q fi))(hv:PE X value (tE K W q fe))(hu:X.A.units+41<cLine)(hK:X.K=K)
  (ha:∀ov iv new,augStore i ov iv new=(do holding [new,ov,iv] (setItem ov iv new);release [new,ov,iv] [];pure .next)):PS X (.AugAssign (.Subscript o i e_) op value pos) (tS K W q (IV q h fo fi fe)):=Xp (yf X) ho hi hv hu hK ha
structure oQ (K:fm) (mg:Str->aj ah) (tab:List (Str×ai)) (B0:ai):Prop where
 all:∀p∈tab,mg p.1=some (.ref p.2)/\fD K p.2 (.ref B0::p7) none/\keepIn K (.ref p.2)=true
 G0:fD K B0 p7 none
 mg0:mg "CarryError"=some (.ref B0)
def oQ.ix(E:oQ K mg tab B0){i:Nat}{n:Str}(h:tab[i]?=some (n,C)):mg n=some (.ref C)/\fD K C (.ref B0::p7) none/\keepIn K (.ref C)=true:=E.all (n,C) (pT h)
def wX{p cp:Pos}(j:Nat)(E:oQ K X.mg tab B0)(he:PE X e (tE K W q fe))(hp:eV X W)(hj:tab[j]?=some (x,C))(hc:X.calm=true)(hg:Gl X x)(kB:(x == ("__debug__":Str))=false)
  (jT:starEach [e] X.env=(false,eval e X.env)::starEach [] X.env) (hK:X.K=K):PS X (.Raise (some (.Call (.Name x p) [e] [] cp)) none pos) (tS K W q (mS C fe)):=by
 obtain⟨h1,h2,h4⟩:=E.ix hj;exact UU h2 E.G0 h4 h1 hp he hc hg kB jT hK
noncomputable def wT(tab:List (Str×ai))(C:ai):aj Bool:=if tab.any (λp=>p.2 == C)=true then some true else none
def wY{np hp:Pos}{b0:Stmt}{mQ:List Stmt}{g f:GS}(E:oQ K X.mg tab B0)(hb:∀(pn:List (ai×Obj)) (E:ah->ao->Prop) (W:XW),eV (X.dO pn E) W->iP (X.dO pn E) body (tS K W q f))(hS:∀e,iP (X.dN e) (b0::mQ) (tS K W0 q g))
  (hg:Gl X "CarryError") (hK:X.K=K) (jT:X.stack=X.env::X.outer) (hf:X.env.frame=some X.env.locals) :
  PS X (.Try body [.ExceptHandler (some (.Name "CarryError" np)) none (b0::mQ) hp] [] [] pos) (tS K W q (qZ f [(wT tab,g)])):=by
 refine Zm hb (WQ E.mg0 (λC b h=>?_) hS Zl hg (by decide) hK) jT hf
 unfold wT at h;split at h
 .rename_i hC
  cases h;obtain⟨p,m,e⟩:=List.any_eq_true.mp hC;cases(beq_iff_eq.mp e);refine((E.all p m).2.1.exm E.G0 rfl).trans (congrArg some ?_);simp
 .cases h
end
def Xq{P:cX}{w:cA}{K:fm}{base:bS}{k:Nat}{f:ai}{fd:kI}{m:GM}(F:dA P w K mg base (l7 P w) k f fd [x] (sr K 0 1 m)){n:Nat}(h:∀ns:List Int,ns.length<=n->∃S,m [.d (.lst (ns.map D.int))] ⟨[],[]⟩=some (.ok (.v (.d (.bl true))) S)):
  dA P w K mg base (l7 P w) k f fd [x] (λvs H Q _=>∃(a:ai) (ns:List Int),vs=[.ref a]/\cT K H a (ns.map V.int)/\ns.length<=n/\∀H',Q (.bl true) H'):=⟨λvs H Q E h=>by obtain⟨a,ns,rfl,_⟩:=h;rfl,λA outer s H args us vs Q E hr e0 hb r hq=>by
 obtain⟨a,ns,rfl,hs,hl,q⟩:=hq;obtain⟨S,e⟩:=h ns hl;refine F.run A outer s H args us [.ref a] Q E hr e0 hb r ⟨rfl,⟨H,[],[]⟩,[.d (.lst (ns.map D.int))],⟨[],[]⟩,_,⟨az.refl _,.nil,⟨rfl,λ_ _ _ z=>nomatch z⟩,⟨rfl,λ_ _ _ z=>nomatch z⟩⟩,.cons (show ag K ⟨H,[],[]⟩ [.ref a] [.lst (ns.map D.int)] from .lst hs ?_ .nil) .nil,e,λv k' H' u ok r'=>?_⟩
 .exact UN ns
 .cases(show ag K k' [v] [.bl true] from r').a_ rfl;exact q H'⟩
def Jw{N P:List Str}{sc:Scope}(h1:sc.kind=.function:=by rfl)(h2:sc.isCoroutine=false:=by rfl)(h3:sc.isGenerator=false:=by rfl)(h4:N.Nodup:=by decide +kernel)(h5:N.take P.length=P:=by rfl)(h6:∀x∈P,sc.names.lookup x=some .local \/ sc.names.lookup x=some .cell:=by decide +kernel)(h7:∀y∈sc.names,y.2≠.free:=by decide +kernel):ia N P sc:=⟨h1,h2,h3,h4,h5,h6,h7⟩
def Xr{A:PySem.Around}{k:Nat}(hr:cx k A):A.units+41<PySem.cLine:=LD (Nat.add_le_add_left (by decide:41<=64) _) hr.units
section
variable{X:Cx}{K:fm}{W:XW}{q:Nat}{pos:Pos}{x:Str}
def xk{z:Str}(hm:∃t,X.mg x=some (.str z t))(hg:Gl X x)(hd:(x == ("__debug__":Str))=false):PE X (.Name x pos) (tE K W q (gC (.str z))):=xE (v:=.str z) (by
 intro aa s Z H Q I h;obtain⟨t,hm⟩:=hm;exact zH I hg hm ⟨.str z,H,I,⟨t,rfl⟩,h⟩ hd)
def xki{n:Int}(hm:∃t,X.mg x=some (.int n t))(hg:Gl X x)(hd:(x == ("__debug__":Str))=false):PE X (.Name x pos) (tE K W q (gC (.int n))):=xE (v:=.int n) (by
 intro aa s Z H Q I h;obtain⟨t,hm⟩:=hm;exact zH I hg hm ⟨.int n,H,I,⟨t,rfl⟩,h⟩ hd)
end
abbrev bF:=o2 wZ
abbrev nC:=o2 (dX sT λi j=>.int (i - j))
abbrev i_:=o2 ug
abbrev qM:=o2 (dX (λ_ j=>decide (0<j/\j<1073741824)) λi j=>.int (i / j))
abbrev gK:=o2 (dX (λ_ j=>decide (0<j)) λi j=>.int (i%j))
abbrev BA:=o2 (dX (λi j=>decide (0<=j/\j<=1000000/\i.natAbs<2^64)) λi j=>.int (i^j.toNat))
abbrev d_:=o2 (vi false)
abbrev qc:=o2 (vi true)
abbrev iLt:Int->Int->Bool:=λi j=>decide (i<j)
abbrev J9:Int->Int->Bool:=λi j=>decide (i<=j)
abbrev iGt:Int->Int->Bool:=λi j=>decide (j<i)
abbrev Cf:Int->Int->Int:=λi j=>i+j
abbrev qb:=o2 (dX sT λi j=>.bl (iLt i j))
abbrev qLe:=o2 (dX sT λi j=>.bl (J9 i j))
abbrev Gd:=o2 (dX sT λi j=>.bl (iGt i j))
abbrev j5:=o2 (Aa false)
abbrev iT:=o2 (Aa true)
abbrev Ge:=o2 (Ab false)
abbrev pM:=o2 (Ab true)
noncomputable abbrev KN:List Bool->Bool:=λbs=>bs.all id
noncomputable def Qe(e:DictEntry):Bool:=match e.key with|.str _ _=>true|_=>false
def errC_mk{K:fm}{C:ai}{bm:List ah}{F3:aj ah}{nm q:Str}{N:ai}{bs:List ah}{sn:List Str}{sub:List ah}{ab:Bool}{col:aj Bool}{dd:aj ai}{k0 k1 k2 k3 k5:aj ah}{on:ah}{Af:aj ai}{es:Array DictEntry}{ep:Nat}{Ag:Array (aj ah)}
  (l:K.lookup C=some (excClassObj nm q C N bs bm true sn sub ab col dd k0 k1 k2 k3 k5 "ValueError.__new__")) (d:K.lookup N=some ⟨on,Af,.dict es ep,Ag⟩) (s:es.toList.all Qe=true) (i:nsFind es "__init__"=F3):fD K C bm F3:=by
 refine⟨_,_,_,_,_,_,_,_,_,_,_,_,_,_,_,_,_,_,_,l,d,λe he=>?_,i⟩
 have:=kj.1 s e (LA.2 he);unfold Qe at this;split at this
 .exact⟨_,_,by assumption⟩
 .cases this
instance instGE (n:Nat):OfNat GE n:=⟨qY n⟩
abbrev gI(n:Int):GE:=gC (.int n)
abbrev gX(a b:GE):GE:=gO (o2 F7) (ck a b)
abbrev bB(o:List D->aj Rv)(a b:GE):GE:=gO o (ck a b)
abbrev dW(a b c:GE):GA:=ka a (ck b c)
abbrev jb(a b c d:GE):GA:=ka a (dW b c d)
abbrev cL(a:GS):GS:=dC a mD
abbrev iH(a b:GS):GS:=dC a (cL b)
abbrev pB(a b c:GS):GS:=dC a (iH b c)
abbrev pC(a b c d:GS):GS:=dC a (pB b c d)
abbrev oh(a b c d e:GS):GS:=dC a (pC b c d e)
instance instGG (n:Nat):OfNat GG n:=⟨ae n⟩
abbrev cF(f:GT)(g:GS):GS:=fI f (cL g) mD
abbrev gQ(o:List D->aj Rv)(a b:GE):GT:=gB (bB o a b)
noncomputable def aU(p n:Nat)(m:Nat->GS)(q:Nat):GM:=runM p n (m q)
end L2
namespace L2
open PySem Lean Meta
variable{s:List Cell}{z:List D}
def qT(e:Lean.Expr)(i:Nat)(k:Lean.Expr->aj (Lean.Expr×Bool)):SimpM Simp.Step:=do
 let a:=e.getAppArgs
 let r0 <-Simp.simp a[i]!
 let x:=(<-instantiateMVars r0.expr).cleanupAnnotations.headBeta
 let pr <-match r0.proof? with
  |none=>pure none
  |some p=>pure (some (<-mkCongrArg (.lam `z (<-inferType a[i]!) (mkAppN e.getAppFn (a.set! i (.bvar 0))) .default) p))
 match k x with
 |some (y,true)=>return .visit { expr:=y.headBeta,proof?:=pr}
 |some (y,false)=>return .done { expr:=y.headBeta,proof?:=pr}
 |none=>return .done { expr:=mkAppN e.getAppFn (a.set! i x),proof?:=pr}
def isOk(x:Lean.Expr):aj (Lean.Expr×Lean.Expr):=if x.isAppOfArity ``Option.some 2&&x.appArg!.isAppOfArity ``Rs.ok 3 then some (x.appArg!.appFn!.appArg!,x.appArg!.appArg!) else none
def BS(n:Name):Bool:=(n.getRoot == `L2 && !(#[``dR,``findS,``eX,``gL,``jU,``ja,``eR,``aR.cut,``aN,``eL,``bR,``gP,``jV,``dc,``kR,``iC,``lP,``eB,``iA,``aL,``bf,``bj,``bd,``kb,``sG,``fJ,``Cell.ke,``runM].contains n)) || (n.getRoot == `List&&n != ``List.toArray) || n.getRoot == `Option || n.getRoot == `Prod || n.getRoot == `GetElem? || n.getRoot == `OfNat || n.getRoot == `Nat || n.getRoot == `BEq || n == ``ite || n == ``dite || n.getRoot == `Bool || n.getRoot == `Decidable || n == ``and || n == ``or || n == ``not || n.getRoot == `id || n.getRoot == `HAppend || n.getRoot == `Append || n.getRoot == `instHAppendOfAppend
def ZO(e:Lean.Expr):MetaM Lean.Expr:=withCanUnfoldPred (λ_ c=>return BS c.name || c.name.isInternal || (<-isInstance c.name) || (<-isMatcher c.name)) (withDefault (whnf e))
def ZP(e:Lean.Expr):MetaM Bool:=do
 if e.isFVar || e.isLit then return true
 let .const n _:=e.getAppFn|return false
 if n == ``OfNat.ofNat then return true
 if n == ``Nat.succ then return false
 return (<-getEnv).isConstructor n
simproc_decl ev (_):=λe=>do
 let .const n ls:=e.getAppFn|return .continue
 let a:=e.getAppArgs
 if n == ``OfNat.ofNat&&a.size>=3&&(a[2]!.isAppOf ``instGG || a[2]!.isAppOf ``instGE) then return .visit { expr:=mkAppN (mkApp (mkConst (if a[2]!.isAppOf ``instGG then ``ae else ``qY)) a[1]!) (a.extract 3 a.size)}
 if n == ``Option.bind&&a.size == 4 then
  return <-qT e 2 λx=>if x.isAppOfArity ``Option.some 2 then some (mkApp a[3]! x.appArg!,true) else if x.isAppOfArity ``Option.none 1 then some (mkApp (.const ``Option.none (ls.drop 1)) a[1]!,false) else none
 if n == ``Option.map&&a.size == 4 then
  return <-qT e 3 λx=>if x.isAppOfArity ``Option.some 2 then some (mkApp2 (.const ``Option.some (ls.drop 1)) a[1]! (mkApp a[2]! x.appArg!).headBeta,true) else if x.isAppOfArity ``Option.none 1 then some (mkApp (.const ``Option.none (ls.drop 1)) a[1]!,false) else none
 if(n == ``bd || n == ``sG || n == ``kb)&&a.size == 4 then
  return <-qT e 2 λx=>match isOk x with
   |some (v,S)=>some (mkApp2 a[3]! v S,true)
   |none=>if n != ``sG&&x.isAppOfArity ``Option.some 2&&x.appArg!.isAppOfArity ``Rs.ex 4 then
     let b:=x.appArg!.getAppArgs
     if n == ``kb then some (mkApp2 (.const ``Option.some [0]) (.const ``Fr []) (mkApp4 (.const ``Fr.ex []) b[1]! b[2]! a[1]! b[3]!),true) else some (mkApp2 (.const ``Option.some [0]) (mkApp (.const ``Rs []) a[1]!) (mkApp4 (.const ``Rs.ex []) a[1]! b[1]! b[2]! b[3]!),true)
    else none
 if n == ``ite then return <-reduceIte e
 if n == ``List.length&&a.size == 2 then
  let some (_,vs):=a[1]!.listLit?|return .continue
  return .done { expr:=mkNatLit vs.length}
 if n == ``runM&&a.size == 5 then
  let some (_,vs):=a[3]!.listLit?|return .continue
  let (some p,some k):=(a[0]!.nat?,a[1]!.nat?)|return .continue
  unless vs.length == p do return .continue
  let V:=mkConst ``Val
  let G <-mkListLit (mkApp (.const ``Option [0]) V) (vs.map (λv=>mkApp2 (.const ``Option.some [0]) V v)++List.replicate (k - p) (mkApp (.const ``Option.none [0]) V))
  let f <-mkAppM ``leave #[<-mkAppM ``List.length #[<-mkAppM ``aR.s #[a[4]!]]]
  return .visit { expr:=<-mkAppM ``Option.bind #[(mkApp2 a[2]! G a[4]!).headBeta,f]}
 if n.getRoot == `Nat || n.getRoot == `OfNat || n.getRoot == `BEq || n.getRoot == `Decidable || n == ``dite then return .continue
 unless BS n || n == ``getElem? || n == ``HAppend.hAppend do return .continue
 if <-isMatcher n then return .continue
 if(<-getEnv).isConstructor n then return .continue
 if n.getRoot == `L2&&(<-isReducible n) then
  let some e' <-withDefault (unfoldDefinition? e)|return .continue
  return .visit { expr:=e'.headBeta}
 let t <-whnfR (<-inferType e)
 if t.isAppOfArity ``Option 1&&n.getRoot == `L2 then
  let some e' <-withDefault (unfoldDefinition? e)|return .continue
  let e' <-whnfCore e'
  if(<-isMatcherApp e') then return .continue
  return .visit { expr:=e'}
 if t.isForall then return .continue
 let e' <-ZO e
 if e' != e&&(<-ZP e') then return .visit { expr:=e'}
 return .continue
def Ju:List Simp.DSimproc:=[Nat.reduceAdd,Nat.reduceSub,Nat.reduceMul,Nat.reduceDiv,Nat.reduceMod,Int.reduceAdd,Int.reduceSub,Int.reduceMul,Int.reduceDiv,Int.reduceMod,Int.reduceNeg,Int.reduceToNat,Int.reduceBEq,Nat.reduceBEq]
def Jv:List Simp.Simproc:=[reduceCtorEq,Nat.reduceLT,Nat.reduceLeDiff,Nat.reduceEqDiff,Int.reduceLT,Int.reduceLE,Int.reduceEq]
simproc_decl aS (_):=λe=>do
 for p in Ju do
  match <-p e with
  |.done x=>return .done { expr:=x}
  |.visit x=>return .visit { expr:=x}
  |.continue (some x)=>return .continue (some { expr:=x})
  |_=>pure ()
 for p in Jv do
  match <-p e with
  |.continue none=>pure ()
  |r=>return r
 return .continue
section
variable{α:Type}{l L M:List α}{c:α}{j:Nat}{S:aR}{r L':List Cell}
def eA:S.cut S.s.length=S:=by unfold aR.cut;rw[List.take_length]
def qQ:aR.cut ⟨s++L',r⟩ s.length=⟨s,r⟩:=by unfold aR.cut;rw[List.take_left]
def cz:aR.cut ⟨s,r⟩ s.length=⟨s,r⟩:=by unfold aR.cut;rw[List.take_length]
def eK:(l++L)[l.length]?=L[0]?:=by rw[sV (bU _),LC]
def EK:(l++L)[l.length+j]?=L[j]?:=by rw[sV (Gv _ _),Nat.add_sub_cancel_left]
def jv:(l++L).set l.length c=l++L.set 0 c:=by rw[List.set_append_right _ _ (bU _),LC]
def K0:(l++L).set (l.length+j) c=l++L.set j c:=by rw[List.set_append_right _ _ (Gv _ _),Nat.add_sub_cancel_left]
def Cs:(l++L).length=l.length+L.length:=dw
def w6:(l++L)++M=l++(L++M):=lX _ _ _
def yq:(l.length<l.length)=False:=eq_false (jz _)
def lt2:(l.length+j<l.length)=False:=eq_false (by lia)
def dU{a b:Int}:eL (.int a) (.int b)=(a == b):=rfl
def eC{a b:Str}:eL (.str a) (.str b)=(a == b):=rfl
def Cm{z:Str}:eR (.str z) (.ty "str")=some (rd (.bl true)):=rfl
def oz:eR (.tup z) (.ty "tuple")=some (rd (.bl true)):=rfl
def F4{z:Str}:eR (.str z) (.ty "tuple")=some (rd (.bl false)):=rfl
def Q8:eR (.lst z) (.ty "list")=some (rd (.bl true)):=rfl
def F5:eR (.tup z) (.ty "str")=some (rd (.bl false)):=rfl
def PD{n:Nat}{x:Cell}:aR.cut ⟨s.set n x,r⟩ s.length=⟨s.set n x,r⟩:=by
 unfold aR.cut;dsimp only;rw[DJ (by rw[v7];exact bU _)]
def bV{a:α}:dR (a::l) 0=some a:=tH (j:=0) rfl
def cQ{a b:α}:dR (a::b::l) 1=some b:=tH (j:=1) rfl
def eJ{a b c:α}:dR (a::b::c::l) 2=some c:=tH (j:=2) rfl
def lr{a b c d:α}:dR (a::b::c::d::l) 3=some d:=tH (j:=3) rfl
end
end L2
namespace L2
open PySem
section
variable{α:Type}{gg:GG}{tt:GT}{te:GE}{S:aR}{f:α->D}{U cs:Gm}{a:aj Val}
theorem Fp(h:α->aj D)(G:Gm->Prop):∀(xs:List α) (U:Gm) (aW:List D),G U->aW.length+xs.length<=1000000->(∀x∈xs,∀U,G U->∃U',gg (f x) U=some U'/\G U'/\((h x=none/\tt U' S=some (.ok false S))\/∃r d,h x=some d/\tt U' S=some (.ok true S)/\te U' S=some (.ok r S)/\lS r=.d d))->
  bf gg tt te (xs.map f) U S aW=some (.ok (aW++xs.filterMap h) S)
 |[],U,aW,_,_,_=>by rw[Aw,kT];rfl
 |x::xs,U,aW,g,hl,hx=>by
  obtain⟨U',e1,g',e2⟩:=hx x (.head _) U g;rw[j9] at hl;rw[cR];unfold bf;rw[e1,yZ];rcases e2 with⟨e2,e3⟩|⟨r,d,e2,e3,e4,e5⟩
  .rw[e3,List.filterMap_cons_none e2];exact Fp h G xs U' aW g' (by lia) λy m=>hx y (.tail _ m)
  .have e6:gD te U' S=some (.ok d S):=by unfold gD bd;rw[e4];show(nE S (lS r)).map _=_;rw[e5];rfl
   rw[e3,List.filterMap_cons_some e2];show sG (gD te U' S) _=_;rw[e6];show(if aW.length<1000000 then _ else _)=_
   rw[bL (by lia),Fp h G xs U' (aW++[d]) g' (by rw[dw,sW];lia) λy m=>hx y (.tail _ m),lX]
   rfl
def JD{d:D}:ae 0 d (a::cs)=some (some (.d d)::cs):=by
 rfl
def tR(h:α->aj D)(xs:List α)(hl:xs.length<=1000000)(hx:∀x∈xs,(h x=none/\tt (some (.d (f x))::cs) S=some (.ok false S))\/∃r d,h x=some d/\tt (some (.d (f x))::cs) S=some (.ok true S)/\te (some (.d (f x))::cs) S=some (.ok r S)/\lS r=.d d):bf (ae 0) tt te (xs.map f) (a::cs) S []=some (.ok (xs.filterMap h) S):=by
 rw[Fp h (λU=>∃a,U=a::cs) xs _ [] ⟨a,rfl⟩ (by rw[Aq];lia) λx m U ⟨a,hU⟩=>⟨_,by rw[hU];exact JD,⟨_,rfl⟩,hx x m⟩,Dz]
def p_(h:α->D)(xs:List α)(hl:xs.length<=1000000)(hx:∀x∈xs,∃r,te (some (.d (f x))::cs) S=some (.ok r S)/\lS r=.d (h x)):bf (ae 0) (gq true) te (xs.map f) (a::cs) S []=some (.ok (xs.map h) S):=by
 rw[tR (λx=>some (h x)) xs hl λx m=>.inr (let ⟨r,h1,h2⟩:=hx x m;⟨r,_,rfl,rfl,h1,h2⟩),List.filterMap_eq_map']
theorem Qf{body:GS}(I:List α->Gm->aR->Prop):∀(xs dn:List α) (U:Gm) (S:aR),I dn U S->(∀d x r,dn++xs=d++x::r->∀U S,I d U S->∃U1 U' S',gg (f x) U=some U1/\(body U1 S=some (.nx U' S')\/body U1 S=some (.ct U' S'))/\I (d++[x]) U' S')->∃U' S',aL gg body (xs.map f) U S=some (.nx U' S')/\I (dn++xs) U' S'
 |[],dn,U,S,i,_=>⟨U,S,rfl,by rw[kT];exact i⟩
 |x::xs,dn,U,S,i,hx=>by
  obtain⟨U1,U',S',e1,e2,i'⟩:=hx dn x xs rfl U S i;obtain⟨U2,S2,e3,i2⟩:=Qf I xs (dn++[x]) U' S' i' λd y r e=>hx d y r (by rw[<-e,lX];rfl)
  refine⟨U2,S2,?_,by rw[lX] at i2;exact i2⟩
  rw[cR];unfold aL;rw[e1,yZ];rcases e2 with e2|e2
  .rw[e2];exact e3
  .rw[e2];exact e3
def jG{body:GS}(I:List α->Gm->aR->Prop)(xs:List α)(i:I [] U S)(hx:∀d x r,xs=d++x::r->∀U S,I d U S->∃U1 U' S',gg (f x) U=some U1/\(body U1 S=some (.nx U' S')\/body U1 S=some (.ct U' S'))/\I (d++[x]) U' S'):∃U' S',aL gg body (xs.map f) U S=some (.nx U' S')/\I xs U' S':=Qf I xs [] U S i λd x r e=>hx d x r e
theorem O1{β:Type}{body:GS}(st:β->aR->Gm×aR)(I:List α->β->Prop):∀(xs dn:List α) (b:β),I dn b->(∀d x r,dn++xs=d++x::r->∀b,I d b->∃b',I (d++[x]) b'/\∀S,∃U1,gg (f x) (st b S).1=some U1/\(body U1 (st b S).2=some (.nx (st b' S).1 (st b' S).2)\/body U1 (st b S).2=some (.ct (st b' S).1 (st b' S).2)))->
  ∃b',I (dn++xs) b'/\∀S,aL gg body (xs.map f) (st b S).1 (st b S).2=some (.nx (st b' S).1 (st b' S).2)
 |[],dn,b,i,_=>⟨b,by rw[kT];exact i,λS=>rfl⟩
 |x::xs,dn,b,i,hx=>by
  obtain⟨b1,i1,h1⟩:=hx dn x xs rfl b i;obtain⟨b2,i2,h2⟩:=O1 st I xs (dn++[x]) b1 i1 λd y r e=>hx d y r (by rw[<-e,lX];rfl)
  refine⟨b2,by rw[lX] at i2;exact i2,λS=>?_⟩
  obtain⟨U1,e1,e2⟩:=h1 S;rw[cR];unfold aL;rw[e1,yZ];rcases e2 with e2|e2
  .rw[e2];exact h2 S
  .rw[e2];exact h2 S
def Qg{β:Type}{body:GS}(st:β->aR->Gm×aR)(I:List α->β->Prop)(xs:List α)(b:β)(i:I [] b)(hx:∀d x r,xs=d++x::r->∀b,I d b->∃b',I (d++[x]) b'/\∀S,∃U1,gg (f x) (st b S).1=some U1/\(body U1 (st b S).2=some (.nx (st b' S).1 (st b' S).2)\/body U1 (st b S).2=some (.ct (st b' S).1 (st b' S).2))):
  ∃b',I xs b'/\∀S,aL gg body (xs.map f) (st b S).1 (st b S).2=some (.nx (st b' S).1 (st b' S).2):=O1 st I xs [] b i λd x r e=>hx d x r e
def ZQ(enc:α->D)(xs:List α):eB (xs.map enc)=((List.range xs.length).zip xs).map λ(p:Nat×α)=>D.tup [.int (p.1:Nat),enc p.2]:=by
 unfold eB;rw[bJ];refine LI λi=>?_
 rw[fW,fW];by_cases h:i<xs.length
 .have z:((List.range xs.length).zip xs)[i]?=some (i,xs[i]):=List.getElem?_zip_eq_some.mpr ⟨y0 h,gz h⟩;rw[y0 h,z];simp[h]
 .rw[y8 (by simp;lia),y8 (by simp;lia)]
  rfl
def e6o{body:GS}(enc:α->D)(I:List α->Gm->aR->Prop)(xs:List α)(i:I [] U S)(hx:∀d x r,xs=d++x::r->∀U S,I d U S->∃U1 U' S',gg (.tup [.int (d.length:Nat),enc x]) U=some U1/\body U1 S=some (.nx U' S')/\I (d++[x]) U' S'):∃U' S',aL gg body (eB (xs.map enc)) U S=some (.nx U' S')/\I xs U' S':=by
 have hs:((List.range xs.length).zip xs).map Prod.snd=xs:=by rw[List.map_snd_zip];simp
 rw[ZQ];obtain⟨U',S',e,p⟩:=jG (gg:=gg) (body:=body) (f:=λ(p:Nat×α)=>D.tup [.int (p.1:Nat),enc p.2]) (U:=U) (S:=S) (λpre U S=>I (pre.map Prod.snd) U S) ((List.range xs.length).zip xs) i (by
  intro q x post e U S p;have sO:xs=q.map Prod.snd++x.2::post.map Prod.snd:=by
   simp_all
  have hi:x.1=(q.map Prod.snd).length:=by
   have:((List.range xs.length).zip xs)[q.length]?=some x:=by rw[e,sV (bU _)];simp
   rw[List.getElem?_zip_eq_some] at this;have h1:=this.1;rw[eU] at h1;obtain⟨hl,h1⟩:=h1;rw[List.getElem_range] at h1;rw[bJ];exact h1.symm
  obtain⟨U1,U2,S2,a,b,c⟩:=hx _ _ _ sO U S p;exact⟨U1,U2,S2,by rw[hi];exact a,.inl b,by rw[gf];exact c⟩)
 exact⟨U',S',e,by rw[hs] at p;exact p⟩
theorem O2{body:GS}{rv:Rv}{S':aR}(I:List α->Gm->aR->Prop){x:α}{r:List α}:∀(d dn:List α) (U:Gm) (S:aR),I dn U S->(∀d' y r',dn++d=d'++y::r'->∀U S,I d' U S->∃U1 U' S',gg (f y) U=some U1/\(body U1 S=some (.nx U' S')\/body U1 S=some (.ct U' S'))/\I (d'++[y]) U' S')->(∀U S,I (dn++d) U S->∃U1,gg (f x) U=some U1/\body U1 S=some (.rt rv S'))->aL gg body ((d++x::r).map f) U S=some (.rt rv S')
 |[],dn,U,S,i,_,hs=>by
  obtain⟨U1,e1,e2⟩:=hs U S (by rw[kT];exact i)
  rw[Dz,cR];unfold aL;rw[e1,yZ,e2];rfl
 |y::d,dn,U,S,i,hp,hs=>by
  obtain⟨U1,U',S',e1,e2,i'⟩:=hp dn y d rfl U S i;have e3:=O2 I (x:=x) (r:=r) d (dn++[y]) U' S' i' (λd' z r' e=>hp d' z r' (by rw[<-e,lX];rfl)) (λU S h=>hs U S (by rw[lX] at h;exact h))
  grind [aL]
end
end L2
namespace L2
open PySem PySem.Spec PyProof.Rows
variable{j i:Nat}{A:cK}{E:ah->ao->Prop}{s:ao}{Q:Bool->ao->Prop}{hp:bS}{a S:ai}{l ks:List TK}{vs:List ah}{p p1 pos mI:Pos}
def nH(m:Nat):Nat->Nat×Nat->Nat×Nat
 |0,q=>q
 |n+1,q=>nH m n (SetTable.leap m q.1 q.2)
theorem O3{m:Nat}:∀(a b:Nat) (q:Nat×Nat),nH m (a+b) q=nH m b (nH m a q)
 |0,b,q=>by rw[DM];rfl
 |a+1,b,q=>by rw[Nat.succ_add];exact O3 a b _
def Cn(m:Nat):Nat->Nat->Nat
 |0,x=>x
 |n+1,x=>Cn m n ((x*5+1)%(m+1))
theorem Rc{m:Nat}:∀n x,(nH m n (x,0)).1=Cn m n x
 |0,_=>rfl
 |n+1,x=>by show(nH m n ((x*5+1+0 / 32)%(m+1),0 / 32)).1=_;rw[Nat.zero_div,Nat.add_zero,Rc n];rfl
def it7:∀x,x<8->∀y,y<8->∃n,n<8/\Cn 7 n x=y:=by decide +kernel
def J':∀x,x<32->∀y,y<32->∃n,n<32/\Cn 31 n x=y:=by decide +kernel
theorem O4{m:Nat}:∀n (q:Nat×Nat),(nH m n q).2=q.2 / 32^n
 |0,q=>(Nat.div_one _).symm
 |n+1,q=>by
  show(nH m n _).2=_;rw[O4 n];show q.2 / 32 / _=_;rw[Nat.div_div_eq_div_mul,Nat.pow_succ,Nat.mul_comm]
theorem QB{m:Nat}:∀n (q:Nat×Nat),q.1<=m->(nH m n q).1<=m
 |0,_,h=>h
 |n+1,q,_=>QB n _ (LN (Nat.mod_lt _ (Nat.succ_pos _)))
abbrev uU(m:Nat):Prop:=m=7\/m=31
abbrev yF(m:Nat)(h:Int):Nat×Nat:=(SetTable.bits h%(m+1),SetTable.bits h)
def O5{m:Nat}(hm:uU m)(h:Int)(hj:j<=m):∃L,L<m+14/\(nH m L (yF m h)).1=j:=by
 have hb:SetTable.bits h<2^64:=by
  unfold SetTable.bits;have h1:=Int.emod_lt_of_pos h (show(0:Int)<2^64 by decide)
  have h2:=Int.emod_nonneg h (show(2^64:Int)≠0 by decide)
  lia
 have hp:(nH m 13 (yF m h)).2=0:=by
  rw[O4];exact Nat.div_eq_of_lt (fy hb (by decide))
 have hi:(nH m 13 (yF m h)).1<=m:=QB 13 _ (LN (Nat.mod_lt _ (Nat.succ_pos _)));have key:∃n,n<m+1/\Cn m n (nH m 13 (yF m h)).1=j:=by
  rcases hm with rfl|rfl
  .exact it7 _ (LO hi) _ (LO hj)
  .exact J' _ (LO hi) _ (LO hj)
 obtain⟨n,hn,e⟩:=key;refine⟨13+n,by lia,?_⟩
 rw[O3,<-e,<-Rc,<-hp]
theorem O6:∀(n:Nat) (l:List Nat),(∀j,j<n->j∈l)->n<=l.length
 |0,_,_=>kg _
 |n+1,l,h=>by
  have m:=h n (by lia)
  have:=O6 n (l.erase n) λj hj=>(List.mem_erase_of_ne (by lia)).mpr (h j (by lia))
  rw[List.length_erase_of_mem m] at this;have:=List.length_pos_of_mem m;lia
section
variable{t:sY}
def jZ(t:sY):Nat->SetTable.Probe->SetTable.Probe
 |0,p=>p
 |n+1,p=>jZ t n (t.advance p)
theorem NS:∀(a b:Nat) (p:SetTable.Probe),jZ t (a+b) p=jZ t b (jZ t a p)
 |0,b,q=>by rw[DM];rfl
 |a+1,b,q=>by rw[Nat.succ_add];exact NS a b _
def Ah(m:Nat)(q:Nat×Nat):SetTable.Probe:=⟨q.1,SetTable.runEnd m q.1 - q.1,q.1,q.2,none⟩
theorem O7:∀(m:Nat) (p:SetTable.Probe),p.more=m->p.dummy=none->jZ t (m+1) p=Ah t.mask (SetTable.leap t.mask p.i p.perturb)
 |0,⟨j,_,i,u,_⟩,rfl,rfl=>rfl
 |m+1,⟨j,_,i,u,_⟩,rfl,rfl=>O7 m ⟨j+1,m,i,u,none⟩ rfl rfl
theorem O8:∀(L:Nat) (q:Nat×Nat),∃n,n<=10*L/\jZ t n (Ah t.mask q)=Ah t.mask (nH t.mask L q)
 |0,q=>⟨0,bU _,rfl⟩
 |L+1,q=>by
  obtain⟨n,h1,h2⟩:=O8 L (SetTable.leap t.mask q.1 q.2);refine⟨SetTable.runEnd t.mask q.1 - q.1+1+n,?_,?_⟩
  .unfold SetTable.runEnd;split <;> lia
  .rw[NS,show jZ t (SetTable.runEnd t.mask q.1 - q.1+1) (Ah t.mask q)=_ from O7 _ _ rfl rfl];exact h2
def xX(hd:t.dummies=#[])(j:Nat):SetTable.has t.dummies j=false:=by unfold SetTable.has;rw[hd];simp
def Xs(hd:t.dummies=#[])(h:j∉t.place.toList):t.slot j=.empty:=by
 unfold SetTable.slot;dsimp only;rw[xX hd,br]
 .rfl
 .intro e;obtain⟨hl,e⟩:=uR.mp (beq_iff_eq.mp e);exact h (by rw[<-e];exact Array.getElem_mem_toList hl)
def Xt(hd:t.dummies=#[]):t.slot j≠.dummy:=by
 unfold SetTable.slot;dsimp only;rw[xX hd];split <;> simp
def Xu(h:t.slot j=.live i):i<t.place.size:=by
 unfold SetTable.slot at h;dsimp only at h;split at h
 .rename_i e
  cases h;exact(uR.mp (beq_iff_eq.mp e)).1
 .split at h <;> cases h
def hole(hm:uU t.mask)(hd:t.dummies=#[])(hl:t.place.size<=t.mask)(h:Int):∃N,N<10*SetTable.turns t.mask/\t.slot (jZ t N (t.probeStart h)).j=.empty:=by
 have:∃j,j<t.mask+1/\j∉t.place.toList:=by
  apply LX;intro c;have:=O6 (t.mask+1) t.place.toList λj hj=>LX λq=>c ⟨j,hj,q⟩
  rw[yW] at this;lia
 obtain⟨j,hj,hn⟩:=this;obtain⟨L,h1,h2⟩:=O5 hm h (LN hj);obtain⟨n,h3,h4⟩:=O8 (t:=t) L (yF t.mask h);refine⟨n,by unfold SetTable.turns;lia,?_⟩
 rw[show t.probeStart h=Ah t.mask (yF t.mask h) from rfl,h4,show(Ah t.mask _).j=_ from h2];exact Xs hd hn
theorem QC(hd:t.dummies=#[]){ha:Nat->Int}{h:Int}:∀(fuel d:Nat) (p:SetTable.Probe),d<fuel->p.dummy=none->t.slot (jZ t d p).j=.empty->
  (∃j,SetTable.probe.go t ha h fuel p=some (.empty j none))\/∃j i c r,SetTable.probe.go t ha h fuel p=some (.candidate j i r)/\t.slot j=.live i/\c<d/\r.dummy=none/\t.slot (jZ t c r).j=.empty
 |0,_,_,hf,_,_=>bQ hf (Nat.not_lt_zero _)
 |fuel+1,d,p,hf,hp,hs=>by
  unfold SetTable.probe.go;have ad:(t.advance p).dummy=none:=by unfold SetTable.advance;split <;> exact hp
  cases q:t.slot p.j with
  |empty=>exact .inl ⟨p.j,by rw[hp]⟩
  |dummy=>exact bQ q (Xt hd)
  |live i=>
   cases d with
   |zero=>exact bQ (q.symm.trans hs) (by simp)
   |succ d=>
    dsimp only;split
    .exact .inr ⟨_,_,d,_,rfl,q,pS _,ad,hs⟩
    .rcases QC hd fuel d (t.advance p) (by lia) ad hs with z|⟨j,i,c,r,h1,h2,h3,h4⟩
     .exact .inl z
     .exact .inr ⟨j,i,c,r,h1,h2,sX h3,h4⟩
end
section
variable{m:Nat}{ow:Array (aj Nat)}
theorem O9:∀(fuel:Nat) (q:Nat×Nat),(∃L,L<fuel/\(ow.getD (nH m L q).1 (some 0)).isNone=true)->∃j,SetTable.layClean.free m ow fuel q.1 q.2=some j/\(ow.getD j (some 0)).isNone=true
 |0,_,⟨_,h,_⟩=>bQ h (Nat.not_lt_zero _)
 |fuel+1,q,⟨L,h1,h2⟩=>by
  unfold SetTable.layClean.free;cases e:(List.range (SetTable.runEnd m q.1+1 - q.1)).find? λk=>(ow.getD (q.1+k) (some 0)).isNone with
  |some k=>exact⟨_,rfl,(DA e :)⟩
  |none=>
   cases L with
   |zero=>exact bQ h2 (Gz.mp e 0 (pR.mpr (by unfold SetTable.runEnd;split <;> lia)))
   |succ L=>exact O9 fuel _ ⟨L,by lia,h2⟩
structure qC (m k:Nat) (ow:Array (aj Nat)):Prop where
 sz:ow.size=m+1
 ct:ow.toList.countP Option.isSome=k
 lt:∀v,some v∈ow.toList->v<k
def IE(mask:Nat)(aW:aj (Array (aj Nat)×Nat))(h:Int):aj (Array (aj Nat)×Nat):=do
 let (ow,k) <-aW
 let j <-SetTable.layClean.free mask ow (SetTable.turns mask) (SetTable.bits h%(mask+1)) (SetTable.bits h)
 pure (ow.setIfInBounds j (some k),k+1)
def qC.next{k:Nat}(I:qC m k ow)(hm:uU m)(hk:k<=m)(h:Int):∃CI,IE m (some (ow,k)) h=some (CI,k+1)/\qC m (k+1) CI:=by
 have hole:∃j,j<m+1/\ow[j]?=some none:=by
  apply LX;intro c;have:ow.toList.countP Option.isSome=ow.toList.length:=List.countP_eq_length.mpr λa ha=>by
   obtain⟨j,hj,e⟩:=List.getElem_of_mem ha;cases a with
   |some _=>rfl
   |none=>exact bQ ⟨j,by rw[<-I.sz];simpa using hj,by rw[<-uS,gz hj,e]⟩ c
  rw[I.ct,yW,I.sz] at this;lia
 obtain⟨j0,hj0,e0⟩:=hole;obtain⟨L,h1,h2⟩:=O5 hm h (LN hj0);obtain⟨j,g1,g2⟩:=O9 (m:=m) (ow:=ow) (SetTable.turns m) (yF m h) ⟨L,by unfold SetTable.turns;lia,by rw[h2,Array.getD_eq_getD_getElem?,e0];rfl⟩
 have ej:ow[j]?=some none:=by
  rw[Array.getD_eq_getD_getElem?] at g2;cases q:ow[j]? with
  |none=>rw[q] at g2;cases g2
  |some x=>rw[q] at g2;cases x with|none=>rfl|some _=>cases g2
 obtain⟨hj,ej⟩:=uR.mp ej;refine⟨ow.setIfInBounds j (some k),?_,by rw[Array.size_setIfInBounds,I.sz],?_,λv hv=>?_⟩
 .unfold IE;show(SetTable.layClean.free m ow _ _ _).bind _=_;rw[g1];rfl
 .rw[Array.toList_setIfInBounds,List.countP_set (by simpa using hj),I.ct]
  simp[ej]
 .rw[Array.toList_setIfInBounds] at hv;rcases List.mem_or_eq_of_mem_set hv with z|z
  .exact sX (I.lt v z)
  .cases z;exact pS _
theorem NT(hm:uU m):∀(hs:List Int) {k:Nat} {ow:Array (aj Nat)},qC m k ow->k+hs.length<=m+1->∃CI,hs.foldl (IE m) (some (ow,k))=some (CI,k+hs.length)/\qC m (k+hs.length) CI
 |[],k,ow,I,_=>⟨ow,rfl,I⟩
 |h::hs,k,ow,I,hl=>by
  rw[j9] at hl;obtain⟨o1,e1,I1⟩:=I.next hm (by lia) h
  obtain⟨o2,e2,I2⟩:=NT hm hs I1 (by lia)
  rw[show k+1+hs.length=k+(h::hs).length by simp;lia] at e2 I2
  exact⟨o2,by rw[GF,e1,e2],I2⟩
def Xv{fg mv:Nat}{ld pl:Bool}(hm:uU m)(es:Array (Int×ah))(hl:es.size<=m):
  ∃t order,SetTable.laid m fg mv ld pl (es.map (·.1))=some (t,order)/\(order.filterMap (es[·]?)).size=es.size/\(∀e,e∈(order.filterMap (es[·]?)).toList->e∈es.toList)/\t.mask=m/\t.dummies=#[]/\t.place.size=es.size:=by
 obtain⟨ow,e,I⟩:=NT hm (es.map (·.1)).toList (k:=0) (ow:=Array.replicate (m+1) none) ⟨Array.size_replicate,by simp,λv hv=>by simp at hv⟩ (by simp;lia)
 rw[show(es.map (·.1)).toList.length=es.size by simp,DM] at e I
 have el:SetTable.layClean m (es.map (·.1))=some ow:=by
  unfold SetTable.layClean;rw[<-Array.foldl_toList];have e:(es.map (·.1)).toList.foldl _ (some (Array.replicate (m+1) none,0))=_:=e
  erw [e]
  rfl
 have eo:ow.toList=(List.range (m+1)).map λj=>ow.getD j none:=by
  refine List.ext_getElem (by simp[I.sz]) λi h1 h2=>?_
  have h1:i<ow.size:=by simpa using h1
  rw[List.getElem_map,List.getElem_range,Array.getD_eq_getD_getElem?,qe h1];rfl
 generalize hL:(List.range (m+1)).filterMap (λj=>(ow.getD j none).map (j,·))=L
 have ln:L.length=es.size:=by
  rw[<-hL,List.length_filterMap_eq_countP,<-I.ct,eo,List.countP_map];refine List.countP_congr λx _=>?_
  simp
 have lt:∀p∈L,p.2<es.size:=λp hp=>by
  rw[<-hL] at hp;obtain⟨j,h1,h2⟩:=nP.mp hp;obtain⟨v,e1,e2⟩:=cW.mp h2;rw[<-e2];exact I.lt v (by rw[eo,<-e1];exact fQ.mpr ⟨j,h1,rfl⟩)
 refine⟨⟨m,(L.map (·.1)).toArray,#[],fg,ld,mv,pl⟩,(L.map (·.2)).toArray,?_,?_,λe he=>?_,rfl,rfl,by simp[ln]⟩
 .unfold SetTable.laid;rw[el];rw[<-hL];rfl
 .rw[<-yW,Array.toList_filterMap,List.length_filterMap_eq_countP];rw[List.countP_eq_length.mpr]
  .simp[ln]
  .intro v hv;obtain⟨p,hp,rfl⟩:=fQ.mp hv;simp[lt p hp]
 .rw[Array.toList_filterMap] at he;obtain⟨v,_,e2⟩:=nP.mp he;exact pT (by rw[uS];exact e2)
end
structure G1 (P:cX) (w:cA) (A:cK) (E:ah->ao->Prop) (s:ao) (a:ai) (o:Obj) (es:Array (Int×ah)) (ep:Nat) (t:sY) (x:ah):Prop where
 ho:s.heap.get? a=some o
 hd:o.data=.set es ep t
 BM:t.dummies=#[]
 sz:t.place.size=es.size
 mo:uU t.mask
 lt:es.size<t.mask
 rf:∀e,e∈es.toList->∃b,e.2=.ref b
 eqs:∀e,e∈es.toList->∀(R:Bool->ao->Prop),R false s->wpAny (model P w) A (eqBool e.2 x) R E s
 seen:∀(l:List ah),(∀y,y∈l->∃e,e∈es.toList/\e.2=y)->∀(R:Bool->ao->Prop),R false s->wpAny (model P w) A (searchCouldBeSeen x l) R E s
def Xw{α:Type}{M:Model}{c:Prop}[Decidable c]{m:Sem Bool}{u r:Sem α}{Q:α->ao->Prop}(h1:∀(R:Bool->ao->Prop),R false s->wpAny M A m R E s)(h:wpAny M A r Q E s):
  wpAny M A (if c then m >>= λb=>if b=true then u else r else r) Q E s:=by
 split
 .exact ax (h1 _ (by rw[br (by decide)];exact h))
 .exact h
section
variable{P:cX}{w:cA}{A:cK}{E:ah->ao->Prop}{s:ao}{a:ai}{o:Obj}{es:Array (Int×ah)}{ep:Nat}{t:sY}{x:ah}{h:Int}
def IF{n:Nat}(d:t.dummies=#[])(z:t.place.size=n)(l:n<=t.mask):t.fits n=true:=by
 unfold SetTable.fits SetTable.fill;rw[d,z];simpa using l
def ZR(m:uU t.mask):t.gaveWay=false:=by
 unfold SetTable.gaveWay;rcases m with e|e <;> rw[e] <;> rfl
def Fx(S:G1 P w A E s a o es ep t x){Q:(Array (Int×ah)×Nat×sY)->ao->Prop}(q:Q (es,ep,t) s):wpAny (model P w) A (setState a) Q E s:=wpAny_setState_of S.ho S.hd (IF S.BM S.sz (DE S.lt)) q
theorem My(S:G1 P w A E s a o es ep t x){R:SetFound->ao->Prop}(q:∀j,R (.free j false) s):∀(fuel d:Nat) (rW:aj SetTable.Probe) (p:SetTable.Probe),rW.getD (t.probeStart h)=p->d<fuel->d<10*SetTable.turns t.mask->p.dummy=none->t.slot (jZ t d p).j=.empty->
  wpAny (model P w) A (setSearchFrom a x h true fuel rW) R E s
 |0,_,_,_,_,hf,_,_,_=>bQ hf (Nat.not_lt_zero _)
 |fuel+1,d,rW,p,hs,hf,ht,hp,hh=>by
  show wpAny _ _ (setState a >>= _) _ _ _;refine ax (Fx S ?_);dsimp only;rw[ZR S.mo];simp only[kh,fS];rw[hs];rcases QC S.BM (ha:=λi=>(es[i]?.map (·.1)).getD 0) (h:=h) (10*SetTable.turns t.mask) d p ht hp hh with⟨j,g⟩|⟨j,i,c,r,g,sl,hc,hr,hz⟩
  .have g:t.probe (λi=>(es[i]?.map (·.1)).getD 0) h p=_:=g
   erw [g]
   exact aP (q j)
  .have g:t.probe (λi=>(es[i]?.map (·.1)).getD 0) h p=_:=g
   have hl:i<es.size:=by rw[<-S.sz];exact Xu sl
   have ei:es[i]?=some es[i]:=qe hl;have he:es[i]∈es.toList:=Array.getElem_mem_toList hl;obtain⟨b,hb⟩:=S.rf _ he
   erw [g]
   dsimp only;refine Xw (λR hR=>S.seen _ (λy hy=>?_) R hR) ?_
   .obtain⟨f,hf,rfl⟩:=fQ.mp hy;have hf:f∈es/\f.1=h:=by simpa using hf
    exact⟨f,by simpa using hf.1,rfl⟩
   rw[ei];dsimp only;refine ax (i5 (S.eqs _ he _ ?_));refine ax (Fx S ?_);dsimp only;simp only[Gw,kh,fS];rw[show t.sameMemory t.moves t.mask=some true by unfold SetTable.sameMemory;simp]
   dsimp only;rw[bL rfl,sl];dsimp only;rw[ei];dsimp only;rw[hb];refine ax (wpAny_isSame_ref_self (ax (aP ?_)));rw[bL rfl];dsimp only;exact My S q fuel c _ r rfl (by lia) (by lia) hr hz
def Qh{es':Array (Int×ah)}{t':sY}(ho:hp.get? a=some o)(hd:o.data=.set es ep t):(hp.update a (Obj.putSet es' t')).get? a=some { o with data:=.set es' (ep+1) t'}/\Heap.SameBut a hp (hp.update a (Obj.putSet es' t')):=by
 have z:=pU (Obj.putSet es' t') ho (by rw[putSet_of es' t' hd];rfl)
 rw[putSet_of es' t' hd] at z;exact⟨z,Heap.SameBut.update _ a _⟩
abbrev wo(t:sY)(n:Nat):Prop:=t.dummies=#[]/\t.place.size=n/\uU t.mask/\n*5<t.mask*3
def ZS(S:G1 P w A E s a o es ep t x)(T:wo t es.size)(h8:es.size<8)(hx:∃b,x=.ref b)(hv:∀(R:Bool->ao->Prop),(∀b,R b s)->wpAny (model P w) A (hashByValue 8 x) R E s)
  (q:∀(es':Array (Int×ah)) (kP:Nat) (t':sY),wo t' es'.size->es'.size=es.size+1->(∀e,e∈es'.toList->e=(h,x)\/e∈es.toList)-> ∀h',Heap.SameBut a s.heap h'->h'.get? a=some { o with data:=.set es' kP t'}->Q true { s with heap:=h'}):wpAny (model P w) A (setAddHashed a x h) Q E s:=by
 obtain⟨b,rfl⟩:=hx;unfold setAddHashed setAddHashedIn;refine i5 (ax (Fx S ?_));dsimp only;have hb:byScan (.ref b) es=false:=rfl;rw[hb];simp only[kh,fS];obtain⟨N,hN,hh⟩:=hole S.mo S.BM (by rw[S.sz];exact DE S.lt) h
 have hM:10*SetTable.turns t.mask<100000:=by unfold SetTable.turns;rcases S.mo with e|e <;> rw[e] <;> decide
 refine ax (My S (λj=>?_) 100000 N none _ rfl (by lia) hN rfl hh)
 dsimp only;refine ax (Fx S ?_);dsimp only;have ip:=SetTable.insertAt_perm es (t.put j).2 (h,Value.ref b);have p1:(t.put j).1.dummies=#[]/\(t.put j).1.place.size=es.size+1/\(t.put j).1.mask=t.mask:=by
  unfold SetTable.put;dsimp only;rw[xX S.BM,<-S.sz];have:=(SetTable.insertAt_perm t.place (SetTable.below t.place j) j).length_eq;exact⟨S.BM,by simpa using this,rfl⟩
 generalize t.put j=tp at *;obtain⟨t1,p⟩:=tp;dsimp only at *;have Aj:(SetTable.insertAt es p (h,Value.ref b)).size=es.size+1:=by simpa using ip.length_eq
 have im:∀e,e∈(SetTable.insertAt es p (h,Value.ref b)).toList->e=(h,Value.ref b)\/e∈es.toList:=λe he=>by
  have:=ip.mem_iff.mp he;rw[Array.toList_push,gw,lW] at this;exact this.symm
 generalize SetTable.insertAt es p (h,Value.ref b)=sJ at *;have step:∀t2:sY,t2.dummies=#[]->t2.place.size=es.size+1->t2.mask=t.mask->wpAny (model P w) A (do
   storeSet a sJ t2
   if !false&&t2.tooFull then setRelay a (SetTable.grown (es.size+1))
   return true) Q E s:=by
  intro t2 d2 z2 m2;have k0:sJ.size<=sizeLine:=by rw[sizeLine_eq];lia
  refine ax (wpAny_storeSet_of S.ho S.hd ?_ k0);obtain⟨g1,vT⟩:=Qh (es':=sJ) (t':=t2) S.ho S.hd;have fl:t2.tooFull=decide (t.mask*3<=(es.size+1)*5):=by unfold SetTable.tooFull SetTable.fill;rw[d2,z2,m2];rfl
  rw[fl];by_cases c:t.mask*3<=(es.size+1)*5
  .rw[qg c];simp only[j_,Bool.and_self,nU];have n4:es.size=4:=by rcases S.mo with e|e <;> have:=T.2.2.2 <;> lia
   obtain⟨t3,order,el,ez,em,e1,e2,e3⟩:=Xv (m:=31) (fg:=t2.finger) (mv:=t2.movedTo 31) (ld:=t2.led) (pl:=t2.plain) (.inr rfl) sJ (by lia)
   refine ax ?_;unfold setRelay;refine ax (wpAny_setState_of g1 rfl (IF d2 (z2.trans Aj.symm) (by have:=S.lt;lia)) ?_)
   dsimp only;have er:t2.relaid (sJ.map (·.1)) (SetTable.grown (es.size+1))=some (t3,order):=by
    unfold SetTable.relaid;rw[n4];exact el
   rw[er,br (by rw[n4,sizeLine_eq];decide)]
   refine ax ?_;show wpAny _ _ (if(order.filterMap (sJ[·]?)).size != sJ.size then _ else pure (order.filterMap (sJ[·]?),t3)) _ _ _
   rw[ez];simp only[bne_self_eq_false,kh,fS];generalize order.filterMap (sJ[·]?)=QO at *
   refine aP ?_;dsimp only;refine wpAny_storeSet_of g1 rfl ?_ (by rw[ez];exact k0)
   obtain⟨g3,CU⟩:=Qh (es':=QO) (t':=t3) g1 rfl;exact aP (q QO _ t3 ⟨e2,by rw[e3,ez],.inr e1,by rw[e1];lia⟩ (ez.trans Aj) (λe he=>im e (em e he)) _ (vT.trans CU) g3)
  .rw[pV c];simp only[Gw,kh,fS];exact aP (q sJ _ t2 ⟨d2,by lia,by rw[m2];exact S.mo,by rw[m2];lia⟩ Aj im _ vT g1)
 split
 .refine ax (hv _ λb1=>?_)
  cases b1 with
  |true=>exact step t1 p1.1 p1.2.1 p1.2.2
  |false=>exact step { t1 with plain:=false} p1.1 p1.2.1 p1.2.2
 .exact ax (aP (step t1 p1.1 p1.2.1 p1.2.2))
end
section
variable{X:Cx}{aa:List (ai×Obj)}{Z:St}{H:Hp}
theorem Ib:∀{l:List TK} {ws:List V} {aA:List ah},l.all (TK.ok 0)=true->aV X.K H ws (TK.dl l)->Vals ws aA->∀v∈aA,(∀n,ofAClassStatement n v=pure false)/\∀n,∃b,hashByValue n v=pure b
 |[],_,_,_,r,rv,v,m=>by
  simp only[TK.dl] at r;cases r;cases rv;cases m
 |k::l,_,_,ok,r,rv,v,m=>by
  rw[qf,jy] at ok;simp only[TK.dl] at r;cases rv with
  |nil=>cases m
  |cons u us=>
   obtain⟨r1,r2⟩:=r.inv;rcases y0a.mp m with rfl|m
   .cases k with
    |tp l=>simp[TK.ok] at ok
    |_=>simp only[TK.d] at r1;cases r1 with|flat q _=>cases q;(first|obtain⟨t,rfl⟩:=u|cases u);exact⟨λn=>by cases n <;> rfl,λn=>⟨_,by cases n <;> rfl⟩⟩
   .exact Ib ok.2 r2 us v m
def O_(I:Inv X aa Z H s)(r:aV X.K H [.ref a] [TK.d (.tp l)])(ok:l.all (TK.ok 0)=true)(h:Q false s):wpAny (model X.prog X.w) A (ofAClassStatement 8 (.ref a)) Q E s:=by
 simp only[TK.d] at r;cases r with
 |flat q _=>cases q
 |@tup _ ws _ _ _ q i _=>
  obtain⟨aA,rv,pl,_⟩:=I.tuple q;have fl:=Ib ok i rv;have hT:s.TypeIs (.ref a) "tuple":=pl.typeIs;obtain⟨o,g1,g2,nn,g3⟩:=pl;unfold ofAClassStatement;refine ax (wpAny_typeOf hT ?_);dsimp only;rw[bL (by decide)]
  refine ax (aP ?_);simp only[fB,kh,fS];refine ax (wpAny_seqItems g1 g3 (ax ?_));show wpAny _ _ (forIn aA.toArray _ _) _ _ s;rw[<-LG];refine wpAny_forIn_list _ (λrest r s'=>r.1=none/\s'=s/\∀v∈rest,v∈aA) _ ?_ ?_ _ _ ⟨rfl,rfl,λv m=>m⟩
  .rintro v rest r s' ⟨hr,rfl,hm⟩;rw[(fl v (hm v (uN ..))).1];exact ax (aP (aP ⟨rfl,rfl,λv m=>hm v (mY _ m)⟩))
  .rintro⟨r1,r2⟩ s' ⟨hr,rfl,_⟩;cases(show r1=none from hr);exact aP h
theorem Xx(I:Inv X aa Z H s)(r:aV X.K H [.ref a] [TK.d (.tp l)])(ok:l.all (TK.ok 0)=true)(h:∀b,Q b s):wpAny (model X.prog X.w) A (hashByValue 8 (.ref a)) Q E s:=by
 simp only[TK.d] at r;cases r with
 |flat q _=>cases q
 |@tup _ ws _ _ _ q i _=>
  obtain⟨aA,rv,pl,_⟩:=I.tuple q;have fl:=Ib ok i rv;have hT:s.TypeIs (.ref a) "tuple":=pl.typeIs;obtain⟨o,g1,g2,nn,g3⟩:=pl;show wpAny _ _ (specialOf (.ref a) "__hash__" >>= _) _ _ _;refine ax (wpAny_specialOf hT F.slot_tuple_hash.lookup ?_);dsimp only;refine ax (wpAny_seqItems g1 g3 (ax ?_));show wpAny _ _ (forIn aA.toArray _ _) _ _ s;rw[<-LG];refine wpAny_forIn_list _ (λrest r s'=>s'=s/\∀v∈rest,v∈aA) _ ?_ ?_ _ _ ⟨rfl,λv m=>m⟩
  .rintro v rest r s' ⟨rfl,hm⟩;obtain⟨b,e⟩:=(fl v (hm v (uN ..))).2 7;rw[e];refine ax (aP ?_);cases b with
   |true=>exact aP ⟨rfl,λv m=>hm v (mY _ m)⟩
   |false=>exact aP (aP (h _))
  .rintro⟨r1,r2⟩ s' ⟨rfl,_⟩;cases r1 <;> exact aP (h _)
structure DO (X:Cx) (H:Hp) (ks:List TK) (vs:List ah):Prop where
 len:vs.length=ks.length
 nd:ks.Nodup
 at_:∀(j:Nat) (k:TK),ks[j]?=some k->∃a l,vs[j]?=some (.ref a)/\aV X.K H [.ref a] [k.d]/\k=.tp l/\l.all (TK.ok 0)=true/\k.ok 8=true
def mL(es:Array (Int×ah))(ep:Nat)(t:sY):Obj:={ cls:=.type "set",dict:=none,data:=.set es ep t}
def lh(S:ai)(vs:List ah)(i:Nat)(hp:bS):Prop:=∃es ep t,hp.get? S=some (mL es ep t)/\wo t es.size/\es.size=i/\∀e∈es.toList,∃j,j<i/\vs[j]?=some e.2
def Xy{v:ah}(L:DO X H ks vs)(I:Inv X aa Z H s)(hu:A.units+9<cLine)(Zq:lh S vs i s.heap)(hi:i<8)
  (ev:vs[i]?=some v)  (q:∀(b:Bool) (h':bS) (t':Nat),Heap.SameBut S s.heap h'->lh S vs (i+1) h'->Q b { s with heap:=h',toks:=t'}):wpAny (model X.prog X.w) A (setAdd S v) Q E s:=by
 have key:∀(j:Nat) (u:ah),vs[j]?=some u->∃k a l,ks[j]?=some k/\u=.ref a/\aV X.K H [.ref a] [k.d]/\k=.tp l/\l.all (TK.ok 0)=true/\k.ok 8=true:=λj u e=>by
  have hj:=(eU.mp e).1;have ek:ks[j]?=some (ks[j]'(by rw[<-L.len];exact hj)):=gz _
  obtain⟨a,l,h1,h2,h3,h4,h5⟩:=L.at_ j _ ek;rw[e] at h1;cases h1;exact⟨_,a,l,ek,rfl,h2,h3,h4,h5⟩
 obtain⟨k,b,l,ek,rfl,rb,rfl,fl,ok⟩:=key i v ev;obtain⟨es,ep,t,g1,T,g4,g6⟩:=Zq;subst g4;unfold setAdd;refine i5 (ax (H0 8 I rb ok rfl (by lia) λtk=>?_))
 have I':=I.tok tk;have lt:es.size<t.mask:=by have:=T.2.2.2;rcases T.2.2.1 with e|e <;> lia
 refine ZS (P:=X.prog) (w:=X.w) (s:={ s with toks:=tk}) (x:=.ref b) (o:=mL es ep t) ⟨g1,rfl,T.1,T.2.1,T.2.2.1,lt,λe he=>?_,λe he R hR=>?_,λst jT R hR=>?_⟩ T hi ⟨b,rfl⟩ (λR hR=>Xx I' rb fl hR) λes' kP t' T' z' me h' sb gh=>q true h' tk sb ⟨es',kP,t',gh,T',z',λe he=>?_⟩
 .obtain⟨j,_,e1⟩:=g6 e he;obtain⟨_,a,_,_,e2,_⟩:=key j _ e1;exact⟨a,e2⟩
 .obtain⟨j,hj,e1⟩:=g6 e he;obtain⟨k',a,l',e2,e3,ra,_,_,oa⟩:=key j _ e1;rw[e3];refine(b2i I' 8 8 ra rb (tJ 8 oa) (tJ 8 ok) rfl rfl (by lia)).1 X.prog X.w E R ?_
  rw[E3,pV λz=>?_]
  .exact hR
  .rw[z,<-ek] at e2;exact bQ ((List.getElem?_inj (eU.mp ek).1 L.nd).mp e2.symm) (by lia)
 .unfold searchCouldBeSeen;refine ax (wpAny_forIn_list _ (λrest r s'=>r.1=none/\s'={ s with toks:=tk}/\∀y,y∈rest->∃e,e∈es.toList/\e.2=y) _ ?_ ?_ _ _ ⟨rfl,rfl,jT⟩)
  .rintro y rest r s' ⟨hr,rfl,hy⟩;obtain⟨e,he,rfl⟩:=hy _ (uN ..);obtain⟨j,hj,e1⟩:=g6 e he;obtain⟨k',a,l',e2,e3,ra,rfl,fa,oa⟩:=key j _ e1;have Rk:∀y,y∈rest->∃e,e∈es.toList/\e.2=y:=λy m=>hy y (mY _ m)
   rw[e3];dsimp only;split
   .exact aP ⟨rfl,rfl,Rk⟩
   .refine ax (EA 8 I' rb ok rfl ?_);simp only[fB,kh,fS];refine ax (EA 8 I' ra oa rfl ?_);simp only[fB,kh,fS];refine ax (O_ I' rb fl ?_);simp only[kh,fS];refine ax (O_ I' ra fa ?_);simp only[kh,fS];exact aP ⟨rfl,rfl,Rk⟩
  .rintro⟨r1,r2⟩ s' ⟨hr,rfl,_⟩;cases(show r1=none from hr);exact aP hR
 .rcases me e he with z|z
  .exact⟨es.size,pS _,by rw[z];exact ev⟩
  .obtain⟨j,hj,e1⟩:=g6 e z;exact⟨j,sX hj,e1⟩
structure qA (z s:ao):Prop where
 eq:s={ z with heap:=s.heap,toks:=s.toks}
 keep:∀b u,z.heap.get? b=some u->s.heap.get? b=some u
def lh.move{z9:bS}(Zq:lh S vs i hp)(k:∀u,hp.get? S=some u->z9.get? S=some u):lh S vs i z9:=by
 obtain⟨es,ep,t,g,r⟩:=Zq;exact⟨es,ep,t,k _ g,r⟩
theorem T7{R:Result->ao->Prop}{J l:ai}{z:ao}(L:DO X H ks vs)(I:Inv X aa Z H z)(hu:A.units+10<cLine)(hh:A.handled=none)(hn:vs.length<=8)(nS:z.heap.get? S=none)(nJ:z.heap.get? J=none)(JI:S≠J)(hl:z.heap.IsList l vs.toArray)
  (fin:∀s,qA z s->lh S vs vs.length s.heap->R (.ok (.ret .none)) s) :
  ∀(d i:Nat) (s:ao),vs.length - i=d->i<=vs.length->qA z s->s.heap.IsListIter J l i->lh S vs i s.heap->codeAny (model X.prog X.w) A (.builtin "set.update.loop" ⟨[.ref S,.ref J],[]⟩) R s:=by
 intro d
 induction d with
 |zero=>
  intro i s hd hi g it Zq;have e:i=vs.length:=by lia
  subst e;refine codeAny_builtin F.entry_set_update_loop ?_;rw[Around.under_plainId F.plain_set_update_loop _];show wpAny _ A.in1 (pyNext (.ref J) >>= _) _ _ s;refine ax (wpAny_pyNext_list_end hh it (hl.at λo e=>g.keep _ _ e) (by simp) λh' FT=>?_)
  refine aP (fin _ ⟨by rw[g.eq],λb u e=>FT b u (λq=>by rw[q,nJ] at e;cases e) (g.keep b u e)⟩ (Zq.move λu e=>FT S u JI e))
 |succ d ih=>
  intro i s hd hi g it Zq;have lt:i<vs.length:=by lia
  refine codeAny_builtin F.entry_set_update_loop ?_;rw[Around.under_plainId F.plain_set_update_loop _];show wpAny _ A.in1 (pyNext (.ref J) >>= _) _ _ s;refine ax (wpAny_pyNext_list_item it (hl.at λo e=>g.keep _ _ e) (x:=vs[i]) (by simp[lt]) λh' vC sb=>?_)
  have g':qA z { s with heap:=h'}:=⟨by rw[g.eq],λb u e=>(sb.extBut b u (λq=>by rw[q,nJ] at e;cases e) (g.keep b u e))⟩
  have I2:Inv X aa Z H { s with heap:=h'}:=by rw[g'.eq];exact I.kept g'.keep
  show wpAny _ A.in1 (holding [vs[i]] (setAdd S vs[i]) >>= _) _ _ _;refine ax (i5 (Xy L I2 (show A.in1.units+9<cLine from ?_) (Zq.move λu e=>sb.extBut S u JI e) (by lia) (gz lt) λb h2 t2 s2 Z2=>?_))
  .have e:A.in1.units=A.units+1:=rfl;lia
  .refine aP ⟨plainId_quiet F.plain_set_update_loop _,ih (i+1) _ (by lia) lt ⟨by rw[g.eq],λb u e=>?_⟩ ?_ Z2⟩
   .rw[s2.2 b (λq=>by rw[q,nS] at e;cases e)]
    exact g'.keep b u e
   .exact vC.at λo e=>by rw[s2.2 J (Ne.symm JI)];exact e
def NU{b:ai}(h:hp.objs.size<=b):hp.get? b=none:=by
 cases q:hp.get? b with
 |none=>rfl
 |some u=>exact bQ (cP q) (Nat.not_lt.mpr h)
def ZT:bootBuiltins "set"=some (.type "set"):=by decide +kernel
theorem R1{l:ai}{Q:ah->ao->Prop}(L:DO X H ks vs)(I:Inv X aa Z H s)(hu:A.units+20<cLine)(hh:A.handled=none)(hn:vs.length<=8)(hl:s.heap.IsList l vs.toArray)
  (q:∀s',qA s s'->lh s.heap.objs.size vs vs.length s'.heap->Q (.ref s.heap.objs.size) s'):wpAny (model X.prog X.w) A (call (.type "set") [.ref l]) Q E s:=by
 obtain⟨c,tl,cm⟩:=F.called_set.mro;have ma:=F.called_set.made;have su:=F.called_set.sub;refine wpAny_call (codeAny_of_tree ?_);show wpAny _ _ (callAny (.type "set") _) _ _ _;refine aP ⟨Code.quiet_builtin _ (by decide +kernel),codeAny_builtin F.entry_type_call ?_⟩
 rw[Around.under_plain (weight_type_call_type "set" [.ref l] []) rfl];have h1:=F.called_set.notType;have h2:=F.called_set.canCreate;have h3:=F.typeCall_set_1 (.ref l)
 repeat (any_goals (first|assumption|wp_step))
 refine codeAny_mono (code_set_new_1 (.ref l) (E:=E) (Q₁:=λob z=>∃ld:Bool,ob=.ref s.heap.objs.size/\z={ s with heap:=s.heap.push (mL #[] 0 (.fresh 0 0 ld))}) λld=>⟨ld,rfl,rfl⟩) λr z hr=>?_
 cases r with
 |error e=>exact hr
 |ok fl=>
  cases fl with
  |ret ob=>
   obtain⟨ld,rfl,rfl⟩:=hr;have gS:(s.heap.push (mL #[] 0 (.fresh 0 0 ld))).get? s.heap.objs.size=some (mL #[] 0 (.fresh 0 0 ld)):=iI _ rfl;have hT:Shared.TypeIs { s with heap:=s.heap.push (mL #[] 0 (.fresh 0 0 ld))} (.ref s.heap.objs.size) "set":=⟨_,gS,rfl⟩;have h4:=F.called_set.init.lookup;have h5:=F.called_set.init.bind (.ref s.heap.objs.size)
   repeat (any_goals (first|assumption|wp_step))
   refine codeAny_mono (codeAny_call_builtin (R:=wants (λr z=>r=.none/\qA s z/\lh s.heap.objs.size vs vs.length z.heap) E) F.called_set.init.plain F.entry_set_init (check_set_init_1 hT ?_)) λr z hr=>?_
   .have gl:(s.heap.push (mL #[] 0 (.fresh 0 0 ld))).IsList l vs.toArray:=hl.push _;obtain⟨ol,hol,pD,nl,QX⟩:=gl;obtain⟨ocls,odict,odata,oslots⟩:=ol;simp only at pD QX;subst pD;subst QX;have k1:=F.sub_list_set;have k2:=F.sub_list_frozenset;have k3:(Value.type "list" == Value.type "dict")=false:=by decide
    unfold Builtin.«set.__init__» noKeywords Builtin.Frozenset.updateFrom;unfold mL at *;generalize hPI:pyIter=PI
    wp_walk
    subst hPI;refine wpAny_pyIter_list ⟨_,hol,rfl,nl,rfl⟩ ?_;refine ax (wpAny_runValue ?_);have sz:(s.heap.push { cls:=.type "set",dict:=none,data:=.set #[] 0 (.fresh 0 0 ld)}).objs.size=s.heap.objs.size+1:=by simp[Heap.push]
    refine T7 (A:=A.in1.in1) (J:=(s.heap.push { cls:=.type "set",dict:=none,data:=.set #[] 0 (.fresh 0 0 ld)}).objs.size) L I ?_ (show A.in1.in1.handled=none from hh) hn (NU (bU _)) (NU (by rw[sz];exact uP _)) (gd (by rw[sz];exact pS _)) hl (λz g Zq=>?_) (vs.length - 0) 0 _ rfl (kg _) ?_ ?_ ?_
    .simp only[Around.in1_units];lia
    .refine aP ?_;show wpAny _ _ (ret Value.none) _ _ _;exact aP ⟨rfl,g,Zq⟩
    .exact⟨rfl,λb u e=>cU _ (cU _ e)⟩
    .exact⟨_,iI _ rfl,rfl,rfl⟩
    .exact⟨#[],0,_,cU _ gS,⟨rfl,rfl,.inl rfl,by simp[SetTable.fresh]⟩,rfl,λe m=>by simp at m⟩
   .cases r with
    |error e=>exact hr
    |ok fl=>
     cases fl with
     |ret r=>
      obtain⟨rfl,g,Zq⟩:=hr
      repeat (any_goals (first|assumption|wp_step))
      exact q _ g Zq
     |_=>exact hr.elim
  |_=>exact hr.elim
def Pa(K:aI):List V->Hp->VK->Prop:=λvs H Q=>∃a ws ks,vs=[.ref a]/\cT K H a ws/\aV K H ws (TK.dl ks)/\ks.Nodup/\ks.all (λk=>match k with|.tp l=>l.all (TK.ok 0)|_=>false)=true/\ks.length<=8/\Q (.int ks.length) H
def T8{l:Expr}{ta:TA}(t9:Gl X "len")(x9:X.mg "len"=none)(hg:Gl X "set")(hm:X.mg "set"=none)(ha:PA X [l] ta)(hc:X.calm=true)(hu:X.A.units+41<cLine)(hs:starEach [l] X.env=[(false,eval l X.env)])
  (qa:starEach [.Call (.Name "set" p1) [l] [] mI] X.env=[(false,eval (.Call (.Name "set" p1) [l] [] mI) X.env)]):PE X (.Call (.Name "len" p) [.Call (.Name "set" p1) [l] [] mI] [] pos) (Lb (Pa X.K) ta):=by
 intro aa s Z H Q I h;refine Call_ (sC I t9 x9 qO (PyProof.Rows.callWith_builtin1 ?_ qa rfl));rw[qa];show wpAny _ _ (spliced ((false,eval (.Call (.Name "set" p1) [l] [] mI) X.env)::[])) _ _ s;refine Calls.spliced_cons (Call_ (sC I hg hm ZT (PyProof.Rows.callWith_type1 (bM (ha mI aa s Z H _ I h) λus s1 ⟨vs,H1,I1,r1,q1⟩=>?_) hs rfl)))
 obtain⟨a,ws,ks,e,hq,rk,nd,ok,hn,q⟩:=q1;subst e;obtain⟨u,rfl,ru⟩:=vals1 r1;cases ru;obtain⟨aA,rv,pl,hz⟩:=I1.list hq;rw[zT] at rk;have hl:aA.length=ks.length:=by have:=rk.length;have:=rv.length;simp at *;lia
 have L:DO X H1 ks aA:=⟨hl,nd,λj k e=>by
  obtain⟨y,h1,h2⟩:=rk.get (i:=j) (d:=k.d) (by rw[fW,e];rfl)
  obtain⟨u,u1,u2⟩:=A1 j rv h1;have o:=kj.mp ok k (pT e);cases k with
  |tp l=>
   simp only[TK.d] at h2;cases h2 with
   |flat q _=>cases q
   |@tup a ws _ _ _ q i t=>
    cases u2;exact⟨a,l,u1,by simp only[TK.d];exact .tup q i .nil,rfl,o,by
     simp only[TK.ok,kj] at o ⊢;exact λx m=>by cases x <;> first|rfl|(have:=o _ m;simp[TK.ok] at this)⟩
  |_=>cases o⟩
 refine R1 L I1 (by lia) (I1.ok.hd hc) (by rw[hl];exact hn) pl.isList λs' g ⟨es,ep,t,g1,T,g4,_⟩=>Calls.spliced_nil ?_
 refine call_len_set g1 ⟨rfl,rfl,rfl⟩ rfl (IF T.1 T.2.1 (by have:=T.2.2.2;lia)) (by lia) ?_
 rw[g4,hl];have I2:Inv X aa Z H1 s':=by rw[g.eq];exact I1.kept g.keep
 exact⟨.int ks.length,H1,I2.tok _,⟨_,rfl⟩,q⟩
end
def nG:D->aj Rv
 |.lst l=>(jk l).bind λks=>if ks.Nodup/\ks.all (λk=>match k with|.tp l=>l.all (TK.ok 0)|_=>false)=true/\ks.length<=8 then some (rd (.int ks.length)) else none
 |_=>none
section
variable{X:Cx}{K:aI}{W:XW}{q:Nat}
def Xz:cb K (Pa K) (o1 nG):=sS λk H x a y Q le t e res=>by
 unfold nG at e;split at e
 .rename_i l
  obtain⟨ks,q1,e⟩:=cw.mp e;split at e
  .rename_i hn
   cases e;obtain⟨p,ws,rfl,s,r⟩:=t.lst le;have el:=lT q1;refine⟨p,ws,ks,rfl,s,?_,hn.1,hn.2.1,hn.2.2,res.flat le rfl⟩;rw[el];refine Top.Kv (n:=8) r le ?_;rw[<-el,zT,As,kj];intro k m;have o:=kj.mp hn.2.1 k m;refine tJ 8 ?_;cases k with
   |tp l=>
    simp only[TK.ok,kj] at o ⊢;exact λx m=>by cases x <;> first|rfl|(have:=o _ m;simp[TK.ok] at this)
   |_=>cases o
  .cases e
 .cases e
def xLS{l:Expr}{fs:GA}(x9:X.mg "len"=none)(hm:X.mg "set"=none)(ha:PA X [l] (fV K W q fs))(hu:X.A.units+41<cLine)(hc:X.calm=true)(hK:X.K=K)(t9:Gl X "len")(hg:Gl X "set")(hs:starEach [l] X.env=[(false,eval l X.env)])
  (qa:starEach [.Call (.Name "set" p1) [l] [] mI] X.env=[(false,eval (.Call (.Name "set" p1) [l] [] mI) X.env)]):PE X (.Call (.Name "len" p) [.Call (.Name "set" p1) [l] [] mI] [] pos) (tE K W q (gO (o1 nG) fs)):=by
 subst hK;exact(T8 t9 x9 hg hm ha hc hu hs qa).mono λ_ _ _ t=>sF Xz t
end
end L2
namespace L2
open PySem PySem.Spec PySem.W PyProof.Rows
section
variable{X:Cx}
end
section
variable{X:Cx}{K:aI}{H:Hp}{k:Kn}
end
section
variable{prog:cX}{w:cA}{A:cK}{E:ah->ao->Prop}{s:ao}
end
section
variable{X:Cx}{K:aI}{H:Hp}{k:Kn}
end
section
variable{X:Cx}{aa:List (ai×Obj)}{Z:St}{H:Hp}{s:ao}{A:cK}{a b:ai}{es es':List (TK×V×V)}{ep kP:Nat}{E:ah->ao->Prop}
end
section
variable{X:Cx}{aa:List (ai×Obj)}{Z:St}{H:Hp}{s:ao}
variable{K:aI}
end
end L2
namespace L2
open PySem Lean Meta
def YL:List Name:=[``xK,``tZ,``BL,``xO,``wL,``wS,``wE,``wP,``wA,``wAI,``wAD,``wX,``wY,``wF,``qS,``xv,``xi,``xs,``xb,``xn,``xty,``xk,``xki,``xo,``Lz,``xc,``xix,``xsl,``xd,``xj,``jn,``jc,``xB,``xT,``xM,``xU,``xf,``xC,``xN,``xH,``xH0,``xLV,``xL,``xJ,``xI,``qR,``tV,``BJ,``BK,``xG,``yD,``zc,``xF,``PW.pt,``BO,``xQ,``xP,``yc,``ych,``yt,``ya1,``yo1,``yn,``y1,``tY,``tW,``rR,``uv,``pgn,``pgt,``rP,``ur,``uB,``yU,``r6,``uD,``sA,``KZ,``sEn,``sI,``sR1,``sRT,``Ls,``Lx,``Lv,``Dx,``Lu,``Lw,``Vn,``Vt,``Vs,``Vr,``Vo,``Vp,``Jf,``Vq,``Je,``Kd,``Kc,``Kb,``Ke,``Cq,``Cp,``Co,``yr,``Ct,``uI,``uJ,``uK,``Dt,``qO,``n8,``PyProof.Rows.Boot.min,``PyProof.Rows.Boot.sum,``vI,``vJ,``yh,``CJ,``cx.le,``pP,``uo,``uq,``xLS]
def YK(tg N cY:Lean.Expr):MetaM Lean.Expr:=do
 let nm (e:Lean.Expr):=e.getArg! 0
 let ts:=if tg.isAppOf ``Expr.Name then[nm tg] else((tg.getArg! 0).listLit?.map (·.2.map nm)).getD []
 let ns:=(((<-whnf N).listLit?).map (·.2)).getD []
 let cs:=((cY.listLit?.map (·.2)).getD []).map λi=>ns.getD ((i.nat?).getD 0) (mkNatLit 0)
 mkListLit (mkConst ``Str) (ts++cs)
def lD{α:Type}(f:α->MetaM Bool):List α->MetaM Bool
 |[]=>return false
 |x::l=>do if <-f x then return true else lD f l
def BN:Nat->MVarId->MetaM Unit
 |0,_=>failure
 |n+1,g0=>do
  let (_,g) <-g0.intros
  g.withContext do
  let t:=(<-instantiateMVars (<-g.getType)).cleanupAnnotations.headBeta
  let run (s:MetaM Syntax):MetaM Bool:=do
   let st <-saveState
   try
    let (gs,_) <-Lean.Elab.runTactic g (<-s)
    unless gs.isEmpty do failure
    return true
   catch _=>st.restore;return false
  let use (fix:Lean.Expr->MetaM Unit) (f:Lean.Expr):MetaM Bool:=do
   let s <-saveState
   try
    let y <-whnfR (<-inferType f)
    unless y.getForallBody.getAppFn.constName? == t.getAppFn.constName? do failure
    let (ms,_,ty) <-forallMetaTelescope y
    unless <-isDefEq ty t do failure
    let each (h:Lean.Expr->MetaM Unit):=lD (λm=>do
     unless <-m.mvarId!.isAssigned do h m
     return false) ms.toList
    discard <| each fix
    discard <| each λm=>do if <-isProp (<-inferType m) then BN n m.mvarId!
    g.assign (mkAppN f ms)
    return true
   catch _=>s.restore;return false
  let r9:=use λ_=>pure ()
  let c:=t.getAppFn.constName?.getD .anonymous
  if c == ``Eq then
   let l:=t.appFn!.appArg!
   if l.isAppOf ``Ae || l.isAppOf ``fT then
    if <-run `(tactic| kernel_rfl) then return
   if <-(try g.refl;pure true catch _=>pure false) then return
  let env <-getEnv
  if c == ``dA then
   if <-lD (λd=>if d.isImplementationDetail then return false else r9 d.toExpr) ((<-getLCtx).decls.toList.filterMap id) then return
   if <-lD (lD λ(k,i)=>do
    if k.getPrefix == `Carry&&(<-whnfR i.type).getForallBody.isAppOf ``dA then r9 (<-mkConstWithFreshMVarLevels k) else return false) [env.constants.map₂.toList,env.constants.map₁.toList] then return
   failure
  if <-lD (λd=>do
   if d.isImplementationDetail then return false
   if <-r9 d.toExpr then return true
   let some s:=d.type.getAppFn.constName?|return false
   unless isStructure env s&&s.getPrefix == `Carry do return false
   lD (λf=>do r9 (<-mkProjection d.toExpr f)) (getStructureFields env s).toList) ((<-getLCtx).decls.toList.filterMap id) then return
  if <-lD (λr=>do
   let f <-mkConstWithFreshMVarLevels r
   if r == ``wX then
    lD (λj=>use (λm=>do if(<-inferType m).isConstOf ``Nat then m.mvarId!.assign (mkNatLit j)) f) (List.range 12)
   else if r == ``xL || r == ``wL then
    use (λm=>do
     if(<-instantiateMVars (<-inferType m)).isAppOf ``List then
      let some lc:=t.find? (·.isAppOf ``Expr.ListComp)|failure
      let some gc:=t.find? (·.isAppOf ``bZ)|failure
      let some co:=((lc.getArg! 1).listLit?.bind (·.2.head?))|failure
      m.mvarId!.assign (<-YK (co.getArg! 0) (<-mkAppM ``Cx.N #[t.getArg! 0]) gc.appArg!)) f
   else r9 f) YL then return
  unless <-run `(tactic| first|rfl|exact Or.inl rfl|exact Or.inr rfl|exact Or.inr (Or.inl rfl)|exact Or.inr (Or.inr rfl)|decide|(intro _ _;rfl)|with_unfolding_all rfl) do failure
def Qv:Nat->Lean.Expr->MetaM (List Lean.Expr)
 |0,_=>failure
 |n+1,e=>do
  let a:=(<-whnf e).getAppArgs
  if a.size<3 then return []
  return (<-whnfCore a[1]!)::(<-Qv n a[2]!)
simproc_decl dv (iP _ _ _):=λe=>do
 let a:=e.getAppArgs
 let b <-withDefault (whnf a[1]!)
 let N <-mkListLit (mkConst ``Str) (<-withDefault (Qv 99 (a[0]!.getArg! 6)))
 let m <-mkFreshExprMVar (mkApp3 e.getAppFn (mkAppN a[0]!.getAppFn (a[0]!.getAppArgs.set! 6 N)) b a[2]!)
 withDefault (BN 200 m.mvarId!)
 return .done { expr:=mkConst ``True,proof?:=<-mkEqTrue (<-mkExpectedTypeHint (<-instantiateMVars m) e)}
end L2
namespace L2
open PySem PySem.Spec PyProof.Rows
variable{K:aI}{C:aj ai}{x:Str}{f:ai}{st:Stmt}
noncomputable def fA (K:aI) (C:aj ai) (x:Str):ai:=Classical.epsilon λf=>C.elim (PySem.W.nsIn K mainGlobals x) (λC=>PySem.W.findIn K (.ref C) x)=some (some (.ref f))
noncomputable def fF (K:aI) (f:ai):kI:=Classical.epsilon λd=>∃oc od oB,K.lookup f=some ⟨oc,od,.func d,oB⟩
abbrev yE(st:Stmt):List Str:=(zI st).args.map (·.arg)
abbrev Kq(st:Stmt):List Str:=((o_ st).names.filter λp=>p.2.casesOn true true false false false).map (·.1)
abbrev Df(K:aI)(mg:Str->aj ah)(x:Str)(st:Stmt):Prop:=uT K mg x st (fA K none x) (fF K (fA K none x)) (yE st)
abbrev Mf(K:aI)(C:ai)(x y:Str)(st:Stmt):Prop:=MethAt K C x y st (fA K (some C) x) (fF K (fA K (some C) x)) (yE st)
def BR{A:Type}{p:A->Prop}(a:A)(h:p a)(u:∀b,p b->a=b):@Classical.epsilon A ⟨a⟩ p=a:=(u _ (@Classical.epsilon_spec_aux A ⟨a⟩ p ⟨a,h⟩)).symm
def Jk(a:C.elim (PySem.W.nsIn K mainGlobals x) (λC=>PySem.W.findIn K (.ref C) x)=some (some (.ref f))):fA K C x=f:=BR f a λb e=>by cases a.symm.trans e;rfl
def QD{y:Str}{fd:kI}(F:sk K x y st f fd):fF K f=fd:=by
 obtain⟨oc,od,_,_,_,_,_,_,oB,_,l,_⟩:=F.ex;exact BR fd ⟨oc,od,oB,l⟩ λb ⟨_,_,_,e⟩=>by cases l.symm.trans e;rfl
seal fA fF
abbrev GY(Tx:aI->(Str->aj ah)->Prop)(C:aj ai)(x:Str)(st:Stmt)(k p:Nat)(M:Nat->GM):Prop:=∀{P:cX} {w:cA} {K:aI} {mg:Str->aj ah} {base:bS} (T:Tx K mg) (q:Nat),dA P w K mg base (l7 P w) k (fA K C x) (fF K (fA K C x)) (yE st) (sr K q p (M q))
def cJ{Tx:aI->(Str->aj ah)->Prop}{k p n:Nat}{qual:Str}{m:Nat->GS}(F:∀{K:aI} {mg:Str->aj ah},Tx K mg->sk K x qual st (fA K C x) (fF K (fA K C x)))(N:List Str:=Kq st)
  (hb:∀{P:cX} {w:cA} {K:aI} {mg:Str->aj ah} {base:bS} (T:Tx K mg) (q:Nat) (f6:ah) (A:cK) (outer:List Env) (s:ao) (H:Hp) (E:XK),cx k (A.deeper (envOfC qual (o_ st) s.heap.objs.size (fA K C x) f6))->(A.deeper (envOfC qual (o_ st) s.heap.objs.size (fA K C x) f6)).units+41<cLine->iP (lz (l7 P w) P w K mg base N qual (o_ st) (fA K C x) f6 A outer s H E) (wM st) (tS K (WF E) q (m q)):=by intros;simp only[dv])
  (S:ia N (yE st) (o_ st):=by exact Jw) (hp:(yE st).length=p:=by rfl) (hn:N.length=n:=by rfl):GY Tx C x st (k+1) p (aU p n m):=λT q=>Za (F T) S hp hn λf6 A outer s H E hr=>hb T q f6 A outer s H E hr (Xr hr)
end L2
namespace L2
open PySem PySem.Spec PySem.W PyProof.Rows
section
variable{K:fm}{mg:Str->aj ah}{h:bS}{x y:Str}{st:Stmt}{f C:ai}{fd:kI}{ps:List Str}
abbrev Qi(x y:Str)(st:Stmt)(ps:List Str):Prop:=∀(kV doc pm:ah) (an:aj ai) (f6 ct:ah) (us:List ah),us.length=ps.length->bindArgs (PySem.W.fnOf x y (zI st) (wM st) (o_ st) .none kV doc pm an f6 ct) ⟨us,[]⟩=pure (ps.zip us)
def dM(X:K.In h)(G:h.Ns mainGlobals mg)(a:nsIn K mainGlobals x=some (some (.ref f)))(F:sk K x x st f fd)(b:Qi x x st (yE st)):Df K mg x st:=by
 unfold Df;rw[Jk (C:=none) a,QD F];exact⟨F,mg_of X G a,F.binds b⟩
def mM(a:findIn K (.ref C) x=some (some (.ref f)))(n:isFn K (.ref f)=true)(F:sk K x y st f fd)(b:Qi x y st (yE st)):Mf K C x y st:=by
 unfold Mf;rw[Jk (C:=some C) a,QD F];exact⟨F,⟨a,n,F.kp⟩,F.binds b⟩
def mK(m:makesIn K C=true)(a:findIn K (.ref C) "__init__"=some (some (.ref f)))(n:isFn K (.ref f)=true)(k:keepIn K (.ref C)=true):Mk K C (fA K (some C) "__init__"):=by
 rw[Jk (C:=some C) a];exact⟨m,a,n,k⟩
def kM{v:Tok->ah}{t:Tok}(X:K.In h)(G:h.Ns mainGlobals mg)(a:nsIn K mainGlobals x=some (some (v t))):∃t,mg x=some (v t):=⟨t,mg_of X G a⟩
end
end L2
namespace L2
abbrev ak(x:D):aj Val:=some (.d x)
abbrev bH(x:PySem.Str):aj Val:=some (.d (.str x))
abbrev cD(x:Int):aj Val:=some (.d (.int x))
abbrev aO(n:Nat):aj Val:=some (.c n)
abbrev du(x:PySem.Str):Val:=.d (.str x)
abbrev aM(x:Int):Val:=.d (.int x)
abbrev cS:aj Val:=some (.d (.ref 0))
abbrev gb:Val:=.d (.ref 0)
end L2
namespace Carry
open PySem L2
structure av where
 name:Str
 long:Int
 ring:Bool
 outs:List Str
structure aF where
 af:List av
 carts:List Str
noncomputable def lH(xs:List Str)(k:Nat)(y:Str):List Str:=xs.take k++y::xs.drop k
theorem EM(xs:List Str)(k:Nat)(y:Str):(lH xs k y).length=xs.length+1:=by
 unfold lH;rw[dw,j9,v5,Ap];lia
theorem jY{xs:List Str}{k:Nat}{y z:Str}:z∈lH xs k y↔z=y\/z∈xs:=by
 unfold lH;rw[gw,y0a];constructor
 .rintro(h|h|h)
  .exact .inr (List.mem_of_mem_take h)
  .exact .inl h
  .exact .inr (List.mem_of_mem_drop h)
 .rintro(h|h)
  .exact .inr (.inl h)
  .rw[<-List.take_append_drop k xs,gw] at h;rcases h with h|h
   .exact .inl h
   .exact .inr (.inr h)
seal PE PA PT PS iP
noncomputable def top(i:Nat):Stmt:=PySem.Challenge.pw_carry_k67_why_bags_stand.main.body.getD i (.Pass ⟨0,0,0,0⟩)
noncomputable abbrev iQ:List (Str×ai):=[("NoName",44),("NoSize",56),("NoOut",68),("NoHand",80),("NoMoment",92),("NoFlight",104),("NoBelt",116),("NoRoom",128),("NoBag",140)]
abbrev cHall:ai:=456
noncomputable abbrev atrs:List (ai×Str):=[(cHall,"built"),(cHall,"told_rounds"),(cHall,"now"),(cHall,"book"),(cHall,"halts"),(cHall,"places"),(cHall,"readings"),(cHall,"rounded"),(cHall,"gone"),(cHall,"carted")]
structure Txt (K:aI) (mg:Str->aj ah):Prop where
 oV:Df K mg "is_name" (top 15)
 kq:Df K mg "right_house" (top 17)
 km:Df K mg "check_carts" (top 18)
 kl:Df K mg "check_belts" (top 19)
 mi:Df K mg "take_name" (top 20)
 kZ:Df K mg "check_outs" (top 21)
 kY:Df K mg "check_hand" (top 22)
 kW:Df K mg "belt_names" (top 23)
 o5:Df K mg "reached" (top 24)
 oR:Df K mg "belt_of" (top 25)
 AB:Df K mg "far" (top 27)
 qh:Df K mg "begins" (top 28)
 AA:Df K mg "arm" (top 29)
 qz:Df K mg "wanted" (top 31)
 kX:Df K mg "busy_belts" (top 32)
 nu:Df K mg "off_belt" (top 33)
 we:Df K mg "turn" (top 34)
 i8:Df K mg "stand_stopped" (top 35)
 iM:Df K mg "stand_yielding" (top 36)
 jD:Df K mg "stand_behind" (top 37)
 qj:Df K mg "copied" (top 40)
 i6:Df K mg "check_closing" (top 41)
 qt:Df K mg "_law_cell" (top 43)
 oX:Df K mg "_law_digit" (top 44)
 qx:Df K mg "_law_pick" (top 45)
 oZ:Df K mg "_law_other" (top 46)
 o4:Df K mg "_law_third" (top 47)
 qv:Df K mg "_law_name" (top 48)
 qw:Df K mg "_law_outs" (top 49)
 oY:Df K mg "_law_house" (top 50)
 i7:Df K mg "_law_flight_name" (top 51)
 k9:Df K mg "_law_bag_name" (top 52)
 mh:Df K mg "_law_closing" (top 53)
 oW:Df K mg "_law_deeds" (top 54)
 qr:Df K mg "_law_call" (top 55)
 qu:Df K mg "_law_done" (top 56)
 nq:Df K mg "_law_yields" (top 57)
 nj:Df K mg "_law_stands" (top 58)
 ko:Df K mg "_law_log_holds" (top 59)
 qy:Df K mg "law" (top 60)
 ql:Mf K cHall "__init__" "Hall.__init__" (j' (top 39) 0)
 ng:Mf K cHall "flight" "Hall.flight" (j' (top 39) 1)
 nc:Mf K cHall "change" "Hall.change" (j' (top 39) 2)
 k6:Mf K cHall "call_off" "Hall.call_off" (j' (top 39) 3)
 s_:Mf K cHall "put" "Hall.put" (j' (top 39) 4)
 qo:Mf K cHall "read" "Hall.read" (j' (top 39) 5)
 qp:Mf K cHall "stop" "Hall.stop" (j' (top 39) 6)
 oU:Mf K cHall "start" "Hall.start" (j' (top 39) 7)
 iK:Mf K cHall "check_flight" "Hall.check_flight" (j' (top 39) 8)
 jC:Mf K cHall "check_belt" "Hall.check_belt" (j' (top 39) 9)
 iL:Mf K cHall "check_inside" "Hall.check_inside" (j' (top 39) 10)
 oS:Mf K cHall "house" "Hall.house" (j' (top 39) 11)
 nh:Mf K cHall "rounds" "Hall.rounds" (j' (top 39) 12)
 mf:Mf K cHall "stopped" "Hall.stopped" (j' (top 39) 15)
 qk:Mf K cHall "bags" "Hall.bags" (j' (top 39) 16)
 l9:Mf K cHall "cart_of" "Hall.cart_of" (j' (top 39) 20)
 l_:Mf K cHall "catches" "Hall.catches" (j' (top 39) 21)
 k7:Mf K cHall "in_order" "Hall.in_order" (j' (top 39) 22)
 qm:Mf K cHall "move" "Hall.move" (j' (top 39) 23)
 md:Mf K cHall "move_on" "Hall.move_on" (j' (top 39) 24)
 k8:Mf K cHall "move_out" "Hall.move_out" (j' (top 39) 25)
 C_Hall:Cls K cHall
 Mk_Hall:Mk K cHall (fA K (some cHall) "__init__")
 mg_Hall:mg "Hall"=some (.ref cHall)
 atr:jA K atrs
 er:oQ K mg iQ 31
 b_len:mg "len"=none
 b_isinstance:mg "isinstance"=none
 b_int:mg "int"=none
 b_bool:mg "bool"=none
 b_str:mg "str"=none
 b_list:mg "list"=none
 b_tuple:mg "tuple"=none
 b_range:mg "range"=none
 b_enumerate:mg "enumerate"=none
 b_reversed:mg "reversed"=none
 b_all:mg "all"=none
 b_sorted:mg "sorted"=none
 b_dict:mg "dict"=none
 b_min:mg "min"=none
 b_set:mg "set"=none
 c_LETTERS:∃t,mg "LETTERS"=some (.str "abcdefghijklmnopqrstuvwxyz" t)
 c_MOST_LETTERS:∃t,mg "MOST_LETTERS"=some (.int 8 t)
abbrev OD(x:Str)(i:Nat):=GY Txt none x (top i)
abbrev OM(x:Str)(i:Nat):=GY Txt (some cHall) x (j' (top 39) i)
def Ei(n1:Nat):GE:=(bB j5 0 (gC (.str "abcdefghijklmnopqrstuvwxyz")))
def A2(q:Nat):GS:=(pB (cF (dq (cH (gO (o2 eR) (ck 0 (gC (.ty "str")))))) (aE (gC (.bl false)))) (cF (dq (gB (IW J9 J9 (gI 1) (gO (o1 eZ) (bA 0)) (gC (.int 8))))) (aE (gC (.bl false)))) (aE (gO (o1 (Fm KN)) (bA (bZ q (bG false eS 0) 0 (λ_=>gq true) Ei 1 [])))))
def nA:=aU 1 1 A2
theorem d9a:OD "is_name" 15 1 1 nA:=cJ (λT=>T.oV.fn)
def L8(n1:Nat):GE:=(gX 0 (gI 0))
def Mm(q:Nat):GS:=(cL (aE (bZ q (bG false eS 0) 0 (λ_=>gq true) L8 1 [])))
def sy:=aU 1 1 Mm
theorem c9m:OD "belt_names" 23 1 1 sy:=cJ (λT=>T.kW.fn)
def zu(n1:Nat):GS:=(cL (cF (gQ d_ (gX 2 (gI 0)) 1) (aE (aX true (jb (gX 2 (gI 0)) (gX 2 (gI 1)) (gX 2 (gI 2)) (gO (o1 kQ) (bA (gX 2 (gI 3)))))))))
def Nj(q:Nat):GS:=(iH (bO q (bG true eS (gX 0 (gI 0))) 2 zu) (aE (gC .aJ)))
def wI:=aU 2 3 Nj
theorem d9b:OD "belt_of" 25 1 2 wI:=cJ (λT=>T.oR.fn)
def Hz(n2:Nat):GT:=(gQ j5 0 1)
def HA(n2:Nat):GE:=(gX 1 0)
def zy(n1:Nat):GS:=(iH (aq 7 false (bZ n1 (bG false eS 6) 0 Hz HA 1 [2])) (cF (cH 7) (cq n1 (bB bF 4 (gO (o1 (n6 iA)) (bA 7))) 2 3)))
def NV(q:Nat):GS:=(pB (aq 2 true (n9 (zM [(1,(gI 0))]))) (bO q (bG true yM (gX 0 (gI 0))) (bC [3,4,5,6]) zy) (aE 2))
def A8:=aU 2 8 NV
theorem e2y:OD "begins" 28 1 2 A8:=cJ (λT=>T.qh.fn)
def zj(n1:Nat):GS:=(iH (aq 8 false (gX 1 4)) (fI (gQ j5 (gX 6 (gI 0)) 2) (cL (cq n1 (aX true (ck (gC (.str "stopped")) (gX 6 (gI 0)))) 3 4)) (cL (cF (cM (cH (gO (o2 eR) (ck 8 (gC (.ty "tuple"))))) (gQ j5 (gX 8 (gI 0)) 2)) (cq n1 (aX true (ck (gC (.str "stopped")) (gX 8 (gI 0)))) 3 4)))))
def L5(q:Nat):GS:=(cL (bO q (bG true eS 0) (bC [4,5,6,7]) zj))
def DZ:=aU 4 9 L5
theorem c1n:OD "stand_stopped" 35 1 4 DZ:=cJ (λT=>T.i8.fn)
def G4(n1:Nat):GT:=(cM (gQ iT (gX 0 (gI 0)) 1) (cH (gO (o2 eR) (ck (gX 2 (gX 0 (gI 0))) (gC (.ty "tuple"))))))
noncomputable def G5(n1:Nat):GE:=0
def AJ(n1:Nat):GS:=(iH (aq 9 false (gX 1 5)) (cF (eQ (gQ iT 9 4) (gQ d_ (gX 7 (gI 0)) (gX 9 (gI 0)))) (cq n1 5 4 9)))
def AK(n1:Nat):GS:=(iH (aq 10 false (gX 4 (gX 1 5))) (cF (gQ qc 10 5) (cq n1 (aX true (ck (gC (.str "yields")) 10)) 2 5)))
def LZ(q:Nat):GS:=(pC (aq 3 false (bZ q (bG false eS 0) 0 G4 G5 1 [2,1])) (aq 4 true ph) (bO q (bG true eS 3) (bC [5,6,7,8]) AJ) (bO q (bG true eS 3) (bC [5,6,7,8]) AK))
def DW:=aU 3 11 LZ
theorem c1b:OD "stand_yielding" 36 1 3 DW:=cJ (λT=>T.iM.fn)
def AL(n1:Nat):GS:=(cL (cq n1 4 3 6))
def wu(n1:Nat):GS:=(iH (aq 9 false (xl "dict" (o2 mC) 3 (bA (gX 1 4)))) (fI (cM (gQ iT 4 2) (gQ j5 9 2)) (iH (cq n1 (aX true (ck (gC (.str "behind")) 9)) 2 4) (aq 8 false (gC (.bl true)))) mD))
def DX(q:Nat):GS:=(iH (aq 8 false (gC (.bl false))) (bO q (bG true eS 1) 4 wu))
def L9(q:Nat):GS:=(pC (aq 3 true ph) (bO q (bG true eS 0) (bC [4,5,6,7]) AL) (aq 8 false (gC (.bl true))) (bj (cH 8) (DX q) 1000))
def D6:=aU 3 10 L9
theorem c5j:OD "stand_behind" 37 1 3 D6:=cJ (λT=>T.jD.fn)
def L6(q:Nat):GS:=(cL (cF (gQ qb 0 (gI 0)) (mS 92 (gC (.str "a flight closes at a moment from 0 on")))))
def AM:=aU 1 1 L6
theorem c1o:OD "check_closing" 41 1 1 AM:=cJ (λT=>T.i6.fn)
def Ic(q:Nat):GS:=(iH (cF (gQ qb 1 (gO (o1 eZ) (bA 0))) (aE (gX 0 1))) (aE (gI 0)))
def nZ:=aU 2 2 Ic
theorem e2z:OD "_law_cell" 43 1 2 nZ:=cJ (λT=>T.qt.fn)
def Hk(n1:Nat):GE:=(gX 0 (gI 0))
def MP(q:Nat):GS:=(pC (cF (eQ (gQ iT 5 1) (eQ (gQ d_ 5 4) (eQ (gQ qc (gX 1 5) (gX 1 4)) (gQ j5 (gX (gX 2 5) (gI 0)) 3)))) (aE (gC (.bl false)))) (aq 6 false (bZ q (bG false eS (gX 0 (gI 0))) 0 (λ_=>gq true) Hk 1 [])) (cF (gQ d_ (gX (gX 2 5) (gI 0)) (gX (gX 1 4) (gI 0))) (aE (gC (.bl true)))) (aE (nF (bB qc (gX (gX 2 4) (gI 0)) (gX (gX 1 4) (gI 0))) (bB qb (xl "list" (o2 fJ) 6 (bA (gX (gX 2 5) (gI 0)))) (xl "list" (o2 fJ) 6 (bA (gX (gX 2 4) (gI 0))))))))
def Er:=aU 6 7 MP
theorem d6u:OD "_law_yields" 57 1 6 Er:=cJ (λT=>T.nq.fn)
def MQ(q:Nat):GS:=(cL (aE (bx atrs "told_rounds" 0)))
def Es:=aU 1 1 MQ
theorem d6v:OM "rounds" 12 1 1 Es:=cJ (λT=>T.nh.fn)
def Mn(q:Nat):GS:=(oh (de (f7 q "dict" iZ (bx atrs "places" 0) (bA 1))) (de (f7 q "dict" iZ (bx atrs "readings" 0) (bA 1))) (de (f7 q "dict" iZ (bx atrs "rounded" 0) (bA 1))) (cq q 2 (bx atrs "carted" 0) 1) (de (f7 q "list" tK (bx atrs "gone" 0) (bA (aX true (dW 1 2 (bx atrs "now" 0)))))))
def AS:=aU 3 3 Mn
theorem c9n:OM "move_out" 25 1 3 AS:=cJ (λT=>T.k8.fn)
def Mz(q:Nat):GS:=(iH (cF (eQ (dq (cH (au (nA q) (bA 0)))) (gQ j5 0 1)) (mS 44 (gC (.str "a belt or a cart has no name, or one that is taken")))) (cq q (gC (.bl true)) 1 0))
def zv:=aU 2 2 Mz
theorem d2k:OD "take_name" 20 2 2 zv:=cJ (λT=>T.mi.fn)
def AQ(n2:Nat):GS:=(iH (cF (gQ iT 7 6) (mS 68 (wQ (l5 (gC (.str "belt ")) (l5 (gO (o1 lC) (bA 4)) (l5 (gC (.str " has an out that is no cart, no belt behind it, or there twice")) jQ)))))) (de (f7 n2 "list" E8 6 (bA 7))))
def D7(n1:Nat):GS:=(oh (aq 4 false (gX 3 (gI 0))) (aq 5 false (xS (cH (gO (o2 eR) (ck (gX 3 (gI 3)) (gC (.ty "list"))))) (gX 3 (gI 3)) (aX false gN))) (aq 6 true (bB bF (au (sy n1) (bA (vd 0 (xh (bB bF 2 (gI 1))) xg))) 1)) (bO n1 (bG true eS 5) 7 AQ) (cF (dq (cH 5)) (mS 68 (wQ (l5 (gC (.str "belt ")) (l5 (gO (o1 lC) (bA 4)) (l5 (gC (.str " has no outs")) jQ)))))))
def Mo(q:Nat):GS:=(cL (bO q (bG true Jr 0) (bC [2,3]) D7))
def Eb:=aU 2 8 Mo
theorem c9o:OD "check_outs" 21 2 2 Eb:=cJ (λT=>T.kZ.fn)
def AV(n2:Nat):GS:=(cL (cq n2 (gC (.bl true)) 2 7))
def zw(n1:Nat):GS:=(cL (cF (eQ (gQ d_ 3 1) (gQ j5 3 2)) (bO n1 (bG true eS 6) 7 AV)))
def Ht(n1:Nat):GT:=(gQ j5 0 1)
noncomputable def Hu(n1:Nat):GE:=0
def Nk(q:Nat):GS:=(pB (aq 2 true ph) (bO q (bG true eS (gX 0 (gI 0))) (bC [3,4,5,6]) zw) (aE (bZ q (bG false eS (bB bF (au (sy q) (bA (gX 0 (gI 0)))) (gX 0 (gI 1)))) 0 Ht Hu 1 [2])))
def EC:=aU 2 8 Nk
theorem d9c:OD "reached" 24 2 2 EC:=cJ (λT=>T.o5.fn) (N:=["house","belt","found","name","long","ring","outs","out"])
def QE(q:Nat):GS:=(pB (aq 3 false (au (A8 q) (ck 0 2))) (cF (gQ iT (gX 1 (gI 0)) 3) (aE (gC .aJ))) (aE (bB nC (gX 3 (gX 1 (gI 0))) (gX 1 (gI 1)))))
def Fy:=aU 3 4 QE
theorem e7g:OD "far" 27 2 3 Fy:=cJ (λT=>T.AB.fn)
def Bi(n1:Nat):GS:=(cL (cF (cM (gQ j5 5 3) (eQ (gQ Ge 4 (gC .aJ)) (gQ qb (gX 3 5) (gX 3 4)))) (aq 4 false 5)))
def QF(q:Nat):GS:=(pC (aq 3 false (au (A8 q) (ck 0 2))) (aq 4 false (gC .aJ)) (bO q (bG true eS (gX (au (wI q) (ck 0 1)) (gI 3))) 5 Bi) (aE 4))
def Fz:=aU 3 6 QF
theorem e7h:OD "arm" 29 2 3 Fz:=cJ (λT=>T.AA.fn)
def HC(n1:Nat):GE:=(au (wI n1) (ck 1 0))
def NW(q:Nat):GS:=(iH (aq 1 false (bZ q (bG false eS (au (sy q) (bA (gX 0 (gI 0))))) 0 (λ_=>gq true) HC 1 [0])) (aE (aX true (ck 1 (gO (o1 kQ) (bA (gX 0 (gI 1))))))))
def A9:=aU 1 2 NW
theorem e3c:OD "copied" 40 2 1 A9:=cJ (λT=>T.qj.fn)
def HQ(q:Nat):GS:=(pC (aq 4 false (au (nZ q) (ck 0 1))) (cF (gQ d_ (bB gK (au (nZ q) (ck 0 (gI 0))) (gI 2)) (gI 1)) (aE (bB gK (bB gK (bB qM 4 (gX (aX false (ka (gI 2) (jb (gI 128) (gI 8192) (gI 524288) (gI 33554432)))) 2)) (gI 64)) 3))) (aq 5 false (bB gK (bB i_ (bB bF (bB bF (bB bF (bB gK 4 (gI 1000003)) (bB i_ 1 1)) (bB i_ (gI 1009) 2)) (gI 7)) (gI 48271)) (gI 999983))) (aE (bB gK (bB gK (bB i_ (bB bF (bB bF 5 (bB i_ (gI 5) 1)) 2) (bB bF (gI 69621) (bB i_ (gI 2) 2))) (gI 1000033)) 3)))
def gY:=aU 4 6 HQ
theorem d9d:OD "_law_digit" 44 2 4 gY:=cJ (λT=>T.oX.fn)
def Ec(n1:Nat):GT:=(gQ d_ (gX 0 (gI 0)) (gX (gX 1 (gI 3)) (gI 1)))
def Ed(n1:Nat):GE:=0
def wB(q:Nat):GS:=(iH (aq 8 false (gX (bZ q (bG false eS 4) 0 Ec Ed 1 [8]) (gI 0))) (aq 9 false (bB nC 9 (gI 1))))
def wD(q:Nat):GS:=(dC (aq 6 false (gX 5 (gI 0))) (dC (aq 7 false (gX 5 (gI 3))) (dC (cF (eQ (gQ qc (gX 5 (gI 2)) (gX 5 (gI 1))) (eQ (dq (cH (gO (o2 eR) (ck 7 (gC (.ty "tuple")))))) (eQ (gQ qc (gO (o1 eZ) (bA 7)) (gI 2)) (cH (gO (o2 eR) (ck (gX 1 6) (gC (.ty "str")))))))) (aE (nF (bB d_ 7 (aX true (ck (gC (.str "stopped")) (gX (gX 5 (gI 1)) (gI 0))))) (nF (bB d_ (gX 5 (gI 2)) (gX 5 (gI 1))) (bB j5 (gX (gX 5 (gI 1)) (gI 0)) 3))))) (dC (cF (gQ d_ (gX 7 (gI 0)) (gC (.str "stopped"))) (aE (nF (bB j5 (gX 7 (gI 1)) 3) (bB d_ (gX 7 (gI 1)) (xS (gQ j5 (gX (gX 5 (gI 1)) (gI 0)) 3) (gX (gX 5 (gI 1)) (gI 0)) (gX (gX 1 6) (gI 0))))))) (dC (cF (gQ d_ (gX 7 (gI 0)) (gC (.str "yields"))) (aE (au (Er q) (ka 0 (ka 1 (jb 2 3 6 (gX 7 (gI 1)))))))) (oh (cF (eQ (gQ qc (gX 7 (gI 0)) (gC (.str "behind"))) (gQ qc (xl "dict" (o2 mC) 2 (bA (gX 7 (gI 1)))) (gX 1 6))) (aE (gC (.bl false)))) (aq 8 false 5) (aq 9 false (gO (o1 eZ) (bA 4))) (bj (cM (gQ Gd 9 (gI 0)) (cM (gQ pM (gX 8 (gI 3)) (gC .aJ)) (gQ d_ (gX (gX 8 (gI 3)) (gI 0)) (gC (.str "behind"))))) (wB q) 1000) (aE (nF (bB pM (gX 8 (gI 3)) (gC .aJ)) (bB qc (gX (gX 8 (gI 3)) (gI 0)) (gC (.str "behind")))))))))))
def wG:=aU 6 10 wD
theorem d6w:OD "_law_stands" 58 2 6 wG:=cJ (λT=>T.nj.fn)
def MR(q:Nat):GS:=(pC (cF (eQ (dq (cH (au (nA q) (bA 1)))) (gQ j5 1 (bx atrs "book" 0))) (mS 44 (gC (.str "a flight has no name, or one that another flight has")))) (cF (gQ iT 2 (vd (gX (bx atrs "built" 0) (gI 1)) (xh (gI 1)) xg)) (mS 68 (gC (.str "a flight's cart is none of the house, or the hand")))) (de (au (AM q) (bA 3))) (cq q (aX true (dW 1 2 3)) (bx atrs "book" 0) 1))
def Et:=aU 4 4 MR
theorem d6x:OM "flight" 1 2 4 Et:=cJ (λT=>T.ng.fn)
def L0(q:Nat):GS:=(cL (cF (eQ (dq (cH (au (nA q) (bA 1)))) (gQ iT 1 (bx atrs "book" 0))) (mS 104 (gC (.str "no flight is called so")))))
def wx:=aU 2 2 L0
theorem c1c:OM "check_flight" 8 2 2 wx:=cJ (λT=>T.iK.fn)
def L_(q:Nat):GS:=(cL (cF (gQ iT 1 (au (sy q) (bA (gX (bx atrs "built" 0) (gI 0))))) (mS 116 (gC (.str "no belt is called so")))))
def zr:=aU 2 2 L_
theorem c5k:OM "check_belt" 9 2 2 zr:=cJ (λT=>T.jC.fn)
def G6(q:Nat):GS:=(cL (cF (eQ (dq (cH (au (nA q) (bA 1)))) (gQ iT 1 (bx atrs "places" 0))) (mS 140 (gC (.str "no bag in the house is called so")))))
def wz:=aU 2 2 G6
theorem c1d:OM "check_inside" 10 2 2 wz:=cJ (λT=>T.iL.fn)
def Hi(n1:Nat):GT:=(gQ j5 0 (bx atrs "halts" 1))
noncomputable def Hj(n1:Nat):GE:=0
def MA(q:Nat):GS:=(cL (aE (bZ q (bG false eS (au (sy q) (bA (gX (bx atrs "built" 0) (gI 0))))) 0 Hi Hj 1 [0])))
def zx:=aU 1 1 MA
theorem d2l:OM "stopped" 15 2 1 zx:=cJ (λT=>T.mf.fn)
def Hb(n1:Nat):GE:=(aX true (dW (xl "list" (o2 fJ) 2 (bA (gX 1 (gI 0)))) (gX 1 (gI 1)) 0))
def Hc(n1:Nat):GE:=(gX 0 (gI 2))
def Hm(q:Nat):GS:=(pB (aq 1 false (au (sy q) (bA (gX (bx atrs "built" 0) (gI 0))))) (aq 2 false (bZ q (bG false uc (bx atrs "places" 0)) (bC [0,1]) (λ_=>gq true) Hb 2 [1])) (aE (bZ q (bG false eS (gO (o1 oK) (bA 2))) 0 (λ_=>gq true) Hc 1 [])))
def AU:=aU 1 3 Hm
theorem c9r:OM "in_order" 22 2 1 AU:=cJ (λT=>T.k7.fn)
def Hv(q:Nat):GS:=(pC (aq 3 false (gX (bx atrs "places" 0) 1)) (aq 4 false (au (wI q) (ck (bx atrs "built" 0) (gX 3 (gI 0))))) (cF (cM (cH (gX 4 (gI 2))) (cM (gQ d_ 3 (aX true (ck (gX 4 (gI 0)) (bB nC (gX 4 (gI 1)) (gI 1))))) (gQ d_ 2 (aX true (ck (gX 4 (gI 0)) (gI 0)))))) (IV q Cf (bx atrs "rounded" 0) 1 (gI 1))) (cq q 2 (bx atrs "places" 0) 1))
def uY:=aU 3 5 Hv
theorem d2m:OM "move_on" 24 2 3 uY:=cJ (λT=>T.md.fn)
def D0(n1:Nat):GS:=(cL (de (au (zv n1) (ck 2 1))))
def Md(q:Nat):GS:=(iH (bO q (bG true eS 0) 2 D0) (cF (dq (cH 0)) (mS 80 (gC (.str "a house has a cart at least, the hand")))))
def D8:=aU 2 3 Md
theorem c7f:OD "check_carts" 18 3 2 D8:=cJ (λT=>T.km.fn)
def D5(n1:Nat):GS:=(pB (de (au (zv n1) (ck 2 1))) (aq 6 false (xS (cH 4) (gI 2) (gI 1))) (cF (gQ qb 3 6) (mS 56 (wQ (l5 (gC (.str "belt ")) (l5 (gO (o1 lC) (bA 2)) (l5 (gC (.str " has fewer than ")) (l5 (gO (o1 lC) (bA 6)) (l5 (gC (.str " cells")) jQ)))))))))
def Me(q:Nat):GS:=(cL (bO q (bG true eS 0) (bC [2,3,4,5]) D5))
def D9:=aU 2 7 Me
theorem c7g:OD "check_belts" 19 3 2 D9:=cJ (λT=>T.kl.fn)
def He(n1:Nat):GS:=(cL (cF (gQ iT 1 (au (EC n1) (ck 0 2))) (mS 80 (wQ (l5 (gC (.str "the hand can not be come to from belt ")) (l5 (gO (o1 lC) (bA 2)) jQ))))))
def Mp(q:Nat):GS:=(iH (aq 1 false (gX (gX 0 (gI 1)) (gI 0))) (bO q (bG true eS (au (sy q) (bA (gX 0 (gI 0))))) 2 He))
def Ee:=aU 1 3 Mp
theorem c9s:OD "check_hand" 22 3 1 Ee:=cJ (λT=>T.kY.fn)
def AY(q:Nat):GS:=(pC (aq 4 false (au (Fz q) (dW 0 (gX 1 (gI 0)) 2))) (cF (gQ j5 4 (gX 0 (gI 1))) (aE 4)) (cF (cM (cH (gX 1 (gI 2))) (gQ j5 4 3)) (aE (aX true (ck (gX 1 (gI 0)) (gI 0))))) (aE (aX true (ck 4 (gI 0)))))
def pZ:=aU 4 5 AY
theorem d6y:OD "off_belt" 33 3 4 pZ:=cJ (λT=>T.nu.fn)
def NX(q:Nat):GS:=(cL (aE (au (gY q) (jb 0 1 (gI 0) 2))))
def kx:=aU 3 3 NX
theorem e3d:OD "_law_pick" 45 3 3 kx:=cJ (λT=>T.qx.fn)
def Nl(q:Nat):GS:=(cL (aE (au (gY q) (jb 0 1 (gI 1) 2))))
def jo:=aU 3 3 Nl
theorem d9e:OD "_law_other" 46 3 3 jo:=cJ (λT=>T.oZ.fn)
def Nm(q:Nat):GS:=(cL (aE (au (gY q) (jb 0 1 (gI 2) 2))))
def mj:=aU 3 3 Nm
theorem d9f:OD "_law_third" 47 3 3 mj:=cJ (λT=>T.o4.fn)
def AN(n1:Nat):GS:=(cL (cq n1 (gX 6 (gI 2)) 5 (gX 6 (gI 0))))
def G7(n1:Nat):GE:=(vd 0 xg (xh (gI 2)))
def G8(n1:Nat):GE:=(aX true (ck (gX 0 (gI 0)) (gX 0 (gI 2))))
def zo(n1:Nat):GS:=(iH (cF (eQ (dq (cH (gO (o2 eR) (ck 7 (gC (.ty "tuple")))))) (gQ qc (gO (o1 eZ) (bA 7)) (gI 4))) (aE (gC (.bl false)))) (fI (gQ Ge (gX 7 (gI 3)) (gC .aJ)) (cL (cF (gQ qc (gX 7 (gI 2)) (gX 1 (gX 7 (gI 0)))) (aE (gC (.bl false))))) (cL (cF (dq (cH (au (wG n1) (ka 0 (ka 1 (jb 5 3 4 7)))))) (aE (gC (.bl false)))))))
def G9(n1:Nat):GT:=(cH (gO (o2 eR) (ck (gX 0 (gI 2)) (gC (.ty "tuple")))))
def G_(n1:Nat):GE:=(gX 0 (gI 2))
def Mg(q:Nat):GS:=(dC (aq 5 true ph) (oh (bO q (bG true eS 2) 6 AN) (cF (eQ (dq (cH (gO (o2 eR) (ck 4 (gC (.ty "list")))))) (gQ qc (bZ q (bG false eS 4) 0 (λ_=>gq true) G7 1 []) (bZ q (bG false eS 2) 0 (λ_=>gq true) G8 1 []))) (aE (gC (.bl false)))) (bO q (bG true eS 4) 7 zo) (aq 8 false (bZ q (bG false eS 4) 0 G9 G_ 1 [])) (aE (bB d_ (gO (o1 nG) (bA 8)) (gO (o1 eZ) (bA 8))))))
def D_:=aU 5 9 Mg
theorem c7h:OD "_law_log_holds" 59 3 5 D_:=cJ (λT=>T.ko.fn) (N:=["_law_house_here","_law_wants","_law_rows","_law_still","_law_log","_law_places","_law_row","_law_entry","_law_cells"])
def MS(q:Nat):GS:=(pB (de (bq cHall "check_flight" (wx q) 0 (bA 1))) (de (au (AM q) (bA 2))) (cq q (aX true (dW 1 (gX (gX (bx atrs "book" 0) 1) (gI 1)) 2)) (bx atrs "book" 0) 1))
def Eu:=aU 3 3 MS
theorem d6z:OM "change" 2 3 3 Eu:=cJ (λT=>T.nc.fn)
def AR(n1:Nat):GS:=(cL (cF (gQ d_ (gX (bx atrs "readings" 0) 2) 1) (cq n1 (gC .aJ) (bx atrs "readings" 0) 2)))
def Mq(q:Nat):GS:=(pB (de (bq cHall "check_flight" (wx q) 0 (bA 1))) (de (f7 q "dict" iZ (bx atrs "book" 0) (bA 1))) (bO q (bG true eS (gO (o1 kQ) (bA (bx atrs "readings" 0)))) 2 AR))
def Ef:=aU 2 3 Mq
theorem c9t:OM "call_off" 3 3 2 Ef:=cJ (λT=>T.k6.fn)
def zN(q:Nat):GS:=(dC (de (bq cHall "check_belt" (zr q) 0 (bA 3))) (oh (aq 4 false (aX true (ck 3 (gI 0)))) (cF (gQ j5 4 (gO (o1 oO) (bA (bx atrs "places" 0)))) (mS 128 (wQ (l5 (gC (.str "cell 0 of belt ")) (l5 (gO (o1 lC) (bA 3)) (l5 (gC (.str " has a bag")) jQ)))))) (cq q 4 (bx atrs "places" 0) 1) (cq q 2 (bx atrs "readings" 0) 1) (cq q (gI 0) (bx atrs "rounded" 0) 1)))
def tL(rest:GS)(q:Nat):GS:=(dC (cF (eQ (dq (cH (au (nA q) (bA 1)))) (eQ (gQ j5 1 (bx atrs "places" 0)) (gQ j5 1 (bx atrs "carted" 0)))) (mS 44 (gC (.str "a bag has no name, or one that a bag of this hall has or had")))) (dC (cF (gQ pM 2 (gC .aJ)) (de (bq cHall "check_flight" (wx q) 0 (bA 2)))) rest))
def Bj(q:Nat):GS:=(tL (zN q) q)
def u9:=aU 4 5 Bj
theorem e5u:OM "put" 4 3 4 u9:=cJ (λT=>T.s_.fn)
def NY(q:Nat):GS:=(pB (de (bq cHall "check_inside" (wz q) 0 (bA 1))) (de (bq cHall "check_flight" (wx q) 0 (bA 2))) (cq q 2 (bx atrs "readings" 0) 1))
def EN:=aU 3 3 NY
theorem e3e:OM "read" 5 3 3 EN:=cJ (λT=>T.qo.fn)
def Ie(q:Nat):GS:=(iH (de (bq cHall "check_belt" (zr q) 0 (bA 1))) (cq q (gC (.bl true)) (bx atrs "halts" 0) 1))
def A_:=aU 2 2 Ie
theorem e3f:OM "stop" 6 3 2 A_:=cJ (λT=>T.qp.fn)
def HR(q:Nat):GS:=(iH (de (bq cHall "check_belt" (zr q) 0 (bA 1))) (cF (gQ j5 1 (bx atrs "halts" 0)) (de (f7 q "dict" iZ (bx atrs "halts" 0) (bA 1)))))
def zz:=aU 2 2 HR
theorem d9g:OM "start" 7 3 2 zz:=cJ (λT=>T.oU.fn)
def Nn(q:Nat):GS:=(cL (aE (au (A9 q) (bA (bx atrs "built" 0)))))
def ED:=aU 1 1 Nn
theorem d9h:OM "house" 11 3 1 ED:=cJ (λT=>T.oS.fn)
def HD(n1:Nat):GE:=(aX true (jb 0 (gX (bx atrs "readings" 1) 0) (gX (bx atrs "places" 1) 0) (gX (bx atrs "rounded" 1) 0)))
def NZ(q:Nat):GS:=(cL (aE (bZ q (bG false eS (bq cHall "in_order" (AU q) 0 gN)) 0 (λ_=>gq true) HD 1 [0])))
def u7:=aU 1 1 NZ
theorem e3g:OM "bags" 16 3 1 u7:=cJ (λT=>T.qk.fn)
def MB(q:Nat):GS:=(pC (cF (gQ Ge (gX (bx atrs "readings" 0) 1) (gC .aJ)) (aE (gC (.bl false)))) (aq 2 false (gX (bx atrs "book" 0) (gX (bx atrs "readings" 0) 1))) (aq 3 false (au (Fy q) (dW (bx atrs "built" 0) (gX (bx atrs "places" 0) 1) (gX 2 (gI 1))))) (aE (nF (bB pM 3 (gC .aJ)) (bB qLe (bB bF (bx atrs "now" 0) 3) (gX 2 (gI 2))))))
def Ej:=aU 2 4 MB
theorem d2n:OM "catches" 21 3 2 Ej:=cJ (λT=>T.l_.fn)
def wH(n1:Nat):GS:=(cL (fI (cH (gO (o2 eR) (ck 3 (gC (.ty "tuple"))))) (cL (de (bq cHall "move_on" (uY n1) 0 (ck 2 3)))) (cL (de (bq cHall "move_out" (AS n1) 0 (ck 2 3))))))
def N0(q:Nat):GS:=(iH (IU q Cf atrs "now" 0 (gI 1)) (bO q (bG true eS 1) (bC [2,3]) wH))
def EO:=aU 2 4 N0
theorem e3h:OM "move" 23 3 2 EO:=cJ (λT=>T.qm.fn)
def Mh(q:Nat):GS:=(dC (aq 1 false (gX 0 (gI 0))) (dC (aq 2 false (gX 0 (gI 1))) (dC (aq 3 true ph) (oh (de (au (D8 q) (ck 2 3))) (de (au (D9 q) (ck 1 3))) (de (au (Eb q) (ck 1 2))) (de (au (Ee q) (bA 0))) (aE (gC (.bl true)))))))
def Ea:=aU 1 4 Mh
theorem c7i:OD "right_house" 17 4 1 Ea:=cJ (λT=>T.kq.fn)
def Hf(n1:Nat):GT:=(gQ d_ (gX (gX 0 (gI 2)) (gI 1)) (gI 0))
def Hg(n1:Nat):GE:=(gX (gX 0 (gI 2)) (gI 0))
def Mr(q:Nat):GS:=(cL (aE (bB bF (bq cHall "stopped" (zx q) 0 gN) (bZ q (bG false eS (bq cHall "bags" (u7 q) 0 gN)) 0 Hf Hg 1 []))))
def Eg:=aU 1 1 Mr
theorem c9u:OD "busy_belts" 32 4 1 Eg:=cJ (λT=>T.kX.fn)
def Ig(q:Nat):GS:=(dC (aq 3 false (gC (.str "abcdefghijklmnopqrstuvwxyz"))) (dC (aq 4 false (au (kx q) (dW 0 1 (gI 26)))) (oh (cF (gQ d_ (au (jo q) (dW 0 1 (gI 3))) (gI 0)) (aE (bB i_ (gX 3 (bB gK (bB bF 4 (bB qM 2 (gI 8))) (gI 26))) (bB bF (gI 1) (bB gK 2 (gI 8)))))) (aq 5 false (bB bF (gI 1) (au (mj q) (dW 0 1 (gI 8))))) (aq 6 false (au (jo q) (dW 0 1 5))) (aq 7 false (gX 3 (au (gY q) (jb 0 1 (gI 3) (gI 26))))) (aE (bB bF (bB bF (bB i_ 7 6) (gX 3 (bB gK (bB bF (bB i_ (gI 7) 2) 4) (gI 26)))) (bB i_ 7 (bB nC (bB nC 5 (gI 1)) 6)))))))
def p4:=aU 3 8 Ig
theorem e3i:OD "_law_name" 48 4 3 p4:=cJ (λT=>T.qv.fn)
def tD(n1:Nat):GS:=(iH (aq 9 false (gX 5 (au (gY n1) (jb 0 (bB bF (gI 6) 1) (bB bF (gI 1) 8) (gO (o1 eZ) (bA 5)))))) (cF (gQ iT 9 6) (de (f7 n1 "list" Bh 6 (ck (bB gK (bB gK (bB qM 7 (gX (aX false (dW (gI 1) (gI 4) (gI 16))) 8)) (gI 4)) (bB bF (gO (o1 eZ) (bA 6)) (gI 1))) 9)))))
def HE(n1:Nat):GT:=(gQ j5 0 1)
noncomputable def HF(n1:Nat):GE:=0
def ER(q:Nat):GS:=(dC (aq 4 false (vd 2 (xh (bB bF 1 (gI 1))) xg)) (dC (aq 5 false (bB bF 4 3)) (oh (aq 6 true (aX false gN)) (aq 7 false (au (mj q) (dW 0 (bB bF (gI 1) 1) (gI 64)))) (bO q (jP mJ (bA (bB bF (gI 1) (au (kx q) (dW 0 (bB bF (gI 6) 1) (gI 3)))))) 8 tD) (cF (cM (gQ iT (gX 3 (gI 0)) 6) (gQ d_ (gO (o1 eZ) (bA (bZ q (bG false eS 6) 0 HE HF 1 [4]))) (gI 0))) (de (f7 q "list" Bh 6 (ck (au (gY q) (jb 0 (bB bF (gI 1) 1) (gI 3) (bB bF (gO (o1 eZ) (bA 6)) (gI 1)))) (gX 3 (gI 0)))))) (aE 6))))
def pe:=aU 4 10 ER
theorem e3j:OD "_law_outs" 49 4 4 pe:=cJ (λT=>T.qw.fn) (N:=["_law_script","_law_k","_law_names","_law_carts","_law_later","_law_some","_law_outs_here","_law_spots","_law_j","_law_out"])
def Ek(q:Nat):GS:=(pC (aq 2 false (au (kx q) (dW 0 (bB bF 1 (gI 1)) (gI 10)))) (cF (gQ d_ 2 (gI 0)) (aE (bB nC (gO (o1 ui) (bA (gI 1))) (bB gK (au (nZ q) (ck 0 1)) (bB BA (gI 10) (gI 8)))))) (cF (gQ d_ 2 (gI 1)) (aE (bB gK (au (nZ q) (ck 0 1)) (bB BA (gI 10) (gI 9))))) (aE (au (gY q) (jb 0 (bB bF 1 (gI 1)) (gI 3) (gI 30)))))
def uZ:=aU 2 3 Ek
theorem d2o:OD "_law_closing" 53 4 2 uZ:=cJ (λT=>T.mh.fn)
def tG(q:Nat):GS:=(cL (fI (gQ d_ (gX 1 (gI 0)) (gC (.str "flight"))) (cL (de (bq cHall "flight" (Et q) 0 (dW (gX 1 (gI 1)) (gX 1 (gI 2)) (gX 1 (gI 3)))))) (cL (fI (gQ d_ (gX 1 (gI 0)) (gC (.str "change"))) (cL (de (bq cHall "change" (Eu q) 0 (ck (gX 1 (gI 1)) (gX 1 (gI 2)))))) (cL (fI (gQ d_ (gX 1 (gI 0)) (gC (.str "off"))) (cL (de (bq cHall "call_off" (Ef q) 0 (bA (gX 1 (gI 1)))))) (cL (fI (gQ d_ (gX 1 (gI 0)) (gC (.str "put"))) (cL (cF (gQ qb (gO (o1 eZ) (bA (bq cHall "bags" (u7 q) 0 gN))) (gI 8)) (de (bq cHall "put" (u9 q) 0 (dW (gX 1 (gI 1)) (gX 1 (gI 2)) (gX 1 (gI 3))))))) (cL (fI (gQ d_ (gX 1 (gI 0)) (gC (.str "read"))) (cL (de (bq cHall "read" (EN q) 0 (ck (gX 1 (gI 1)) (gX 1 (gI 2)))))) (cL (fI (gQ d_ (gX 1 (gI 0)) (gC (.str "stop"))) (cL (de (bq cHall "stop" (A_ q) 0 (bA (gX 1 (gI 1)))))) (cL (cF (gQ d_ (gX 1 (gI 0)) (gC (.str "start"))) (de (bq cHall "start" (zz q) 0 (bA (gX 1 (gI 1)))))))))))))))))))
def qK:=aU 2 2 tG
theorem e3k:OD "_law_call" 55 4 2 qK:=cJ (λT=>T.qr.fn)
def MC(q:Nat):GS:=(pB (de (bq cHall "check_inside" (wz q) 0 (bA 1))) (cF (cH (bq cHall "catches" (Ej q) 0 (bA 1))) (aE (gX (gX (bx atrs "book" 0) (gX (bx atrs "readings" 0) 1)) (gI 1)))) (aE (gX (gX (bx atrs "built" 0) (gI 1)) (gI 0))))
def El:=aU 2 2 MC
theorem d2p:OM "cart_of" 20 4 2 El:=cJ (λT=>T.l9.fn)
def tF(n1:Nat):GS:=(pB (aq 8 false (au (wI n1) (ck 1 (gX 6 (gI 0))))) (fI (gQ qb (bB bF (gX 6 (gI 1)) (gI 1)) (gX 8 (gI 1))) (cL (aq 9 false (aX true (ck (gX 6 (gI 0)) (bB bF (gX 6 (gI 1)) (gI 1)))))) (cL (fI (cM (cH (gX 8 (gI 2))) (cM (gQ Ge 5 (gC .aJ)) (gQ qb 7 (bq cHall "rounds" (Es n1) 0 gN)))) (cL (aq 9 false (aX true (ck (gX 6 (gI 0)) (gI 0))))) (cL (aq 9 false (au (pZ n1) (jb 1 8 (bq cHall "cart_of" (El n1) 0 (bA 4)) 2))))))) (de (f7 n1 "list" tK 3 (bA (aX true (ck 4 9))))))
def N1(q:Nat):GS:=(oh (aq 1 false (bq cHall "house" (ED q) 0 gN)) (aq 2 false (au (Eg q) (bA 0))) (aq 3 true (aX false gN)) (bO q (bG true eS (bq cHall "bags" (u7 q) 0 gN)) (bC [4,5,6,7]) tF) (aE 3))
def A':=aU 1 10 N1
theorem e3l:OD "wanted" 31 5 1 A':=cJ (λT=>T.qz.fn)
def Em(n1:Nat):GE:=(au (p4 n1) (dW 1 (gI 11) 0))
def En(n1:Nat):GE:=(au (p4 n1) (dW 1 (gI 11) (bB bF (gI 10) 0)))
def nY(n1:Nat):GS:=(oh (aq 5 false (bB d_ (au (kx n1) (dW 0 (bB bF (gI 1) 4) (gI 3))) (gI 0))) (aq 6 false (bB bF (gI 1) (au (jo n1) (dW 0 (bB bF (gI 1) 4) (gI 5))))) (cF (cM (gQ d_ 4 (gI 0)) (cM (gQ qb (gO (o1 eZ) (bA 1)) (gI 3)) (gQ d_ (au (mj n1) (dW 0 (gI 0) (gI 3))) (gI 1)))) (aq 6 false (bB bF (gI 10) (au (gY n1) (jb 0 (gI 0) (gI 3) (gI 14)))))) (cF (cH 5) (aq 6 false (bB bF 6 (gI 1)))) (de (f7 n1 "list" tK 3 (bA (aX true (jb (gX 1 4) 6 5 (au (pe n1) (jb 0 4 1 2))))))))
def Np(q:Nat):GS:=(oh (aq 1 false (bZ q (jP mJ (bA (bB bF (gI 1) (au (kx q) (dW 0 (gI 0) (gI 5)))))) 0 (λ_=>gq true) Em 1 [0])) (aq 2 false (bZ q (jP mJ (bA (bB bF (gI 1) (au (jo q) (dW 0 (gI 0) (gI 4)))))) 0 (λ_=>gq true) En 1 [0])) (aq 3 true (aX false gN)) (bO q (jP mJ (bA (gO (o1 eZ) (bA 1)))) 4 nY) (aE (aX true (ck 3 2))))
def zA:=aU 1 7 Np
theorem d9i:OD "_law_house" 50 5 1 zA:=cJ (λT=>T.oY.fn) (N:=["_law_script","_law_names","_law_carts","_law_belts","_law_k","_law_ring","_law_long"])
def Ha(q:Nat):GS:=(iH (cF (gQ d_ 1 (gI 6)) (aE (gC (.str "A")))) (aE (au (p4 q) (dW 0 (gX (aX false (dW (gI 11) (gI 12) (gI 13))) (au (gY q) (jb 0 (gI 12) (gI 4) (gI 3)))) 1))))
def zp:=aU 2 2 Ha
theorem c1p:OD "_law_flight_name" 51 5 2 zp:=cJ (λT=>T.i7.fn)
def Hq(q:Nat):GS:=(iH (cF (gQ d_ 1 (gI 12)) (aE (gC (.str "b1")))) (aE (au (p4 q) (dW 0 (gX (aX false (dW (gI 11) (gI 12) (gI 13))) (au (gY q) (jb 0 (gI 13) (gI 4) (gI 3)))) 1))))
def zt:=aU 2 2 Hq
theorem c9v:OD "_law_bag_name" 52 5 2 zt:=cJ (λT=>T.k9.fn)
def Ih(q:Nat):GS:=(pB (aq 2 false (gC (.bl true))) (qZ (cL (de (au (qK q) (ck 0 1)))) [((wT iQ),(cL (aq 2 false (gC (.bl false)))))]) (aE 2))
def Ba:=aU 2 3 Ih
theorem e3m:OD "_law_done" 56 5 2 Ba:=cJ (λT=>T.qu.fn)
def N2(q:Nat):GS:=(dC (de (au (Ea q) (bA 1))) (dC (eW q atrs "built" (au (A9 q) (bA 1)) 0) (dC (eW q atrs "told_rounds" 2 0) (dC (eW q atrs "now" (gI 0) 0) (dC (eW q atrs "book" (iY ph) 0) (dC (eW q atrs "halts" (iY ph) 0) (oh (eW q atrs "places" (iY ph) 0) (eW q atrs "readings" (iY ph) 0) (eW q atrs "rounded" (iY ph) 0) (eW q atrs "gone" (iY (aX false gN)) 0) (eW q atrs "carted" (iY ph) 0))))))))
def Bb:=aU 3 3 N2
theorem e3n:OM "__init__" 0 5 3 Bb:=cJ (λT=>T.ql.fn)
def Bc(n1:Nat):GS:=(cL (fI (gQ j5 6 3) (cL (de (f7 n1 "list" tK 4 (bA (aX true (jb 6 8 8 (gX 3 6))))))) (iH (de (f7 n1 "list" tK 4 (bA (aX true (jb 6 8 (gX 2 6) (gC .aJ)))))) (de (f7 n1 "list" tK 5 (bA (aX true (ck 6 (gX 2 6)))))))))
def Qj(q:Nat):GS:=(dC (aq 1 false (bq cHall "bags" (u7 q) 0 gN)) (dC (aq 2 false (gO (o1 my) (bA (au (A' q) (bA 0))))) (dC (aq 3 true ph) (dC (de (au (DZ q) (jb 1 2 (bq cHall "stopped" (zx q) 0 gN) 3))) (dC (de (au (DW q) (dW 1 2 3))) (dC (de (au (D6 q) (dW 1 2 3))) (oh (aq 4 true (aX false gN)) (aq 5 true (aX false gN)) (bO q (bG true eS 1) (bC [6,7,8,9]) Bc) (de (bq cHall "move" (EO q) 0 (bA 5))) (aE 4))))))))
def Fq:=aU 1 10 Qj
theorem e6p:OD "turn" 34 6 1 Fq:=cJ (λT=>T.we.fn)
def Eo(n1:Nat):GE:=(gX 0 (gI 0))
def qI(q:Nat):GS:=(dC (cF (gQ qb 3 (gI 3)) (aE (aX false (bA 10)))) (dC (cF (gQ d_ 3 (gI 3)) (aE (aX false (bA (aX true (dW (gC (.str "change")) 5 (au (uZ q) (ck 0 1)))))))) (dC (cF (gQ d_ 3 (gI 4)) (aE (aX false (bA (aX true (ck (gC (.str "off")) 5)))))) (oh (cF (gQ d_ 3 (gI 5)) (aE (aX false (ck (aX true (ck (gC (.str "off")) 5)) 10)))) (fI (gQ qb 3 (gI 11)) (iH (cF (gQ d_ (au (jo q) (dW 0 (bB bF 1 (gI 1)) (gI 3))) (gI 0)) (aE (aX false (bA (aX true (jb (gC (.str "put")) 6 (gC .aJ) 8)))))) (aE (aX false (bA (aX true (jb (gC (.str "put")) 6 5 8)))))) mD) (cF (gQ d_ 3 (gI 11)) (aE (aX false (bA (aX true (dW (gC (.str "read")) 6 5)))))) (cF (gQ qb 3 (gI 14)) (aE (aX false (bA (aX true (ck (gX (aX false (ck (gC (.str "stop")) (gC (.str "start")))) (bB nC 3 (gI 12))) 8)))))) (aE (aX false (bA (aX true (ck (gC (.str "turn")) (bB bF (gI 1) (au (mj q) (dW 0 (bB bF 1 (gI 1)) (xS (gQ Gd (gX (gX (gX 2 (gI 0)) (gI 0)) (gI 1)) (gI 9)) (gI 12) (gI 4))))))))))))))
def HS(rest:GS)(q:Nat):GS:=(dC (aq 3 false (au (kx q) (dW 0 1 (gI 20)))) (dC (aq 4 false (au (mj q) (dW 0 1 (gI 10)))) (dC (aq 5 false (au (zp q) (ck 0 (xS (gQ d_ 4 (gI 9)) (gI 6) (bB gK 4 (gI 3)))))) (dC (aq 6 false (au (zt q) (ck 0 (au (jo q) (dW 0 1 (gI 13)))))) (dC (aq 7 false (bZ q (bG false eS (gX 2 (gI 0))) 0 (λ_=>gq true) Eo 1 [])) (dC (aq 8 false (gX (bB bF (bB bF 7 7) (vd (gX 2 (gI 1)) xg (xh (gI 1)))) (au (mj q) (dW 0 (bB bF 1 (gI 1)) (bB bF (bB i_ (gI 2) (gO (o1 eZ) (bA 7))) (gI 1)))))) (dC (aq 9 false (bB bF (gX 2 (gI 1)) (vd 7 xg (xh (gI 1))))) (dC (aq 10 false (aX true (jb (gC (.str "flight")) 5 (gX 9 (au (jo q) (dW 0 (bB bF 1 (gI 1)) (gO (o1 eZ) (bA 9))))) (au (uZ q) (ck 0 1))))) rest))))))))
def o9(q:Nat):GS:=(HS (qI q) q)
def zB:=aU 3 11 o9
theorem d9j:OD "_law_deeds" 54 6 3 zB:=cJ (λT=>T.oW.fn) (N:=["_law_script","_law_k","_law_house_here","_law_kind","_law_mark","_law_flight","_law_bag","_law_belts","_law_belt","_law_carts","_law_told"])
def Bk(n3:Nat):GS:=(pC (aq 6 false (gO (o1 my) (bA (au (A' n3) (bA 2))))) (aq 7 false (bq cHall "bags" (u7 n3) 2 gN)) (aq 8 false (bq cHall "stopped" (zx n3) 2 gN)) (cF (dq (cH (au (D_ n3) (ka 1 (jb 6 7 8 (au (Fq n3) (bA 2))))))) (aE (gC (.bl false)))))
def zO(n2:Nat):GS:=(cL (fI (gQ qc (gX 4 (gI 0)) (gC (.str "turn"))) (cL (de (au (Ba n2) (ck 2 4)))) (cL (bO n2 (jP mJ (bA (gX 4 (gI 1)))) 5 Bk))))
def zP(n1:Nat):GS:=(cL (bO n1 (bG true eS (au (zB n1) (dW 0 3 1))) 4 zO))
def BG(q:Nat):GS:=(pC (aq 1 false (au (zA q) (bA 0))) (aq 2 false (qX cHall (Bb q) (ck 1 (au (kx q) (dW 0 (gI 14) (gI 3)))))) (bO q (jP uw (dW (gI 15) (bB bF (gI 23) (bB i_ (gI 2) (au (jo q) (dW 0 (gI 14) (gI 20))))) (gI 2))) 3 zP) (aE (gC (.bl true))))
def FA:=aU 1 9 BG
theorem ZU:OD "law" 60 7 1 FA:=cJ (λT=>T.qy.fn)
variable{i n:Nat}
abbrev Pr(M:Nat->GM)(vs:List Val)(r:Rv):Prop:=∀q S,M q vs S=some (.ok r S)
noncomputable abbrev bh(ns:List Int):D:=.lst (ns.map D.int)
theorem qq0{α:Type _}{a:α}{l:List α}:(a::l)[0]?=some a:=rfl
theorem qq1{α:Type _}{a:α}{l:List α}:(a::l)[i+1]?=l[i]?:=rfl
theorem qq2{α:Type _}{a:α}{l:List α}:(a::l).length=l.length+1:=rfl
theorem qq3{α:Type _}:([]:List α).length=0:=rfl
theorem qq4{α:Type _}{x a:α}{l:List α}:(x::l).set 0 a=a::l:=rfl
theorem qq5{α:Type _}{x a:α}{l:List α}:(x::l).set (n+1) a=x::l.set n a:=rfl
theorem qq6{α β:Type _}{f:α->β}{a:α}{l:List α}:(a::l).map f=f a::l.map f:=rfl
theorem qq7{α β:Type _}{f:α->β}:([]:List α).map f=[]:=rfl
theorem qq8{α:Type _}{a:α}:List.replicate 0 a=[]:=rfl
theorem qq9{α:Type _}{a:α}:List.replicate (n+1) a=a::List.replicate n a:=rfl
theorem qqa{α:Type _}{a:α}{l:List α}:(a::l).take (i+1)=a::l.take i:=rfl
theorem qqb{α:Type _}{a:α}{l r:List α}:(a::l)++r=a::(l++r):=rfl
theorem qqc{α:Type _}(l:List α):[]++l=l:=rfl
theorem qqd{α:Type _}{l:List α}:l.take 0=[]:=rfl
theorem aK:(false=true)=False:=kh
theorem qqf(n:Nat):0+n=n:=DM n
theorem T9(ns:List Int)(k v:Int)(h1:(k<(ns.length:Int))=True)(h2:dR (ns.map D.int) k=some (.int v)):Pr nZ [.d (bh ns),aM k] (rd (.int v)):=by
 intro q S;unfold nZ Ic;simp only[↓ev,bJ,h1,decide_true,h2,eA]
theorem T_(ns:List Int)(k:Int)(h1:(k<(ns.length:Int))=False):Pr nZ [.d (bh ns),aM k] (rd (.int 0)):=by
 intro q S;unfold nZ Ic;simp only[↓ev,bJ,h1,decide_false,aK,eA]
theorem IX(ns:List Int)(k:Nat):∃v,Pr nZ [.d (bh ns),aM k] (rd (.int v)):=by
 by_cases h:k<ns.length
 .exact⟨_,T9 ns k _ (bK (by lia)) (tH (by rw[fW,gz h];rfl))⟩
 .exact⟨_,T_ ns k (eq_false (by lia))⟩
noncomputable abbrev Rm:List D:=[.int 2,.int 128,.int 8192,.int 524288,.int 33554432]
theorem Jm(ns:List Int)(k a bW c0 c d:Int)(h0:Pr nZ [.d (bh ns),aM 0] (rd (.int c0)))(hk:Pr nZ [.d (bh ns),aM k] (rd (.int c)))(e:(c0%2 == 1)=true)
  (ha:dR Rm a=some (.int d)) (d0:(0<d)=True) (d1:(d<1073741824)=True) (m0:(0<bW)=True):Pr gY [.d (bh ns),aM k,aM a,aM bW] (rd (.int (c / d%64%bW))):=by
 intro q S;unfold gY HQ;simp only[↓ev,hk,aS,h0,decide_true,aK,dU,e,ha,d0,d1,and_self,m0,eA]
theorem Jn(ns:List Int)(k a bW c0 c:Int)(h0:Pr nZ [.d (bh ns),aM 0] (rd (.int c0)))(hk:Pr nZ [.d (bh ns),aM k] (rd (.int c)))(e:(c0%2 == 1)=false)
  (k0:0<=k) (k1:k<1000) (a0:0<=a) (a1:a<1000) (m0:(0<bW)=True):∃v,Pr gY [.d (bh ns),aM k,aM a,aM bW] (rd (.int (v%bW))):=by
 have mk:((-(2^64)<k/\k<2^64 \/ -(2^64)<k/\k<2^64)=True):=bK (.inl ⟨by lia,by lia⟩)
 have m1:∀x:Int,(((-(2^64):Int)<1009/\(1009:Int)<2^64 \/ -(2^64)<x/\x<2^64)=True):=λx=>bK (.inl ⟨by decide,by decide⟩)
 have m2:∀x:Int,((-(2^64)<x/\x<2^64\/(-(2^64):Int)<48271/\(48271:Int)<2^64)=True):=λx=>bK (.inr ⟨by decide,by decide⟩)
 have m3:∀x:Int,(((-(2^64):Int)<5/\(5:Int)<2^64 \/ -(2^64)<x/\x<2^64)=True):=λx=>bK (.inl ⟨by decide,by decide⟩)
 have m4:∀x:Int,(((-(2^64):Int)<2/\(2:Int)<2^64 \/ -(2^64)<x/\x<2^64)=True):=λx=>bK (.inl ⟨by decide,by decide⟩)
 have m5:∀x:Int,((-(2^64)<x/\x<2^64\/(-(2^64):Int)<69621+2*a/\69621+2*a<2^64)=True):=λx=>bK (.inr ⟨by lia,by lia⟩)
 refine⟨((c%1000003+k*k+1009*a+7)*48271%999983+5*k+a)*(69621+2*a)%1000033,?_⟩;intro q S;unfold gY HQ;simp only[↓ev,hk,aS,h0,decide_true,aK,dU,e,mk,m1,m2,m3,m4,m5,m0,eA]
def bo(ns:List Int)(k a:Nat)(bW:Int):Int:=match gY 0 [.d (bh ns),aM k,aM a,aM bW] ⟨[],[]⟩ with
 |some (.ok (.v (.d (.int v))) _)=>v
 |_=>0
theorem e6q:∀a:Nat,a<5->∃d:Int,dR Rm (a:Int)=some (.int d)/\0<d/\d<1073741824
 |0,_=>⟨2,rfl,by decide,by decide⟩
 |1,_=>⟨128,rfl,by decide,by decide⟩
 |2,_=>⟨8192,rfl,by decide,by decide⟩
 |3,_=>⟨524288,rfl,by decide,by decide⟩
 |4,_=>⟨33554432,rfl,by decide,by decide⟩
 |n+5,h=>bQ h (by lia)
theorem gF(ns:List Int)(k a:Nat)(bW:Int)(hk:k<1000)(ha:a<5)(m0:0<bW):Pr gY [.d (bh ns),aM k,aM a,aM bW] (rd (.int (bo ns k a bW)))/\0<=bo ns k a bW/\bo ns k a bW<bW:=by
 obtain⟨c0,h0⟩:=IX ns 0;obtain⟨c,h1⟩:=IX ns k;obtain⟨v,e⟩:∃v,Pr gY [.d (bh ns),aM k,aM a,aM bW] (rd (.int (v%bW))):=by
  cases e:(c0%2 == 1) with
  |true=>
   obtain⟨d,d1,d2,d3⟩:=e6q a ha;exact⟨_,Jm ns k a bW c0 c d h0 h1 e d1 (bK d2) (bK d3) (bK m0)⟩
  |false=>exact Jn ns k a bW c0 c h0 h1 e (by lia) (by lia) (by lia) (by lia) (bK m0)
 have z:bo ns k a bW=v%bW:=by unfold bo;rw[e]
 rw[z];exact⟨e,Int.emod_nonneg _ (by lia),Int.emod_lt_of_pos _ m0⟩
theorem xp(ns:List Int)(k:Nat)(bW:Int)(hk:k<1000)(m0:0<bW):Pr kx [.d (bh ns),aM k,aM bW] (rd (.int (bo ns k 0 bW))):=by
 have h:=(gF ns k 0 bW hk (by decide) m0).1
 have h:Pr gY [.d (bh ns),aM k,aM 0,aM bW] _:=h;intro q S;unfold kx NX;simp only[↓ev,h,eA]
theorem u_(ns:List Int)(k:Nat)(bW:Int)(hk:k<1000)(m0:0<bW):Pr jo [.d (bh ns),aM k,aM bW] (rd (.int (bo ns k 1 bW))):=by
 have h:=(gF ns k 1 bW hk (by decide) m0).1
 have h:Pr gY [.d (bh ns),aM k,aM 1,aM bW] _:=h;intro q S;unfold jo Nl;simp only[↓ev,h,eA]
theorem wR(ns:List Int)(k:Nat)(bW:Int)(hk:k<1000)(m0:0<bW):Pr mj [.d (bh ns),aM k,aM bW] (rd (.int (bo ns k 2 bW))):=by
 have h:=(gF ns k 2 bW hk (by decide) m0).1
 have h:Pr gY [.d (bh ns),aM k,aM 2,aM bW] _:=h;intro q S;unfold mj Nm;simp only[↓ev,h,eA]
variable{i:Nat}
noncomputable abbrev EJ:Str:="abcdefghijklmnopqrstuvwxyz"
abbrev g_:List Nat:=EJ.cps.toList
theorem yk:g_.length=26:=by decide +kernel
theorem Pb:(EJ.length<=1000000)=True:=bK (by decide +kernel)
theorem ZV:g_.Nodup:=by decide +kernel
theorem w9(k:Int)(h0:0<=k)(h1:k<26):dR g_ k=some (g_.getD k.toNat 0):=UK 0 h0 (by rw[yk];exact h1)
theorem Cw:∀i:Nat,i<26->∀n:Nat,n<9->MulOk ⟨#[g_.getD i 0]⟩ (n:Int):=by decide +kernel
theorem Cy:∀i:Nat,i<26->∀n:Nat,n<9->Txt.mul ⟨#[g_.getD i 0]⟩ (n:Int)=⟨(List.replicate n (g_.getD i 0)).toArray⟩:=by decide +kernel
theorem yu(i:Nat)(hi:i<26)(n:Nat)(hn:n<9):MulOk ⟨#[g_.getD i 0]⟩ (n:Int)/\Txt.mul ⟨#[g_.getD i 0]⟩ (n:Int)=⟨(List.replicate n (g_.getD i 0)).toArray⟩:=⟨Cw i hi n hn,Cy i hi n hn⟩
theorem Pc(a b:List Nat):(⟨a.toArray⟩:Str)++(⟨b.toArray⟩:Str)=⟨(a++b).toArray⟩:=by
 show(⟨a.toArray++b.toArray⟩:Str)=_
 simp_all
theorem Cz(ns:List Int)(q n b m:Int)(c:Nat)(z:Str)(hp:Pr kx [.d (bh ns),aM q,aM 26] (rd (.int b)))(ho:Pr jo [.d (bh ns),aM q,aM 3] (rd (.int 0)))
  (sM:dR g_ ((b+n / 8)%26)=some c) (em:1+n%8=m) (hm:MulOk ⟨#[c]⟩ m=True) (hz:Txt.mul ⟨#[c]⟩ m=z):Pr p4 [.d (bh ns),aM q,aM n] (rd (.str z)):=by
 intro q' S;unfold p4 Ig;simp only[↓ev,aS,hp,ho,aK,dU,dP,and_self,decide_true,Pb,sM,em,hm,hz,eA]
theorem CA(ns:List Int)(q n b v t sp r:Int)(cr cc:Nat)(z1 z2 z3 z4:Str)(hp:Pr kx [.d (bh ns),aM q,aM 26] (rd (.int b)))(ho:Pr jo [.d (bh ns),aM q,aM 3] (rd (.int v)))(hv:(v == 0)=false)
  (ht:Pr mj [.d (bh ns),aM q,aM 8] (rd (.int t))) (hs:Pr jo [.d (bh ns),aM q,aM (1+t)] (rd (.int sp))) (hr:Pr gY [.d (bh ns),aM q,aM 3,aM 26] (rd (.int r)))
  (JN:dR g_ r=some cr) (hac:dR g_ ((7*n+b)%26)=some cc) (h7:((-(2^64):Int)<7/\(7:Int)<2^64 \/ -(2^64)<n/\n<2^64)=True) (m1:MulOk ⟨#[cr]⟩ sp=True) (e1:Txt.mul ⟨#[cr]⟩ sp=z1) (m2:MulOk ⟨#[cr]⟩ (1+t - 1 - sp)=True) (e2:Txt.mul ⟨#[cr]⟩ (1+t - 1 - sp)=z2)
  (l1:(z1.length+(⟨#[cc]⟩:Str).length<=1000000)=True) (e3:z1++(⟨#[cc]⟩:Str)=z3) (l2:(z3.length+z2.length<=1000000)=True) (e4:z3++z2=z4):Pr p4 [.d (bh ns),aM q,aM n] (rd (.str z4)):=by
 intro q' S;unfold p4 Ig;simp only[↓ev,aS,hp,ho,aK,dU,hv,ht,hs,hr,Pb,JN,m1,e1,h7,decide_true,hac,l1,e3,m2,e2,l2,e4,eA]
def sQ(ns:List Int)(q n:Nat):List Nat:=if bo ns q 1 3=0 then List.replicate (1+n%8) (g_.getD (((bo ns q 0 26).toNat+n / 8)%26) 0)
 else List.replicate (bo ns q 1 (1+bo ns q 2 8)).toNat (g_.getD (bo ns q 3 26).toNat 0)++g_.getD ((7*n+(bo ns q 0 26).toNat)%26) 0::List.replicate ((bo ns q 2 8).toNat - (bo ns q 1 (1+bo ns q 2 8)).toNat) (g_.getD (bo ns q 3 26).toNat 0)
def i4(ns:List Int)(q n:Nat):Str:=⟨(sQ ns q n).toArray⟩
theorem tM(l:List Nat):(⟨l.toArray⟩:Str).length=l.length:=by show l.toArray.size=_;simp
theorem Fs(ns:List Int)(q:Nat)(hq:q<1000)(n:Nat)(hn:n<20):Pr p4 [.d (bh ns),aM q,aM n] (rd (.str (i4 ns q n))):=by
 obtain⟨p1,p2,p3⟩:=gF ns q 0 26 hq (by decide) (by decide)
 obtain⟨o1,o2,o3⟩:=gF ns q 1 3 hq (by decide) (by decide)
 obtain⟨t1,t2,t3⟩:=gF ns q 2 8 hq (by decide) (by decide)
 obtain⟨r1,r2,r3⟩:=gF ns q 3 26 hq (by decide) (by decide)
 obtain⟨s1,s2,s3⟩:=gF ns q 1 (1+bo ns q 2 8) hq (by decide) (by lia)
 have hp:=xp ns q 26 hq (by decide)
 have ho:=u_ ns q 3 hq (by decide)
 have ht:=wR ns q 8 hq (by decide)
 have hs:=u_ ns q (1+bo ns q 2 8) hq (by lia)
 unfold i4 sQ;split
 .rename_i h
  rw[h] at ho;have ei:(((bo ns q 0 26).toNat+n / 8)%26:Nat)=((bo ns q 0 26+(n:Int) / 8)%26).toNat:=by lia
  rw[ei];obtain⟨q1,q2⟩:=yu ((bo ns q 0 26+(n:Int) / 8)%26).toNat (by lia) (1+n%8) (by lia)
  exact Cz ns q n _ ((1+n%8:Nat):Int) _ _ hp ho (w9 _ (by lia) (by lia)) (by lia) (bK q1) q2
 .rename_i h
  have ei:((7*n+(bo ns q 0 26).toNat)%26:Nat)=((7*(n:Int)+bo ns q 0 26)%26).toNat:=by lia
  rw[ei];obtain⟨q1,q2⟩:=yu (bo ns q 3 26).toNat (by lia) (bo ns q 1 (1+bo ns q 2 8)).toNat (by lia)
  obtain⟨q3,q4⟩:=yu (bo ns q 3 26).toNat (by lia) ((bo ns q 2 8).toNat - (bo ns q 1 (1+bo ns q 2 8)).toNat) (by lia)
  rw[show(((bo ns q 1 (1+bo ns q 2 8)).toNat:Nat):Int)=bo ns q 1 (1+bo ns q 2 8) by lia] at q1 q2
  rw[show(((bo ns q 2 8).toNat - (bo ns q 1 (1+bo ns q 2 8)).toNat:Nat):Int)=1+bo ns q 2 8 - 1 - bo ns q 1 (1+bo ns q 2 8) by lia] at q3 q4
  refine CA ns q n _ _ _ _ _ _ _ _ _ (⟨(List.replicate (bo ns q 1 (1+bo ns q 2 8)).toNat (g_.getD (bo ns q 3 26).toNat 0)++[g_.getD ((7*(n:Int)+bo ns q 0 26)%26).toNat 0]).toArray⟩:Str) _ hp ho (by simpa using h) ht hs r1 (w9 _ r2 r3) (w9 _ (by lia) (by lia)) (bK (.inl ⟨by decide,by decide⟩)) (bK q1) q2 (bK q3) q4 (bK ?_) ?_ (bK ?_) ?_
  .rw[tM,oP];show _+1<=_;lia
  .exact Pc _ [_]
  .rw[tM,tM,dw,oP,oP];simp only[qq2,qq3];lia
  .rw[Pc,lX];rfl
theorem ES{l:List Nat}(h:i<l.length):l.getD i 0∈l:=by
 simp_all
theorem N3(ns:List Int)(q:Nat)(hq:q<1000)(n:Nat):∀c∈sQ ns q n,c∈g_:=by
 obtain⟨r1,r2,r3⟩:=gF ns q 3 26 hq (by decide) (by decide)
 intro c hc;unfold sQ at hc;split at hc
 .rw[List.eq_of_mem_replicate hc];exact ES (by rw[yk];lia)
 .rw[gw,y0a] at hc;rcases hc with hc|hc|hc
  .rw[List.eq_of_mem_replicate hc];exact ES (by rw[yk];lia)
  .rw[hc];exact ES (by rw[yk];lia)
  .rw[List.eq_of_mem_replicate hc];exact ES (by rw[yk];lia)
theorem zV(ns:List Int)(q:Nat)(hq:q<1000)(n:Nat):1<=(sQ ns q n).length/\(sQ ns q n).length<=8:=by
 obtain⟨t1,t2,t3⟩:=gF ns q 2 8 hq (by decide) (by decide)
 obtain⟨s1,s2,s3⟩:=gF ns q 1 (1+bo ns q 2 8) hq (by decide) (by lia)
 unfold sQ;split
 .rw[oP];lia
 .rw[dw,j9,oP,oP];lia
theorem N4{j:Nat}(hi:i<26)(hj:j<26)(e:g_.getD i 0=g_.getD j 0):i=j:=by
 have h1:i<g_.length:=by rw[yk];exact hi
 have h2:j<g_.length:=by rw[yk];exact hj
 rw[y9,gz h1,y9,gz h2] at e;exact(An ZV).mp e
theorem Qk(ns:List Int)(q:Nat)(hq:q<1000)(n m:Nat)(hn:n<20)(hm:m<20)(e:i4 ns q n=i4 ns q m):n=m:=by
 obtain⟨p1,p2,p3⟩:=gF ns q 0 26 hq (by decide) (by decide)
 have e:sQ ns q n=sQ ns q m:=by
  have:=congrArg Str.cps e;simpa[i4] using this
 unfold sQ at e;split at e
 .have l:=congrArg List.length e;rw[oP,oP] at l;have z:g_.getD (((bo ns q 0 26).toNat+n / 8)%26) 0=g_.getD (((bo ns q 0 26).toNat+m / 8)%26) 0:=by
   simp_all
  have:=N4 (by lia) (by lia) z
  lia
 .have e:=List.append_cancel_left e;rw[List.cons.injEq] at e;have:=N4 (by lia) (by lia) e.1
  lia
theorem XA:∀c∈g_,(Builtin.Str.occurrences EJ ⟨#[c]⟩ 0 EJ.length 1).isEmpty=false:=by decide +kernel
theorem ZW(c:Nat)(h:c∈g_):(Builtin.Str.occurrences (Str.ofString "abcdefghijklmnopqrstuvwxyz") (ja c) 0 (Str.ofString "abcdefghijklmnopqrstuvwxyz").length 1).isEmpty=false:=XA c h
theorem N5:∀n:Nat,(List.replicate n true).all id=true
 |0=>rfl
 |n+1=>by rw[List.replicate_succ,qf,N5 n];rfl
theorem HU:∀bs:List Bool,gL (bs.map D.bl)=some bs
 |[]=>rfl
 |b::bs=>by rw[cR];unfold gL;rw[HU bs];rfl
theorem Nq(l:List Nat)(h1:1<=l.length)(h2:l.length<=8)(hc:∀c∈l,c∈g_):Pr nA [.d (.str ⟨l.toArray⟩)] (rd (.bl true)):=by
 have e:∀q S,bf (ae 0) (gq true) (Ei q) (l.map λc=>.str (ja c)) [none] S []=some (.ok ((List.replicate l.length true).map D.bl) S):=λq S=>by
  rw[p_ (λ_=>D.bl true) l (by lia) λc m=>⟨rd (.bl true),by
   have h:=ZW c (hc c m);unfold Ei;simp only[↓ev,aK,h,j_],rfl⟩,List.map_replicate,List.map_const']
 have c1:(1<=((⟨l.toArray⟩:Str).length:Int))=True:=bK (by rw[tM];lia)
 have c2:(((⟨l.toArray⟩:Str).length:Int)<=8)=True:=bK (by rw[tM];lia)
 have c3:((⟨l.toArray⟩:Str).length<=1000000)=True:=bK (by rw[tM];lia)
 intro q S;unfold nA A2;simp only[↓ev,Cm,aK,c3,c1,decide_true,c2,e,HU,N5,eA]
abbrev P0(M:Nat->GM)(vs:List Val)(r:Rv):Prop:=∀S,M 0 vs S=some (.ok r S)
noncomputable abbrev dS(xs:List Str):List D:=xs.map D.str
theorem ik(x:Str):∀xs:List Str,((dS xs).any λz=>eL z (.str x))=xs.contains x
 |[]=>rfl
 |y::r=>by
  rw[dS,cR,List.any_cons,<-dS,ik x r,List.contains_cons,eC]
  congr 1
  exact BEq.comm
theorem iF(n:Nat)(xs:List Str):(dS xs).all (dZ n)=true:=by
 rw[kj];intro d hd;obtain⟨y,_,rfl⟩:=fQ.mp hd;cases n <;> rfl
theorem Pd(xs:List Str)(i:Nat)(y:Str):(dS xs).take i++.str y::(dS xs).drop i=dS (lH xs i y):=by
 grind [lH,List.map_take,List.map_drop]
noncomputable abbrev bT(S:aR)(xs:List D):aR:=⟨S.s++[.o (.lst xs)],S.r⟩
section
variable{S:aR}{ns:List Int}{k j sp d ll:Int}{s2 s3 s4:aj Val}{vU:List D}{outs:List Str}{y:Str}{a9:aj Val}
theorem e6r(hl:(vU.length:Int)=ll)(hd:Pr gY [.d (bh ns),aM (6+k),aM (1+j),aM ll] (rd (.int d)))(ha:dR vU d=some (.str y))(hc:outs.contains y=true):
  tD 0 [ak (bh ns),cD k,s2,s3,s4,ak (.lst vU),aO S.s.length,cD sp,cD j,a9] (bT S (dS outs))=some (.nx [ak (bh ns),cD k,s2,s3,s4,ak (.lst vU),aO S.s.length,cD sp,cD j,bH y] (bT S (dS outs))):=by
 unfold tD;simp only[↓ev,hl,hd,ha,aS,eK,iF,ik,hc,fB,aK]
abbrev W3:List D:=[.int 1,.int 4,.int 16]
theorem ZX{w ol p:Int}{o2:List Str}(hl:(vU.length:Int)=ll)(hd:Pr gY [.d (bh ns),aM (6+k),aM (1+j),aM ll] (rd (.int d)))(ha:dR vU d=some (.str y))(hc:outs.contains y=false)
  (hw:dR W3 j=some (.int w)) (w0:(0<w)=True) (w1:(w<1073741824)=True) (el:((dS outs).length:Int)=ol) (o0:(0<ol+1)=True) (hp:sp / w%4%(ol+1)=p) (p0:(0<=p)=True) (p1:(p<2^62)=True) (p2:((dS outs).length<1000000)=True) (h2:(dS outs).take p.toNat++.str y::(dS outs).drop p.toNat=dS o2) :
  tD 0 [ak (bh ns),cD k,s2,s3,s4,ak (.lst vU),aO S.s.length,cD sp,cD j,a9] (bT S (dS outs))=some (.nx [ak (bh ns),cD k,s2,s3,s4,ak (.lst vU),aO S.s.length,cD sp,cD j,bH y] (bT S (dS o2))):=by
 unfold tD;simp only[↓ev,hl,hd,ha,aS,eK,iF,ik,hc,j_,aK,hw,w0,w1,and_self,decide_true,el,o0,hp,p0,p1,p2,h2,jv]
end
theorem N6(ds:List D)(n:Nat):cutD ds (some (n:Int)) none=ds.drop n:=by
 unfold cutD;have e:HT.cG ds.length 0 (some (n:Int))=min n ds.length:=by
  unfold HT.cG;simp;lia
 have e2:HT.cG ds.length ds.length none=ds.length:=rfl;rw[e,e2];by_cases h:n<=ds.length
 .rw[Nat.min_eq_left h];exact DJ (by rw[Ap];exact bU _)
 .rw[Nat.min_eq_right (by lia),List.drop_eq_nil_of_le (bU _),List.drop_eq_nil_of_le (by lia),List.take_nil]
theorem Ua(xs:List Str)(k:Nat)(y:Str):(lH xs k y).Perm (y::xs):=by
 unfold lH;refine(List.perm_middle (l₁:=xs.take k) (l₂:=xs.drop k)).trans ?_;rw[List.take_append_drop]
theorem Pe{xs:List Str}{k:Nat}{y:Str}(h:xs.Nodup)(hy:y∉xs):(lH xs k y).Nodup:=(Ua xs k y).nodup_iff.mpr (sf.mpr ⟨hy,h⟩)
structure ny (later carts:List Str) (hd:Str) (outs:List Str):Prop where
 nd:outs.Nodup
 sub:∀o∈outs,o∈later++carts
 ne:outs≠[]
 hand:hd∈outs\/∃o∈outs,o∈later
 len:outs.length<=4
theorem E_{xs:List Str}{k:Int}(h0:0<=k)(h1:k<xs.length):dR (dS xs) k=some (.str (xs.getD k.toNat "")):=by
 have JU:k.toNat<xs.length:=by lia
 have e:(dS xs)[k.toNat]?=some (.str (xs.getD k.toNat "")):=by simp[JU]
 have z:=tH e
 rwa[show((k.toNat:Nat):Int)=k by lia] at z
theorem Ub{xs:List Str}{i:Nat}(h:i<xs.length):xs.getD i ""∈xs:=by
 simp_all
theorem e6s:∀j:Nat,j<3->∃d:Int,dR W3 (j:Int)=some (.int d)/\0<d/\d<1073741824
 |0,_=>⟨1,rfl,by decide,by decide⟩
 |1,_=>⟨4,rfl,by decide,by decide⟩
 |2,_=>⟨16,rfl,by decide,by decide⟩
 |n+3,h=>bQ h (by lia)
abbrev mF(S:aR)(ns:List Int)(k sp:Int)(s2:aj Val)(carts later:List Str)(a8 a9:aj Val):Gm:=[ak (bh ns),cD k,s2,ak (.lst (dS carts)),ak (.lst (dS later)),ak (.lst (dS (later++carts))),aO S.s.length,cD sp,a8,a9]
theorem XB(ns:List Int)(k j:Nat)(sp:Int)(s2:aj Val)(carts later outs:List Str)(a9:aj Val)(hk:k<5)(hj:j<3)(sl:0<(later++carts).length)(Gg:(later++carts).length<=100)(nd:outs.Nodup)(sb:∀o∈outs,o∈later++carts)(ol:outs.length<=j):
  ∃o2 y,o2.Nodup/\(∀o∈o2,o∈later++carts)/\o2.length<=j+1/\o2≠[]/\∀S,tD 0 (mF S ns k sp s2 carts later ((cD j)) a9) (bT S (dS outs))=some (.nx (mF S ns k sp s2 carts later ((cD j)) ((bH y))) (bT S (dS o2))):=by
 obtain⟨d1,d2,d3⟩:=gF ns (6+k) (1+j) ((later++carts).length:Int) (by lia) (by lia) (by lia)
 rw[show((6+k:Nat):Int)=6+(k:Int) by lia,show((1+j:Nat):Int)=1+(j:Int) by lia] at d1
 have ha:=E_ (xs:=later++carts) d2 d3;have hm:(later++carts).getD (bo ns (6+k) (1+j) ((later++carts).length:Int)).toNat ""∈later++carts:=Ub (by lia)
 generalize(later++carts).getD (bo ns (6+k) (1+j) ((later++carts).length:Int)).toNat ""=y at ha hm;have hl:((dS (later++carts)).length:Int)=((later++carts).length:Int):=by rw[bJ]
 cases hc:outs.contains y with
 |true=>
  refine⟨outs,y,nd,sb,by lia,λz=>?_,λS=>e6r hl d1 ha hc⟩
  simp_all
 |false=>
  obtain⟨w,w1,w2,w3⟩:=e6s j hj;have o0:(0:Int)<(outs.length:Int)+1:=by lia
  have el:((dS outs).length:Int)=(outs.length:Int):=by rw[bJ]
  have p0:0<=sp / w%4%((outs.length:Int)+1):=Int.emod_nonneg _ (by lia)
  have p1:sp / w%4%((outs.length:Int)+1)<(outs.length:Int)+1:=Int.emod_lt_of_pos _ o0;have hy:y∉outs:=by simpa using hc
  refine⟨_,y,Pe (k:=(sp / w%4%((outs.length:Int)+1)).toNat) nd hy,λo ho=>?_,by rw[EM];lia,λz=>?_,λS=>ZX hl d1 ha hc w1 (bK w2) (bK w3) el (bK o0) rfl (bK p0) (bK (by lia)) (bK (by rw[bJ];lia)) (Pd _ _ _)⟩
  .rcases jY.mp ho with z|z
   .rw[z];exact hm
   .exact sb o z
  grind [EM]
theorem MT(q:Nat)(S:aR)(outs later:List Str)(h:outs.length<=1000):bf (ae 0) (HE q) (HF q) (dS outs) [none,ak (.lst (dS later))] S []=some (.ok (dS (outs.filter λo=>later.contains o)) S):=by
 rw[dS,tR (λo=>if later.contains o=true then some (.str o) else none) outs (by lia) λo m=>by
  unfold HE HF;cases hc:later.contains o with
  |true=>exact .inr ⟨rd (.str o),.str o,rfl,by simp only[↓ev,iF,aK,ik,hc],by simp only[↓ev],rfl⟩
  |false=>exact .inl ⟨rfl,by simp only[↓ev,iF,aK,ik,hc]⟩]
 congr 2
 induction outs with
 |nil=>rfl
 |cons o r ih=>
  grind
section
variable{S:aR}{ns:List Int}{k sp r:Int}{later carts o1 outs:List Str}{names:List D}{hand:Str}{a8 a9:aj Val}
structure tf (S:aR) (ns:List Int) (k sp r:Int) (later carts o1:List Str) (names:List D) (hand:Str) (a8 a9:aj Val):Prop where
 c1:cutD names (some (k+1)) none=dS later
 c2:((dS later).length+(dS carts).length<=1000000)=True
 ht:Pr mj [.d (bh ns),aM (1+k),aM 64] (rd (.int sp))
 hp:Pr kx [.d (bh ns),aM (6+k),aM 3] (rd (.int r))
 hi:Nat.ble (1+r).natAbs 1000000000000=true
 ap:dS later++dS carts=dS (later++carts)
 hl:aL (ae 8) (tD 0) (iC 0 (1+r).toNat) (mF S ns k sp ((ak (.lst names))) carts later none none) (bT S [])=some (.nx (mF S ns k sp ((ak (.lst names))) carts later a8 a9) (bT S (dS o1)))
 sM:dR (dS carts) 0=some (.str hand)
theorem XC(h:tf S ns k sp r later carts o1 names hand a8 a9)(hc:o1.contains hand=true):pe 0 [.d (bh ns),aM k,.d (.lst names),.d (.lst (dS carts))] S=some (.ok (.o (.lst (dS o1))) S):=by
 obtain⟨c1,c2,ht,hp,hi,ap,hl,sM⟩:=h;unfold pe ER;simp only[↓ev,c1,aS,c2,ap,aK,ht,hp,hi,g9,hl,mF,bT,sM,eK,iF,ik,hc,fB,yq,qQ]
theorem XD(h:tf S ns k sp r later carts o1 names hand a8 a9)(hc:o1.contains hand=false)(hlen:o1.length<=1000){n:Int}(hn:((dS (o1.filter λo=>later.contains o)).length:Int)=n)(hz:(n == 0)=false):pe 0 [.d (bh ns),aM k,.d (.lst names),.d (.lst (dS carts))] S=some (.ok (.o (.lst (dS o1))) S):=by
 obtain⟨c1,c2,ht,hp,hi,ap,hl,sM⟩:=h;have e:=λq S=>MT q S o1 later hlen
 unfold pe ER;simp only[↓ev,c1,aS,c2,ap,aK,ht,hp,hi,g9,hl,mF,bT,sM,eK,iF,ik,hc,j_,e,hn,dU,hz,yq,qQ]
theorem Vk(h:tf S ns k sp r later carts o1 names hand a8 a9)(hc:o1.contains hand=false)(hlen:o1.length<=1000)(hn:((dS (o1.filter λo=>later.contains o)).length:Int)=0){d ol:Int}(el:((dS o1).length:Int)=ol)(hd:Pr gY [.d (bh ns),aM (1+k),aM 3,aM (ol+1)] (rd (.int d)))
  (p0:(0<=d)=True) (p1:(d<2^62)=True) (p2:((dS o1).length<1000000)=True) (h2:(dS o1).take d.toNat++.str hand::(dS o1).drop d.toNat=dS outs):pe 0 [.d (bh ns),aM k,.d (.lst names),.d (.lst (dS carts))] S=some (.ok (.o (.lst (dS outs))) S):=by
 obtain⟨c1,c2,ht,hp,hi,ap,hl,sM⟩:=h;have e:=λq S=>MT q S o1 later hlen
 unfold pe ER;simp only[↓ev,c1,aS,c2,ap,aK,ht,hp,hi,g9,hl,mF,bT,sM,eK,iF,ik,hc,j_,e,hn,dU,dP,el,hd,p0,p1,p2,and_self,h2,jv,yq,qQ]
end
theorem Ii{n i:Nat}{d r:List Nat}(e:List.range n=d++i::r):d.length=i/\i<n:=by
 have h2:d.length<n:=by have:=congrArg List.length e;simp at this;lia
 have h1:=congrArg (λl=>l[d.length]?) e
 simp only[sV (bU _),LC,qq0] at h1;rw[y0 h2] at h1;have:=Option.some.inj h1;exact⟨this,this ▸ h2⟩
theorem rT(n:Nat):iC 0 n=(List.range n).map λ(i:Nat)=>D.int (i:Int):=by
 unfold iC;simp only[Int.zero_add]
theorem ZY(ns:List Int)(k:Nat)(names carts:List Str)(hand:Str)(hk:k<5)(hl:names.length<=5)(hh:carts.head?=some hand)(hc:carts.length<=4):
  ∃outs,ny (names.drop (k+1)) carts hand outs/\∀S,pe 0 [.d (bh ns),aM k,.d (.lst (dS names)),.d (.lst (dS carts))] S=some (.ok (.o (.lst (dS outs))) S):=by
 have hc0:0<carts.length:=by cases carts with|nil=>cases hh|cons a b=>simp
 obtain⟨r1,r2,r3⟩:=gF ns (6+k) 0 3 (by lia) (by decide) (by decide)
 have hp:=xp ns (6+k) 3 (by lia) (by decide)
 have ht:=wR ns (1+k) 64 (by lia) (by decide)
 rw[show((6+k:Nat):Int)=6+(k:Int) by lia] at hp
 rw[show((1+k:Nat):Int)=1+(k:Int) by lia] at ht
 have sl:0<(names.drop (k+1)++carts).length:=by rw[dw];lia
 have Gg:(names.drop (k+1)++carts).length<=100:=by rw[dw,Ap];lia
 obtain⟨⟨o1,a8,a9⟩,⟨nd,sb,ol,one⟩,e1⟩:=Qg (gg:=ae 8) (body:=tD 0) (f:=λ(i:Nat)=>D.int (i:Int)) (λ(b:List Str×aj Val×aj Val) S=>(mF S ns k (bo ns (1+k) 2 64) ((ak (.lst (dS names)))) carts (names.drop (k+1)) b.2.1 b.2.2,bT S (dS b.1)))
  (λpre b=>b.1.Nodup/\(∀o∈b.1,o∈names.drop (k+1)++carts)/\b.1.length<=pre.length/\(pre≠[]->b.1≠[])) (List.range (1+bo ns (6+k) 0 3).toNat) ([],none,none)
  ⟨GC,λo m=>(by cases m),bU _,λz=>bQ rfl z⟩ (by
   rintro d i r eq ⟨outs,a8,a9⟩ ⟨nd,sb,ol,_⟩;obtain⟨hq,hi⟩:=Ii eq;obtain⟨o2,y,n2,s2,l2,ne2,e2⟩:=XB ns k i (bo ns (1+k) 2 64) ((ak (.lst (dS names)))) carts (names.drop (k+1)) outs a9 hk (by lia) sl Gg nd sb (iU ol (DG hq))
   exact⟨(o2,cD i,(bH y)),⟨n2,s2,by rw[dw,sW,hq];exact l2,λ_=>ne2⟩,λS=>⟨_,rfl,.inl (e2 S)⟩⟩)
 dsimp only at nd sb ol one e1;rw[v8] at ol;have one:o1≠[]:=one (by intro z;have:=congrArg List.length z;simp at this;lia)
 have e1:=λS=>(congrArg (λl=>aL (ae 8) (tD 0) l _ _) (rT _)).trans (e1 S)
 have sM:dR (dS carts) 0=some (.str hand):=by
  cases carts with
  |nil=>cases hh
  |cons a b=>cases hh;exact tH (xs:=D.str hand::b.map D.str) (j:=0) rfl
 have hm:hand∈names.drop (k+1)++carts:=mZ _ (List.mem_of_mem_head? hh);have H:∀S,tf S ns k (bo ns (1+k) 2 64) (bo ns (6+k) 0 3) (names.drop (k+1)) carts o1 (dS names) hand a8 a9:=λS=>⟨by rw[show(k:Int)+1=((k+1:Nat):Int) by lia,N6,dS,dS,GI],bK (by rw[bJ,bJ,Ap];lia),ht,hp,LQ (by lia),gf.symm,e1 S,sM⟩
 cases B2:o1.contains hand with
 |true=>exact⟨o1,⟨nd,sb,one,.inl (by simpa using B2),by lia⟩,λS=>XC (H S) B2⟩
 |false=>
  by_cases hf:(o1.filter λo=>(names.drop (k+1)).contains o).length=0
  .obtain⟨d1,d2,d3⟩:=gF ns (1+k) 3 ((o1.length:Int)+1) (by lia) (by decide) (by lia)
   rw[show((1+k:Nat):Int)=1+(k:Int) by lia] at d1
   have hy:hand∉o1:=by simpa using B2
   refine⟨_,⟨Pe (k:=(bo ns (1+k) 3 ((o1.length:Int)+1)).toNat) nd hy,λo ho=>?_,λz=>?_,.inl (jY.mpr (.inl rfl)),by rw[EM];lia⟩,λS=>Vk (H S) B2 (by lia) (by rw[bJ,hf];rfl) (by rw[bJ]) d1 (bK d2) (bK (by lia)) (bK (by rw[bJ];lia)) (Pd _ _ _)⟩
   .rcases jY.mp ho with z|z
    .rw[z];exact hm
    .exact sb o z
   .have:=EM o1 (bo ns (1+k) 3 ((o1.length:Int)+1)).toNat hand;rw[z] at this;simp at this
  .refine⟨o1,⟨nd,sb,one,.inr ?_,by lia⟩,λS=>XD (H S) B2 (by lia) rfl (by rw[bJ];simp only[m7];lia)⟩
   simp_all
def aw(b:av):D:=.tup [.str b.name,.int b.long,.bl b.ring,.lst (dS b.outs)]
def aB(h:aF):D:=.tup [.lst (h.af.map aw),.lst (dS h.carts)]
abbrev f9(S:aR)(ns:List Int)(names carts:List Str)(k:Int)(a5 a6:aj Val):Gm:=[ak (bh ns),ak (.lst (dS names)),ak (.lst (dS carts)),aO S.s.length,cD k,a5,a6]
section
variable{S:aR}{ns:List Int}{ki pv ov nl tv dv:Int}{names carts outs:List Str}{nm:Str}{bl:List D}{rg:Bool}{a5 a6:aj Val}
theorem hB0(hp:Pr kx [.d (bh ns),aM (1+ki),aM 3] (rd (.int pv)))(hr:(pv == 0)=rg)(ho:Pr jo [.d (bh ns),aM (1+ki),aM 5] (rd (.int ov)))(ha:dR (dS names) ki=some (.str nm))(hx:∀S,pe 0 [.d (bh ns),aM ki,.d (.lst (dS names)),.d (.lst (dS carts))] S=some (.ok (.o (.lst (dS outs))) S))(hb:(bl.length<1000000)=True)(e1:(ki == 0)=false):nY 0 (f9 S ns names carts ki a5 a6) (bT S bl)=some (.nx (f9 S ns names carts ki ((ak (.bl rg))) ((cD (if rg=true then(1+ov)+1 else(1+ov))))) (bT S (bl++[.tup [.str nm,.int (if rg=true then(1+ov)+1 else(1+ov)),.bl rg,.lst (dS outs)]]))):=by
 unfold nY f9 bT;cases rg with
 |true=>simp only[↓ev,hp,aK,dU,hr,aS,ho,e1,eK,ha,hx,hb,jv]
 |false=>simp only[↓ev,hp,aK,dU,hr,aS,ho,e1,eK,ha,hx,hb,jv]
theorem hB1(hp:Pr kx [.d (bh ns),aM (1+ki),aM 3] (rd (.int pv)))(hr:(pv == 0)=rg)(ho:Pr jo [.d (bh ns),aM (1+ki),aM 5] (rd (.int ov)))(ha:dR (dS names) ki=some (.str nm))(hx:∀S,pe 0 [.d (bh ns),aM ki,.d (.lst (dS names)),.d (.lst (dS carts))] S=some (.ok (.o (.lst (dS outs))) S))(hb:(bl.length<1000000)=True)(e1:(ki == 0)=true)(el:((dS names).length:Int)=nl)(e2:(nl<3)=False):nY 0 (f9 S ns names carts ki a5 a6) (bT S bl)=some (.nx (f9 S ns names carts ki ((ak (.bl rg))) ((cD (if rg=true then(1+ov)+1 else(1+ov))))) (bT S (bl++[.tup [.str nm,.int (if rg=true then(1+ov)+1 else(1+ov)),.bl rg,.lst (dS outs)]]))):=by
 unfold nY f9 bT;cases rg with
 |true=>simp only[↓ev,hp,aK,dU,hr,aS,ho,e1,el,e2,decide_false,eK,ha,hx,hb,jv]
 |false=>simp only[↓ev,hp,aK,dU,hr,aS,ho,e1,el,e2,decide_false,eK,ha,hx,hb,jv]
theorem hB2(hp:Pr kx [.d (bh ns),aM (1+ki),aM 3] (rd (.int pv)))(hr:(pv == 0)=rg)(ho:Pr jo [.d (bh ns),aM (1+ki),aM 5] (rd (.int ov)))(ha:dR (dS names) ki=some (.str nm))(hx:∀S,pe 0 [.d (bh ns),aM ki,.d (.lst (dS names)),.d (.lst (dS carts))] S=some (.ok (.o (.lst (dS outs))) S))(hb:(bl.length<1000000)=True)(e1:(ki == 0)=true)(el:((dS names).length:Int)=nl)(e2:(nl<3)=True)(ht:Pr mj [.d (bh ns),aM 0,aM 3] (rd (.int tv)))(e3:(tv == 1)=false):nY 0 (f9 S ns names carts ki a5 a6) (bT S bl)=some (.nx (f9 S ns names carts ki ((ak (.bl rg))) ((cD (if rg=true then(1+ov)+1 else(1+ov))))) (bT S (bl++[.tup [.str nm,.int (if rg=true then(1+ov)+1 else(1+ov)),.bl rg,.lst (dS outs)]]))):=by
 unfold nY f9 bT;cases rg with
 |true=>simp only[↓ev,hp,aK,dU,hr,aS,ho,e1,el,e2,decide_true,ht,e3,eK,ha,hx,hb,jv]
 |false=>simp only[↓ev,hp,aK,dU,hr,aS,ho,e1,el,e2,decide_true,ht,e3,eK,ha,hx,hb,jv]
theorem hB3(hp:Pr kx [.d (bh ns),aM (1+ki),aM 3] (rd (.int pv)))(hr:(pv == 0)=rg)(ho:Pr jo [.d (bh ns),aM (1+ki),aM 5] (rd (.int ov)))(ha:dR (dS names) ki=some (.str nm))(hx:∀S,pe 0 [.d (bh ns),aM ki,.d (.lst (dS names)),.d (.lst (dS carts))] S=some (.ok (.o (.lst (dS outs))) S))(hb:(bl.length<1000000)=True)(e1:(ki == 0)=true)(el:((dS names).length:Int)=nl)(e2:(nl<3)=True)(ht:Pr mj [.d (bh ns),aM 0,aM 3] (rd (.int tv)))(e3:(tv == 1)=true)(hd:Pr gY [.d (bh ns),aM 0,aM 3,aM 14] (rd (.int dv))):nY 0 (f9 S ns names carts ki a5 a6) (bT S bl)=some (.nx (f9 S ns names carts ki ((ak (.bl rg))) ((cD (if rg=true then(10+dv)+1 else(10+dv))))) (bT S (bl++[.tup [.str nm,.int (if rg=true then(10+dv)+1 else(10+dv)),.bl rg,.lst (dS outs)]]))):=by
 unfold nY f9 bT;cases rg with
 |true=>simp only[↓ev,hp,aK,dU,hr,aS,ho,e1,el,e2,decide_true,ht,e3,hd,eK,ha,hx,hb,jv]
 |false=>simp only[↓ev,hp,aK,dU,hr,aS,ho,e1,el,e2,decide_true,ht,e3,hd,eK,ha,hx,hb,jv]
end
theorem XE(ns:List Int)(k:Nat)(names carts:List Str)(hand:Str)(bs:List av)(a5 a6:aj Val)(hk:k<names.length)(hl:names.length<=5)(hh:carts.head?=some hand)(hc:carts.length<=4)(hb:bs.length<=100):
  ∃b:av,b.name=names.getD k ""/\(1<=b.long/\b.long<=26/\(b.long<=6\/k=0/\names.length<3))/\(b.ring=true->2<=b.long)/\ny (names.drop (k+1)) carts hand b.outs/\∃Hh Ho,∀S,nY 0 (f9 S ns names carts k a5 a6) (bT S (bs.map aw))=some (.nx (f9 S ns names carts k Hh Ho) (bT S ((bs++[b]).map aw))):=by
 have hp:=xp ns (1+k) 3 (by lia) (by decide)
 have ho:=u_ ns (1+k) 5 (by lia) (by decide)
 obtain⟨o1,o2,o3⟩:=gF ns (1+k) 1 5 (by lia) (by decide) (by decide)
 rw[show((1+k:Nat):Int)=1+(k:Int) by lia] at hp ho
 obtain⟨outs,ok,eo⟩:=ZY ns k names carts hand (by lia) hl hh hc
 have ha:=E_ (xs:=names) (k:=(k:Int)) (by lia) (by lia)
 rw[Int.toNat_natCast] at ha;have ht:Pr mj [.d (bh ns),aM 0,aM 3] _:=wR ns 0 3 (by decide) (by decide)
 obtain⟨d1,d2,d3⟩:=gF ns 0 3 14 (by decide) (by decide) (by decide)
 have d1:Pr gY [.d (bh ns),aM 0,aM 3,aM 14] _:=d1;have el:((dS names).length:Int)=(names.length:Int):=by rw[bJ]
 have vm:((bs.map aw).length<1000000)=True:=bK (by rw[bJ];lia)
 obtain⟨l',l1,e⟩:∃l':Int,(1<=l'/\l'<=25/\(l'<=5\/k=0/\names.length<3))/\∀S,nY 0 (f9 S ns names carts k a5 a6) (bT S (bs.map aw))=some (.nx (f9 S ns names carts k ((ak (.bl (bo ns (1+k) 0 3 == 0)))) ((cD (if(bo ns (1+k) 0 3 == 0)=true then l'+1 else l')))) (bT S (bs.map aw++[.tup [.str (names.getD k ""),.int (if(bo ns (1+k) 0 3 == 0)=true then l'+1 else l'),.bl (bo ns (1+k) 0 3 == 0),.lst (dS outs)]]))):=by
  cases e1:((k:Int) == 0) with
  |false=>exact⟨_,by lia,λS=>hB0 hp rfl ho ha eo vm e1⟩
  |true=>
   by_cases e2:(names.length:Int)<3
   .cases e3:(bo ns 0 2 3 == 1) with
    |false=>exact⟨_,by lia,λS=>hB2 hp rfl ho ha eo vm e1 el (bK e2) ht e3⟩
    |true=>exact⟨_,by have:=beq_iff_eq.mp e1;lia,λS=>hB3 hp rfl ho ha eo vm e1 el (bK e2) ht e3 d1⟩
   .exact⟨_,by lia,λS=>hB1 hp rfl ho ha eo vm e1 el (eq_false e2)⟩
 refine⟨av.mk (names.getD k "") (if(bo ns (1+k) 0 3 == 0)=true then l'+1 else l') (bo ns (1+k) 0 3 == 0) outs,rfl,?_,λhr=>?_,ok,_,_,λS=>by rw[gf];exact e S⟩
 all_goals lia
theorem SK(q:Nat)(S:aR)(ns:List Int)(n:Nat)(hn:n<=14):bf (ae 0) (gq true) (Em q) (iC 0 n) [none,ak (bh ns)] S []=some (.ok (dS ((List.range n).map (i4 ns 11))) S):=by
 rw[rT,p_ (λk=>D.str (i4 ns 11 k)) (List.range n) (by rw[v8];lia) λi m=>⟨rd (.str (i4 ns 11 i)),by
  have h:Pr p4 [.d (bh ns),aM 11,aM i] _:=Fs ns 11 (by decide) i (by have:=pR.mp m;lia)
  unfold Em;generalize(i:Int)=ii at *;simp only[↓ev,h],rfl⟩,dS,fR]
 rfl
theorem SM(q:Nat)(S:aR)(ns:List Int)(n:Nat)(hn:n<=4):bf (ae 0) (gq true) (En q) (iC 0 n) [none,ak (bh ns)] S []=some (.ok (dS ((List.range n).map λi=>i4 ns 11 (10+i))) S):=by
 rw[rT,p_ (λk=>D.str (i4 ns 11 (10+k))) (List.range n) (by rw[v8];lia) λi m=>⟨rd (.str (i4 ns 11 (10+i))),by
  have h:Pr p4 [.d (bh ns),aM 11,aM ((10+i:Nat):Int)] _:=Fs ns 11 (by decide) (10+i) (by have:=pR.mp m;lia)
  rw[show((10+i:Nat):Int)=10+(i:Int) by lia] at h
  unfold En;generalize(i:Int)=ii at *;simp only[↓ev,h],rfl⟩,dS,fR]
 rfl
theorem Pf:∀{bs:List av},(∀b∈bs,b.outs.length<=4)->(bs.map λx=>x.outs.length).sum<=4*bs.length
 |[],_=>bU _
 |b::bs,h=>by
  rw[cR,List.sum_cons,j9];have:=Pf λb m=>h b (mY _ m)
  grind
theorem N7(ns:List Int)(l:List Nat)(nd:l.Nodup)(hl:∀i∈l,i<14):(l.map (i4 ns 11)).Nodup:=by
 rw[List.Nodup,Ax];exact nd.imp_of_mem λha hb ne z=>ne (Qk ns 11 (by decide) _ _ (by have:=hl _ ha;lia) (by have:=hl _ hb;lia) z)
theorem Uc(S:aR)(ns:List Int)(n c:Int)(names carts:List Str)(a4 a5 a6:aj Val)(bs:List D)(hp:Pr kx [.d (bh ns),aM 0,aM 5] (rd (.int n)))(ho:Pr jo [.d (bh ns),aM 0,aM 4] (rd (.int c)))
  (i1:Nat.ble (1+n).natAbs 1000000000000=true) (i2:Nat.ble (1+c).natAbs 1000000000000=true) (nl:Int) (el:((dS names).length:Int)=nl) (i3:Nat.ble nl.natAbs 1000000000000=true)
  (e1:∀q S,bf (ae 0) (gq true) (Em q) (iC 0 (1+n).toNat) [none,ak (bh ns)] S []=some (.ok (dS names) S)) (e2:∀q S,bf (ae 0) (gq true) (En q) (iC 0 (1+c).toNat) [none,ak (bh ns)] S []=some (.ok (dS carts) S))
  (e3:aL (ae 4) (nY 0) (iC 0 nl.toNat) [ak (bh ns),ak (.lst (dS names)),ak (.lst (dS carts)),aO S.s.length,none,none,none] (bT S [])=some (.nx [ak (bh ns),ak (.lst (dS names)),ak (.lst (dS carts)),aO S.s.length,a4,a5,a6] (bT S bs))) :
  zA 0 [.d (bh ns)] S=some (.ok (rd (.tup [.lst bs,.lst (dS carts)])) S):=by
 unfold zA Np;simp only[↓ev,hp,i1,g9,e1,aS,ho,i2,e2,aK,el,i3,e3,bT,eK,jv,qQ]
variable{ks:List Str}
noncomputable def findB(bs:List av)(n:Str):aj av:=bs.find? λb=>b.name == n
structure qG (h:aF):Prop where
 bl:h.af.length<=100
 ct:h.carts.length<=100
 ou:(h.af.map λx=>x.outs.length).sum<=900
def lZ(carts:List Str):List av->Prop
 |[]=>True
 |b::bs=>(∀o∈b.outs,o∈bs.map av.name\/o∈carts)/\b.name∉bs.map av.name/\b.name∉carts/\lZ carts bs
theorem Bd{carts:List Str}:∀{bs:List av},lZ carts bs->∀x∈bs,∀y∈bs,x.name=y.name->x=y
 |z::bs,f,x,hx,y,hy,e=>by
  rcases y0a.mp hx with sP|sP
  .rcases y0a.mp hy with yg|yg
   .rw[sP,yg]
   .exact bQ (lU (f:=av.name) yg) (by rw[<-e,sP];exact f.2.1)
  .rcases y0a.mp hy with yg|yg
   .exact bQ (lU (f:=av.name) sP) (by rw[e,yg];exact f.2.1)
   .exact Bd f.2.2.2 x sP y yg e
theorem EE{carts:List Str}:∀{bs:List av},lZ carts bs->∀c∈carts,c∉bs.map av.name
 |[],_,c,_,h=>by cases h
 |b::bs,f,c,hc,h=>by
  rcases y0a.mp h with z|z
  .exact f.2.2.1 (by rw[<-z];exact hc)
  .exact EE f.2.2.2 c hc z
theorem AZ{carts:List Str}:∀{xs ys:List av},lZ carts (xs++ys)->lZ carts ys
 |[],_,f=>f
 |_::xs,ys,f=>AZ (xs:=xs) f.2.2.2
abbrev oA(x:Str):Prop:=Pr nA [du x] (rd (.bl true))
structure aG (h:aF):Prop where
 fwd:lZ h.carts h.af
 sm:qG h
 nm:∀b∈h.af,oA b.name
 cm:∀c∈h.carts,oA c
 lg:∀b∈h.af,1<=b.long/\(b.ring=true->2<=b.long)
 hd:∀b∈h.af,h.carts.getD 0 ""∈b.outs\/∃o∈b.outs,o∈h.af.map av.name
 cn:h.carts.Nodup
 c0:0<h.carts.length
 nd:∀b∈h.af,b.outs.Nodup
theorem wU(bs:List av)(h:bs.length<=1000000):Pr sy [.d (.lst (bs.map aw))] (.o (.lst (dS (bs.map av.name)))):=by
 have e:∀q S,bf (ae 0) (gq true) (L8 q) (bs.map aw) [none] S []=some (.ok (dS (bs.map av.name)) S):=λq S=>by
  rw[p_ (λb=>D.str (av.name b)) bs h λb m=>⟨rd (.str b.name),by
   rfl,rfl⟩,dS,fR]
  rfl
 intro q S;unfold sy Mm;simp only[↓ev,e,eA]
def mE(ks:List Str):List (TK×D):=ks.map λk=>(TK.inr k,.bl true)
noncomputable def gG(ks:List Str)(k:Str):List Str:=if ks.contains k then ks else ks++[k]
theorem ve(x:Str):∀ks:List Str,(aN (mE ks) (.inr x)).isSome=ks.contains x
 |[]=>rfl
 |k::ks=>by
  have ih:=ve x ks;unfold aN mE at *;rw[cR,Av,List.contains_cons];by_cases e:k=x
  .rw[qg (by rw[e]),e,dP]
   rfl
  .rw[pV (λz=>e (TK.inr.inj z)),show(x == k)=false by rw[m7];exact λz=>e z.symm]
   rw[Bool.false_or];exact ih
theorem Ft(k:Str):∀ks:List Str,bR (mE ks) (.inr k) (.bl true)=mE (gG ks k)
 |[]=>rfl
 |j::ks=>by
  have ih:=Ft k ks
  grind [mE,bR,gG]
theorem IY(ks:List Str):(mE ks).length=ks.length:=by unfold mE;rw[bJ]
theorem N8(ks:List Str)(k:Str):(gG ks k).length<=ks.length+1:=by
 unfold gG;split
 .lia
 .rw[dw,sW];exact bU _
theorem Vl{k n:Str}:n∈gG ks k↔n=k\/n∈ks:=by
 grind [gG]
theorem ZZ{x:Str}{S:aR}{n:Nat}(hs:S.s[n]?=some (.o (.ay (mE ks))))(hn:oA x)(hx:ks.contains x=false)(hl:(ks.length<1000000)=True):zv 0 [du x,.c n] S=some (.ok (rd .aJ) ⟨S.s.set n (.o (.ay (mE (gG ks x)))),S.r⟩):=by
 unfold zv Mz;simp only[↓ev,hn,aK,hs,ve,hx,IY,hl,Ft,PD]
variable{S:aR}{n:Nat}{ks carts:List Str}
noncomputable abbrev tk(S:aR)(n:Nat)(ks:List Str):aR:=⟨S.s.set n (.o (.ay (mE ks))),S.r⟩
theorem take1{x:Str}(hn:n<S.s.length)(hx:oA x)(h:x∉ks)(hl:ks.length<1000):zv 0 [du x,.c n] (tk S n ks)=some (.ok (rd .aJ) (tk S n (ks++[x]))):=by
 have hc:ks.contains x=false:=by simpa using h
 rw[ZZ (S:=tk S n ks) (n:=n) (uO hn) hx hc (bK (by lia))]
 grind [gG,List.set_set]
theorem SO{d0 a:aj Val}(hn:n<S.s.length)(nm:∀c∈carts,oA c)(nd:(ks++carts).Nodup)(hl:ks.length+carts.length<1000):
  ∃a',aL (ae 2) (D0 0) (dS carts) [d0,aO n,a] (tk S n ks)=some (.nx [d0,aO n,a'] (tk S n (ks++carts))):=by
 obtain⟨U',S',e,a',rfl,rfl⟩:=jG (gg:=ae 2) (body:=D0 0) (f:=D.str) (U:=[d0,aO n,a]) (S:=tk S n ks) (λpre U S'=>∃a',U=[d0,aO n,a']/\S'=tk S n (ks++pre)) carts ⟨a,rfl,by rw[kT]⟩ (by
  rintro d x r eq U S' ⟨a',rfl,rfl⟩;have h1:x∉ks++d:=by
   grind
  have h2:=congrArg List.length eq;rw[dw,j9] at h2;have h:=take1 hn (nm x (by rw[eq];simp)) h1 (by rw[dw];lia)
  refine⟨[d0,aO n,bH x],[d0,aO n,bH x],_,rfl,.inl ?_,_,rfl,rfl⟩;rw[<-lX];unfold D0;simp only[↓ev,h,w6])
 exact⟨a',e⟩
theorem XF(hn:n<S.s.length)(nm:∀c∈carts,oA c)(nd:(ks++carts).Nodup)(hl:ks.length+carts.length<1000)(h0:carts≠[]):D8 0 [.d (.lst (dS carts)),.c n] (tk S n ks)=some (.ok (rd .aJ) (tk S n (ks++carts))):=by
 obtain⟨a',e⟩:=SO (d0:=(ak (.lst (dS carts)))) (a:=none) hn nm nd hl;have z:(dS carts).isEmpty=false:=by cases carts with|nil=>exact bQ rfl h0|cons _ _=>rfl
 have lc:∀vE,(tk S n vE).cut (tk S n ks).s.length=tk S n vE:=λvE=>by unfold aR.cut;simp only[v7];rw[DJ (by rw[v7];exact bU _)]
 unfold D8 Md;simp only[↓ev,g9,e,z,j_,aK,lc]
variable{S:aR}{n:Nat}{ks:List Str}
theorem Z0{c:Cell}{vE:List Str}:(tk S n vE).cut (S.s.set n c).length=tk S n vE:=by
 grind [aR.cut,List.take_of_length_le]
theorem SQ{bs:List av}{d0 a2 a3 a4 a5 a6:aj Val}(hn:n<S.s.length)(nm:∀b∈bs,oA b.name)(lg:∀b∈bs,1<=b.long/\(b.ring=true->2<=b.long))(nd:(ks++bs.map av.name).Nodup)(hl:ks.length+bs.length<1000):
  ∃b2 b3 b4 b5 b6,aL (bC [(ae 2),(ae 3),(ae 4),(ae 5)]) (D5 0) (bs.map aw) [d0,aO n,a2,a3,a4,a5,a6] (tk S n ks)=some (.nx [d0,aO n,b2,b3,b4,b5,b6] (tk S n (ks++bs.map av.name))):=by
 obtain⟨U',S',e,b2,b3,b4,b5,b6,rfl,rfl⟩:=jG (gg:=bC [(ae 2),(ae 3),(ae 4),(ae 5)]) (body:=D5 0) (f:=aw) (U:=[d0,aO n,a2,a3,a4,a5,a6]) (S:=tk S n ks) (λpre U S'=>∃b2 b3 b4 b5 b6,U=[d0,aO n,b2,b3,b4,b5,b6]/\S'=tk S n (ks++pre.map av.name)) bs ⟨a2,a3,a4,a5,a6,rfl,by rw[DH,kT]⟩ (by
  rintro d x r eq U S' ⟨b2,b3,b4,b5,b6,rfl,rfl⟩;have h1:x.name∉ks++d.map av.name:=by
   grind
  have h2:=congrArg List.length eq;rw[dw,j9] at h2;have mx:x∈bs:=by rw[eq];simp
  have h:=take1 hn (nm x mx) h1 (by rw[dw,bJ];lia)
  obtain⟨l1,l2⟩:=lg x mx;have e1:∀b,bC [(ae 2),(ae 3),(ae 4),(ae 5)] (aw x) [d0,aO n,b2,b3,b4,b5,b]=some [d0,aO n,bH x.name,cD x.long,ak (.bl x.ring),ak (.lst (dS x.outs)),b]:=λ_=>rfl
  refine⟨_,[d0,aO n,bH x.name,cD x.long,ak (.bl x.ring),ak (.lst (dS x.outs)),cD (if x.ring=true then 2 else 1)],_,e1 _,.inl ?_,_,_,_,_,_,rfl,rfl⟩
  rw[gf,cR,DH,<-lX];unfold D5;cases hr:x.ring with
  |true=>
   have z:(x.long<2)=False:=eq_false (by have:=l2 hr;lia)
   simp only[↓ev,h,w6,aS,z,decide_false,aK]
  |false=>
   have z:(x.long<1)=False:=eq_false (by lia)
   simp only[↓ev,h,w6,aK,aS,z,decide_false])
 exact⟨b2,b3,b4,b5,b6,e⟩
theorem XG{bs:List av}(hn:n<S.s.length)(nm:∀b∈bs,oA b.name)(lg:∀b∈bs,1<=b.long/\(b.ring=true->2<=b.long))(nd:(ks++bs.map av.name).Nodup)(hl:ks.length+bs.length<1000):D9 0 [.d (.lst (bs.map aw)),.c n] (tk S n ks)=some (.ok (rd .aJ) (tk S n (ks++bs.map av.name))):=by
 obtain⟨b2,b3,b4,b5,b6,e⟩:=SQ (d0:=(ak (.lst (bs.map aw)))) (a2:=none) (a3:=none) (a4:=none) (a5:=none) (a6:=none) hn nm lg nd hl;unfold D9 Me;simp only[↓ev,g9,e,Z0]
variable{ks:List Str}
noncomputable abbrev gM(S:aR)(ks:List Str):aR:=⟨S.s++[.o (.ay (mE ks))],S.r⟩
def bP(b:Str)(ks:List Str)(x:av):List Str:=if(x.name == b || ks.contains x.name)=true then x.outs.foldl gG ks else ks
theorem N9(outs:List Str):∀ks:List Str,(outs.foldl gG ks).length<=ks.length+outs.length:=by
 induction outs with
 |nil=>intro ks;exact bU _
 |cons o outs ih=>
  grind [N8]
section
variable{S:aR}{g0 g1 g3 g4 g5 g6 a:aj Val}
theorem KL{o:Str}(hl:(ks.length<1000000)=True):AV 0 [g0,g1,aO S.s.length,g3,g4,g5,g6,bH o] (gM S ks)=some (.nx [g0,g1,aO S.s.length,g3,g4,g5,g6,bH o] (gM S (gG ks o))):=by
 unfold AV;simp only[↓ev,eK,IY,hl,Ft,jv]
theorem Vm(outs ks:List Str)(h:ks.length+outs.length<1000000):∃a',aL (ae 7) (AV 0) (dS outs) [g0,g1,aO S.s.length,g3,g4,g5,g6,a] (gM S ks)=some (.nx [g0,g1,aO S.s.length,g3,g4,g5,g6,a'] (gM S (outs.foldl gG ks))):=by
 obtain⟨U',S',e,a',rfl,rfl⟩:=jG (gg:=ae 7) (body:=AV 0) (f:=D.str) (U:=[g0,g1,aO S.s.length,g3,g4,g5,g6,a]) (S:=gM S ks) (λpre U S'=>∃a',U=[g0,g1,aO S.s.length,g3,g4,g5,g6,a']/\S'=gM S (pre.foldl gG ks)) outs ⟨a,rfl,rfl⟩ (by
  rintro d x r eq U S' ⟨a',rfl,rfl⟩;have h2:=congrArg List.length eq;rw[dw,j9] at h2;have:=N9 d ks;refine⟨_,_,_,rfl,.inl (KL (bK (by lia))),_,rfl,by rw[LK];rfl⟩)
 exact⟨a',e⟩
theorem SR(b:Str)(bs:List av)(ks:List Str)(a3 a4 a5 a6 a7:aj Val)(h:ks.length+(bs.map λx=>x.outs.length).sum<1000000):∃b3 b4 b5 b6 b7,aL (bC [(ae 3),(ae 4),(ae 5),(ae 6)]) (zw 0) (bs.map aw) [g0,bH b,aO S.s.length,a3,a4,a5,a6,a7] (gM S ks)=some (.nx [g0,bH b,aO S.s.length,b3,b4,b5,b6,b7] (gM S (bs.foldl (bP b) ks))):=by
 obtain⟨U',S',e,b3,b4,b5,b6,b7,rfl,rfl,_⟩:=jG (gg:=bC [(ae 3),(ae 4),(ae 5),(ae 6)]) (body:=zw 0) (f:=aw) (U:=[g0,bH b,aO S.s.length,a3,a4,a5,a6,a7]) (S:=gM S ks) (λpre U S'=>∃b3 b4 b5 b6 b7,U=[g0,bH b,aO S.s.length,b3,b4,b5,b6,b7]/\S'=gM S (pre.foldl (bP b) ks)/\(pre.foldl (bP b) ks).length<=ks.length+(pre.map λx=>x.outs.length).sum) bs ⟨a3,a4,a5,a6,a7,rfl,rfl,Gv _ _⟩ (by
  rintro d x r eq U S' ⟨b3,b4,b5,b6,b7,rfl,rfl,hl⟩;rw[eq,gf,cR,List.sum_append,List.sum_cons] at h;have hf:=N9 x.outs (d.foldl (bP b) ks);have e1:bC [(ae 3),(ae 4),(ae 5),(ae 6)] (aw x) [g0,bH b,aO S.s.length,b3,b4,b5,b6,b7]=some [g0,bH b,aO S.s.length,bH x.name,cD x.long,ak (.bl x.ring),ak (.lst (dS x.outs)),b7]:=rfl;rw[LK,gf,List.sum_append];show ∃U1 U' S',_/\_/\∃b3 b4 b5 b6 b7,U'=_/\S'=gM S (bP b (d.foldl (bP b) ks) x)/\(bP b (d.foldl (bP b) ks) x).length<=_+(_+(x.outs.length+0));obtain⟨a',e2⟩:=Vm (S:=S) (g0:=g0) (g1:=(bH b)) (g3:=(bH x.name)) (g4:=(cD x.long)) (g5:=(ak (.bl x.ring))) (g6:=(ak (.lst (dS x.outs)))) (a:=b7) x.outs (d.foldl (bP b) ks) (by lia)
  generalize d.foldl (bP b) ks=ks1 at *;unfold bP;cases c1:x.name == b with
  |true=>
   refine⟨_,_,_,e1,.inl (by unfold zw;simp only[↓ev,aK,eC,c1,g9,e2] <;> rfl),_,_,_,_,_,rfl,?_,?_⟩
   all_goals lia
  |false=>
   cases c2:ks1.contains x.name with
   |true=>
    refine⟨_,_,_,e1,.inl (by unfold zw;simp only[↓ev,aK,eC,c1,eK,ve,c2,g9,e2] <;> rfl),_,_,_,_,_,rfl,?_,?_⟩
    .rw[LR,bL rfl]
    .rw[LR,bL rfl];lia
   |false=>
    refine⟨_,_,_,e1,.inl (by unfold zw;simp only[↓ev,aK,eC,c1,eK,ve,c2] <;> rfl),_,_,_,_,_,rfl,?_,?_⟩
    all_goals lia)
 exact⟨b3,b4,b5,b6,b7,e⟩
theorem R9(q:Nat)(xs:List Str)(h:xs.length<=1000000):bf (ae 0) (Ht q) (Hu q) (dS xs) [none,aO S.s.length] (gM S ks) []=some (.ok (dS (xs.filter λo=>ks.contains o)) (gM S ks)):=by
 rw[dS,tR (λo=>if ks.contains o=true then some (.str o) else none) xs (by lia) λo m=>by
  unfold Ht Hu;cases hc:ks.contains o with
  |true=>exact .inr ⟨rd (.str o),.str o,rfl,by simp only[↓ev,eK,aK,ve,hc],by simp only[↓ev],rfl⟩
  |false=>exact .inl ⟨rfl,by simp only[↓ev,eK,aK,ve,hc]⟩]
 congr 2
 induction xs with
 |nil=>rfl
 |cons o r ih=>
  grind
theorem Ud{h:aF}(sm:qG h)(b:Str):P0 EC [.d (aB h),du b] (.o (.lst (dS ((h.af.map av.name++h.carts).filter λx=>(h.af.foldl (bP b) []).contains x)))):=by
 intro S;have h1:=sm.bl;have h2:=sm.ct;have h3:=sm.ou;obtain⟨b3,b4,b5,b6,b7,e⟩:=SR (S:=S) (g0:=(ak (aB h))) b h.af [] none none none none none (by rw[Aq];lia)
 have hn:=wU h.af (by lia)
 have hc:=λq=>R9 (S:=S) (ks:=h.af.foldl (bP b) []) q (h.af.map av.name++h.carts) (by rw[dw,bJ];lia)
 have ap:dS (h.af.map av.name)++dS h.carts=dS (h.af.map av.name++h.carts):=gf.symm;have le:((dS (h.af.map av.name)).length+(dS h.carts).length<=1000000)=True:=bK (by rw[bJ,bJ,bJ];lia)
 have hD:aB h=.tup [.lst (h.af.map aw),.lst (dS h.carts)]:=rfl;rw[show gM S []=⟨S.s++[.o (.ay [])],S.r⟩ from rfl] at e;rw[hD] at e ⊢;unfold EC Nk;simp only[↓ev,aS,bV,g9,e,gM,hn,cQ,le,ap,hc,qQ]
end
variable{outs:List Str}{b n:Str}{h:aF}
def Ql(bs:List av)(b:Str):List Str:=bs.foldl (bP b) []
inductive RR (bs:List av) (outs:List Str):Str->Prop
 |base {n:Str}:n∈outs->RR bs outs n
 |step {m n:Str} {b:av}:RR bs outs m->b∈bs->b.name=m->n∈b.outs->RR bs outs n
theorem iz:∀{ks:List Str} {n:Str},n∈outs.foldl gG ks↔n∈outs\/n∈ks:=by
 induction outs with
 |nil=>intro ks n;simp
 |cons o outs ih=>
  grind [Vl]
theorem Ue{ks:List Str}{x:av}(h:n∈ks):n∈bP b ks x:=by
 unfold bP;split
 .exact iz.mpr (.inr h)
 .exact h
theorem Ug{bs:List av}:∀{ks:List Str} {n:Str},n∈ks->n∈bs.foldl (bP b) ks:=by
 induction bs with
 |nil=>intro ks n h;exact h
 |cons x bs ih=>intro ks n h;exact ih (Ue h)
theorem Nr{carts:List Str}{b:Str}:∀{bs:List av} {ks:List Str} {n:Str},lZ carts bs->n∈bs.foldl (bP b) ks->n∈ks\/n∈bs.tail.map av.name\/n∈carts
 |[],ks,n,_,h=>.inl h
 |x::bs,ks,n,f,h=>by
  rcases Nr f.2.2.2 h with z|z|z
  .unfold bP at z;split at z
   .rcases iz.mp z with z|z
    .rcases f.1 n z with z|z
     .exact .inr (.inl z)
     .exact .inr (.inr z)
    .exact .inl z
   .exact .inl z
  .refine .inr (.inl ?_);cases bs with
   |nil=>exact z
   |cons y bs=>exact mY _ z
  .exact .inr (.inr z)
theorem Hr{carts:List Str}{b:Str}:∀{bs:List av} {ks:List Str},lZ carts bs->∀x∈bs,(x.name=b\/x.name∈bs.foldl (bP b) ks)->∀o∈x.outs,o∈bs.foldl (bP b) ks
 |y::bs,ks,f,x,hx,hn,o,ho=>by
  rcases y0a.mp hx with rfl|hx
  .have h1:(x.name == b || ks.contains x.name)=true:=by
    rcases hn with hn|hn
    .lia
    .rcases Nr (b:=b) f hn with z|z|z
     .simp_all
     .exact bQ z f.2.1
     .exact bQ z f.2.2.1
   show o∈bs.foldl (bP b) (bP b ks x);refine Ug ?_;unfold bP;rw[bL h1];exact iz.mpr (.inl ho)
  .exact Hr (ks:=bP b ks y) f.2.2.2 x hx hn o ho
theorem N_{BD:List av}{b:av}(hb:b∈BD)(hu:∀x∈BD,x.name=b.name->x=b):∀{bs:List av} {ks:List Str},(∀x∈bs,x∈BD)->(∀n∈ks,RR BD b.outs n)->∀n∈bs.foldl (bP b.name) ks,RR BD b.outs n
 |[],ks,_,h,n,hn=>h n hn
 |x::bs,ks,hs,h,n,hn=>N_ hb hu (λy hy=>hs y (mY _ hy)) (λm hm=>by
   unfold bP at hm;split at hm
   .rename_i hc
    rcases iz.mp hm with z|z
    .rw[Bool.or_eq_true,beq_iff_eq,lV] at hc;rcases hc with hc|hc
     .rw[hu x (hs x uN) hc] at z;exact .base z
     .exact .step (h _ hc) (hs x uN) rfl z
    .exact h m z
   .exact h m hm) n hn
theorem Uh(f:lZ h.carts h.af){b:av}(hb:b∈h.af)(n:Str):n∈Ql h.af b.name↔RR h.af b.outs n:=by
 unfold Ql;constructor
 .exact N_ hb (λx hx e=>Bd f x hx b hb e) (λ_ m=>m) (λ_ m=>by cases m) n
 .intro r
  induction r with
  |base m=>exact Hr f b hb (.inl rfl) _ m
  |step r hx hn hm ih=>exact Hr f _ hx (.inr (by rw[hn];exact ih)) _ hm
theorem Vw{bs:List av}{w:av}(hw:w∈bs)(r:RR bs outs w.name)(r2:RR bs w.outs n):RR bs outs n:=by
 induction r2 with
 |base m=>exact .step r hw rfl m
 |step _ hb hn hm ih=>exact .step ih hb hn hm
theorem IG{h:aF}(g:aG h):∀{bs pre:List av},h.af=pre++bs->∀b∈bs,RR h.af b.outs (h.carts.getD 0 "")
 |x::bs,pre,eq,b,hb=>by
  have zY:h.af=(pre++[x])++bs:=by rw[eq];simp
  rcases y0a.mp hb with rfl|hb
  .have FL:b∈h.af:=by rw[eq];simp
   have fx:lZ h.carts (b::bs):=AZ (by rw[<-eq];exact g.fwd)
   rcases g.hd b FL with z|⟨o,z1,z2⟩
   .exact .base z
   .rcases fx.1 o z1 with y|y
    .obtain⟨w,hw,ew⟩:=fQ.mp y;exact Vw (w:=w) (by rw[zY];simp[hw]) (by rw[ew];exact .base z1) (IG g zY w hw)
    .exact bQ z2 (EE g.fwd o y)
  .exact IG g zY b hb
theorem Bl(g:aG h):h.carts.getD 0 ""∈h.carts/\dR (dS h.carts) 0=some (.str (h.carts.getD 0 "")):=by
 have:=g.c0;cases FQ:h.carts with
 |nil=>rw[FQ] at this;simp at this
 |cons c cs=>exact⟨by simp,tH (j:=0) rfl⟩
theorem Z4(g:aG h):P0 Ee [.d (aB h)] (rd .aJ):=by
 intro S;have bl:=g.sm.bl;obtain⟨hc,i0⟩:=Bl g;have e1:=wU h.af (by lia)
 obtain⟨U',S',e,a,rfl,rfl⟩:=jG (gg:=ae 2) (body:=He 0) (f:=D.str) (U:=[ak (aB h),bH (h.carts.getD 0 ""),none]) (S:=S) (λ_ U S'=>∃a,U=[ak (aB h),bH (h.carts.getD 0 ""),a]/\S'=S) (h.af.map av.name) ⟨_,rfl,rfl⟩ (by
  rintro d x r eq U S' ⟨a,rfl,rfl⟩;obtain⟨b,hb,rfl⟩:∃b∈h.af,b.name=x:=fQ.mp (by rw[eq];simp)
  have e1:=Ud g.sm b.name;have hm:((h.af.map av.name++h.carts).filter λx=>(h.af.foldl (bP b.name) []).contains x).contains (h.carts.getD 0 "")=true:=by
   rw[lV,sU];exact⟨mZ _ hc,lV.mpr ((Uh g.fwd hb _).mpr (IG g (pre:=[]) rfl b hb))⟩
  refine⟨[ak (aB h),bH (h.carts.getD 0 ""),bH b.name],_,_,rfl,.inl ?_,bH b.name,rfl,rfl⟩;unfold He;generalize((h.af.map av.name++h.carts).filter λx=>(h.af.foldl (bP b.name) []).contains x)=l at *
  generalize h.carts.getD 0 ""=hand at *;simp only[↓ev,e1,iF,ik,hm,fB,aK])
 have hD:aB h=.tup [.lst (h.af.map aw),.lst (dS h.carts)]:=rfl;generalize h.carts.getD 0 ""=hand at *;rw[hD] at e ⊢;unfold Ee Mp;simp only[↓ev,cQ,i0,aS,bV,e1,g9,e,eA]
theorem Ms{x z:Str}:∀{ys:List Str} {j:Nat},ys[j]?=some z->x∈ys->x≠z->x∈ys.eraseIdx j
 |y::ys,0,e,hx,fU=>by
  simp_all
 |y::ys,j+1,e,hx,fU=>by
  rw[List.getElem?_cons_succ] at e;show x∈y::ys.eraseIdx j;rcases y0a.mp hx with rfl|hx
  .exact .head _
  .exact .tail _ (Ms e hx fU)
 |[],_,_,hx,_=>by cases hx
theorem EF{z:Str}{ys:List Str}(h:z∈ys):∃j,findS ys z=some j:=by
 cases q:findS ys z with
 |some j=>exact⟨j,rfl⟩
 |none=>
  unfold findS at q;rw[List.findIdx?_eq_none_iff] at q;have:=q z h;simp at this
theorem Vx(L:List Str)(j:Nat):(dS L).eraseIdx j=dS (L.eraseIdx j):=by
 grind [List.eraseIdx_eq_take_drop_succ,List.map_take,List.map_drop]
section
variable{S:aR}{s0 s1 s2 s3 s4 s5 a7:aj Val}
theorem KR{L:List Str}{x:Str}{j:Nat}(hc:L.contains x=true)(hj:findS L x=some j):AQ 0 [s0,s1,s2,s3,s4,s5,aO S.s.length,bH x] (bT S (dS L))=some (.nx [s0,s1,s2,s3,s4,s5,aO S.s.length,bH x] (bT S (dS (L.eraseIdx j)))):=by
 have h:=Ng L;unfold AQ;simp only[↓ev,bT,eK,iF,ik,hc,fB,aK,h,hj,Vx,jv]
theorem XH(outs L:List Str)(nd:outs.Nodup)(hs:∀o∈outs,o∈L):∃L' b7,aL (ae 7) (AQ 0) (dS outs) [s0,s1,s2,s3,s4,s5,aO S.s.length,a7] (bT S (dS L))=some (.nx [s0,s1,s2,s3,s4,s5,aO S.s.length,b7] (bT S (dS L'))):=by
 obtain⟨U',S',e,L',b7,rfl,rfl,_⟩:=jG (gg:=ae 7) (body:=AQ 0) (f:=D.str) (U:=[s0,s1,s2,s3,s4,s5,aO S.s.length,a7]) (S:=bT S (dS L)) (λpre U S'=>∃L' b7,U=[s0,s1,s2,s3,s4,s5,aO S.s.length,b7]/\S'=bT S (dS L')/\∀o∈outs,o∉pre->o∈L') outs ⟨L,a7,rfl,rfl,λo ho _=>hs o ho⟩ (by
  rintro q x post eq U S' ⟨L',b7,rfl,rfl,hL⟩;have hxq:x∉q:=λz=>by
   rw[eq] at nd;exact(lY.mp nd).2.2 x z x (.head _) rfl
  have hx:x∈L':=hL x (by rw[eq];simp) hxq
  obtain⟨j,hj⟩:=EF hx;refine⟨_,_,_,rfl,.inl (KR (lV.mpr hx) hj),L'.eraseIdx j,bH x,rfl,rfl,λo ho hq=>?_⟩
  simp only[gw,lW,not_or] at hq;exact Ms (AX hj).1 (hL o ho hq.1) hq.2)
 exact⟨L',b7,e⟩
end
theorem Vy(q:List av)(x:av)(post:List av)(i:Int)(hi:i=(q.length:Nat)):cutD ((q++x::post).map aw) (some (i+1)) none=post.map aw:=by
 unfold cutD;have e4:HT.cG ((q++x::post).map aw).length 0 (some (i+1))=q.length+1:=by
  grind [HT.cG]
 have e5:HT.cG ((q++x::post).map aw).length ((q++x::post).map aw).length none=((q++x::post).map aw).length:=rfl;have e6:((q++x::post).map aw).drop (q.length+1)=post.map aw:=by
  rw[<-GI,show q++x::post=(q++[x])++post by simp,List.drop_left' (by simp)]
 grind
section
variable{S:aR}{h:aF}
theorem Vz{d0:List D}{cs:List Str}{i:Int}{x:av}{post:List av}{a4 a5 a6 a7:aj Val}(hs:cutD d0 (some (i+1)) none=post.map aw)(hp:post.length<=1000)(hc:cs.length<=1000)(nd:x.outs.Nodup)(sb:∀o∈x.outs,o∈post.map av.name++cs)(ne:x.outs≠[]):
  ∃L' b7,D7 0 [ak (.lst d0),ak (.lst (dS cs)),cD i,ak (aw x),a4,a5,a6,a7] S=some (.nx [ak (.lst d0),ak (.lst (dS cs)),cD i,ak (aw x),bH x.name,ak (.lst (dS x.outs)),aO S.s.length,b7] (bT S (dS L'))):=by
 obtain⟨L',b7,e⟩:=XH (S:=S) (s0:=(ak (.lst d0))) (s1:=(ak (.lst (dS cs)))) (s2:=(cD i)) (s3:=(ak (aw x))) (s4:=(bH x.name)) (s5:=(ak (.lst (dS x.outs)))) (a7:=a7) x.outs (post.map av.name++cs) nd sb;have e1:=wU post (by lia)
 have ap:dS (post.map av.name)++dS cs=dS (post.map av.name++cs):=gf.symm;have le:((dS (post.map av.name)).length+(dS cs).length<=1000000)=True:=bK (by rw[bJ,bJ,bJ];lia)
 have z:(dS x.outs).isEmpty=false:=by cases hz:x.outs with|nil=>exact bQ hz ne|cons _ _=>rfl
 have hD:aw x=.tup [.str x.name,.int x.long,.bl x.ring,.lst (dS x.outs)]:=rfl;refine⟨L',b7,?_⟩;rw[hD] at e ⊢;unfold D7;simp only[↓ev,bV,aS,lr,Q8,hs,e1,le,ap,g9,e,z,j_,aK]
theorem Ui(g:aG h)(ho:∀b∈h.af,b.outs≠[]):P0 Eb [.d (.lst (h.af.map aw)),.d (.lst (dS h.carts))] (rd .aJ):=by
 intro S;have bl:=g.sm.bl;have ct:=g.sm.ct;have fw:=g.fwd;obtain⟨U',S',e,a2,a3,a4,a5,a6,a7,L,rfl,rfl⟩:=e6o (gg:=bC [(ae 2),(ae 3)]) (body:=D7 0) (U:=[ak (.lst (h.af.map aw)),ak (.lst (dS h.carts)),none,none,none,none,none,none]) (S:=S) aw (λpre U S'=>∃a2 a3 a4 a5 a6 a7 L,U=[ak (.lst (h.af.map aw)),ak (.lst (dS h.carts)),a2,a3,a4,a5,a6,a7]/\S'=⟨S.s++L,S.r⟩) h.af ⟨_,_,_,_,_,_,[],rfl,by rw[kT]⟩ (by
  rintro q x post eq U S' ⟨a2,a3,a4,a5,a6,a7,L,rfl,rfl⟩;have hb:x∈h.af:=by rw[eq];simp
  have hl:=congrArg List.length eq;rw[dw,j9] at hl;have fx:lZ h.carts (x::post):=AZ (by rw[<-eq];exact fw)
  have hs:=Vy q x post (q.length:Nat) rfl;rw[<-eq] at hs;obtain⟨L',b7,e⟩:=Vz (S:=⟨S.s++L,S.r⟩) (a4:=a4) (a5:=a5) (a6:=a6) (a7:=a7) (cs:=h.carts) hs (by lia) (by lia) (g.nd x hb) (λo m=>by
   rcases fx.1 o m with z|z
   .exact DF _ z
   .exact mZ _ z) (ho x hb)
  exact⟨_,_,_,rfl,e,_,_,_,_,_,_,L++[.o (.lst (dS L'))],rfl,by unfold bT;rw[lX]⟩)
 unfold Eb Mo;simp only[↓ev,g9,e,qQ]
theorem MU(g:aG h):(h.carts++h.af.map av.name).Nodup:=by
 refine lY.mpr ⟨g.cn,?_,λa ha b hb e=>EE g.fwd a ha (e ▸ hb)⟩
 have:∀{bs:List av},lZ h.carts bs->(bs.map av.name).Nodup:=by
  intro bs
  induction bs with
  |nil=>intro _;exact .nil
  |cons b bs ih=>intro f;exact sf.mpr ⟨f.2.1,ih f.2.2.2⟩
 exact this g.fwd
theorem XI(g:aG h):P0 Ea [.d (aB h)] (rd (.bl true)):=by
 intro S;have ho:∀b∈h.af,b.outs≠[]:=λb hb z=>by
  rcases g.hd b hb with y|⟨o,y,_⟩
  all_goals simp_all
 have bl:=g.sm.bl;have ct:=g.sm.ct;have nd:=MU g;have c0:h.carts≠[]:=λz=>by have:=g.c0;rw[z] at this;cases this
 have ln:∀c,S.s.length<(S.s++[c]:List Cell).length:=λc=>by rw[dw];exact pS _
 have e1:=XF (S:=⟨S.s++[.o (.ay [])],S.r⟩) (n:=S.s.length) (ks:=[]) (carts:=h.carts) (ln _) g.cm (by rw[Dz];exact g.cn) (by rw[Aq];lia) c0
 have e2:=XG (S:=⟨S.s++[.o (.ay [])],S.r⟩) (n:=S.s.length) (ks:=h.carts) (bs:=h.af) (ln _) g.nm g.lg nd (by lia)
 have se:∀c:Cell,(S.s++[Cell.o (.ay [])]).set S.s.length c=S.s++[c]:=λc=>jv
 simp only[tk,se,qqc] at e1 e2;have k0:mE []=[]:=rfl;rw[k0] at e1;have e3:=Ui g ho;have e4:=Z4 g;have hD:aB h=.tup [.lst (h.af.map aw),.lst (dS h.carts)]:=rfl;rw[hD] at e4 ⊢;unfold Ea Mh;simp only[↓ev,bV,aS,cQ,e1,e2,e3,e4,qQ]
end
theorem Nt(names carts:List Str)(nd:names.Nodup)(dj:∀x∈names,x∉carts):∀(bs:List av) (j:Nat),j+bs.length=names.length->(∀i b,bs[i]?=some b->b.name=names.getD (j+i) ""/\∀o∈b.outs,o∈names.drop (j+i+1)++carts)->lZ carts bs/\bs.map av.name=names.drop j
 |[],j,hl,_=>⟨sg,by rw[List.drop_eq_nil_of_le (by simp at hl;lia)];rfl⟩
 |b::bs,j,hl,h=>by
  rw[j9] at hl;obtain⟨f,e⟩:=Nt names carts nd dj bs (j+1) (by lia) λi b hb=>by
   have:=h (i+1) b (by simpa using hb)
   rw[show j+(i+1)=j+1+i by lia] at this
   exact this
  obtain⟨h1,h2⟩:=h 0 b rfl;rw[Nat.add_zero] at h1 h2;have hj:j<names.length:=by lia
  have ed:names.drop j=names[j]::names.drop (j+1):=LF hj;have en:b.name=names[j]:=by rw[h1,y9,gz hj];rfl
  have nd':(names.drop j).Nodup:=nd.sublist (List.drop_sublist _ _);rw[ed] at nd';refine⟨⟨λo ho=>?_,?_,?_,f⟩,by rw[cR,e,en,ed]⟩
  all_goals grind
noncomputable def pO(bs:List av):Int:=(bs.map av.long).sum
theorem Dc:∀{bs:List av},(∀b∈bs,b.long<=6)->pO bs<=6*bs.length
 |[],_=>by unfold pO;simp
 |b::bs,h=>by
  have h1:=h b (.head _);have h2:=Dc (bs:=bs) λx m=>h x (.tail _ m)
  unfold pO at *;rw[cR,List.sum_cons,j9];lia
theorem C_{bs:List av}(hl:bs.length<=5)(h:∀(i:Nat) (b:av),bs[i]?=some b->b.long<=26/\(b.long<=6\/i=0/\bs.length<3)):pO bs<=39:=by
 by_cases z:bs.length<3
 .clear hl;unfold pO;cases bs with
  |nil=>simp
  |cons a l=>
   have:=h 0 a rfl;cases l with
   |nil=>simp;lia
   |cons b l=>
    have:=h 1 b rfl;cases l with
    |nil=>simp;lia
    |cons c l=>simp at z;lia
 .have:=Dc (bs:=bs) λb m=>by
   obtain⟨i,hi⟩:=yY.mp m;have:=h i b hi;lia
  lia
theorem XJ(ns:List Int):∃h:aF,aG h/\pO h.af<=39/\0<h.af.length/\h.af.length<=5/\h.carts.length<=4/\P0 zA [.d (bh ns)] (rd (aB h)):=by
 obtain⟨p1,p2,p3⟩:=gF ns 0 0 5 (by decide) (by decide) (by decide)
 obtain⟨q1,q2,q3⟩:=gF ns 0 1 4 (by decide) (by decide) (by decide)
 have hp:=xp ns 0 5 (by decide) (by decide)
 have ho:=u_ ns 0 4 (by decide) (by decide)
 have e1:=λq S=>SK q S ns (1+bo ns 0 0 5).toNat (by lia)
 have e2:=λq S=>SM q S ns (1+bo ns 0 1 4).toNat (by lia)
 have nl:((List.range (1+bo ns 0 0 5).toNat).map (i4 ns 11)).length=(1+bo ns 0 0 5).toNat:=by simp
 have cl:((List.range (1+bo ns 0 1 4).toNat).map λi=>i4 ns 11 (10+i)).length=(1+bo ns 0 1 4).toNat:=by simp
 have nnd:((List.range (1+bo ns 0 0 5).toNat).map (i4 ns 11)).Nodup:=N7 ns _ LH λi m=>by have:=pR.mp m;lia
 have Vv:((List.range (1+bo ns 0 1 4).toNat).map λi=>i4 ns 11 (10+i)).Nodup:=by
  rw[show(λi=>i4 ns 11 (10+i))=i4 ns 11∘(10+·) from rfl,<-fR]
  refine N7 ns _ ?_ λi m=>?_
  .rw[List.Nodup,Ax];exact LH.imp λne z=>ne (by lia)
  grind
 have dj:∀x∈(List.range (1+bo ns 0 0 5).toNat).map (i4 ns 11),x∉(List.range (1+bo ns 0 1 4).toNat).map λi=>i4 ns 11 (10+i):=λx hx hc=>by
  obtain⟨i,hi,rfl⟩:=fQ.mp hx;obtain⟨j,hj,e⟩:=fQ.mp hc;have h1:=pR.mp hi;have h2:=pR.mp hj;have:=Qk ns 11 (by decide) _ _ (by lia) (by lia) e
  lia
 have Kq:∀x∈(List.range (1+bo ns 0 0 5).toNat).map (i4 ns 11),oA x:=λx hx=>by
  obtain⟨i,hi,rfl⟩:=fQ.mp hx;exact Nq _ (zV ns 11 (by decide) i).1 (zV ns 11 (by decide) i).2 (N3 ns 11 (by decide) i)
 have nmC:∀x∈(List.range (1+bo ns 0 1 4).toNat).map (λi=>i4 ns 11 (10+i)),oA x:=λx hx=>by
  obtain⟨i,hi,rfl⟩:=fQ.mp hx;exact Nq _ (zV ns 11 (by decide) (10+i)).1 (zV ns 11 (by decide) (10+i)).2 (N3 ns 11 (by decide) (10+i))
 generalize(List.range (1+bo ns 0 0 5).toNat).map (i4 ns 11)=names at *;generalize((List.range (1+bo ns 0 1 4).toNat).map λi=>i4 ns 11 (10+i))=carts at *
 obtain⟨hand,hh⟩:∃x,carts.head?=some x:=by
  cases carts with
  |nil=>simp at cl;lia
  |cons a b=>exact⟨a,rfl⟩
 obtain⟨⟨bs,a4,a5,a6⟩,⟨bl,bp⟩,e3⟩:=Qg (gg:=ae 4) (body:=nY 0) (f:=λ(i:Nat)=>D.int (i:Int)) (λ(b:List av×aj Val×aj Val×aj Val) S=>([ak (bh ns),ak (.lst (dS names)),ak (.lst (dS carts)),aO S.s.length,b.2.1,b.2.2.1,b.2.2.2],bT S (b.1.map aw)))
  (λpre b=>b.1.length=pre.length/\(∀i x,b.1[i]?=some x->x.name=names.getD i ""/\(1<=x.long/\x.long<=26/\(x.long<=6\/i=0/\names.length<3))/\(x.ring=true->2<=x.long)/\ny (names.drop (i+1)) carts hand x.outs)) (List.range (names.length:Int).toNat) ([],none,none,none) ⟨rfl,λi b e=>(by simp at e)⟩ (by
   rintro q i post eq ⟨bs,a4,a5,a6⟩ ⟨bl,bp⟩;obtain⟨hq,hi⟩:=Ii eq;dsimp only at bl bp;have hi:i<names.length:=by lia
   obtain⟨b,b1,b2,b3,b4,Hh,Ho,e⟩:=XE ns i names carts hand bs a5 a6 hi (by lia) hh (by lia) (by lia)
   refine⟨(bs++[b],cD i,Hh,Ho),⟨by show(bs++[b]).length=_;rw[dw,dw,bl];rfl,λj b' mT=>?_⟩,λS=>⟨_,rfl,.inl (e S)⟩⟩
   have mT:(bs++[b])[j]?=some b':=mT;by_cases hj:j<bs.length
   .rw[uQ hj] at mT;exact bp j b' mT
   .rw[sV (by lia)] at mT
    have:j - bs.length=0:=by
     have:=(eU.mp mT).1;simp at this;lia
    rw[this] at mT;cases mT;have ej:j=i:=by lia
    rw[ej];exact⟨b1,b2,b3,b4⟩)
 dsimp only at bl bp e3;rw[v8] at bl;have e3:=λS=>(congrArg (λl=>aL (ae 4) (nY 0) l _ _) (rT _)).trans (e3 S)
 obtain⟨fw,en⟩:=Nt names carts nnd dj bs 0 (by lia) λi b hb=>by
  rw[DM];exact⟨(bp i b hb).1,(bp i b hb).2.2.2.sub⟩
 rw[List.drop_zero] at en;have gi:∀b∈bs,∃i,bs[i]?=some b:=λb hb=>yY.mp hb
 have hg:carts.getD 0 ""=hand:=by
  cases carts with
  |nil=>cases hh
  |cons a b=>cases hh;rfl
 refine⟨⟨bs,carts⟩,⟨fw,⟨by show bs.length<=100;lia,by show carts.length<=100;lia,?_⟩,λb hb=>?_,nmC,λb hb=>?_,λb hb=>?_,Vv,by show 0<carts.length;lia,λb hb=>?_⟩,C_ (bs:=bs) (by lia) λi b hi=>(by have:=bp i b hi;lia),by show 0<bs.length;lia,by show bs.length<=5;lia,by show carts.length<=4;lia,λS=>Uc S ns _ _ names carts a4 a5 a6 _ hp ho (LQ (by lia)) (LQ (by lia)) (names.length:Int) (by rw[bJ]) (LQ (by lia)) e1 e2 (e3 S)⟩
 .have:=Pf (bs:=bs) λb hb=>by
   obtain⟨i,hi⟩:=gi b hb;exact(bp i b hi).2.2.2.len
  lia
 .exact Kq _ (by rw[<-en];exact lU hb)
 .obtain⟨i,hi⟩:=gi b hb;exact⟨(bp i b hi).2.1.1,(bp i b hi).2.2.1⟩
 .obtain⟨i,hi⟩:=gi b hb;show carts.getD 0 ""∈b.outs\/∃o∈b.outs,o∈bs.map av.name;rw[hg,en];rcases(bp i b hi).2.2.2.hand with z|⟨o,z1,z2⟩
  .exact .inl z
  .exact .inr ⟨o,z1,List.mem_of_mem_drop z2⟩
 .obtain⟨i,hi⟩:=gi b hb;exact(bp i b hi).2.2.2.nd
section
variable{h:aF}
theorem e6t{q:Nat}{S:aR}{n:Str}{b:av}{d0:aj Val}(hb:(b.name == n)=false):zu q [d0,bH n,ak (aw b)] S=some (.nx [d0,bH n,ak (aw b)] S):=by
 unfold zu aw;simp only[↓ev,bV,aK,eC,hb]
theorem Z5{q:Nat}{S:aR}{n:Str}{b:av}{d0:aj Val}(hb:(b.name == n)=true):zu q [d0,bH n,ak (aw b)] S=some (.rt (rd (aw b)) S):=by
 unfold zu aw;simp only[↓ev,bV,aK,eC,hb,cQ,eJ,lr,aS]
theorem zF(g:aG h){b:av}(hb:b∈h.af):Pr wI [.d (aB h),du b.name] (rd (aw b)):=by
 intro q S;obtain⟨d,r,eq⟩:=List.append_of_mem hb;have e:aL (ae 2) (zu q) (h.af.map aw) [ak (aB h),bH b.name,none] S=some (.rt (rd (aw b)) S):=by
  rw[eq];refine O2 (f:=aw) (λ_ U S'=>∃a,U=[ak (aB h),bH b.name,a]/\S'=S) d [] _ _ ⟨_,rfl,rfl⟩ ?_ ?_
  .rintro d' y r' e' U S' ⟨a,rfl,rfl⟩;refine⟨_,_,_,rfl,.inl (e6t ?_),_,rfl,rfl⟩;rw[m7];intro z;have hy:y∈d:=by rw[Dz] at e';rw[e'];simp
   have e2:=Bd g.fwd y (by rw[eq];simp[hy]) b hb z
   have nd:=(lY.mp (MU g)).2.1
   grind
  .rintro U S' ⟨a,rfl,rfl⟩;exact⟨_,rfl,Z5 (dP _)⟩
 have hD:aB h=.tup [.lst (h.af.map aw),.lst (dS h.carts)]:=rfl;rw[hD] at e ⊢;unfold wI Nj;simp only[↓ev,bV,Nat.max_zero,e,eA]
theorem Oa(g:aG h):Pr A9 [.d (aB h)] (rd (aB h)):=by
 intro q S;have bl:=g.sm.bl;have hn:=wU h.af (by lia)
 have e:∀q S,bf (ae 0) (gq true) (HC q) (dS (h.af.map av.name)) [none,ak (aB h)] S []=some (.ok (h.af.map aw) S):=λq S=>by
  rw[dS,fR,p_ aw h.af (by lia) λb m=>⟨rd (aw b),by
   have hb:=zF g m;unfold HC;simp only[↓ev,Function.comp,hb],rfl⟩]
 have hD:aB h=.tup [.lst (h.af.map aw),.lst (dS h.carts)]:=rfl;rw[hD] at e ⊢;unfold A9 NW;simp only[↓ev,bV,hn,e,aS,cQ,eA]
end
theorem l0:atrs.contains (cHall,("built":Str))=true:=by decide +kernel
theorem Ma:atrs.contains (cHall,("told_rounds":Str))=true:=by decide +kernel
theorem Fu:atrs.contains (cHall,("now":Str))=true:=by decide +kernel
theorem p5:atrs.contains (cHall,("book":Str))=true:=by decide +kernel
theorem zG:atrs.contains (cHall,("halts":Str))=true:=by decide +kernel
theorem ku:atrs.contains (cHall,("places":Str))=true:=by decide +kernel
theorem o8:atrs.contains (cHall,("readings":Str))=true:=by decide +kernel
theorem A0:atrs.contains (cHall,("rounded":Str))=true:=by decide +kernel
theorem Pg:atrs.contains (cHall,("gone":Str))=true:=by decide +kernel
theorem zC:atrs.contains (cHall,("carted":Str))=true:=by decide +kernel
section
variable{d0 d1 d2 d3 d4 d5 d6 d7 d8 d9 v:D}
theorem Kx:fM "told_rounds" v [(("built":Str),d0)]=[(("built":Str),d0),(("told_rounds":Str),v)]:=by kernel_rfl
theorem Ky:fM "now" v [(("built":Str),d0),(("told_rounds":Str),d1)]=[(("built":Str),d0),(("told_rounds":Str),d1),(("now":Str),v)]:=by kernel_rfl
theorem Kz:fM "book" v [(("built":Str),d0),(("told_rounds":Str),d1),(("now":Str),d2)]=[(("built":Str),d0),(("told_rounds":Str),d1),(("now":Str),d2),(("book":Str),v)]:=by kernel_rfl
theorem KA:fM "halts" v [(("built":Str),d0),(("told_rounds":Str),d1),(("now":Str),d2),(("book":Str),d3)]=[(("built":Str),d0),(("told_rounds":Str),d1),(("now":Str),d2),(("book":Str),d3),(("halts":Str),v)]:=by kernel_rfl
theorem KC:fM "places" v [(("built":Str),d0),(("told_rounds":Str),d1),(("now":Str),d2),(("book":Str),d3),(("halts":Str),d4)]=[(("built":Str),d0),(("told_rounds":Str),d1),(("now":Str),d2),(("book":Str),d3),(("halts":Str),d4),(("places":Str),v)]:=by kernel_rfl
theorem KD:fM "readings" v [(("built":Str),d0),(("told_rounds":Str),d1),(("now":Str),d2),(("book":Str),d3),(("halts":Str),d4),(("places":Str),d5)]=[(("built":Str),d0),(("told_rounds":Str),d1),(("now":Str),d2),(("book":Str),d3),(("halts":Str),d4),(("places":Str),d5),(("readings":Str),v)]:=by kernel_rfl
theorem KG:fM "rounded" v [(("built":Str),d0),(("told_rounds":Str),d1),(("now":Str),d2),(("book":Str),d3),(("halts":Str),d4),(("places":Str),d5),(("readings":Str),d6)]=[(("built":Str),d0),(("told_rounds":Str),d1),(("now":Str),d2),(("book":Str),d3),(("halts":Str),d4),(("places":Str),d5),(("readings":Str),d6),(("rounded":Str),v)]:=by kernel_rfl
theorem KH:fM "gone" v [(("built":Str),d0),(("told_rounds":Str),d1),(("now":Str),d2),(("book":Str),d3),(("halts":Str),d4),(("places":Str),d5),(("readings":Str),d6),(("rounded":Str),d7)]=[(("built":Str),d0),(("told_rounds":Str),d1),(("now":Str),d2),(("book":Str),d3),(("halts":Str),d4),(("places":Str),d5),(("readings":Str),d6),(("rounded":Str),d7),(("gone":Str),v)]:=by kernel_rfl
theorem KI:fM "carted" v [(("built":Str),d0),(("told_rounds":Str),d1),(("now":Str),d2),(("book":Str),d3),(("halts":Str),d4),(("places":Str),d5),(("readings":Str),d6),(("rounded":Str),d7),(("gone":Str),d8)]=[(("built":Str),d0),(("told_rounds":Str),d1),(("now":Str),d2),(("book":Str),d3),(("halts":Str),d4),(("places":Str),d5),(("readings":Str),d6),(("rounded":Str),d7),(("gone":Str),d8),(("carted":Str),v)]:=by kernel_rfl
end
def hF(hd:D)(r now:Int)(n:Nat):List (Str×D):=[("built",hd),("told_rounds",.int r),("now",.int now),("book",.ref (n+1)),("halts",.ref (n+2)),("places",.ref (n+3)),("readings",.ref (n+4)),("rounded",.ref (n+5)),("gone",.ref (n+6)),("carted",.ref (n+7))]
section
variable{S:aR}{h:aF}{r:Int}
theorem Z8(g:aG h):Bb 0 [.d (.ref S.r.length),.d (aB h),aM r] ⟨S.s,S.r++[.ins cHall []]⟩=some (.ok (rd .aJ) ⟨S.s,S.r++[.ins cHall (hF (aB h) r 0 S.r.length),.o (.ay []),.o (.ay []),.o (.ay []),.o (.ay []),.o (.ay []),.o (.lst []),.o (.ay [])]⟩):=by
 have e1:=XI g;have e2:=Oa g;generalize aB h=hd at *;unfold Bb N2 hF;simp only[↓ev,e1,e2,eK,l0,jv,Ma,Kx,Fu,Ky,Cs,w6,p5,Kz,zG,KA,ku,KC,o8,KD,A0,KG,aS,aK,Pg,KH,zC,KI,eA]
end
theorem XM(a b:Str):decide ((TK.inr a:TK)=TK.inr b)=(a == b):=by
 lia
theorem EG{α:Type}(e:TK×α)(es:List (TK×α))(k:TK)(v:α):bR (e::es) k v=if e.1=k then(e.1,v)::es else e::bR es k v:=rfl
section
variable{α:Type}{k:α->Str}{v:α->D}{xs:List α}{b:Str}{y:D}
def td(k:α->Str)(v:α->D)(xs:List α):List (TK×D):=xs.map λx=>(.inr (k x),v x)
theorem lq:(td k v xs).length=xs.length:=bJ ..
theorem Bu(b:Str):∀xs:List α,aN (td k v xs) (.inr b)=(xs.find? λx=>k x == b).map v
 |[]=>rfl
 |x::xs=>by
  have ih:=Bu b xs;unfold aN td at *;rw[cR,Av,Av];dsimp only;rw[XM];cases(k x == b) with
  |true=>rfl
  |false=>exact ih
theorem iG{x:α}(nd:(xs.map k).Nodup)(hx:x∈xs):aN (td k v xs) (.inr (k x))=some (v x):=by
 rw[Bu];have:xs.find? (λz=>k z == k x)=some x:=by
  induction xs with
  |nil=>cases hx
  |cons z zs ih=>
   grind
 simp_all
theorem Z9(b:Str)(xs:List α):(b∉xs.map k/\aN (td k v xs) (.inr b)=none)\/∃x∈xs,k x=b/\aN (td k v xs) (.inr b)=some (v x):=by
 rw[Bu];cases e:xs.find? (λx=>k x == b) with
 |none=>
  simp_all
 |some x=>exact .inr ⟨x,DB e,by have:=DA e;exact beq_iff_eq.mp this,rfl⟩
theorem Bv(h:b∉xs.map k):bR (td k v xs) (.inr b) y=td k v xs++[(.inr b,y)]:=by
 induction xs with
 |nil=>rfl
 |cons x xs ih=>
  grind [td,EG]
theorem Bw(nd:(xs.map k).Nodup)(h:b∈xs.map k):bR (td k v xs) (.inr b) y=td k (λx=>if k x=b then y else v x) xs:=by
 induction xs with
 |nil=>cases h
 |cons x xs ih=>
  rw[cR,sf] at nd;unfold td at *;rw[cR,cR,EG];dsimp only;by_cases e:k x=b
  .rw[bL (by rw[e]),bL e]
   congr 1
   refine m6 λz m=>?_
   rw[br λe2=>nd.1 (by rw[e,<-e2];exact lU m)]
  .rw[br (λe2=>e (TK.inr.inj e2)),br e,ih nd.2]
   rcases y0a.mp h with z|z
   .exact bQ z.symm e
   .exact z
theorem Bm:dm (td k v xs) b=td k v (xs.filter λx=>decide (k x≠b)):=by
 unfold dm td;rw[List.filter_map]
 congr 1
 refine List.filter_congr λx _=>?_
 unfold iB;dsimp only[Function.comp];exact decide_eq_decide.mpr (not_congr ⟨λz=>TK.inr.inj z,λz=>congrArg TK.inr z⟩)
theorem Ph:(td k v xs).map (·.1.d)=dS (xs.map k):=by
 unfold td dS;rw[fR,fR];refine m6 λx _=>?_
 simp[TK.d]
theorem xq:f_ (td k v xs)=true:=by
 unfold td f_;rw[As];exact kj.mpr λx _=>rfl
end
section
variable{hd:D}{r nw v:Int}{n:Nat}
theorem mm:List.lookup ("built":Str) (hF hd r nw n)=some (hd):=by kernel_rfl
theorem RW:List.lookup ("told_rounds":Str) (hF hd r nw n)=some (.int r):=by kernel_rfl
theorem IZ:List.lookup ("now":Str) (hF hd r nw n)=some (.int nw):=by kernel_rfl
theorem qL:List.lookup ("book":Str) (hF hd r nw n)=some (.ref (n+1)):=by kernel_rfl
theorem Be:List.lookup ("halts":Str) (hF hd r nw n)=some (.ref (n+2)):=by kernel_rfl
theorem kL:List.lookup ("places":Str) (hF hd r nw n)=some (.ref (n+3)):=by kernel_rfl
theorem pY:List.lookup ("readings":Str) (hF hd r nw n)=some (.ref (n+4)):=by kernel_rfl
theorem Ew:List.lookup ("rounded":Str) (hF hd r nw n)=some (.ref (n+5)):=by kernel_rfl
theorem XN:List.lookup ("gone":Str) (hF hd r nw n)=some (.ref (n+6)):=by kernel_rfl
theorem A3:List.lookup ("carted":Str) (hF hd r nw n)=some (.ref (n+7)):=by kernel_rfl
theorem Z_:fM "now" (.int v) (hF hd r nw n)=hF hd r v n:=by kernel_rfl
end
variable{hd:D}
section
variable{hd:D}{r nw:Int}{n:Nat}
theorem Nu:Cell.ke cHall ("flight":Str) (.ins cHall (hF hd r nw n))=true:=by kernel_rfl
theorem Nv:Cell.ke cHall ("change":Str) (.ins cHall (hF hd r nw n))=true:=by kernel_rfl
theorem MD:Cell.ke cHall ("call_off":Str) (.ins cHall (hF hd r nw n))=true:=by kernel_rfl
theorem Pj:Cell.ke cHall ("read":Str) (.ins cHall (hF hd r nw n))=true:=by kernel_rfl
theorem Pk:Cell.ke cHall ("stop":Str) (.ins cHall (hF hd r nw n))=true:=by kernel_rfl
theorem Ob:Cell.ke cHall ("start":Str) (.ins cHall (hF hd r nw n))=true:=by kernel_rfl
theorem Qm:Cell.ke cHall ("put":Str) (.ins cHall (hF hd r nw n))=true:=by kernel_rfl
theorem tu:Cell.ke cHall ("check_flight":Str) (.ins cHall (hF hd r nw n))=true:=by kernel_rfl
theorem uX:Cell.ke cHall ("check_belt":Str) (.ins cHall (hF hd r nw n))=true:=by kernel_rfl
theorem zq:Cell.ke cHall ("check_inside":Str) (.ins cHall (hF hd r nw n))=true:=by kernel_rfl
theorem VA:Cell.ke cHall ("house":Str) (.ins cHall (hF hd r nw n))=true:=by kernel_rfl
theorem Nw:Cell.ke cHall ("rounds":Str) (.ins cHall (hF hd r nw n))=true:=by kernel_rfl
theorem HG:Cell.ke cHall ("stopped":Str) (.ins cHall (hF hd r nw n))=true:=by kernel_rfl
theorem wV:Cell.ke cHall ("bags":Str) (.ins cHall (hF hd r nw n))=true:=by kernel_rfl
theorem HH:Cell.ke cHall ("cart_of":Str) (.ins cHall (hF hd r nw n))=true:=by kernel_rfl
theorem HI:Cell.ke cHall ("catches":Str) (.ins cHall (hF hd r nw n))=true:=by kernel_rfl
theorem Si:Cell.ke cHall ("in_order":Str) (.ins cHall (hF hd r nw n))=true:=by kernel_rfl
theorem XO:Cell.ke cHall ("move":Str) (.ins cHall (hF hd r nw n))=true:=by kernel_rfl
theorem SS:Cell.ke cHall ("move_on":Str) (.ins cHall (hF hd r nw n))=true:=by kernel_rfl
theorem Sj:Cell.ke cHall ("move_out":Str) (.ins cHall (hF hd r nw n))=true:=by kernel_rfl
end
structure Row where
 bag:Str
 b:Str
 i:Int
 fl:aj Str
 gn:Int
instance:Inhabited Row:=⟨"","",0,none,0⟩
structure Hl where
 now:Int
 book:List (Str×Str×Int)
 halts:List Str
 rows:List Row
 gone:List (Str×Str×Int)
def aQ:aj Str->D
 |none=>.aJ
 |some x=>.str x
abbrev pl(b:Str)(i:Int):D:=.tup [.str b,.int i]
def t3(p:Str×Str×Int):D:=.tup [.str p.1,.str p.2.1,.int p.2.2]
def kO(l:List (Str×Str×Int)):List (TK×D):=td (·.1) t3 l
def gu(l:List Row):List (TK×D):=td Row.bag (λr=>pl r.b r.i) l
def gR(l:List Row):List (TK×D):=td Row.bag (λr=>aQ r.fl) l
def kf(l:List Row):List (TK×D):=td Row.bag (λr=>.int r.gn) l
def xD(l:List (Str×Str×Int)):List (TK×D):=td (·.1) (λp=>.str p.2.1) l
def z5(l:List (Str×Str×Int)):List D:=l.map t3
abbrev hR(hd:D)(r:Int)(x:Hl):List Cell:=[.ins cHall (hF hd r x.now 0),.o (.ay (kO x.book)),.o (.ay (mE x.halts)),.o (.ay (gu x.rows)),.o (.ay (gR x.rows)),.o (.ay (kf x.rows)),.o (.lst (z5 x.gone)),.o (.ay (xD x.gone))]
noncomputable abbrev hS(hd:D)(r:Int)(x:Hl)(s:List Cell):aR:=⟨s,hR hd r x⟩
section
variable{s:List Cell}{h:aF}{r:Int}{x:Hl}{q:Nat}{b:Str}
theorem VB(g:aG h):ED q [gb] (hS (aB h) r x s)=some (.ok (rd (aB h)) (hS (aB h) r x s)):=by
 have e2:=Oa g;unfold ED Nn;generalize aB h=hd at *;simp only[↓ev,hR,l0,mm,e2,cz]
theorem Nx:Es q [gb] (hS hd r x s)=some (.ok (rd (.int r)) (hS hd r x s)):=by
 unfold Es MQ;simp only[↓ev,hR,Ma,RW,cz]
theorem zD(g:aG h){v:Bool}(hb:(h.af.map av.name).contains b=v):zr q [gb,du b] (hS (aB h) r x s)=some (if v=true then .ok (rd .aJ) (hS (aB h) r x s) else .ex 116 none (hS (aB h) r x s)):=by
 have bl:=g.sm.bl;have hn:=wU h.af (by lia)
 unfold zr L_ aB;cases v with
 |true=>simp only[↓ev,hR,l0,mm,bV,hn,iF,ik,hb,fB,aK,cz]
 |false=>simp only[↓ev,hR,l0,mm,bV,hn,iF,ik,hb,j_,cz,aK]
theorem zW{α:Type}{k:α->Str}{v:α->D}{xs:List α}{b:Str}:(aN (td k v xs) (.inr b)).isSome=(xs.map k).contains b:=by
 grind [Z9]
theorem VC(q:Nat)(ns:List Str)(hl:ns.length<=1000):bf (ae 0) (Hi q) (Hj q) (dS ns) [none,cS] (hS hd r x s) []=some (.ok (dS (ns.filter λn=>x.halts.contains n)) (hS hd r x s)):=by
 rw[dS,tR (λo=>if x.halts.contains o=true then some (.str o) else none) ns (by lia) λo m=>by
  have v:=ve o x.halts;unfold Hi Hj;cases hc:x.halts.contains o with
  |true=>
   rw[hc] at v;exact .inr ⟨rd (.str o),.str o,rfl,by simp only[↓ev,hR,zG,Be,aS,aK,v],by simp only[↓ev],rfl⟩
  |false=>
   rw[hc] at v;exact .inl ⟨rfl,by simp only[↓ev,hR,zG,Be,aS,aK,v]⟩]
 congr 2
 induction ns with
 |nil=>rfl
 |cons o ns ih=>
  grind
noncomputable def cv(h:aF)(x:Hl):List Str:=(h.af.map av.name).filter λn=>x.halts.contains n
theorem HV(g:aG h):zx q [gb] (hS (aB h) r x s)=some (.ok (.o (.lst (dS (cv h x)))) (hS (aB h) r x s)):=by
 have bl:=g.sm.bl;have hn:=wU h.af (by lia)
 have e:=λq=>VC (s:=s) (r:=r) (x:=x) (hd:=aB h) q (h.af.map av.name) (by rw[bJ];lia)
 unfold zx MA cv aB at *;simp only[↓ev,hR,l0,mm,bV,hn,e,cz]
end
variable{h:aF}{b:Str}{S:aR}
noncomputable def rk(h:aF)(b:Str):Int:=((findS (h.af.map av.name) b).getD 0:Nat)
theorem Oc:∀xs:List Str,eX (dS xs)=some xs
 |[]=>rfl
 |x::xs=>by
  have ih:=Oc xs;show(eX (D.str x::dS xs))=_;unfold eX;rw[ih];rfl
theorem I_(hb:b∈h.af.map av.name):fJ (.lst (dS (h.af.map av.name))) (.str b)=some (rd (.int (rk h b))):=by
 obtain⟨j,hj⟩:=EF hb;show(eX (dS _)).bind _=_;unfold rk;rw[Oc,yZ,hj];rfl
theorem Qn{c:Str}(hb:b∈h.af.map av.name)(hc:c∈h.af.map av.name)(e:rk h b=rk h c):b=c:=by
 obtain⟨j,hj⟩:=EF hb;obtain⟨k,hk⟩:=EF hc;unfold rk at e;rw[hj,hk] at e;have e:((j:Nat):Int)=(k:Nat):=e;have e:j=k:=by lia
 have h1:=(AX hj).1;have h2:=(AX hk).1;rw[e,h2] at h1;exact(Option.some.inj h1).symm
def ic(h:aF)(r:Row):Prop:=∃bt∈h.af,bt.name=r.b/\0<=r.i/\r.i<bt.long/\0<=r.gn
theorem ic.nm{r:Row}(o:ic h r):r.b∈h.af.map av.name:=by
 obtain⟨bt,hb,e,_⟩:=o;rw[<-e];exact lU hb
def mO(h:aF)(r:Row):D:=.tup [.int (rk h r.b),.int r.i,.str r.bag]
def ji(h:aF)(r:Row):Int×Int:=(rk h r.b,r.i)
def ord(h:aF)(rows:List Row):List Row:=if rows.length<2 then rows else(dc (rows.map (ji h))).map λj=>rows.getD j default
theorem Od(h:aF):∀rows:List Row,jV (rows.map (mO h))=some (rows.map (ji h))
 |[]=>rfl
 |r::rows=>by
  have ih:=Od h rows;show jV (D.tup [.int (rk h r.b),.int r.i,.str r.bag]::rows.map (mO h))=_;show(jV (rows.map (mO h))).map _=_;rw[ih];rfl
theorem Oe{rows:List Row}(nd:(rows.map (ji h)).Nodup):(ord h rows).Perm rows:=by
 unfold ord;split
 .rfl
 .rename_i hl
  obtain⟨p,_⟩:=A7 nd (by rw[bJ];lia)
  rw[bJ] at p;refine(p.map _).trans ?_;have:(List.range rows.length).map (λj=>rows.getD j default)=rows:=by
   refine LI λi=>?_
   rw[fW];by_cases hi:i<rows.length
   .rw[y0 hi,gz hi];simp[hi]
   .rw[y8 (by simp;lia),y8 (by lia)]
    rfl
  rw[this]
theorem Γ(rows:List Row):(List.range (gu rows).length).map (λi=>D.tup ((((gu rows)[i]?).map λp=>[p.1.d,p.2]).getD []))=rows.map λr=>.tup [.str r.bag,pl r.b r.i]:=by
 unfold gu;refine LI λi=>?_
 rw[lq,fW,fW];by_cases hi:i<rows.length
 .rw[y0 hi,gz hi];unfold td;rw[Au,Au,fW,gz hi];simp[TK.d]
 .rw[y8 (by simp;lia),y8 (by lia)]
  rfl
section
variable{s:List Cell}{h:aF}{r:Int}{x:Hl}{q:Nat}
theorem XQ(q:Nat)(rows:List Row)(hl:rows.length<=1000)(ho:∀w∈rows,ic h w):bf (bC [(ae 0),(ae 1)]) (gq true) (Hb q) (rows.map λw=>.tup [.str w.bag,pl w.b w.i]) [none,none,ak (.lst (dS (h.af.map av.name)))] S []=some (.ok (rows.map (mO h)) S):=by
 rw[Fp (λw=>some (mO h w)) (λU=>∃a b,U=[a,b,ak (.lst (dS (h.af.map av.name)))]) rows _ [] ⟨_,_,rfl⟩ (by rw[Aq];lia) λw m U ⟨a,b,hU⟩=>⟨[bH w.bag,ak (pl w.b w.i),ak (.lst (dS (h.af.map av.name)))],by rw[hU];rfl,⟨_,_,rfl⟩,.inr ⟨rd (mO h w),mO h w,rfl,rfl,by
   have hi:=I_ (ho w m).nm;unfold Hb mO;simp only[↓ev,bV,hi,cQ,aS],rfl⟩⟩,List.filterMap_eq_map',Dz]
theorem XR(q:Nat)(l:List Row)(hl:l.length<=1000):bf (ae 0) (gq true) (Hc q) (l.map (mO h)) [none] S []=some (.ok (dS (l.map Row.bag)) S):=by
 rw[p_ (λw=>.str w.bag) l (by lia) λw m=>⟨rd (.str w.bag),by unfold Hc mO;simp only[↓ev,eJ],rfl⟩]
 unfold dS;rw[fR];rfl
theorem XS(g:aG h)(nd:(x.rows.map (ji h)).Nodup)(hl:x.rows.length<64)(ho:∀w∈x.rows,ic h w):AU q [gb] (hS (aB h) r x s)=some (.ok (.o (.lst (dS ((ord h x.rows).map Row.bag)))) (hS (aB h) r x s)):=by
 have bl:=g.sm.bl;have hn:=wU h.af (by lia)
 have e1:=λq=>XQ (S:=hS (aB h) r x s) q x.rows (by lia) ho
 have e2:=Γ x.rows;have pl:=(Oe nd).length_eq;have e3:=λq=>XR (h:=h) (S:=hS (aB h) r x s) q (ord h x.rows) (by lia)
 have e0:f_ (gu x.rows)=true:=xq;by_cases lt:x.rows.length<2
 .have h1:((x.rows.map (mO h)).length<2)=True:=bK (by rw[bJ];exact lt)
  have h2:ord h x.rows=x.rows:=bL lt;rw[h2] at e3 ⊢;unfold AU Hm aB at *;generalize(x.rows.map (mO h))=l1 at *;simp only[↓ev,hR,l0,mm,bV,hn,aS,ku,kL,e0,e2,e1,h1,e3,cz]
 .have h1:((x.rows.map (mO h)).length<2)=False:=eq_false (by rw[bJ];exact lt)
  have h2:=Od h x.rows;have h3:((x.rows.map (ji h)).Nodup/\(x.rows.map (ji h)).length<64)=True:=bK ⟨nd,by rw[bJ];exact hl⟩
  have h4:kR (x.rows.map (mO h)) (dc (x.rows.map (ji h)))=(ord h x.rows).map (mO h):=by
   unfold ord kR;rw[br lt,fR];refine m6 λj m=>?_
   have p:=(A7 nd (by rw[bJ];lia)).1
   have hj:j<x.rows.length:=by
    have:=pR.mp (p.mem_iff.mp m)
    rwa[bJ] at this
   simp[hj]
  unfold AU Hm aB at *;generalize(x.rows.map (mO h))=l1 at *;generalize((ord h x.rows).map (mO h))=l2 at *;generalize(x.rows.map (ji h))=ks at *;simp only[↓ev,hR,l0,mm,bV,hn,aS,ku,kL,e0,e2,e1,h1,h2,h3,h4,e3,cz]
end
variable{hd:D}
structure Ok (h:aF) (n:Nat) (x:Hl):Prop where
 rw:∀w∈x.rows,ic h w/\oA w.bag/\∀f,w.fl=some f->f∈x.book.map (·.1)
 nd:(x.rows.map Row.bag++x.gone.map (·.1)).Nodup
 un:(x.rows.map λw=>(w.b,w.i)).Nodup
 bk:∀p∈x.book,p.2.1∈h.carts.drop 1
 bn:(x.book.map (·.1)).Nodup
 gi:∀p∈x.gone,oA p.1
 rl:x.rows.length<=8
 sz:x.book.length+x.halts.length+x.rows.length+x.gone.length<=n
noncomputable def aY(w:Row):D:=.tup [.str w.bag,aQ w.fl,pl w.b w.i,.int w.gn]
section
variable{s:List Cell}{h:aF}{r:Int}{x:Hl}{q n:Nat}{w:Row}
theorem Ok.nb(o:Ok h n x):(x.rows.map Row.bag).Nodup:=(lY.mp o.nd).1
theorem Ok.nk(o:Ok h n x):(x.rows.map (ji h)).Nodup:=by
 have e:=o.un;rw[List.Nodup,Ax] at e ⊢;refine e.imp_of_mem λ{a b} ma mb ne z=>ne ?_
 have h1:=congrArg Prod.fst z;have h2:=congrArg Prod.snd z;rw[show a.b=b.b from Qn (o.rw a ma).1.nm (o.rw b mb).1.nm h1,show a.i=b.i from h2]
theorem Ok.perm(o:Ok h n x):(ord h x.rows).Perm x.rows:=Oe o.nk
theorem Ok.mem(o:Ok h n x):w∈ord h x.rows↔w∈x.rows:=o.perm.mem_iff
theorem Uj(q:Nat)(nb:(x.rows.map Row.bag).Nodup)(l:List Row)(hl:l.length<=1000)(hm:∀w∈l,w∈x.rows):bf (ae 0) (gq true) (HD q) (dS (l.map Row.bag)) [none,cS] (hS hd r x s) []=some (.ok (l.map aY) (hS hd r x s)):=by
 rw[show dS (l.map Row.bag)=l.map λw=>.str w.bag by unfold dS;rw[fR];rfl,p_ aY l (by lia) λw m=>⟨rd (aY w),by
  have h1:aN (gu x.rows) (.inr w.bag)=_:=iG nb (hm w m);have h2:aN (gR x.rows) (.inr w.bag)=_:=iG nb (hm w m);have h3:aN (kf x.rows) (.inr w.bag)=_:=iG nb (hm w m);unfold HD aY;generalize aQ w.fl=ff at *;simp only[↓ev,hR,o8,pY,aS,h2,ku,kL,h1,A0,Ew,h3],rfl⟩]
theorem By(g:aG h)(o:Ok h n x):u7 q [gb] (hS (aB h) r x s)=some (.ok (.o (.lst ((ord h x.rows).map aY))) (hS (aB h) r x s)):=by
 have rl:=o.rl;have e1:=λq=>XS (s:=s) (r:=r) (q:=q) g o.nk (by lia) λw m=>(o.rw w m).1
 have e2:=λq=>Uj (s:=s) (r:=r) (hd:=aB h) q o.nb (ord h x.rows) (by rw[o.perm.length_eq];lia) λw m=>o.mem.mp m
 generalize aB h=hd at *;unfold u7 NZ;simp only[↓ev,hR,dy,Si,e1,e2,cz]
theorem XT(q:Nat)(hn:oA w.bag)(hw:w∈x.rows)(nb:(x.rows.map Row.bag).Nodup):wz q [gb,du w.bag] (hS hd r x s)=some (.ok (rd .aJ) (hS hd r x s)):=by
 have h1:aN (gu x.rows) (.inr w.bag)=_:=iG nb hw;unfold wz G6;simp only[↓ev,hn,aK,hR,ku,kL,aS,h1,fB,cz]
end
noncomputable def mW(kn:List (Str×Int)):List (TK×D):=kn.map λp=>(.inr p.1,.int p.2)
noncomputable def atS(kn:List (Str×Int))(n:Str):aj Int:=(kn.find? λp=>p.1 == n).map (·.2)
theorem Pl(x:Str):atS [] x=none:=rfl
theorem wK(k:Str)(v:Int)(kn:List (Str×Int))(x:Str):atS ((k,v)::kn) x=if k=x then some v else atS kn x:=by
 grind [atS]
theorem ET(k:Str)(v:Int)(x:Str):∀kn:List (Str×Int),atS (kn++[(k,v)]) x=(atS kn x).or (if k=x then some v else none)
 |[]=>by rw[Dz,wK,Pl,Option.none_or]
 |(k',v')::kn=>by
  rw[List.cons_append,wK,wK,ET k v x kn];split
  .rfl
  .rfl
theorem Bo(x:Str):∀kn:List (Str×Int),aN (mW kn) (.inr x)=(atS kn x).map .int
 |[]=>rfl
 |(k,v)::kn=>by
  have ih:=Bo x kn
  grind [wK,aN,mW]
theorem pg0{a:TK}{y:D}:bR [] a y=[(a,y)]:=rfl
theorem Pm:∀(kn:List (Str×Int)) (k:Str) (v:Int),atS kn k=none->bR (mW kn) (.inr k) (.int v)=mW (kn++[(k,v)])
 |[],_,_,_=>rfl
 |(k',v')::kn,k,v,h=>by
  rw[wK] at h;have e:¬k'=k:=λz=>by rw[bL z] at h;cases h
  rw[br e] at h;show bR ((TK.inr k',D.int v')::mW kn) (.inr k) (.int v)=(TK.inr k',D.int v')::mW (kn++[(k,v)]);rw[<-Pm kn k v h,EG,br (λz=>e (TK.inr.inj z))]
def dD(kn:List (Str×Int))(outs:List Str):List Int:=outs.filterMap (atS kn)
def bc(aT:Str):List av->List (Str×Int)
 |[]=>[(aT,0)]
 |b::bs=>if dD (bc aT bs) b.outs=[] then bc aT bs else bc aT bs++[(b.name,b.long+iA (dD (bc aT bs) b.outs))]
theorem Of(aT:Str):∀bs:List av,(bc aT bs).length<=bs.length+1
 |[]=>bU _
 |b::bs=>by
  have:=Of aT bs;unfold bc;split
  .rw[j9];lia
  .rw[dw,sW,j9];lia
theorem Ij{aT:Str}:∀{bs:List av} {n:Str},n≠aT->n∉bs.map av.name->atS (bc aT bs) n=none
 |[],n,h1,_=>by
  show atS [(aT,0)] n=none
  grind [wK,Pl]
 |b::bs,n,h1,h2=>by
  rw[cR] at h2;have h3:n≠b.name:=λz=>h2 (by rw[z];exact .head _)
  have ih:=Ij (aT:=aT) (bs:=bs) h1 λz=>h2 (.tail _ z)
  unfold bc;split
  .exact ih
  .rw[ET,ih,br (λz=>h3 z.symm)];rfl
theorem XU(kn:List (Str×Int)):∀outs:List Str,(outs.filterMap λo=>(atS kn o).map D.int)=(dD kn outs).map D.int
 |[]=>rfl
 |o::outs=>by
  grind [dD]
abbrev lJ(S:aR)(kn:List (Str×Int)):aR:=⟨S.s++[.o (.ay (mW kn))],S.r⟩
section
variable{S:aR}{kn:List (Str×Int)}{outs:List Str}{g0 g1 a7:aj Val}{x:av}
theorem Og(q:Nat)(h:outs.length<=1000):bf (ae 0) (Hz q) (HA q) (dS outs) [none,aO S.s.length] (lJ S kn) []=some (.ok ((dD kn outs).map D.int) (lJ S kn)):=by
 rw[dS,tR (λo=>(atS kn o).map D.int) outs (by lia) λo m=>by
  have v:=Bo o kn;unfold Hz HA;cases hc:atS kn o with
  |some w=>
   rw[hc] at v;exact .inr ⟨rd (.int w),.int w,rfl,by simp only[↓ev,eK,aK,v,v_],by simp only[↓ev,eK,v],rfl⟩
  |none=>
   rw[hc] at v;exact .inl ⟨rfl,by simp only[↓ev,eK,aK,v,y7]⟩,XU]
theorem Δ(ho:x.outs.length<=1000)(hb:dD kn x.outs=[]):zy 0 [g0,g1,aO S.s.length,bH x.name,cD x.long,ak (.bl x.ring),ak (.lst (dS x.outs)),a7] (lJ S kn)=some (.nx [g0,g1,aO S.s.length,bH x.name,cD x.long,ak (.bl x.ring),ak (.lst (dS x.outs)),ak (.lst [])] (lJ S kn)):=by
 have e:=λq=>Og (S:=S) (kn:=kn) q ho
 rw[hb] at e;unfold zy;simp only[↓ev,e,aS,aK]
theorem XX(ho:x.outs.length<=1000){i:Int}{is:List Int}(hb:dD kn x.outs=i::is)(hn:atS kn x.name=none)(hl:((mW kn).length<1000000)=True):zy 0 [g0,g1,aO S.s.length,bH x.name,cD x.long,ak (.bl x.ring),ak (.lst (dS x.outs)),a7] (lJ S kn)=some (.nx [g0,g1,aO S.s.length,bH x.name,cD x.long,ak (.bl x.ring),ak (.lst (dS x.outs)),ak (.lst ((i::is).map D.int))] (lJ S (kn++[(x.name,x.long+iA (i::is))]))):=by
 have e:=λq=>Og (S:=S) (kn:=kn) q ho
 rw[hb] at e;have p:=Pm kn x.name (x.long+iA (i::is)) hn;have z:((i::is).map D.int).isEmpty=false:=rfl;have m:=Nd (i::is);have ne:((i::is)=[])=False:=eq_false (List.cons_ne_nil _ _);generalize(i::is).map D.int=l at *;unfold zy;simp only[↓ev,e,aS,z,j_,m,ne,eK,hl,p,jv]
theorem Oh{h:aF}(g:aG h){aT:Str}(hc:aT∈h.carts):P0 A8 [.d (aB h),du aT] (.o (.ay (mW (bc aT h.af)))):=by
 intro S;have bl:=g.sm.bl;have ou:=g.sm.ou;have f:=g.fwd;obtain⟨U',S',e,a3,a4,a5,a6,a7,rfl,rfl⟩:=jG (gg:=bC [(ae 3),(ae 4),(ae 5),(ae 6)]) (body:=zy 0) (f:=aw) (U:=[ak (aB h),bH aT,aO S.s.length,none,none,none,none,none]) (S:=lJ S (bc aT [])) (λpre U S'=>∃a3 a4 a5 a6 a7,U=[ak (aB h),bH aT,aO S.s.length,a3,a4,a5,a6,a7]/\S'=lJ S (bc aT pre.reverse)) h.af.reverse ⟨_,_,_,_,_,rfl,rfl⟩ (by
  rintro q x post eq U S' ⟨a3,a4,a5,a6,a7,rfl,rfl⟩;have eb:h.af=post.reverse++x::q.reverse:=by
   simp_all
  have fx:lZ h.carts (x::q.reverse):=AZ (by rw[<-eb];exact f)
  have ho:x.outs.length<=1000:=by
   grind
  have hn:atS (bc aT q.reverse) x.name=none:=Ij (λz=>fx.2.2.1 (z ▸ hc)) fx.2.1
  have hl:(bc aT q.reverse).length<=1000:=by
   grind [Of]
  rw[List.reverse_append,List.reverse_singleton,List.singleton_append];have ebg:bc aT (x::q.reverse)=if dD (bc aT q.reverse) x.outs=[] then bc aT q.reverse else bc aT q.reverse++[(x.name,x.long+iA (dD (bc aT q.reverse) x.outs))]:=by
   rfl
  rw[ebg];generalize bc aT q.reverse=kn at *;cases hb:dD kn x.outs with
  |nil=>exact⟨_,_,_,rfl,.inl (Δ ho hb),_,_,_,_,_,rfl,by rw[bL rfl]⟩
  |cons i is=>exact⟨_,_,_,rfl,.inl (XX ho hb hn (bK (by unfold mW;rw[bJ];lia))),_,_,_,_,_,rfl,by rw[br (List.cons_ne_nil _ _)]⟩)
 rw[List.reverse_reverse,List.map_reverse,show lJ S (bc aT [])=⟨S.s++[.o (.ay [(.inr aT,.int 0)])],S.r⟩ from rfl] at e;have hD:aB h=.tup [.lst (h.af.map aw),.lst (dS h.carts)]:=rfl;have tl:∀c:Cell,(S.s++[c]).take S.s.length=S.s:=λc=>List.take_left
 rw[hD] at e ⊢;unfold A8 NV;simp only[↓ev,Cs,eK,aS,GF,pg0,List.foldl_nil,tl,bV,g9,e,yq,qQ]
end
variable{kn:List (Str×Int)}{outs:List Str}{best:aj Str}
theorem Ik{carts:List Str}:∀{bs:List av},lZ carts bs->∀b∈bs,∀o∈b.outs,o∈bs.map av.name\/o∈carts
 |x::bs,f,b,hb,o,ho=>by
  rcases y0a.mp hb with rfl|hb
  .rcases f.1 o ho with z|z
   .exact .inl (.tail _ z)
   .exact .inr z
  .rcases Ik f.2.2.2 b hb o ho with z|z
   .exact .inl (.tail _ z)
   .exact .inr z
theorem Ep{aT:Str}{x:av}{bs:List av}{n:Str}(h:n≠x.name):atS (bc aT (x::bs)) n=atS (bc aT bs) n:=by
 grind [bc,ET]
theorem MV{kn':List (Str×Int)}(h:∀o∈outs,atS kn o=atS kn' o):dD kn outs=dD kn' outs:=by
 unfold dD
 induction outs with
 |nil=>rfl
 |cons o outs ih=>
  have:=ih λz hz=>h z (.tail _ hz)
  rw[r_,r_,h o (.head _),this]
theorem IH{carts:List Str}{aT:Str}(hc:aT∈carts):∀{bs:List av},lZ carts bs->∀b∈bs,atS (bc aT bs) b.name=if dD (bc aT bs) b.outs=[] then none else some (b.long+iA (dD (bc aT bs) b.outs))
 |x::bs,f,b,hb=>by
  rcases y0a.mp hb with rfl|hb
  .have ho:∀o∈b.outs,o≠b.name:=λo ho z=>by
    rcases f.1 o ho with y|y
    .exact f.2.1 (by rw[<-z];exact y)
    .exact f.2.2.1 (by rw[<-z];exact y)
   have e:=MV (kn:=bc aT (b::bs)) (kn':=bc aT bs) (outs:=b.outs) λo m=>Ep (ho o m)
   rw[e]
   conv=>lhs;unfold bc
   have hn:atS (bc aT bs) b.name=none:=Ij (λz=>f.2.2.1 (by rw[z];exact hc)) f.2.1
   split
   .exact hn
   .rw[ET,hn,bL rfl];rfl
  .have hn:b.name≠x.name:=λz=>f.2.1 (by rw[<-z];exact lU (f:=av.name) hb)
   have ho:∀o∈b.outs,o≠x.name:=λo ho z=>by
    rcases Ik f.2.2.2 b hb o ho with y|y
    .exact f.2.1 (by rw[<-z];exact y)
    .exact f.2.2.1 (by rw[<-z];exact y)
   have e:=MV (kn:=bc aT (x::bs)) (kn':=bc aT bs) (outs:=b.outs) λo m=>Ep (ho o m)
   rw[e,Ep hn];exact IH hc f.2.2.2 b hb
theorem Pn{carts:List Str}{aT:Str}(hc:aT∈carts):∀{bs:List av},lZ carts bs->atS (bc aT bs) aT=some 0
 |[],_=>by show atS [(aT,0)] aT=some 0;rw[wK,bL rfl]
 |x::bs,f=>by rw[Ep (λz=>f.2.2.1 (by rw[<-z];exact hc))];exact Pn hc f.2.2.2
def xR(h:aF)(aT n:Str)(c:Int):D:=match atS (bc aT h.af) n with
 |none=>.aJ
 |some v=>.int (v - c)
def mn(kn:List (Str×Int))(best:aj Str)(o:Str):aj Str:=match atS kn o with
 |none=>best
 |some v=>match best with
  |none=>some o
  |some p=>if v<(atS kn p).getD 0 then some o else best
def fZ(kn:List (Str×Int))(outs:List Str):aj Str:=outs.foldl (mn kn) none
def xr(kn:List (Str×Int))(best:aj Str):Prop:=∀p,best=some p->∃v,atS kn p=some v
theorem MW(h:xr kn best)(o:Str):xr kn (mn kn best o):=by
 intro p e;unfold mn at e;cases q:atS kn o with
 |none=>rw[q] at e;exact h p e
 |some v=>
  rw[q] at e;dsimp only at e;cases best with
  |none=>cases e;exact⟨v,q⟩
  |some p'=>
   dsimp only at e;split at e
   .simp_all
   .exact h p e
theorem Po{kn:List (Str×Int)}:∀{outs:List Str} {best:aj Str},xr kn best->xr kn (outs.foldl (mn kn) best)
 |[],_,h=>h
 |o::outs,best,h=>Po (outs:=outs) (MW h o)
theorem Il{kn:List (Str×Int)}:∀{outs:List Str} {best:aj Str},xr kn best->
  (outs.foldl (mn kn) best=none↔best=none/\dD kn outs=[])/\
  ∀a,outs.foldl (mn kn) best=some a->(best=some a\/a∈outs)/\∃v,atS kn a=some v/\(∀o∈outs,∀w,atS kn o=some w->v<=w)/\∀p w,best=some p->atS kn p=some w->v<=w
 |[],best,h=>by
  refine⟨⟨λe=>⟨e,rfl⟩,λe=>e.1⟩,λa e=>?_⟩
  obtain⟨v,hv⟩:=h a e;refine⟨.inl e,v,hv,λo m=>(by cases m),λp w e1 e2=>?_⟩
  have e:best=some a:=e;rw[e] at e1;cases e1;rw[hv] at e2;cases e2;exact LJ _
 |o::outs,best,h=>by
  obtain⟨i1,i2⟩:=Il (outs:=outs) (MW h o);rw[GF];constructor
  .rw[i1];unfold mn dD;cases q:atS kn o with
   |none=>rw[List.filterMap_cons_none q]
   |some v=>
    rw[List.filterMap_cons_some q];constructor
    .rintro⟨e,_⟩;exfalso;cases best with
     |none=>cases e
     |some p=>dsimp only at e;split at e <;> cases e
    .rintro⟨_,e⟩;cases e
  .intro a e;obtain⟨j1,v,j2,j3,j4⟩:=i2 a e;cases q:atS kn o with
   |none=>
    have es:mn kn best o=best:=by unfold mn;rw[q]
    rw[es] at j1 j4;refine⟨?_,v,j2,λo' m w e'=>?_,j4⟩
    .rcases j1 with z|z
     .exact .inl z
     .exact .inr (.tail _ z)
    .rcases y0a.mp m with rfl|m
     .rw[q] at e';cases e'
     .exact j3 o' m w e'
   |some u=>
    cases best with
    |none=>
     have es:mn kn none o=some o:=by unfold mn;rw[q]
     rw[es] at j1 j4;refine⟨.inr ?_,v,j2,λo' m w e'=>?_,λp w e'=>(by cases e')⟩
     .rcases j1 with z|z
      .cases z;exact .head _
      .exact .tail _ z
     .rcases y0a.mp m with rfl|m
      .rw[q] at e';cases e';exact j4 o' u rfl q
      .exact j3 o' m w e'
    |some p=>
     obtain⟨pv,hp⟩:=h p rfl;by_cases lF:u<pv
     .have es:mn kn (some p) o=some o:=by unfold mn;rw[q];dsimp only;rw[hp,DC,bL lF]
      rw[es] at j1 j4;refine⟨.inr ?_,v,j2,λo' m w e'=>?_,λp' w e1 e2=>?_⟩
      all_goals grind
     .have es:mn kn (some p) o=some p:=by unfold mn;rw[q];dsimp only;rw[hp,DC,br lF]
      rw[es] at j1 j4;refine⟨?_,v,j2,λo' m w e'=>?_,j4⟩
      all_goals grind
theorem jX{v:Int}:v∈dD kn outs↔∃o∈outs,atS kn o=some v:=nP
theorem kN:fZ kn outs=none↔dD kn outs=[]:=by
 have:=(Il (kn:=kn) (outs:=outs) (best:=none) (λp e=>by cases e)).1
 grind [fZ]
theorem Uk{a:Str}(e:fZ kn outs=some a):a∈outs/\atS kn a=some (iA (dD kn outs)):=by
 obtain⟨j1,v,j2,j3,_⟩:=(Il (kn:=kn) (outs:=outs) (best:=none) (λp e=>by cases e)).2 a e
 have ha:a∈outs:=by
  lia
 have fU:dD kn outs≠[]:=λz=>by rw[kN.mpr z] at e;cases e
 obtain⟨m1,m2⟩:=Nc fU;obtain⟨o,ho,eo⟩:=jX.mp m1;have c1:=j3 o ho _ eo;have c2:=m2 v (jX.mpr ⟨a,ha,j2⟩)
 grind
section
variable{h:aF}{aT n:Str}{c:Int}
theorem e6u(g:aG h)(hc:aT∈h.carts):P0 Fy [.d (aB h),.d (.tup [.str n,.int c]),du aT] (rd (xR h aT n c)):=by
 intro S;have e:=Oh g hc;have v:=Bo n (bc aT h.af);unfold Fy QE xR;generalize aB h=hd at *;cases hk:atS (bc aT h.af) n with
 |none=>
  rw[hk] at v;simp only[↓ev,e,aS,bV,v,y7,j_,eA]
 |some w=>
  rw[hk] at v;simp only[↓ev,e,aS,bV,v,v_,fB,aK,cQ,eA]
theorem VD{S:aR}(ok:xr kn best)(o:Str){g0 g1 g2:aj Val}:Bi 0 [g0,g1,g2,ak (.ay (mW kn)),ak (aQ best),bH o] S=some (.nx [g0,g1,g2,ak (.ay (mW kn)),ak (aQ (mn kn best o)),bH o] S):=by
 have v:=Bo o kn;unfold Bi mn;cases hk:atS kn o with
 |none=>
  rw[hk] at v;simp only[↓ev,aK,v,y7]
 |some w=>
  rw[hk] at v;cases best with
  |none=>
   unfold aQ;simp only[↓ev,aK,v,v_,aS]
  |some p=>
   obtain⟨u,hu⟩:=ok p rfl;have v2:=Bo p kn;rw[hu] at v2;unfold aQ;by_cases hl:w<u
   .have kD:=bK hl;simp only[↓ev,aK,v,v_,v2,kD,decide_true,aS,hu]
   .have kD:=eq_false hl;simp only[↓ev,aK,v,v_,v2,kD,decide_false,hu]
end
section
variable{h:aF}{aT n:Str}{c:Int}
theorem VE{S:aR}{kn:List (Str×Int)}{outs:List Str}{g0 g1 g2 a:aj Val}:∃a',aL (ae 5) (Bi 0) (dS outs) [g0,g1,g2,ak (.ay (mW kn)),ak .aJ,a] S=some (.nx [g0,g1,g2,ak (.ay (mW kn)),ak (aQ (fZ kn outs)),a'] S):=by
 obtain⟨U',S',e,a',rfl,rfl⟩:=jG (gg:=ae 5) (body:=Bi 0) (f:=D.str) (U:=[g0,g1,g2,ak (.ay (mW kn)),ak .aJ,a]) (S:=S) (λpre U S'=>∃a',U=[g0,g1,g2,ak (.ay (mW kn)),ak (aQ (fZ kn pre)),a']/\S'=S) outs ⟨a,rfl,rfl⟩ (by
  rintro d x r eq U S' ⟨a',rfl,rfl⟩;have ok:xr kn (fZ kn d):=Po λp z=>by cases z
  refine⟨_,_,_,rfl,.inl (VD ok x),bH x,?_,rfl⟩;unfold fZ;rw[LK];rfl)
 exact⟨a',e⟩
theorem FC(g:aG h){b:av}(hb:b∈h.af)(hc:aT∈h.carts):P0 Fz [.d (aB h),du b.name,du aT] (rd (aQ (fZ (bc aT h.af) b.outs))):=by
 intro S;have e1:=Oh g hc;have e2:=zF g hb;obtain⟨a',e⟩:=VE (S:=S) (kn:=bc aT h.af) (outs:=b.outs) (g0:=(ak (aB h))) (g1:=(bH b.name)) (g2:=(bH aT)) (a:=none);have hD:aw b=.tup [.str b.name,.int b.long,.bl b.ring,.lst (dS b.outs)]:=rfl;rw[hD] at e2;unfold Fz QF;generalize aB h=hd at *;simp only[↓ev,e1,aS,e2,lr,g9,e,eA]
end
noncomputable abbrev iu(h:aF):Str:=h.carts.getD 0 ""
def qP(h:aF)(ct:Str)(nw cl:Int)(b:Str)(i:Int):Bool:=match atS (bc ct h.af) b with
 |none=>false
 |some v=>decide (nw+(v - i)<=cl)
noncomputable def qW(x:Hl)(w:Row):aj (Str×Int):=w.fl.bind λf=>(x.book.find? λp=>p.1 == f).map (·.2)
def xy(h:aF)(x:Hl)(w:Row):Bool:=match qW x w with
 |none=>false
 |some (ct,cl)=>qP h ct x.now cl w.b w.i
def fH(h:aF)(x:Hl)(w:Row):Str:=match qW x w with
 |none=>iu h
 |some (ct,cl)=>if qP h ct x.now cl w.b w.i=true then ct else iu h
section
variable{s:List Cell}{h:aF}{r:Int}{x:Hl}{n:Nat}{w:Row}
theorem HW(o:Ok h n x)(hw:w∈x.rows):(w.fl=none/\qW x w=none)\/∃f ct cl,w.fl=some f/\qW x w=some (ct,cl)/\ct∈h.carts/\aN (kO x.book) (.inr f)=some (.tup [.str f,.str ct,.int cl]):=by
 unfold qW;cases hf:w.fl with
 |none=>exact .inl ⟨rfl,rfl⟩
 |some f=>
  have v:aN (kO x.book) (.inr f)=_:=Bu f x.book;cases e:x.book.find? (λp=>p.1 == f) with
  |none=>
   obtain⟨p,hp,ep⟩:=fQ.mp ((o.rw w hw).2.2 f hf);have:=Gz.mp e p hp;rw[ep,dP] at this;exact bQ rfl this
  |some p=>
   have e1:=DA e;have e1:p.1=f:=beq_iff_eq.mp e1;refine .inr ⟨f,p.2.1,p.2.2,rfl,by rw[yZ,e];rfl,List.mem_of_mem_drop (o.bk p (DB e)),?_⟩
   rw[v,e,<-e1];rfl
theorem XY(g:aG h)(o:Ok h n x)(hw:w∈x.rows):Ej 0 [gb,du w.bag] (hS (aB h) r x s)=some (.ok (rd (.bl (xy h x w))) (hS (aB h) r x s)):=by
 have h1:aN (gu x.rows) (.inr w.bag)=_:=iG o.nb hw;have h2:aN (gR x.rows) (.inr w.bag)=_:=iG o.nb hw;unfold Ej MB xy;rcases HW o hw with⟨e1,e2⟩|⟨f,ct,cl,e1,e2,hc,hk⟩
 .rw[e1] at h2;rw[e2];unfold aQ at h2;generalize aB h=hd at *;simp only[↓ev,hR,o8,pY,aS,h2,aK,cz]
 .rw[e1] at h2;rw[e2];unfold aQ at h2;have e:=e6u (n:=w.b) (c:=w.i) g hc;unfold xR at e;dsimp only;unfold qP;cases hv:atS (bc ct h.af) w.b with
  |none=>
   rw[hv] at e;generalize aB h=hd at *;simp only[↓ev,hR,o8,pY,aS,h2,aK,p5,qL,hk,l0,mm,ku,kL,h1,cQ,e,cz]
  |some v=>
   rw[hv] at e;generalize aB h=hd at *;simp only[↓ev,hR,o8,pY,aS,h2,aK,p5,qL,hk,l0,mm,ku,kL,h1,cQ,e,Fu,IZ,eJ,cz]
theorem Θ(g:aG h)(o:Ok h n x)(hw:w∈x.rows):El 0 [gb,du w.bag] (hS (aB h) r x s)=some (.ok (rd (.str (fH h x w))) (hS (aB h) r x s)):=by
 have h2:aN (gR x.rows) (.inr w.bag)=_:=iG o.nb hw;have e1:=λq=>XT (s:=s) (r:=r) q (hd:=aB h) (o.rw w hw).2.1 hw o.nb
 have e2:=XY (s:=s) (r:=r) g o hw;obtain⟨_,ha⟩:=Bl g;have hD:aB h=.tup [.lst (h.af.map aw),.lst (dS h.carts)]:=rfl;rw[hD] at e1 e2 ⊢;unfold El MC fH;unfold xy at e2;rcases HW o hw with⟨e3,e4⟩|⟨f,ct,cl,e3,e4,hc,hk⟩
 .rw[e4] at e2 ⊢;unfold iu;generalize h.carts.getD 0 ""=hnd at *;simp only[↓ev,hR,dy,zq,e1,HI,e2,aK,l0,mm,cQ,ha,cz]
 .rw[e4] at e2 ⊢;rw[e3] at h2;unfold aQ at h2;dsimp only at e2 ⊢;unfold iu;generalize h.carts.getD 0 ""=hnd at *;cases hb:qP h ct x.now cl w.b w.i with
  |true=>
   rw[hb] at e2;simp only[↓ev,hR,dy,zq,e1,HI,e2,p5,qL,aS,o8,pY,h2,hk,cQ,cz]
  |false=>
   rw[hb] at e2;simp only[↓ev,hR,dy,zq,e1,HI,e2,aK,l0,mm,cQ,ha,cz]
theorem Im(g:aG h):∀{bs pre:List av},h.af=pre++bs->∀b∈bs,∃v,atS (bc (iu h) h.af) b.name=some v
 |x::bs,pre,eq,b,hb=>by
  have zY:h.af=(pre++[x])++bs:=by rw[eq];simp
  rcases y0a.mp hb with rfl|hb
  .have FL:b∈h.af:=by rw[eq];simp
   have fx:lZ h.carts (b::bs):=AZ (by rw[<-eq];exact g.fwd)
   have key:∀o∈b.outs,∀v,atS (bc (iu h) h.af) o=some v->∃v,atS (bc (iu h) h.af) b.name=some v:=λo m v e=>by
    have hm:=jX.mpr ⟨o,m,e⟩;rw[IH (Bl g).1 g.fwd b FL,br λz=>by rw[z] at hm;cases hm]
    exact⟨_,rfl⟩
   rcases g.hd b FL with z|⟨o,z1,z2⟩
   .exact key _ z _ (Pn (Bl g).1 g.fwd)
   .rcases fx.1 o z1 with y|y
    .obtain⟨w,hw,rfl⟩:=fQ.mp y;obtain⟨v,e⟩:=Im g zY w hw;exact key _ z1 v e
    .exact bQ z2 (EE g.fwd o y)
  .exact Im g zY b hb
theorem Pp(g:aG h)(o:Ok h n x)(hw:w∈x.rows):fH h x w∈h.carts/\∃v,atS (bc (fH h x w) h.af) w.b=some v:=by
 obtain⟨bt,hb,eb,_⟩:=(o.rw w hw).1;have hh:iu h∈h.carts/\∃v,atS (bc (iu h) h.af) w.b=some v:=⟨(Bl g).1,by rw[<-eb];exact Im g (pre:=[]) (bs:=h.af) rfl bt hb⟩
 unfold fH;rcases HW o hw with⟨e3,e4⟩|⟨f,ct,cl,e3,e4,hc,hk⟩
 .rw[e4];exact hh
 .rw[e4];dsimp only;split
  .rename_i xZ
   refine⟨hc,?_⟩;unfold qP at xZ;cases hv:atS (bc ct h.af) w.b with
   |none=>rw[hv] at xZ;cases xZ
   |some v=>exact⟨v,rfl⟩
  .exact hh
end
variable{bt:av}{o:Str}{busy:List Str}
abbrev Goal:=Str×aj Int
def gD:Goal->D
 |(c,none)=>.str c
 |(b,some i)=>pl b i
section
variable{s:List Cell}{h:aF}{r:Int}{x:Hl}{n:Nat}{w:Row}{ct:Str}
theorem Ξ(g:aG h)(hb:bt∈h.af)(hc:ct∈h.carts)(ho:fZ (bc ct h.af) bt.outs=some o)(hi:h.carts.contains o=true){busy:D}:P0 pZ [.d (aB h),.d (aw bt),du ct,.d busy] (rd (.str o)):=by
 intro S;have e:=FC g hb hc;rw[ho] at e;have hD:aB h=.tup [.lst (h.af.map aw),.lst (dS h.carts)]:=rfl;have hB:aw bt=.tup [.str bt.name,.int bt.long,.bl bt.ring,.lst (dS bt.outs)]:=rfl;rw[hD] at e ⊢;rw[hB];unfold pZ AY;unfold aQ at e;simp only[↓ev,bV,e,aS,cQ,iF,aK,ik,hi,eA]
theorem Φ(g:aG h)(hb:bt∈h.af)(hc:ct∈h.carts)(ho:fZ (bc ct h.af) bt.outs=some o)(hi:h.carts.contains o=false)(hy:busy.contains o=false):P0 pZ [.d (aB h),.d (aw bt),du ct,.d (.lst (dS busy))] (rd (pl o 0)):=by
 intro S;have e:=FC g hb hc;rw[ho] at e;have hD:aB h=.tup [.lst (h.af.map aw),.lst (dS h.carts)]:=rfl;have hB:aw bt=.tup [.str bt.name,.int bt.long,.bl bt.ring,.lst (dS bt.outs)]:=rfl;rw[hD] at e ⊢;rw[hB];unfold pZ AY;unfold aQ at e;cases hr:bt.ring with
 |true=>simp only[↓ev,bV,e,aS,cQ,iF,aK,ik,hi,eJ,hy,eA]
 |false=>simp only[↓ev,bV,e,aS,cQ,iF,aK,ik,hi,eJ,eA]
theorem Ψ(g:aG h)(hb:bt∈h.af)(hc:ct∈h.carts)(ho:fZ (bc ct h.af) bt.outs=some o)(hi:h.carts.contains o=false)(hr:bt.ring=true)(hy:busy.contains o=true):P0 pZ [.d (aB h),.d (aw bt),du ct,.d (.lst (dS busy))] (rd (pl bt.name 0)):=by
 intro S;have e:=FC g hb hc;rw[ho] at e;have hD:aB h=.tup [.lst (h.af.map aw),.lst (dS h.carts)]:=rfl;have hB:aw bt=.tup [.str bt.name,.int bt.long,.bl bt.ring,.lst (dS bt.outs)]:=rfl;rw[hD] at e ⊢;rw[hB,hr];unfold pZ AY;unfold aQ at e;simp only[↓ev,bV,e,aS,cQ,iF,aK,ik,hi,eJ,hy,eA]
theorem Ω(g:aG h)(hb:bt∈h.af)(hc:ct∈h.carts)(ho:fZ (bc ct h.af) bt.outs=some o)(hi:h.carts.contains o=false)(hr:bt.ring=false):P0 pZ [.d (aB h),.d (aw bt),du ct,.d (.lst (dS busy))] (rd (pl o 0)):=by
 intro S;have e:=FC g hb hc;rw[ho] at e;have hD:aB h=.tup [.lst (h.af.map aw),.lst (dS h.carts)]:=rfl;have hB:aw bt=.tup [.str bt.name,.int bt.long,.bl bt.ring,.lst (dS bt.outs)]:=rfl;rw[hD] at e ⊢;rw[hB,hr];unfold pZ AY;unfold aQ at e;simp only[↓ev,bV,e,aS,cQ,iF,aK,ik,hi,eJ,eA]
def gm(h:aF)(x:Hl):List Str:=cv h x++(ord h x.rows).filterMap λw=>if(w.i == 0)=true then some w.b else none
theorem Ul(q:Nat)(l:List Row)(hl:l.length<=1000){S:aR}:bf (ae 0) (Hf q) (Hg q) (l.map aY) [none] S []=some (.ok (dS (l.filterMap λw=>if(w.i == 0)=true then some w.b else none)) S):=by
 rw[tR (λw=>(if(w.i == 0)=true then some w.b else none).map D.str) l (by lia) λw m=>by
  unfold Hf Hg aY;generalize aQ w.fl=ff at *;cases hc:(w.i == 0) with
  |true=>exact .inr ⟨rd (.str w.b),.str w.b,rfl,by simp only[↓ev,eJ,cQ,aK,dU,hc],by simp only[↓ev,eJ,bV],rfl⟩
  |false=>exact .inl ⟨rfl,by simp only[↓ev,eJ,cQ,aK,dU,hc]⟩]
 congr 2
 unfold dS;rw[LS]
theorem γ(g:aG h)(o:Ok h n x):Eg 0 [gb] (hS (aB h) r x s)=some (.ok (.o (.lst (dS (gm h x)))) (hS (aB h) r x s)):=by
 have rl:=o.rl;have e1:=λq=>HV (s:=s) (r:=r) (q:=q) (x:=x) g
 have e2:=λq=>By (s:=s) (r:=r) (q:=q) g o
 have e3:=λq=>Ul (S:=hS (aB h) r x s) q (ord h x.rows) (by rw[o.perm.length_eq];lia)
 have hl:((dS (cv h x)).length+(dS ((ord h x.rows).filterMap λw=>if(w.i == 0)=true then some w.b else none)).length<=1000000)=True:=bK (by
  have h1:(cv h x).length<=(h.af.map av.name).length:=v9 _ _;have h2:=DD (λw:Row=>if(w.i == 0)=true then some w.b else none) (ord h x.rows)
  have h3:=o.perm.length_eq;have h4:=g.sm.bl
  grind)
 generalize aB h=hd at *;unfold Eg Mr gm;rw[dS,gf,<-dS,<-dS];simp only[↓ev,hR,dy,HG,e1,wV,e2,e3,hl,cz]
def uj(h:aF)(x:Hl)(bt:av)(o:Str):Goal:=if h.carts.contains o=true then(o,none) else if(bt.ring&&(gm h x).contains o)=true then(bt.name,some 0) else(o,some 0)
def jR(h:aF)(r:Int)(x:Hl)(w:Row)(bt:av):Goal:=if w.i+1<bt.long then(bt.name,some (w.i+1)) else if bt.ring=true/\w.fl=none/\w.gn<r then(bt.name,some 0) else uj h x bt ((fZ (bc (fH h x w) h.af) bt.outs).getD "")
def ar(h:aF)(r:Int)(x:Hl)(w:Row):Goal:=match findB h.af w.b with
 |none=>(w.b,none)
 |some bt=>jR h r x w bt
theorem EH(g:aG h)(hb:bt∈h.af):findB h.af bt.name=some bt:=by
 unfold findB;cases e:h.af.find? (λb=>b.name == bt.name) with
 |none=>
  grind
 |some c=>
  have h1:=DA e;rw[Bd g.fwd c (DB e) bt hb (beq_iff_eq.mp h1)]
theorem Qo(g:aG h)(o:Ok h n x)(hw:w∈x.rows)(hb:bt∈h.af)(eb:bt.name=w.b):∃a,fZ (bc (fH h x w) h.af) bt.outs=some a/\a∈bt.outs:=by
 obtain⟨hc,v,hv⟩:=Pp g o hw;have bg:=IH hc g.fwd bt hb;rw[eb,hv] at bg;have fU:¬dD (bc (fH h x w) h.af) bt.outs=[]:=λz=>by rw[bL z] at bg;cases bg
 cases e:fZ (bc (fH h x w) h.af) bt.outs with
 |none=>exact bQ (kN.mp e) fU
 |some a=>exact⟨a,rfl,(Uk e).1⟩
theorem VF(g:aG h)(hb:bt∈h.af)(hc:ct∈h.carts)(ho:fZ (bc ct h.af) bt.outs=some o):P0 pZ [.d (aB h),.d (aw bt),du ct,.d (.lst (dS (gm h x)))] (rd (gD (uj h x bt o))):=by
 unfold uj;cases e1:h.carts.contains o with
 |true=>exact Ξ g hb hc ho e1
 |false=>
  rw[br (by decide)]
  cases e2:bt.ring with
  |false=>exact Ω g hb hc ho e1 e2
  |true=>
   cases e3:(gm h x).contains o with
   |true=>exact Ψ g hb hc ho e1 e2 e3
   |false=>exact Φ g hb hc ho e1 e3
end
section
variable{s:List Cell}{h:aF}{r:Int}{x:Hl}{n:Nat}{w:Row}{bt:av}{aW:List D}{a8 a9:aj Val}{bz:D}
abbrev wS(hd:D)(r:Int)(x:Hl)(s:List Cell)(aW:List D):aR:=⟨s++[.o (.lst aW)],hR hd r x⟩
theorem Lp(g:aG h)(hb:bt∈h.af)(eb:bt.name=w.b)(hl:(w.i+1<bt.long)=True)(ha:(aW.length<1000000)=True):tF 0 [cS,ak (aB h),ak bz,aO s.length,bH w.bag,ak (aQ w.fl),ak (pl w.b w.i),cD w.gn,a8,a9] (wS (aB h) r x s aW)=some (.nx [cS,ak (aB h),ak bz,aO s.length,bH w.bag,ak (aQ w.fl),ak (pl w.b w.i),cD w.gn,ak (aw bt),ak (pl bt.name (w.i+1))] (wS (aB h) r x s (aW++[.tup [.str w.bag,pl bt.name (w.i+1)]]))):=by
 have e4:=zF g hb;have hB:aw bt=.tup [.str bt.name,.int bt.long,.bl bt.ring,.lst (dS bt.outs)]:=rfl;rw[hB] at e4 ⊢;rw[eb] at e4 ⊢;generalize aB h=hd at *;generalize aQ w.fl=ff at *;unfold tF;simp only[↓ev,bV,e4,aS,cQ,hl,decide_true,eK,ha,jv]
theorem Lq(g:aG h)(hb:bt∈h.af)(eb:bt.name=w.b)(hl:(w.i+1<bt.long)=False)(hr:bt.ring=true)(hf:w.fl=none)(hg:(w.gn<r)=True)(ha:(aW.length<1000000)=True):tF 0 [cS,ak (aB h),ak bz,aO s.length,bH w.bag,ak (aQ w.fl),ak (pl w.b w.i),cD w.gn,a8,a9] (wS (aB h) r x s aW)=some (.nx [cS,ak (aB h),ak bz,aO s.length,bH w.bag,ak (aQ w.fl),ak (pl w.b w.i),cD w.gn,ak (aw bt),ak (pl bt.name 0)] (wS (aB h) r x s (aW++[.tup [.str w.bag,pl bt.name 0]]))):=by
 have e4:=zF g hb;have e5:=λq s=>Nx (s:=s) (hd:=aB h) (r:=r) (q:=q) (x:=x)
 have hB:aw bt=.tup [.str bt.name,.int bt.long,.bl bt.ring,.lst (dS bt.outs)]:=rfl;rw[hB,hr] at e4 ⊢;rw[eb] at e4 ⊢;rw[hf];generalize aB h=hd at *;unfold tF aQ;simp only[↓ev,bV,e4,aS,cQ,hl,decide_false,aK,eJ,hR,dy,Nw,e5,hg,decide_true,eK,ha,jv]
theorem Lr(g:aG h)(o:Ok h n x)(hw:w∈x.rows)(hb:bt∈h.af)(eb:bt.name=w.b)(hl:(w.i+1<bt.long)=False){goal:D}(ho:P0 pZ [.d (aB h),.d (aw bt),du (fH h x w),.d bz] (rd goal))(hc:bt.ring=false\/(∃f,w.fl=some f)\/w.fl=none/\¬w.gn<r)(ha:(aW.length<1000000)=True):tF 0 [cS,ak (aB h),ak bz,aO s.length,bH w.bag,ak (aQ w.fl),ak (pl w.b w.i),cD w.gn,a8,a9] (wS (aB h) r x s aW)=some (.nx [cS,ak (aB h),ak bz,aO s.length,bH w.bag,ak (aQ w.fl),ak (pl w.b w.i),cD w.gn,ak (aw bt),ak goal] (wS (aB h) r x s (aW++[.tup [.str w.bag,goal]]))):=by
 have e4:=zF g hb;have e5:=λq s=>Nx (s:=s) (hd:=aB h) (r:=r) (q:=q) (x:=x)
 have e6:=λs=>Θ (s:=s) (r:=r) g o hw
 have hB:aw bt=.tup [.str bt.name,.int bt.long,.bl bt.ring,.lst (dS bt.outs)]:=rfl;rw[hB] at e4 ho ⊢;rw[eb] at e4 ho ⊢;generalize aB h=hd at *;generalize fH h x w=ct at *;unfold tF;cases er:bt.ring with
 |false=>
  rw[er] at e4 ho;generalize aQ w.fl=ff at *;simp only[↓ev,bV,e4,aS,cQ,hl,decide_false,aK,eJ,hR,dy,HH,e6,ho,eK,ha,jv]
 |true=>
  rw[er] at e4 ho;rcases hc with z|⟨f,hf⟩|⟨hf,hg⟩
  .rw[er] at z;cases z
  .rw[hf];unfold aQ;simp only[↓ev,bV,e4,aS,cQ,hl,decide_false,aK,eJ,hR,dy,HH,e6,ho,eK,ha,jv]
  .rw[hf];unfold aQ;have hg:=eq_false hg;simp only[↓ev,bV,e4,aS,cQ,hl,decide_false,aK,eJ,hR,dy,Nw,e5,hg,HH,e6,ho,eK,ha,jv]
theorem δ(g:aG h)(o:Ok h n x)(hw:w∈x.rows)(ha:aW.length<1000)(s:List Cell):∃b8 b9,tF 0 [cS,ak (aB h),ak (.lst (dS (gm h x))),aO s.length,bH w.bag,ak (aQ w.fl),ak (pl w.b w.i),cD w.gn,a8,a9] (wS (aB h) r x s aW)=some (.nx [cS,ak (aB h),ak (.lst (dS (gm h x))),aO s.length,bH w.bag,ak (aQ w.fl),ak (pl w.b w.i),cD w.gn,b8,b9] (wS (aB h) r x s (aW++[.tup [.str w.bag,gD (ar h r x w)]]))):=by
 obtain⟨bt,hb,eb,_,_⟩:=(o.rw w hw).1;have JM:(aW.length<1000000)=True:=bK (by lia)
 have eg:ar h r x w=jR h r x w bt:=by unfold ar;rw[<-eb,EH g hb]
 rw[eg];unfold jR;by_cases hl:w.i+1<bt.long
 .rw[bL hl];exact⟨_,_,Lp g hb eb (bK hl) JM⟩
 .rw[br hl];by_cases hc:bt.ring=true/\w.fl=none/\w.gn<r
  .rw[bL hc];exact⟨_,_,Lq g hb eb (eq_false hl) hc.1 hc.2.1 (bK hc.2.2) JM⟩
  .rw[br hc];obtain⟨a,ea,_⟩:=Qo g o hw hb eb;rw[ea,DC];refine⟨_,_,Lr g o hw hb eb (eq_false hl) (VF g hb (Pp g o hw).1 ea) ?_ JM⟩;cases er:bt.ring with
   |false=>exact .inl rfl
   |true=>
    cases ef:w.fl with
    |some f=>exact .inr (.inl ⟨f,rfl⟩)
    |none=>exact .inr (.inr ⟨rfl,λz=>hc ⟨er,ef,z⟩⟩)
def mR(h:aF)(r:Int)(x:Hl)(w:Row):D:=.tup [.str w.bag,gD (ar h r x w)]
theorem Oi(g:aG h)(o:Ok h n x):A' 0 [gb] (hS (aB h) r x s)=some (.ok (.o (.lst ((ord h x.rows).map (mR h r x)))) (hS (aB h) r x s)):=by
 have rl:=o.rl;have e1:=λq s=>VB (s:=s) (r:=r) (q:=q) (x:=x) g
 have e2:=λs=>γ (s:=s) (r:=r) g o
 have e3:=λq s=>By (s:=s) (r:=r) (q:=q) g o
 have pl:=o.perm.length_eq;obtain⟨U',S',e,⟨a4,a5,a6,a7,a8,a9,rfl⟩,rfl⟩:=jG (gg:=bC [(ae 4),(ae 5),(ae 6),(ae 7)]) (body:=tF 0) (f:=aY) (U:=[cS,ak (aB h),ak (.lst (dS (gm h x))),aO s.length,none,none,none,none,none,none]) (S:=wS (aB h) r x s []) (λpre U S'=>(∃a4 a5 a6 a7 a8 a9,U=[cS,ak (aB h),ak (.lst (dS (gm h x))),aO s.length,a4,a5,a6,a7,a8,a9])/\S'=wS (aB h) r x s (pre.map (mR h r x))) (ord h x.rows) ⟨⟨_,_,_,_,_,_,rfl⟩,rfl⟩ (by
  rintro d w post eq U S' ⟨⟨a4,a5,a6,a7,a8,a9,rfl⟩,rfl⟩;have hw:w∈x.rows:=o.mem.mp (by rw[eq];simp)
  have hd:d.length<1000:=by
   grind
  obtain⟨b8,b9,e⟩:=δ (r:=r) (a8:=a8) (a9:=a9) g o hw (aW:=d.map (mR h r x)) (by rw[bJ];exact hd) s
  refine⟨_,_,_,rfl,.inl e,⟨_,_,_,_,_,_,rfl⟩,?_⟩;rw[gf];rfl)
 generalize aB h=hd at *;generalize dS (gm h x)=bz at *;unfold A' N1;simp only[↓ev,hR,dy,VA,e1,aS,e2,aK,wV,e3,g9,e,yq,eK,qQ]
end
variable{W W':List (Str×D)}{b:Str}{S:aR}{n:Nat}
noncomputable def cB(W:List (Str×D)):List (TK×D):=td (·.1) (·.2) W
noncomputable def bN(G:Row->Goal)(L:List Row):List (TK×D):=td Row.bag (λw=>gD (G w)) L
abbrev tw(S:aR)(n:Nat)(W:List (Str×D)):aR:=⟨S.s.set n (.o (.ay (cB W))),S.r⟩
theorem Ja{y:D}(h:b∉W.map (·.1)):bR (cB W) (.inr b) y=cB (W++[(b,y)]):=by
 unfold cB;rw[Bv h];unfold td;rw[gf];rfl
theorem zX:(aN (cB W) (.inr b)).isSome=(W.map (·.1)).contains b:=zW
theorem Jl(hn:n<S.s.length):(S.s.set n (.o (.ay (cB W))))[n]?=some (.o (.ay (cB W))):=uO hn
theorem Jb:(S.s.set n (.o (.ay (cB W)))).set n (.o (.ay (cB W')))=S.s.set n (.o (.ay (cB W'))):=GK ..
theorem ε:(tw S n W').cut (S.s.set n (.o (.ay (cB W)))).length=tw S n W':=by
 grind [aR.cut,List.take_of_length_le]
noncomputable def iE(st:List Str)(G:Row->Goal)(w:Row):aj D:=if st.contains w.b=true then some (.tup [.str "stopped",.str w.b]) else match G w with
 |(b,some _)=>if st.contains b=true then some (.tup [.str "stopped",.str b]) else none
 |(_,none)=>none
def b_(st:List Str)(G:Row->Goal)(L:List Row):List (Str×D):=L.filterMap λw=>(iE st G w).map λy=>(w.bag,y)
section
variable{S:aR}{n:Nat}{st:List Str}{G:Row->Goal}{L:List Row}{w:Row}{W:List (Str×D)}{a8 bg:aj Val}
theorem VG(hn:n<S.s.length)(hv:aN (bN G L) (.inr w.bag)=some (gD (G w)))(hW:w.bag∉W.map (·.1))(hl:W.length<1000):∃b8,zj 0 [bg,ak (.ay (bN G L)),ak (.lst (dS st)),aO n,bH w.bag,ak (aQ w.fl),ak (pl w.b w.i),cD w.gn,a8] (tw S n W)=some (.nx [bg,ak (.ay (bN G L)),ak (.lst (dS st)),aO n,bH w.bag,ak (aQ w.fl),ak (pl w.b w.i),cD w.gn,b8] (tw S n (W++((iE st G w).map λy=>(w.bag,y)).toList))):=by
 have ta:=Jl (W:=W) hn;have ts:=λW'=>Jb (S:=S) (n:=n) (W:=W) (W':=W')
 have hp:=λy=>Ja (y:=y) hW
 have kD:((cB W).length<1000000)=True:=bK (by unfold cB;rw[lq];lia)
 unfold iE;cases h1:st.contains w.b with
 |true=>
  refine⟨(ak (gD (G w))),?_⟩;generalize gD (G w)=gg at *;generalize aQ w.fl=ff at *;show _=some (Fr.nx _ (tw S n (W++[(w.bag,_)])));unfold zj;simp only[↓ev,hv,aS,bV,iF,aK,ik,h1,ta,kD,hp,ts]
 |false=>
  rw[br (by decide)]
  generalize aQ w.fl=ff at *;obtain⟨c,gi⟩:∃c,G w=c:=⟨_,rfl⟩;rw[gi] at hv ⊢;obtain⟨c,i⟩:=c;cases i with
  |none=>
   refine⟨(bH c),?_⟩;show _=some (Fr.nx _ (tw S n (W++[])));rw[kT];unfold zj;unfold gD at hv;simp only[↓ev,hv,aS,bV,iF,aK,ik,h1,F4]
  |some i=>
   refine⟨(ak (pl c i)),?_⟩;unfold zj;unfold gD at hv;dsimp only at hv ⊢;cases h2:st.contains c with
   |true=>
    show _=some (Fr.nx _ (tw S n (W++[(w.bag,_)])));simp only[↓ev,hv,aS,bV,iF,aK,ik,h1,oz,h2,ta,kD,hp,ts]
   |false=>
    show _=some (Fr.nx _ (tw S n (W++[])));rw[kT];simp only[↓ev,hv,aS,bV,iF,aK,ik,h1,oz,h2]
theorem MX(st:List Str)(G:Row->Goal)(L:List Row):∀b∈(b_ st G L).map (·.1),b∈L.map Row.bag:=λb m=>by
 obtain⟨p,hp,rfl⟩:=fQ.mp m;obtain⟨w,hw,e⟩:=nP.mp hp;obtain⟨y,_,rfl⟩:=cW.mp e;exact lU hw
theorem Io{d post:List Row}(eq:L=d++w::post)(nd:(L.map Row.bag).Nodup):w.bag∉d.map Row.bag:=by
 grind
theorem XZ(hn:n<S.s.length)(nd:(L.map Row.bag).Nodup)(hl:L.length<100):DZ 0 [.d (.lst (L.map aY)),.d (.ay (bN G L)),.d (.lst (dS st)),.c n] (tw S n [])=some (.ok (rd .aJ) (tw S n (b_ st G L))):=by
 obtain⟨U',S',e,⟨a4,a5,a6,a7,a8,rfl⟩,rfl⟩:=jG (gg:=bC [(ae 4),(ae 5),(ae 6),(ae 7)]) (body:=zj 0) (f:=aY) (U:=[ak (.lst (L.map aY)),ak (.ay (bN G L)),ak (.lst (dS st)),aO n,none,none,none,none,none]) (S:=tw S n []) (λpre U S'=>(∃a4 a5 a6 a7 a8,U=[ak (.lst (L.map aY)),ak (.ay (bN G L)),ak (.lst (dS st)),aO n,a4,a5,a6,a7,a8])/\S'=tw S n (b_ st G pre)) L ⟨⟨_,_,_,_,_,rfl⟩,rfl⟩ (by
  rintro d w post eq U S' ⟨⟨a4,a5,a6,a7,a8,rfl⟩,rfl⟩;have hw:w∈L:=by rw[eq];simp
  have hv:aN (bN G L) (.inr w.bag)=some (gD (G w)):=iG nd hw;have hd:d.length<100:=by
   grind
  obtain⟨b8,e⟩:=VG (st:=st) (a8:=a8) (bg:=(ak (.lst (L.map aY)))) hn hv (W:=b_ st G d) (λm=>Io eq nd (MX st G d _ m)) (LD (DD _ _) (by lia))
  refine⟨_,_,_,rfl,.inl e,⟨_,_,_,_,_,rfl⟩,?_⟩;unfold b_;rw[LU];rw[show List.filterMap (λw=>(iE st G w).map λy=>(w.bag,y)) [w]=((iE st G w).map λy=>(w.bag,y)).toList by rw[r_,Aw];cases(iE st G w) <;> rfl])
 have cu:=ε (S:=S) (n:=n) (W:=[]) (W':=b_ st G L);generalize b_ st G L=W2 at *;unfold DZ L5;simp only[↓ev,g9,e,cu]
end
abbrev aZ:=Str×Int
noncomputable def kC(p:aZ):TK:=.tp [.inr p.1,.inl p.2]
theorem Qp{p q:aZ}(e:kC p=kC q):p=q:=by
 grind [kC]
def gp(C:List (aZ×Str)):List (TK×D):=C.map λe=>(kC e.1,.str e.2)
noncomputable def look(C:List (aZ×Str))(k:aZ):aj Str:=(C.find? λe=>e.1 == k).map (·.2)
noncomputable def jM:List (aZ×Str)->aZ->Str->List (aZ×Str)
 |[],k,v=>[(k,v)]
 |e::es,k,v=>if e.1=k then(e.1,v)::es else e::jM es k v
theorem wJ{e:aZ×Str}{es:List (aZ×Str)}{k:aZ}:look (e::es) k=if e.1=k then some e.2 else look es k:=by
 grind [look]
theorem Ip(k:aZ)(v:Str)(k':aZ):∀C:List (aZ×Str),look (jM C k v) k'=if k=k' then some v else look C k'
 |[]=>by show look [(k,v)] k'=_;rw[wJ]
 |e::es=>by
  unfold jM;by_cases h:e.1=k
  .rw[bL h,wJ,wJ,h];split <;> rfl
  .rw[br h,wJ,Ip k v k' es,wJ]
   lia
theorem Bz(k:aZ):∀C:List (aZ×Str),aN (gp C) (kC k)=(look C k).map D.str
 |[]=>rfl
 |e::es=>by
  have ih:=Bz k es
  grind [wJ,aN,gp,Qp]
theorem Jc(k:aZ)(v:Str):∀C:List (aZ×Str),bR (gp C) (kC k) (.str v)=gp (jM C k v)
 |[]=>rfl
 |e::es=>by
  have ih:=Jc k v es
  grind [gp,EG,jM,Qp]
theorem Oj(k:aZ)(v:Str):∀C:List (aZ×Str),(jM C k v).length<=C.length+1
 |[]=>by unfold jM;exact bU _
 |e::es=>by
  have ih:=Oj k v es;unfold jM;split
  .rw[j9,j9];lia
  .rw[j9,j9];lia
noncomputable def gk(G:Row->Goal)(w:Row):aZ:=((G w).1,(G w).2.getD 0)
def ask(G:Row->Goal)(W:List (Str×D))(L:List Row):List Row:=L.filter λw => !(W.map (·.1)).contains w.bag&&(G w).2.isSome
theorem QG{G:Row->Goal}{w:Row}(h:(G w).2.isSome=true):gD (G w)=pl (gk G w).1 (gk G w).2:=by
 unfold gk gD;generalize G w=p at *;obtain⟨c,i⟩:=p;cases i with
 |none=>cases h
 |some i=>rfl
theorem kp{o:Str}{j:Int}:jk [.str o,.int j]=some [.inr o,.inl j]:=by simp[jk,pQ]
def BI(G:Row->Goal)(C:List (aZ×Str))(w:Row):List (aZ×Str):=if look C (gk G w)=none\/w.b=(gk G w).1 then jM C (gk G w) w.bag else C
section
variable{S:aR}{n m:Nat}{G:Row->Goal}{L:List Row}{w:Row}{W:List (Str×D)}{C:List (aZ×Str)}{a8 a9 DV g0 g3:aj Val}{t rr:List Cell}
theorem ζ(hv:aN (bN G L) (.inr w.bag)=some (gD (G w)))(hs:(G w).2.isSome=true)(ht:t[m]?=some (.o (.ay (gp C))))(hl:C.length<1000):AJ 0 [g0,ak (.ay (bN G L)),aO n,g3,aO m,bH w.bag,ak (aQ w.fl),ak (pl w.b w.i),cD w.gn,a9,DV] ⟨t,rr⟩=some (.nx [g0,ak (.ay (bN G L)),aO n,g3,aO m,bH w.bag,ak (aQ w.fl),ak (pl w.b w.i),cD w.gn,ak (gD (G w)),DV] ⟨t.set m (.o (.ay (gp (BI G C w)))),rr⟩):=by
 rw[QG hs] at hv ⊢;have v:=Bz (gk G w) C;have pu:=Jc (gk G w) w.bag C;have kD:((gp C).length<1000000)=True:=bK (by unfold gp;rw[bJ];lia)
 have lt:(m<t.length)=True:=bK (eU.mp ht).1;have se:t.set m (.o (.ay (gp C)))=t:=by
  obtain⟨h1,h2⟩:=eU.mp ht;rw[<-h2,LV]
 unfold BI;unfold kC at v pu;generalize aQ w.fl=ff at *;unfold AJ;cases hk:look C (gk G w) with
 |none=>
  rw[bL (.inl rfl)];rw[hk] at v;simp only[↓ev,hv,aS,ht,v,y7,j_,kD,pu]
 |some b=>
  rw[hk] at v;cases he:(w.b == (gk G w).1) with
  |true=>
   rw[bL (.inr (beq_iff_eq.mp he))];simp only[↓ev,hv,aS,ht,v,v_,fB,aK,bV,eC,he,kD,pu]
  |false=>
   rw[br (by rw[not_or];exact⟨λz=>(by cases z),λz=>(by rw[z,dP] at he;cases he)⟩),se]
   simp only[↓ev,hv,aS,ht,v,v_,fB,aK,bV,eC,he]
theorem VH(q:Nat)(nd:(L.map Row.bag).Nodup)(hl:L.length<=1000)(hn:t[n]?=some (.o (.ay (cB W)))):bf (ae 0) (G4 q) (G5 q) (L.map aY) [none,aO n,ak (.ay (bN G L))] ⟨t,rr⟩ []=some (.ok ((ask G W L).map aY) ⟨t,rr⟩):=by
 rw[tR (λw=>if(!(W.map (·.1)).contains w.bag&&(G w).2.isSome)=true then some (aY w) else none) L (by lia) λw m=>by
  have v:aN (bN G L) (.inr w.bag)=_:=iG nd m;have i:=zX (W:=W) (b:=w.bag);unfold G4 G5;cases h1:(W.map (·.1)).contains w.bag with
  |true=>
   refine .inl ⟨rfl,?_⟩;rw[h1] at i;unfold aY;generalize aQ w.fl=ff at *;generalize gD (G w)=gg at *;simp only[↓ev,bV,hn,i,fB,aK]
  |false=>
   rw[h1] at i;cases h2:(G w).2 with
   |none=>
    have e:gD (G w)=.str (G w).1:=by unfold gD;generalize G w=p at *;obtain⟨c,j⟩:=p;cases h2;rfl
    rw[e] at v;refine .inl ⟨rfl,?_⟩;unfold aY;generalize aQ w.fl=ff at *;simp only[↓ev,bV,hn,i,j_,v,F4]
   |some j=>
    have e:gD (G w)=pl (G w).1 j:=by unfold gD;generalize G w=p at *;obtain⟨c,j⟩:=p;cases h2;rfl
    rw[e] at v;refine .inr ⟨rd (aY w),aY w,rfl,?_,?_,rfl⟩
    .unfold aY;generalize aQ w.fl=ff at *;simp only[↓ev,bV,hn,i,j_,v,oz]
    rfl]
 congr 2
 unfold ask;clear nd hl
 induction L with
 |nil=>rfl
 |cons w L ih=>
  rw[r_,DI,ih];cases(!(W.map (·.1)).contains w.bag&&(G w).2.isSome) <;> rfl
end
variable{G:Row->Goal}
def kU(G:Row->Goal)(d:List Row)(C:List (aZ×Str)):Prop:=(∀k b,look C k=some b->∃c∈d,c.bag=b/\gk G c=k/\((∃z∈d,gk G z=k/\z.b=k.1)->c.b=k.1)/\(c.b=k.1\/∀z∈d,gk G z=k->z=c\/[c,z].Sublist d))/\(∀w∈d,look C (gk G w)≠none)/\C.length<=d.length
theorem η:kU G [] []:=⟨λk b e=>(by cases e),λw m=>(by cases m),bU _⟩
theorem X0{d:List Row}{C:List (aZ×Str)}(o:kU G d C)(w:Row):kU G (d++[w]) (BI G C w):=by
 obtain⟨o1,o2,o3⟩:=o;have me:∀{z},z∈d++[w]↔z∈d\/z=w:=λ{z}=>by rw[gw,lW]
 have up:∀{c z:Row},[c,z].Sublist d->[c,z].Sublist (d++[w]):=λz=>z.trans (List.sublist_append_left _ _)
 have nw:∀{c:Row},c∈d->[c,w].Sublist (d++[w]):=λm=>(List.singleton_sublist.mpr m).append (List.Sublist.refl [w])
 unfold BI;by_cases hc:look C (gk G w)=none\/w.b=(gk G w).1
 .rw[bL hc];refine⟨λk b e=>?_,λz m=>?_,?_⟩
  .rw[Ip] at e;have no:∀z∈d,gk G z=k->gk G w=k->w.b=k.1:=λz mz e1 hk=>hc.elim (λhc=>bQ (by rw[e1,<-hk];exact hc) (o2 z mz)) λhc=>by rw[<-hk];exact hc
   by_cases hk:gk G w=k
   .rw[bL hk] at e;refine⟨w,me.mpr (.inr rfl),Option.some.inj e,hk,λ⟨z,mz,e1,e2⟩=>(me.mp mz).elim (λmz=>no z mz e1 hk) λq=>by rw[<-q];exact e2,?_⟩
    by_cases hb:w.b=k.1
    .exact .inl hb
    .exact .inr λz mz e1=>(me.mp mz).elim (λmz=>bQ (no z mz e1 hk) hb) .inl
   .rw[br hk] at e;obtain⟨c,mc,e1,e2,e3,e4⟩:=o1 k b e;exact⟨c,me.mpr (.inl mc),e1,e2,λ⟨z,mz,e4,e5⟩=>e3 ((me.mp mz).elim (λmz=>⟨z,mz,e4,e5⟩) λq=>bQ (by rw[<-q];exact e4) hk),e4.imp id λf z mz ez=>(me.mp mz).elim (λmz=>(f z mz ez).imp id up) λq=>bQ (by rw[<-q];exact ez) hk⟩
  all_goals grind [Ip,Oj]
 .rw[br hc];rw[not_or] at hc;refine⟨λk b e=>?_,λz m=>?_,by rw[dw];lia⟩
  .obtain⟨c,mc,e1,e2,e3,e4⟩:=o1 k b e;exact⟨c,me.mpr (.inl mc),e1,e2,λ⟨z,mz,e4,e5⟩=>e3 ((me.mp mz).elim (λmz=>⟨z,mz,e4,e5⟩) λq=>bQ (by rw[<-q,e4];exact e5) hc.2),e4.imp id λf z mz ez=>(me.mp mz).elim (λmz=>(f z mz ez).imp id up) λq=>.inr (q ▸ nw mc)⟩
  .grind
def dr(G:Row->Goal)(C:List (aZ×Str))(w:Row):aj (Str×D):=match look C (gk G w) with
 |none=>none
 |some c=>if c=w.bag then none else some (w.bag,.tup [.str "yields",.str c])
section
variable{S:aR}{n m:Nat}{G:Row->Goal}{L A:List Row}{w:Row}{W:List (Str×D)}{C:List (aZ×Str)}{a8 a9 DV g0 g3:aj Val}{t rr:List Cell}
theorem θ(hv:aN (bN G L) (.inr w.bag)=some (gD (G w)))(hs:(G w).2.isSome=true)(hm:t[m]?=some (.o (.ay (gp C))))(hn:t[n]?=some (.o (.ay (cB W))))(hW:w.bag∉W.map (·.1))(hl:W.length<1000){c:Str}(hk:look C (gk G w)=some c):AK 0 [g0,ak (.ay (bN G L)),aO n,g3,aO m,bH w.bag,ak (aQ w.fl),ak (pl w.b w.i),cD w.gn,a9,DV] ⟨t,rr⟩=some (.nx [g0,ak (.ay (bN G L)),aO n,g3,aO m,bH w.bag,ak (aQ w.fl),ak (pl w.b w.i),cD w.gn,a9,bH c] ⟨t.set n (.o (.ay (cB (W++(dr G C w).toList)))),rr⟩):=by
 rw[QG hs] at hv;have v:=Bz (gk G w) C;rw[hk] at v;have hp:=λy=>Ja (y:=y) hW
 have kD:((cB W).length<1000000)=True:=bK (by unfold cB;rw[lq];lia)
 have lt:(n<t.length)=True:=bK (eU.mp hn).1;have se:t.set n (.o (.ay (cB W)))=t:=by
  obtain⟨h1,h2⟩:=eU.mp hn;rw[<-h2,LV]
 unfold dr;rw[hk];dsimp only;unfold kC at v;generalize aQ w.fl=ff at *;unfold AK;cases he:(c == w.bag) with
 |true=>
  rw[bL (beq_iff_eq.mp he)];show _=some (Fr.nx _ ⟨t.set n (.o (.ay (cB (W++[])))),rr⟩);rw[kT,se];simp only[↓ev,hv,hm,v,aS,eC,he,fB,aK]
 |false=>
  rw[br (by rw[m7] at he;exact he)]
  show _=some (Fr.nx _ ⟨t.set n (.o (.ay (cB (W++[(w.bag,.tup [.str "yields",.str c])])))),rr⟩);simp only[↓ev,hv,hm,v,aS,eC,he,j_,hn,kD,hp]
theorem il:w∈ask G W L↔w∈L/\w.bag∉W.map (·.1)/\(G w).2.isSome=true:=by
 grind [ask]
theorem Om(C:List (aZ×Str))(A:List Row):∀b∈(A.filterMap (dr G C)).map (·.1),b∈A.map Row.bag:=λb m=>by
 grind [dr]
theorem X1(nd:(L.map Row.bag).Nodup)(hl:L.length<100)(hA:∀w∈A,w∈L/\(G w).2.isSome=true)(FH:A.length<100)(t:List Cell):∃C,kU G A C/\∃a5 a6 a7 a8 a9,aL (bC [(ae 5),(ae 6),(ae 7),(ae 8)]) (AJ 0) (A.map aY) [g0,ak (.ay (bN G L)),aO n,g3,aO t.length,none,none,none,none,none,none] ⟨t++[.o (.ay [])],rr⟩=some (.nx [g0,ak (.ay (bN G L)),aO n,g3,aO t.length,a5,a6,a7,a8,a9,none] ⟨t++[.o (.ay (gp C))],rr⟩):=by
 obtain⟨U',S',e,⟨a5,a6,a7,a8,a9,rfl⟩,C,oC,rfl⟩:=jG (gg:=bC [(ae 5),(ae 6),(ae 7),(ae 8)]) (body:=AJ 0) (f:=aY) (U:=[g0,ak (.ay (bN G L)),aO n,g3,aO t.length,none,none,none,none,none,none]) (S:=⟨t++[.o (.ay [])],rr⟩) (λpre U S'=>(∃a5 a6 a7 a8 a9,U=[g0,ak (.ay (bN G L)),aO n,g3,aO t.length,a5,a6,a7,a8,a9,none])/\∃C,kU G pre C/\S'=⟨t++[.o (.ay (gp C))],rr⟩) A ⟨⟨_,_,_,_,_,rfl⟩,[],η,rfl⟩ (by
  rintro d w post eq U S' ⟨⟨a5,a6,a7,a8,a9,rfl⟩,C,oC,rfl⟩;obtain⟨hw,hs⟩:=hA w (by rw[eq];simp)
  have hd:d.length<100:=by
   grind
  have:=oC.2.2;refine⟨_,_,_,rfl,.inl (ζ (iG nd hw) hs eK (by lia)),⟨_,_,_,_,_,rfl⟩,BI G C w,X0 oC w,?_⟩
  rw[jv];rfl)
 exact⟨C,oC,a5,a6,a7,a8,a9,e⟩
theorem X2(nd:(L.map Row.bag).Nodup)(Kp:(A.map Row.bag).Nodup)(hA:∀w∈A,w∈L/\w.bag∉W.map (·.1)/\(G w).2.isSome=true)(FH:A.length<100)(JL:W.length<100)(oC:kU G A C){t:List Cell}(hn:t[n]?=some (.o (.ay (cB W))))(hm:t[m]?=some (.o (.ay (gp C))))(nm:n≠m){a5 a6 a7 a8 a9:aj Val}:∃b5 b6 b7 b8 xm,aL (bC [(ae 5),(ae 6),(ae 7),(ae 8)]) (AK 0) (A.map aY) [g0,ak (.ay (bN G L)),aO n,g3,aO m,a5,a6,a7,a8,a9,none] ⟨t,rr⟩=some (.nx [g0,ak (.ay (bN G L)),aO n,g3,aO m,b5,b6,b7,b8,a9,xm] ⟨t.set n (.o (.ay (cB (W++A.filterMap (dr G C))))),rr⟩):=by
 have lt:=(eU.mp hn).1;have se:t.set n (.o (.ay (cB (W++[]))))=t:=by
  obtain⟨h1,h2⟩:=eU.mp hn;rw[kT,<-h2,LV]
 obtain⟨U',S',e,⟨b5,b6,b7,b8,xm,rfl⟩,rfl⟩:=jG (gg:=bC [(ae 5),(ae 6),(ae 7),(ae 8)]) (body:=AK 0) (f:=aY) (U:=[g0,ak (.ay (bN G L)),aO n,g3,aO m,a5,a6,a7,a8,a9,none]) (S:=⟨t,rr⟩) (λpre U S'=>(∃b5 b6 b7 b8 xm,U=[g0,ak (.ay (bN G L)),aO n,g3,aO m,b5,b6,b7,b8,a9,xm])/\S'=⟨t.set n (.o (.ay (cB (W++pre.filterMap (dr G C))))),rr⟩) A ⟨⟨_,_,_,_,_,rfl⟩,by rw[Aw,se]⟩ (by
  rintro d w post eq U S' ⟨⟨b5,b6,b7,b8,xm,rfl⟩,rfl⟩;have Q5:w∈A:=by rw[eq];simp
  obtain⟨hw,hwW,hs⟩:=hA w Q5;have hd:d.length<100:=by
   have:=congrArg List.length eq;rw[dw] at this;lia
  obtain⟨c,hc⟩:=Option.ne_none_iff_exists'.mp (oC.2.1 w Q5);have hlen:=DD (dr G C) d;refine⟨_,_,_,rfl,.inl (θ (iG nd hw) hs (by rw[Ao nm];exact hm) (by rw[uO lt]) (W:=W++d.filterMap (dr G C)) (λz=>?_) (by rw[dw];lia) hc),⟨_,_,_,_,_,rfl⟩,?_⟩
  .rw[gf,gw] at z;rcases z with z|z
   .exact hwW z
   .exact Io eq Kp (Om C d _ z)
  .rw[GK,LU,lX,show List.filterMap (dr G C) [w]=(dr G C w).toList by rw[r_,Aw];cases dr G C w <;> rfl])
 exact⟨b5,b6,b7,b8,xm,e⟩
theorem X3(hn:n<S.s.length)(nd:(L.map Row.bag).Nodup)(hl:L.length<100)(JL:W.length<100):∃C,kU G (ask G W L) C/\DW 0 [.d (.lst (L.map aY)),.d (.ay (bN G L)),.c n] (tw S n W)=some (.ok (rd .aJ) (tw S n (W++(ask G W L).filterMap (dr G C)))):=by
 have ta:=Jl (W:=W) hn;have hA:∀w∈ask G W L,w∈L/\w.bag∉W.map (·.1)/\(G w).2.isSome=true:=λw m=>il.mp m
 have FH:(ask G W L).length<100:=LD (v9 _ _) hl;have Kp:((ask G W L).map Row.bag).Nodup:=nd.sublist (List.Sublist.map _ DK);have e1:=λq=>VH (G:=G) (rr:=S.r) q nd (by lia) ta
 obtain⟨C,oC,a5,a6,a7,a8,a9,e2⟩:=X1 (n:=n) (rr:=S.r) (g0:=(ak (.lst (L.map aY)))) (g3:=(ak (.lst ((ask G W L).map aY)))) nd hl (λw m=>⟨(hA w m).1,(hA w m).2.2⟩) FH (S.s.set n (.o (.ay (cB W))))
 have lF:n<(S.s.set n (.o (.ay (cB W)))).length:=by rw[v7];exact hn
 obtain⟨b5,b6,b7,b8,xm,e3⟩:=X2 (n:=n) (m:=(S.s.set n (.o (.ay (cB W)))).length) (rr:=S.r) (g0:=(ak (.lst (L.map aY)))) (g3:=(ak (.lst ((ask G W L).map aY)))) (a5:=a5) (a6:=a6) (a7:=a7) (a8:=a8) (a9:=a9) nd Kp hA FH JL oC (t:=S.s.set n (.o (.ay (cB W)))++[.o (.ay (gp C))]) (by rw[uQ lF];exact ta) eK (by lia)
 refine⟨C,oC,?_⟩;generalize(ask G W L).filterMap (dr G C)=Y at *;rw[List.set_append_left _ _ lF,Jb] at e3;have cu:aR.cut ⟨S.s.set n (.o (.ay (cB (W++Y))))++[.o (.ay (gp C))],S.r⟩ (S.s.set n (.o (.ay (cB W)))).length=tw S n (W++Y):=by
  grind [aR.cut]
 generalize(ask G W L).map aY=al at *;unfold DW LZ;simp only[↓ev,g9,e1,aS,e2,e3,cu]
end
variable{C:List (aZ×Str)}{k:aZ}{b:Str}
noncomputable def gZ(L:List Row):List (aZ×Str):=L.map λw=>((w.b,w.i),w.bag)
theorem Oo{k:aZ}{v:Str}:∀{C:List (aZ×Str)},k∉C.map (·.1)->jM C k v=C++[(k,v)]
 |[],_=>rfl
 |e::es,h=>by
  rw[cR,y0a,not_or] at h;unfold jM;rw[br λz=>h.1 z.symm,Oo h.2]
  rfl
theorem Um(h:look C k=some b):(k,b)∈C:=by
 unfold look at h;obtain⟨e,h1,h2⟩:=cW.mp h
 grind
theorem VI(nd:(C.map (·.1)).Nodup)(h:(k,b)∈C):look C k=some b:=by
 induction C with
 |nil=>cases h
 |cons e es ih=>
  grind [wJ]
def hold(G:Row->Goal)(L:List Row)(w:Row):aj Str:=match(G w).2 with
 |none=>none
 |some i=>look (gZ L) ((G w).1,i)
noncomputable def iX(o:Str):D:=.tup [.str "behind",.str o]
def jJ(G:Row->Goal)(L:List Row)(X:List (Str×D))(w:Row)(o:Str):Prop:=w.bag∉X.map (·.1)/\hold G L w=some o/\o∈X.map (·.1)
inductive jE (G:Row->Goal) (L:List Row) (W:List (Str×D)):List (Str×D)->Prop
 |base:jE G L W W
 |step {X:List (Str×D)} {w:Row} {o:Str}:jE G L W X->w∈L->jJ G L X w o->jE G L W (X++[(w.bag,iX o)])
theorem jE.trans{G:Row->Goal}{L:List Row}{W X Y:List (Str×D)}(a:jE G L W X)(b:jE G L X Y):jE G L W Y:=by
 induction b with
 |base=>exact a
 |step _ hw hc ih=>exact .step ih hw hc
section
variable{S:aR}{n m:Nat}{G:Row->Goal}{L:List Row}{w:Row}{W X:List (Str×D)}{a5 a6 a7 a9 g0:aj Val}{t rr:List Cell}{gr:Bool}
theorem ι{d:List Row}(ht:t[m]?=some (.o (.ay (gp (gZ d)))))(hl:d.length<1000)(hk:(w.b,w.i)∉d.map λw=>(w.b,w.i)){g1 g2 a8:aj Val}:AL 0 [g0,g1,g2,aO m,bH w.bag,ak (aQ w.fl),ak (pl w.b w.i),cD w.gn,a8,a9] ⟨t,rr⟩=some (.nx [g0,g1,g2,aO m,bH w.bag,ak (aQ w.fl),ak (pl w.b w.i),cD w.gn,a8,a9] ⟨t.set m (.o (.ay (gp (gZ (d++[w]))))),rr⟩):=by
 have pu:=Jc (w.b,w.i) w.bag (gZ d);rw[Oo (by unfold gZ;rw[fR];exact hk),show gZ d++[((w.b,w.i),w.bag)]=gZ (d++[w]) by unfold gZ;rw[gf];rfl] at pu
 have kD:((gp (gZ d)).length<1000000)=True:=bK (by unfold gp gZ;rw[bJ,bJ];lia)
 have lt:(m<t.length)=True:=bK (eU.mp ht).1;unfold kC at pu;dsimp only at pu;generalize aQ w.fl=ff at *;unfold AL;simp only[↓ev,ht,kD,pu]
theorem VJ{t:List Cell}{n:Nat}{c:Cell}(h:t[n]?=some c):t.set n c=t:=by
 obtain⟨h1,h2⟩:=eU.mp h;rw[<-h2,LV]
theorem μ{c:Str}:aN (gp C) (.inr c)=none:=by
 grind [aN,gp,kC]
theorem ν{α:Type}{k:α->Str}{v:α->D}{xs:List α}:aN (td k v xs) TK.aJ=none:=by
 grind [aN,td]
theorem e6v(hv:aN (bN G L) (.inr w.bag)=some (gD (G w)))(hm:t[m]?=some (.o (.ay (gp (gZ L)))))(hn:t[n]?=some (.o (.ay (cB X))))(hc:∀o,¬jJ G L X w o):∃b9,wu 0 [g0,ak (.ay (bN G L)),aO n,aO m,bH w.bag,a5,a6,a7,ak (.bl gr),a9] ⟨t,rr⟩=some (.nx [g0,ak (.ay (bN G L)),aO n,aO m,bH w.bag,a5,a6,a7,ak (.bl gr),b9] ⟨t,rr⟩):=by
 have i:=zX (W:=X) (b:=w.bag);have nn:aN (cB X) TK.aJ=none:=ν;unfold jJ hold at hc;unfold wu;generalize G w=p at *;obtain⟨c,j⟩:=p;cases j with
 |none=>
  unfold gD at hv;have v:=μ (C:=gZ L) (c:=c);refine⟨(ak .aJ),?_⟩;cases h1:(X.map (·.1)).contains w.bag with
  |true=>
   rw[h1] at i;simp only[↓ev,hm,hv,v,aS,hn,i,fB,aK]
  |false=>
   rw[h1] at i;simp only[↓ev,hm,hv,v,aS,hn,i,j_,aK,nn,y7]
 |some j=>
  unfold gD at hv;dsimp only at hc hv;have v:=Bz (c,j) (gZ L);unfold kC at v;dsimp only at v;cases hk:look (gZ L) (c,j) with
  |none=>
   rw[hk] at v;refine⟨(ak .aJ),?_⟩;cases h1:(X.map (·.1)).contains w.bag with
   |true=>
    rw[h1] at i;simp only[↓ev,hm,hv,v,aS,hn,i,fB,aK]
   |false=>
    rw[h1] at i;simp only[↓ev,hm,hv,v,aS,hn,i,j_,aK,nn,y7]
  |some o=>
   rw[hk] at v;refine⟨(bH o),?_⟩;cases h1:(X.map (·.1)).contains w.bag with
   |true=>
    rw[h1] at i;simp only[↓ev,hm,hv,v,aS,hn,i,fB,aK]
   |false=>
    rw[h1] at i;have i2:=zX (W:=X) (b:=o);have h2:(X.map (·.1)).contains o=false:=by
     rw[LW];intro z;exact hc o ⟨λy=>(by rw[lV.mpr y] at h1;cases h1),hk,lV.mp z⟩
    rw[h2] at i2;simp only[↓ev,hm,hv,v,aS,hn,i,j_,aK,i2]
theorem ξ(hv:aN (bN G L) (.inr w.bag)=some (gD (G w)))(hm:t[m]?=some (.o (.ay (gp (gZ L)))))(hn:t[n]?=some (.o (.ay (cB X)))){o:Str}(hc:jJ G L X w o)(hl:X.length<1000):wu 0 [g0,ak (.ay (bN G L)),aO n,aO m,bH w.bag,a5,a6,a7,ak (.bl gr),a9] ⟨t,rr⟩=some (.nx [g0,ak (.ay (bN G L)),aO n,aO m,bH w.bag,a5,a6,a7,ak (.bl true),bH o] ⟨t.set n (.o (.ay (cB (X++[(w.bag,iX o)])))),rr⟩):=by
 have i:=zX (W:=X) (b:=w.bag);have i2:=zX (W:=X) (b:=o);obtain⟨c1,c2,c3⟩:=hc;rw[show(X.map (·.1)).contains w.bag=false by rw[LW];exact λz=>c1 (lV.mp z)] at i
 rw[lV.mpr c3] at i2;have hp:=Ja (y:=iX o) c1;have kD:((cB X).length<1000000)=True:=bK (by unfold cB;rw[lq];lia)
 have lt:(n<t.length)=True:=bK (eU.mp hn).1;unfold hold at c2;unfold wu;generalize G w=p at *;obtain⟨c,j⟩:=p;cases j with
 |none=>cases c2
 |some j=>
  unfold gD at hv;dsimp only at c2 hv;have v:=Bz (c,j) (gZ L);unfold kC at v;dsimp only at v;rw[c2] at v;unfold iX at hp ⊢;simp only[↓ev,hm,hv,v,aS,hn,i,j_,aK,i2,kD,hp]
end
variable{X:List (Str×D)}{w:Row}{L:List Row}
noncomputable def nk(X:List (Str×D))(w:Row):Bool := !(X.map (·.1)).contains w.bag
theorem iS:nk X w=true↔w.bag∉X.map (·.1):=by
 unfold nk;rw[Bool.not_eq_true',LW,ne_eq,lV]
def mu(L:List Row)(X:List (Str×D)):Nat:=(L.filter (nk X)).length
theorem X4{y:D}(hw:w∈L)(h:w.bag∉X.map (·.1)):mu L (X++[(w.bag,y)])<mu L X:=by
 unfold mu;have e:L.filter (nk (X++[(w.bag,y)]))=(L.filter (nk X)).filter λz=>decide (z.bag≠w.bag):=by
  rw[List.filter_filter];refine List.filter_congr λz _=>?_
  rw[yX,iS,jy,iS,y9a,gf,gw,List.map_singleton,lW];exact⟨λz=>⟨λy=>z (.inr y),λy=>z (.inl y)⟩,λz y=>y.elim z.2 z.1⟩
 rw[e,List.length_filter_lt_length_iff_exists];exact⟨w,sU.mpr ⟨hw,iS.mpr h⟩,by simp⟩
theorem jE.vY{G:Row->Goal}{W:List (Str×D)}(a:jE G L W X):X.length+mu L X<=W.length+mu L W:=by
 induction a with
 |base=>exact bU _
 |@step X w o _ hw hc ih=>
  have:=X4 (y:=iX o) hw hc.1;rw[dw];simp;lia
theorem QH:mu L X<=L.length:=v9 _ _
section
variable{S:aR}{n m:Nat}{G:Row->Goal}{L:List Row}{w:Row}{W X:List (Str×D)}{a4 a5 a6 a7 a9 g0:aj Val}{t rr:List Cell}
theorem VL(nd:(L.map Row.bag).Nodup)(hl:L.length<100)(hX:X.length<200)(nm:n≠m)(hm:t[m]?=some (.o (.ay (gp (gZ L)))))(hn:t[n]?=some (.o (.ay (cB X)))):∃X' gr b4 b9,jE G L X X'/\(gr=true->X.length<X'.length)/\(gr=false->X'=X/\∀w∈L,∀o,¬jJ G L X w o)/\aL (ae 4) (wu 0) (dS (L.map Row.bag)) [g0,ak (.ay (bN G L)),aO n,aO m,a4,a5,a6,a7,ak (.bl false),a9] ⟨t,rr⟩=some (.nx [g0,ak (.ay (bN G L)),aO n,aO m,b4,a5,a6,a7,ak (.bl gr),b9] ⟨t.set n (.o (.ay (cB X'))),rr⟩):=by
 have lt:=(eU.mp hn).1;rw[show dS (L.map Row.bag)=L.map λw=>.str w.bag by unfold dS;rw[fR];rfl]
 obtain⟨U',S',e,X',gr,b4,b9,rfl,rfl,i1,i2,i3⟩:=jG (gg:=ae 4) (body:=wu 0) (f:=λw:Row=>.str w.bag) (U:=[g0,ak (.ay (bN G L)),aO n,aO m,a4,a5,a6,a7,ak (.bl false),a9]) (S:=⟨t,rr⟩) (λpre U S'=>∃X' gr b4 b9,U=[g0,ak (.ay (bN G L)),aO n,aO m,b4,a5,a6,a7,ak (.bl gr),b9]/\S'=⟨t.set n (.o (.ay (cB X'))),rr⟩/\jE G L X X'/\(gr=true->X.length<X'.length)/\(gr=false->X'=X/\∀w∈pre,∀o,¬jJ G L X w o)) L ⟨X,false,_,_,rfl,by rw[VJ hn],.base,λz=>(by cases z),λ_=>⟨rfl,λw m=>(by cases m)⟩⟩ (by
  rintro d w post eq U S' ⟨X',gr,b4,b9,rfl,rfl,i1,i2,i3⟩;have hw:w∈L:=by rw[eq];simp
  have hv:aN (bN G L) (.inr w.bag)=some (gD (G w)):=iG nd hw;have Q2:(t.set n (.o (.ay (cB X'))))[m]?=some (.o (.ay (gp (gZ L)))):=by rw[Ao nm];exact hm
  have FY:(t.set n (.o (.ay (cB X'))))[n]?=some (.o (.ay (cB X'))):=uO lt;have tt:=i1.vY;have ml:=QH (L:=L) (X:=X);by_cases hc:∃o,jJ G L X' w o
  .obtain⟨o,hc⟩:=hc;refine⟨_,_,_,rfl,.inl (ξ hv Q2 FY hc (by lia)),_,true,_,_,rfl,by rw[GK],.step i1 hw hc,λ_=>?_,λz=>(by cases z)⟩
   have:=(jE.step i1 hw hc).vY;rw[dw];have h2:X.length<=X'.length:=by
    grind
   simp;lia
  .obtain⟨c9,e⟩:=e6v (gr:=gr) (a5:=a5) (a6:=a6) (a7:=a7) (a9:=b9) (g0:=g0) (rr:=rr) hv Q2 FY λo z=>hc ⟨o,z⟩
   refine⟨_,_,_,rfl,.inl e,X',gr,_,_,rfl,rfl,i1,i2,λz=>⟨(i3 z).1,λw' mw o co=>?_⟩⟩
   rcases gw.mp mw with mw|mw
   .exact(i3 z).2 w' mw o co
   .rw[lW.mp mw] at co;exact hc ⟨o,by rw[(i3 z).1];exact co⟩)
 exact⟨X',gr,b4,b9,i1,i2,i3,e⟩
theorem VM(nd:(L.map Row.bag).Nodup)(hl:L.length<100)(hX:X.length<200)(nm:n≠m)(hm:t[m]?=some (.o (.ay (gp (gZ L)))))(hn:t[n]?=some (.o (.ay (cB X)))){a8:aj Val}:∃X' gr b4 b9,jE G L X X'/\(gr=true->X.length<X'.length)/\(gr=false->X'=X/\∀w∈L,∀o,¬jJ G L X w o)/\DX 0 [g0,ak (.ay (bN G L)),aO n,aO m,a4,a5,a6,a7,a8,a9] ⟨t,rr⟩=some (.nx [g0,ak (.ay (bN G L)),aO n,aO m,b4,a5,a6,a7,ak (.bl gr),b9] ⟨t.set n (.o (.ay (cB X'))),rr⟩):=by
 obtain⟨X',gr,b4,b9,i1,i2,i3,e⟩:=VL (G:=G) (a4:=a4) (a5:=a5) (a6:=a6) (a7:=a7) (a9:=a9) (g0:=g0) (rr:=rr) nd hl hX nm hm hn;refine⟨X',gr,b4,b9,i1,i2,i3,?_⟩;have k:(bN G L).map (·.1.d)=dS (L.map Row.bag):=Ph
 unfold DX;simp only[↓ev,aS,k,g9,e]
theorem Ny(nd:(L.map Row.bag).Nodup)(hl:L.length<100)(nm:n≠m):∀(f:Nat) {X:List (Str×D)} {t:List Cell} {a4 a9:aj Val},X.length+mu L X<200->mu L X+2<=f->t[m]?=some (.o (.ay (gp (gZ L))))->t[n]?=some (.o (.ay (cB X)))->∃X' b4 b9,jE G L X X'/\(∀w∈L,∀o,¬jJ G L X' w o)/\bj (cH (qY 8)) (DX 0) f [g0,ak (.ay (bN G L)),aO n,aO m,a4,a5,a6,a7,ak (.bl true),a9] ⟨t,rr⟩=some (.nx [g0,ak (.ay (bN G L)),aO n,aO m,b4,a5,a6,a7,ak (.bl false),b9] ⟨t.set n (.o (.ay (cB X'))),rr⟩)
 |0,X,t,a4,a9,h1,h2,hm,hn=>by lia
 |f+1,X,t,a4,a9,h1,h2,hm,hn=>by
  have lt:=(eU.mp hn).1;obtain⟨X',gr,b4,b9,i1,i2,i3,e⟩:=VM (G:=G) (a4:=a4) (a5:=a5) (a6:=a6) (a7:=a7) (a8:=(ak (.bl true))) (a9:=a9) (g0:=g0) (rr:=rr) nd hl (by lia) nm hm hn
  have tt:=i1.vY;cases gr with
  |true=>
   have l1:=i2 rfl;obtain⟨Y,c4,c9,j1,j2,e2⟩:=Ny nd hl nm f (X:=X') (t:=t.set n (.o (.ay (cB X')))) (a4:=b4) (a9:=b9) (by lia) (by lia) (by rw[Ao nm];exact hm) (uO lt)
   rw[GK] at e2;refine⟨Y,c4,c9,i1.trans j1,j2,?_⟩;unfold bj;simp only[↓ev,e,e2]
  |false=>
   obtain⟨j1,j2⟩:=i3 rfl;subst j1;obtain⟨f',rfl⟩:∃f',f=f'+1:=⟨f - 1,by lia⟩
   refine⟨X',b4,b9,i1,j2,?_⟩;unfold bj;simp only[↓ev,e];rfl
end
section
variable{S:aR}{n:Nat}{G:Row->Goal}{L:List Row}{W:List (Str×D)}{g0 g1 g2:aj Val}{t rr:List Cell}
theorem X5(un:(L.map λw=>(w.b,w.i)).Nodup)(hl:L.length<100)(t:List Cell):∃b4 b5 b6 b7,aL (bC [(ae 4),(ae 5),(ae 6),(ae 7)]) (AL 0) (L.map aY) [g0,g1,g2,aO t.length,none,none,none,none,none,none] ⟨t++[.o (.ay [])],rr⟩=some (.nx [g0,g1,g2,aO t.length,b4,b5,b6,b7,none,none] ⟨t++[.o (.ay (gp (gZ L)))],rr⟩):=by
 obtain⟨U',S',e,⟨b4,b5,b6,b7,rfl⟩,rfl⟩:=jG (gg:=bC [(ae 4),(ae 5),(ae 6),(ae 7)]) (body:=AL 0) (f:=aY) (U:=[g0,g1,g2,aO t.length,none,none,none,none,none,none]) (S:=⟨t++[.o (.ay [])],rr⟩) (λpre U S'=>(∃b4 b5 b6 b7,U=[g0,g1,g2,aO t.length,b4,b5,b6,b7,none,none])/\S'=⟨t++[.o (.ay (gp (gZ pre)))],rr⟩) L ⟨⟨_,_,_,_,rfl⟩,rfl⟩ (by
  rintro d w post eq U S' ⟨⟨b4,b5,b6,b7,rfl⟩,rfl⟩;have hd:d.length<100:=by
   grind
  have hk:(w.b,w.i)∉d.map λw=>(w.b,w.i):=by
   grind
  refine⟨_,_,_,rfl,.inl (ι eK (by lia) hk),⟨_,_,_,_,rfl⟩,?_⟩
  rw[jv];rfl)
 exact⟨b4,b5,b6,b7,e⟩
theorem VN(hn:n<S.s.length)(nd:(L.map Row.bag).Nodup)(un:(L.map λw=>(w.b,w.i)).Nodup)(hl:L.length<100)(JL:W.length<100):∃X,jE G L W X/\(∀w∈L,∀o,¬jJ G L X w o)/\D6 0 [.d (.lst (L.map aY)),.d (.ay (bN G L)),.c n] (tw S n W)=some (.ok (rd .aJ) (tw S n X)):=by
 have ta:=Jl (W:=W) hn;have lF:n<(S.s.set n (.o (.ay (cB W)))).length:=by rw[v7];exact hn
 obtain⟨b4,b5,b6,b7,e1⟩:=X5 (g0:=(ak (.lst (L.map aY)))) (g1:=(ak (.ay (bN G L)))) (g2:=(aO n)) (rr:=S.r) un hl (S.s.set n (.o (.ay (cB W))));have ml:=QH (L:=L) (X:=W);obtain⟨X,c4,c9,i1,i2,e2⟩:=Ny (G:=G) (n:=n) (m:=(S.s.set n (.o (.ay (cB W)))).length) (g0:=(ak (.lst (L.map aY)))) (a5:=b5) (a6:=b6) (a7:=b7) (rr:=S.r) nd hl (by lia) 1000 (X:=W) (t:=S.s.set n (.o (.ay (cB W)))++[.o (.ay (gp (gZ L)))]) (a4:=b4) (a9:=none) (by lia) (by lia) eK (by rw[uQ lF];exact ta)
 refine⟨X,i1,i2,?_⟩;rw[List.set_append_left _ _ lF,Jb] at e2;have cu:aR.cut ⟨S.s.set n (.o (.ay (cB X)))++[.o (.ay (gp (gZ L)))],S.r⟩ (S.s.set n (.o (.ay (cB W)))).length=tw S n X:=by
  grind [aR.cut]
 unfold D6 L9;simp only[↓ev,aS,g9,e1,e2,cu]
end
variable{a bag o:Str}{x j gn:Int}{z:Row}
theorem pj{b:Str}{y:Int}:eL (pl a x) (pl b y)=(a == b&&(x == y)):=by
 show eP [.str a,.int x] [.str b,.int y]=_;show(eL (.str a) (.str b)&&(eL (.int x) (.int y)&&true))=_;rw[eC,dU,Gy]
theorem rM:dZ 40 (pl a x)=true:=rfl
noncomputable def fj(bag o:Str)(j gn:Int)(z:Row):Row:=if z.bag=bag then{ z with b:=o,i:=j,gn:=gn} else z
theorem EU:(fj bag o j gn z).bag=z.bag:=by unfold fj;split <;> rfl
theorem X6:(fj bag o j gn z).fl=z.fl:=by unfold fj;split <;> rfl
theorem tO{α β:Type}{f:α->β}{l:List α}(nd:(l.map f).Nodup){a b:α}(ha:a∈l)(hb:b∈l)(e:f a=f b):a=b:=by
 induction l with
 |nil=>cases ha
 |cons z l ih=>
  grind
section
variable{rows:List Row}{bag o:Str}{j gn:Int}{w:Row}
theorem Qq(nb:(rows.map Row.bag).Nodup)(hb:bag∈rows.map Row.bag):bR (gu rows) (.inr bag) (pl o j)=gu (rows.map (fj bag o j gn)):=by
 unfold gu;rw[Bw nb hb];unfold td;rw[fR];refine m6 λz _=>?_
 dsimp only[Function.comp];rw[EU];unfold fj;split <;> rfl
theorem ο(nb:(rows.map Row.bag).Nodup)(hb:bag∈rows.map Row.bag):bR (kf rows) (.inr bag) (.int gn)=kf (rows.map (fj bag o j gn)):=by
 unfold kf;rw[Bw nb hb];unfold td;rw[fR];refine m6 λz _=>?_
 dsimp only[Function.comp];rw[EU];unfold fj;split <;> rfl
theorem X7(nb:(rows.map Row.bag).Nodup)(hw:w∈rows):kf (rows.map (fj w.bag o j w.gn))=kf rows:=by
 unfold kf td;rw[fR];refine m6 λz mz=>?_
 dsimp only[Function.comp];rw[EU];unfold fj;split
 .rename_i e
  rw[tO nb mz hw e]
 .rfl
theorem Qr:gR (rows.map (fj bag o j gn))=gR rows:=by
 unfold gR td;rw[fR];refine m6 λz _=>?_
 dsimp only[Function.comp];rw[EU,X6]
end
section
variable{s:List Cell}{h:aF}{r:Int}{x:Hl}{w:Row}{bt:av}{o c:Str}{j:Int}
noncomputable def j6(bt:av)(i:Int)(o:Str)(j:Int):Bool:=bt.ring&&((i == bt.long - 1)&&(o == bt.name&&(j == 0)))
theorem π(g:aG h)(nb:(x.rows.map Row.bag).Nodup)(hw:w∈x.rows)(hb:bt∈h.af)(eb:bt.name=w.b)(hl:x.rows.length<1000):uY 0 [gb,du w.bag,.d (pl o j)] (hS (aB h) r x s)=some (.ok (rd .aJ) (hS (aB h) r { x with rows:=x.rows.map (fj w.bag o j (if j6 bt w.i o j=true then w.gn+1 else w.gn))} s)):=by
 have e:=zF g hb;have hB:aw bt=.tup [.str bt.name,.int bt.long,.bl bt.ring,.lst (dS bt.outs)]:=rfl;rw[hB] at e;have hm:=lU (f:=Row.bag) hw;have h1:aN (gu x.rows) (.inr w.bag)=_:=iG nb hw;have h2:aN (kf x.rows) (.inr w.bag)=_:=iG nb hw;have l1:((gu x.rows).length<1000000)=True:=bK (by unfold gu;rw[lq];lia)
 have l2:((kf x.rows).length<1000000)=True:=bK (by unfold kf;rw[lq];lia)
 rw[<-eb] at h1;generalize aB h=hd at *;have yes:j6 bt w.i o j=true->uY 0 [gb,du w.bag,.d (pl o j)] (hS hd r x s)=some (.ok (rd .aJ) (hS hd r { x with rows:=x.rows.map (fj w.bag o j (if j6 bt w.i o j=true then w.gn+1 else w.gn))} s)):=λhc=>by
  rw[bL hc];have p1:=Qq (o:=o) (j:=j) (gn:=w.gn+1) nb hm;have p2:=ο (o:=o) (j:=j) (gn:=w.gn+1) nb hm;have p3:=Qr (rows:=x.rows) (bag:=w.bag) (o:=o) (j:=j) (gn:=w.gn+1);unfold j6 at hc;rw[jy,jy] at hc;obtain⟨c1,c2,c3⟩:=hc;unfold uY Hv;rw[c1] at e;simp only[↓ev,hS,hR,ku,kL,aS,h1,l0,mm,bV,e,eJ,cQ,rM,aK,pj,dP,c2,c3,A0,Ew,h2,l2,p2,l1,p1,cz,p3]
 have no:j6 bt w.i o j=false->uY 0 [gb,du w.bag,.d (pl o j)] (hS hd r x s)=some (.ok (rd .aJ) (hS hd r { x with rows:=x.rows.map (fj w.bag o j (if j6 bt w.i o j=true then w.gn+1 else w.gn))} s)):=λhc=>by
  rw[br (by rw[hc];decide)]
  have p1:=Qq (o:=o) (j:=j) (gn:=w.gn) nb hm;have p2:=X7 (o:=o) (j:=j) nb hw;have p3:=Qr (rows:=x.rows) (bag:=w.bag) (o:=o) (j:=j) (gn:=w.gn);unfold j6 at hc;unfold uY Hv;cases er:bt.ring with
  |false=>
   rw[er] at e;simp only[↓ev,hS,hR,ku,kL,aS,h1,l0,mm,bV,e,eJ,aK,l1,p1,cz,p3,p2]
  |true=>
   rw[er] at e hc;rw[Bool.true_and] at hc;cases c2:(w.i == bt.long - 1) with
   |false=>simp only[↓ev,hS,hR,ku,kL,aS,h1,l0,mm,bV,e,eJ,cQ,rM,aK,pj,dP,c2,l1,p1,cz,p3,p2]
   |true=>
    rw[c2,Bool.true_and] at hc;simp only[↓ev,hS,hR,ku,kL,aS,h1,l0,mm,bV,e,eJ,cQ,rM,aK,pj,dP,c2,hc,l1,p1,cz,p3,p2]
 cases hc:j6 bt w.i o j with
 |true=>have:=yes hc;rw[hc] at this;exact this
 |false=>have:=no hc;rw[hc] at this;exact this
end
section
variable{s:List Cell}{h:aF}{r:Int}{x:Hl}{w:Row}{c:Str}
theorem ρ{l:List (Str×Str×Int)}{b:Str}{nw:Int}(hb:b∉l.map (·.1)):bR (xD l) (.inr b) (.str c)=xD (l++[(b,c,nw)]):=by
 unfold xD;rw[Bv hb];unfold td;rw[gf];rfl
theorem X8{hd:D}(nb:(x.rows.map Row.bag).Nodup)(hw:w∈x.rows)(hg:w.bag∉x.gone.map (·.1))(hl:x.gone.length<2000):AS 0 [gb,du w.bag,du c] (hS hd r x s)=some (.ok (rd .aJ) (hS hd r { x with rows:=x.rows.filter λz=>decide (z.bag≠w.bag),gone:=x.gone++[(w.bag,c,x.now)]} s)):=by
 have h1:aN (gu x.rows) (.inr w.bag)=_:=iG nb hw;have h2:aN (kf x.rows) (.inr w.bag)=_:=iG nb hw;have h3:aN (gR x.rows) (.inr w.bag)=_:=iG nb hw;have d1:dm (gu x.rows) w.bag=gu (x.rows.filter λz=>decide (z.bag≠w.bag)):=Bm
 have d2:dm (kf x.rows) w.bag=kf (x.rows.filter λz=>decide (z.bag≠w.bag)):=Bm
 have d3:dm (gR x.rows) w.bag=gR (x.rows.filter λz=>decide (z.bag≠w.bag)):=Bm
 have p1:=ρ (c:=c) (nw:=x.now) hg;have l1:((xD x.gone).length<1000000)=True:=bK (by unfold xD;rw[lq];lia)
 have l2:((z5 x.gone).length<1000000)=True:=bK (by unfold z5;rw[bJ];lia)
 have p2:z5 x.gone++[.tup [.str w.bag,.str c,.int x.now]]=z5 (x.gone++[(w.bag,c,x.now)]):=by unfold z5;rw[gf];rfl
 have t1:f_ (gu x.rows)=true:=xq;have t2:f_ (kf x.rows)=true:=xq;have t3:f_ (gR x.rows)=true:=xq;generalize aQ w.fl=ff at *;unfold AS Mn;simp only[↓ev,hS,hR,ku,kL,aS,t1,h1,d1,o8,pY,t3,h3,d3,A0,Ew,t2,h2,d2,zC,A3,l1,p1,Pg,XN,Fu,IZ,l2,p2,cz]
end
variable{z:Row}
def nI(h:aF)(G:Row->Goal)(z:Row):aj Row:=match(G z).2 with
 |none=>none
 |some j=>some { z with b:=(G z).1,i:=j,gn:=match findB h.af z.b with
  |none=>z.gn
  |some bt=>if j6 bt z.i (G z).1 j=true then z.gn+1 else z.gn}
def gH(h:aF)(G:Row->Goal)(p:Row->Bool)(rows:List Row):List Row:=rows.filterMap λz=>if p z=true then nI h G z else some z
noncomputable def fL(G:Row->Goal)(nw:Int)(w:Row):aj (Str×Str×Int):=match(G w).2 with
 |none=>some (w.bag,(G w).1,nw)
 |some _=>none
def fY(h:aF)(G:Row->Goal)(p:Row->Bool)(M:List Row)(x:Hl):Hl:={ x with now:=x.now+1,rows:=gH h G p x.rows,gone:=x.gone++M.filterMap (fL G (x.now+1))}
section
variable{s:List Cell}{h:aF}{r:Int}{x:Hl}{w:Row}{G:Row->Goal}{p p':Row->Bool}{rows:List Row}
theorem Iq{α β:Type}{f g:α->aj β}{l:List α}(h:∀x∈l,f x=g x):l.filterMap f=l.filterMap g:=by
 induction l with
 |nil=>rfl
 |cons x l ih=>rw[r_,r_,h x (.head _),ih λy m=>h y (.tail _ m)]
theorem E'{z':Row}(e:nI h G z=some z'):z'.bag=z.bag/\z'.fl=z.fl:=by
 unfold nI at e;split at e
 .cases e
 .cases e;exact⟨rfl,rfl⟩
theorem Ir(p:Row->Bool)(rows:List Row):((gH h G p rows).map Row.bag).Sublist (rows.map Row.bag):=by
 unfold gH
 induction rows with
 |nil=>exact .slnil
 |cons z rows ih=>
  grind [E']
theorem X9(hz:z∈rows)(hp:p z=false):z∈gH h G p rows:=nP.mpr ⟨z,hz,by rw[hp];rfl⟩
theorem X_(nb:(rows.map Row.bag).Nodup)(hw:w∈rows)(hp:p w=false)(z9:∀z,p' z=(p z || z.bag == w.bag))(hG:(G w).2=none):(gH h G p rows).filter (λz=>decide (z.bag≠w.bag))=gH h G p' rows:=by
 unfold gH;rw[List.filter_filterMap];refine Iq λz mz=>?_
 rw[z9 z];by_cases e:z.bag=w.bag
 .have ez:=tO nb mz hw e;subst ez;rw[hp,dP,LR,br (by decide),bL rfl,show nI h G z=none by unfold nI;rw[hG]]
  show Option.filter _ (some z)=none;unfold Option.filter;simp
 .rw[show(z.bag == w.bag)=false by rw[m7];exact e,Bool.or_false]
  split
  .cases em:nI h G z with
   |none=>rfl
   |some z'=>
    unfold Option.filter;dsimp only;exact bL (qg (by rw[(E' em).1];exact e))
  .unfold Option.filter;dsimp only;exact bL (qg e)
theorem σ(nb:(rows.map Row.bag).Nodup)(hw:w∈rows)(hp:p w=false)(z9:∀z,p' z=(p z || z.bag == w.bag)){j:Int}(hG:(G w).2=some j){bt:av}(hb:findB h.af w.b=some bt):(gH h G p rows).map (fj w.bag (G w).1 j (if j6 bt w.i (G w).1 j=true then w.gn+1 else w.gn))=gH h G p' rows:=by
 obtain⟨gv,QY⟩:∃gv,(if j6 bt w.i (G w).1 j=true then w.gn+1 else w.gn)=gv:=⟨_,rfl⟩
 rw[QY];unfold gH;rw[LS];refine Iq λz mz=>?_
 rw[z9 z];by_cases e:z.bag=w.bag
 .have ez:=tO nb mz hw e;subst ez;rw[hp,dP,LR,br (by decide),bL rfl]
  unfold nI fj;rw[hG,hb,Au,bL rfl];dsimp only;rw[QY]
 .rw[show(z.bag == w.bag)=false by rw[m7];exact e,Bool.or_false]
  split
  .cases em:nI h G z with
   |none=>rfl
   |some z'=>
    rw[Au];unfold fj;rw[br (by rw[(E' em).1];exact e)]
  .rw[Au];unfold fj;rw[br e]
end
variable{S2:aR}{hd:D}
noncomputable def jg(d:List Row)(z:Row):Bool:=(d.map Row.bag).contains z.bag
noncomputable def l6(G:Row->Goal)(w:Row):D:=.tup [.str w.bag,gD (G w)]
section
variable{s:List Cell}{h:aF}{r:Int}{x:Hl}{w:Row}{G:Row->Goal}{n:Nat}{M:List Row}{g1 a2 a3:aj Val}
theorem e6w{j:Int}(hG:(G w).2=some j)(e:uY 0 [gb,du w.bag,.d (pl (G w).1 j)] (hS hd r x s)=some (.ok (rd .aJ) S2)):wH 0 [cS,g1,bH w.bag,ak (gD (G w))] (hS hd r x s)=some (.nx [cS,g1,bH w.bag,ak (gD (G w))] S2):=by
 have e1:gD (G w)=pl (G w).1 j:=by unfold gD;generalize G w=p at *;obtain⟨c,i⟩:=p;cases hG;rfl
 rw[e1];unfold wH;simp only[↓ev,oz,hR,dy,SS,e]
theorem υ(hG:(G w).2=none)(e:AS 0 [gb,du w.bag,.d (.str (G w).1)] (hS hd r x s)=some (.ok (rd .aJ) S2)):wH 0 [cS,g1,bH w.bag,ak (gD (G w))] (hS hd r x s)=some (.nx [cS,g1,bH w.bag,ak (gD (G w))] S2):=by
 have e1:gD (G w)=.str (G w).1:=by unfold gD;generalize G w=p at *;obtain⟨c,i⟩:=p;cases hG;rfl
 rw[e1];unfold wH;simp only[↓ev,F4,aK,hR,dy,Sj,e]
theorem Oq(d:List Row)(w z:Row):jg (d++[w]) z=(jg d z || z.bag == w.bag):=by
 grind [jg]
theorem Ya(g:aG h)(o:Ok h n x)(hM:∀w∈M,w∈x.rows)(nM:(M.map Row.bag).Nodup)(QT:M.length<=x.rows.length)(hn:n<1000):∃b2 b3,aL (bC [(ae 2),(ae 3)]) (wH 0) (M.map (l6 G)) [cS,g1,none,none] (hS (aB h) r { x with now:=x.now+1} s)=some (.nx [cS,g1,b2,b3] (hS (aB h) r (fY h G (jg M) M x) s)):=by
 obtain⟨U',S',e,⟨b2,b3,rfl⟩,rfl⟩:=jG (gg:=bC [(ae 2),(ae 3)]) (body:=wH 0) (f:=l6 G) (U:=[cS,g1,none,none]) (S:=hS (aB h) r { x with now:=x.now+1} s) (λpre U S'=>(∃b2 b3,U=[cS,g1,b2,b3])/\S'=hS (aB h) r (fY h G (jg pre) pre x) s) M ⟨⟨_,_,rfl⟩,by
   have e1:fY h G (jg []) [] x={ x with now:=x.now+1}:=by
    unfold fY gH;rw[Aw,kT,show(λz:Row=>if jg [] z=true then nI h G z else some z)=some from funext λz=>by rw[br (by unfold jg;simp)],List.filterMap_some]
   rw[e1]⟩ (by
  rintro d w post eq U S' ⟨⟨b2,b3,rfl⟩,rfl⟩;have hw:w∈x.rows:=hM w (by rw[eq];simp)
  have hwd:w.bag∉d.map Row.bag:=Io eq nM;have hp:jg d w=false:=by unfold jg;rw[LW];exact λz=>hwd (lV.mp z)
  have nb:((fY h G (jg d) d x).rows.map Row.bag).Nodup:=o.nb.sublist (Ir _ _);have Q6:w∈(fY h G (jg d) d x).rows:=X9 hw hp;have ll:(fY h G (jg d) d x).rows.length<=x.rows.length:=by
   have:=(Ir (h:=h) (G:=G) (jg d) x.rows).length_le;rw[bJ,bJ] at this;exact this
  have rl:=o.rl;have sz:=o.sz;obtain⟨bt,hb,eb,_⟩:=(o.rw w hw).1;have fb:=EH g hb;rw[eb] at fb;cases hG:(G w).2 with
  |some j=>
   refine⟨_,_,_,rfl,.inl (e6w hG (π g nb Q6 hb eb (by lia))),⟨_,_,rfl⟩,?_⟩
   unfold fY;dsimp only;rw[σ o.nb hw hp (Oq d w) hG fb,LU,show List.filterMap (fL G (x.now+1)) [w]=[] by rw[r_,Aw];unfold fL;rw[hG],kT]
  |none=>
   have hgd:w.bag∉(fY h G (jg d) d x).gone.map (·.1):=by
    unfold fY;dsimp only;rw[gf,gw];rintro(z|z)
    .exact(lY.mp o.nd).2.2 _ (lU hw) _ z rfl
    grind [fL]
   have t9:(fY h G (jg d) d x).gone.length<2000:=by
    grind [fY]
   refine⟨_,_,_,rfl,.inl (υ hG (X8 nb Q6 hgd t9)),⟨_,_,rfl⟩,?_⟩;unfold fY;dsimp only;rw[X_ o.nb hw hp (Oq d w) hG,LU,show List.filterMap (fL G (x.now+1)) [w]=[(w.bag,(G w).1,x.now+1)] by rw[r_,Aw];unfold fL;rw[hG],lX])
 exact⟨b2,b3,e⟩
end
section
variable{s:List Cell}{h:aF}{r:Int}{x:Hl}{w:Row}{G:Row->Goal}{n m:Nat}{M L:List Row}{X:List (Str×D)}{hd:D}
theorem hlen{nw':Int}{m:Nat}:Nat.blt (hF hd r nw' m).length 1000=true:=rfl
theorem χ(g:aG h)(o:Ok h n x)(hM:∀w∈M,w∈x.rows)(nM:(M.map Row.bag).Nodup)(QT:M.length<=x.rows.length)(hn:n<1000)(hs:s[m]?=some (.o (.lst (M.map (l6 G))))):EO 0 [gb,.c m] (hS (aB h) r x s)=some (.ok (rd .aJ) (hS (aB h) r (fY h G (jg M) M x) (s.set m (.z (.lst (M.map (l6 G))))))):=by
 obtain⟨b2,b3,e⟩:=Ya (G:=G) (r:=r) (s:=s.set m (.z (.lst (M.map (l6 G))))) (g1:=(aO m)) g o hM nM QT hn;generalize M.map (l6 G)=ml at *;generalize aB h=hd at *;unfold EO N0;simp only[↓ev,hS,hR,Fu,IZ,dP,hlen,Z_,hs,g9,e,PD]
noncomputable def cI(X:List (Str×D))(G:Row->Goal)(w:Row):D:=match X.find? λp=>p.1 == w.bag with
 |some p=>.tup [.str w.bag,pl w.b w.i,pl w.b w.i,p.2]
 |none=>.tup [.str w.bag,pl w.b w.i,gD (G w),.aJ]
abbrev tS(hd:D)(r:Int)(x:Hl)(s:List Cell)(X:List (Str×D))(lg mv:List D):aR:=⟨s++[.o (.ay (cB X)),.o (.lst lg),.o (.lst mv)],hR hd r x⟩
theorem Pq(X:List (Str×D))(w:Row):(X.find? (λp=>p.1 == w.bag)=none/\nk X w=true/\aN (cB X) (.inr w.bag)=none)\/∃p,X.find? (λp=>p.1 == w.bag)=some p/\nk X w=false/\aN (cB X) (.inr w.bag)=some p.2:=by
 have v:aN (cB X) (.inr w.bag)=_:=Bu w.bag X;have i:=zX (W:=X) (b:=w.bag);rw[v] at i ⊢;unfold nk;rw[<-i];cases X.find? (λp=>p.1 == w.bag) with
 |none=>exact .inl ⟨rfl,rfl,rfl⟩
 |some p=>exact .inr ⟨p,rfl,rfl,rfl⟩
theorem ψ{lg mv:List D}{g1:aj Val}(hv:aN (bN G L) (.inr w.bag)=some (gD (G w)))(l1:lg.length<1000)(l2:mv.length<1000):Bc 0 [cS,g1,ak (.ay (bN G L)),aO s.length,aO (s.length+1),aO (s.length+2),bH w.bag,ak (aQ w.fl),ak (pl w.b w.i),cD w.gn] (tS hd r x s X lg mv)=some (.nx [cS,g1,ak (.ay (bN G L)),aO s.length,aO (s.length+1),aO (s.length+2),bH w.bag,ak (aQ w.fl),ak (pl w.b w.i),cD w.gn] (tS hd r x s X (lg++[cI X G w]) (if nk X w=true then mv++[l6 G w] else mv))):=by
 have Ra:(lg.length<1000000)=True:=bK (by lia)
 have l2':(mv.length<1000000)=True:=bK (by lia)
 unfold cI l6;generalize aQ w.fl=ff at *;generalize gD (G w)=gg at *;unfold Bc;rcases Pq X w with⟨e1,e2,e3⟩|⟨p,e1,e2,e3⟩
 .rw[e1,e2,bL rfl];simp only[↓ev,tS,eK,aK,e3,y7,EK,hv,aS,Ra,K0,l2']
 .rw[e1,e2,br (by decide)]
  dsimp only;generalize p.2=py at *;simp only[↓ev,tS,eK,aK,e3,v_,EK,aS,Ra,K0]
theorem Yb{g1:aj Val}(nd:(L.map Row.bag).Nodup)(hl:L.length<100):∃a6 a7 a8 a9,aL (bC [(ae 6),(ae 7),(ae 8),(ae 9)]) (Bc 0) (L.map aY) [cS,g1,ak (.ay (bN G L)),aO s.length,aO (s.length+1),aO (s.length+2),none,none,none,none] (tS hd r x s X [] [])=some (.nx [cS,g1,ak (.ay (bN G L)),aO s.length,aO (s.length+1),aO (s.length+2),a6,a7,a8,a9] (tS hd r x s X (L.map (cI X G)) ((L.filter (nk X)).map (l6 G)))):=by
 obtain⟨U',S',e,⟨a6,a7,a8,a9,rfl⟩,rfl⟩:=jG (gg:=bC [(ae 6),(ae 7),(ae 8),(ae 9)]) (body:=Bc 0) (f:=aY) (U:=[cS,g1,ak (.ay (bN G L)),aO s.length,aO (s.length+1),aO (s.length+2),none,none,none,none]) (S:=tS hd r x s X [] []) (λpre U S'=>(∃a6 a7 a8 a9,U=[cS,g1,ak (.ay (bN G L)),aO s.length,aO (s.length+1),aO (s.length+2),a6,a7,a8,a9])/\S'=tS hd r x s X (pre.map (cI X G)) ((pre.filter (nk X)).map (l6 G))) L ⟨⟨_,_,_,_,rfl⟩,rfl⟩ (by
  rintro d w post eq U S' ⟨⟨a6,a7,a8,a9,rfl⟩,rfl⟩;have hd:d.length<100:=by
   grind
  have hf:=v9 (nk X) d;refine⟨_,_,_,rfl,.inl (ψ (iG nd (by rw[eq];simp)) (by rw[bJ];lia) (by rw[bJ];lia)),⟨_,_,_,_,rfl⟩,?_⟩
  grind)
 exact⟨a6,a7,a8,a9,e⟩
theorem II:∀L:List Row,gP (L.map (l6 G))=some (bN G L)
 |[]=>rfl
 |w::L=>by
  have ih:=II L;rw[cR];show(jh (.str w.bag)).bind (λk=>(gP (L.map (l6 G))).map ((k,gD (G w))::·))=_
  rw[ih];rfl
theorem Pu(nd:(L.map Row.bag).Nodup):(bN G L).foldl (λa p=>bR a p.1 p.2) []=bN G L:=by
 have key:∀(M N:List Row),((N++M).map Row.bag).Nodup->(bN G M).foldl (λa p=>bR a p.1 p.2) (bN G N)=bN G (N++M):=by
  intro M
  induction M with
  |nil=>intro N _;rw[kT];rfl
  |cons w M ih=>
   intro N nd;have hw:w.bag∉N.map Row.bag:=by
    grind
   have e:bR (bN G N) (.inr w.bag) (gD (G w))=bN G (N++[w]):=by
    unfold bN;rw[Bv hw];unfold td;rw[gf];rfl
   show(bN G M).foldl _ (bR (bN G N) (.inr w.bag) (gD (G w)))=_;rw[e,ih (N++[w]) (by rw[lX];exact nd),lX]
   rfl
 exact key L [] nd
end
def lj(h:aF)(r:Int)(x:Hl)(X:List (Str×D)):Prop:=∃C,kU (ar h r x) (ask (ar h r x) (b_ (cv h x) (ar h r x) (ord h x.rows)) (ord h x.rows)) C/\jE (ar h r x) (ord h x.rows) (b_ (cv h x) (ar h r x) (ord h x.rows)++(ask (ar h r x) (b_ (cv h x) (ar h r x) (ord h x.rows)) (ord h x.rows)).filterMap (dr (ar h r x) C)) X/\∀w∈ord h x.rows,∀o,¬jJ (ar h r x) (ord h x.rows) X w o
def cC(h:aF)(x:Hl)(X:List (Str×D)):List Row:=(ord h x.rows).filter (nk X)
def eH(h:aF)(r:Int)(x:Hl)(X:List (Str×D)):Hl:=fY h (ar h r x) (jg (cC h x X)) (cC h x X) x
section
variable{s:List Cell}{h:aF}{r:Int}{x:Hl}{n:Nat}
theorem zQ{s:List Cell}{rr:List Cell}{W W':List (Str×D)}:tw ⟨s++[.o (.ay (cB W))],rr⟩ s.length W'=⟨s++[.o (.ay (cB W'))],rr⟩:=by
 simp_all
theorem ω(g:aG h)(o:Ok h n x)(hn:n<1000):∃X,lj h r x X/\Fq 0 [gb] (hS (aB h) r x s)=some (.ok (.o (.lst ((ord h x.rows).map (cI X (ar h r x))))) (hS (aB h) r (eH h r x X) s)):=by
 have rl:=o.rl;have pl:=o.perm.length_eq;have nd:((ord h x.rows).map Row.bag).Nodup:=(o.perm.map _).nodup_iff.mpr o.nb;have un:((ord h x.rows).map λw=>(w.b,w.i)).Nodup:=(o.perm.map _).nodup_iff.mpr o.un
 have e1:=λq s=>By (s:=s) (r:=r) (q:=q) g o
 have e2:=λs=>Oi (s:=s) (r:=r) g o
 have e3:=λq s=>HV (s:=s) (r:=r) (q:=q) (x:=x) g
 have ln:s.length<(s++[Cell.o (.ay (cB []))]).length:=by rw[dw];exact pS _
 have e5:=XZ (S:=⟨s++[.o (.ay (cB []))],hR (aB h) r x⟩) (n:=s.length) (st:=cv h x) (G:=ar h r x) (L:=ord h x.rows) ln nd (by lia)
 rw[zQ,zQ] at e5;have lw:(b_ (cv h x) (ar h r x) (ord h x.rows)).length<=(ord h x.rows).length:=DD _ _;obtain⟨C,oC,e6⟩:=X3 (S:=⟨s++[.o (.ay (cB []))],hR (aB h) r x⟩) (n:=s.length) (W:=b_ (cv h x) (ar h r x) (ord h x.rows)) (G:=ar h r x) (L:=ord h x.rows) ln nd (by lia) (by lia)
 rw[zQ,zQ] at e6;have ly:((ask (ar h r x) (b_ (cv h x) (ar h r x) (ord h x.rows)) (ord h x.rows)).filterMap (dr (ar h r x) C)).length<=(ord h x.rows).length:=iU (DD _ _) (v9 _ _);obtain⟨X,i1,i2,e7⟩:=VN (S:=⟨s++[.o (.ay (cB []))],hR (aB h) r x⟩) (n:=s.length) (W:=b_ (cv h x) (ar h r x) (ord h x.rows)++(ask (ar h r x) (b_ (cv h x) (ar h r x) (ord h x.rows)) (ord h x.rows)).filterMap (dr (ar h r x) C)) (G:=ar h r x) (L:=ord h x.rows) ln nd un (by lia) (by rw[dw];lia)
 rw[zQ,zQ] at e7;obtain⟨a6,a7,a8,a9,e8⟩:=Yb (s:=s) (hd:=aB h) (r:=r) (x:=x) (X:=X) (G:=ar h r x) (L:=ord h x.rows) (g1:=(ak (.lst ((ord h x.rows).map aY)))) nd (by lia)
 have e4:=χ (r:=r) (G:=ar h r x) (M:=cC h x X) (m:=s.length+2) (s:=s++[.o (.ay (cB X)),.o (.lst ((ord h x.rows).map (cI X (ar h r x)))),.o (.lst ((cC h x X).map (l6 (ar h r x))))]) g o (λw m=>o.mem.mp (sU.mp m).1) (nd.sublist (List.Sublist.map _ DK)) (by rw[<-pl];exact v9 _ _) hn EK
 rw[K0] at e4;refine⟨X,⟨C,oC,i1,i2⟩,?_⟩;have pw:=II (G:=ar h r x) (ord h x.rows);have fg:=Pu (G:=ar h r x) nd;have ll:((bN (ar h r x) (ord h x.rows)).length<1000)=True:=bK (by unfold bN;rw[lq];lia)
 have ew:(ord h x.rows).map (mR h r x)=(ord h x.rows).map (l6 (ar h r x)):=rfl;have w0:cB []=[]:=rfl;rw[w0] at e5;unfold eH;rw[ew] at e2;clear i1 i2 oC;generalize b_ (cv h x) (ar h r x) (ord h x.rows)=W1 at *;generalize W1++(ask (ar h r x) W1 (ord h x.rows)).filterMap (dr (ar h r x) C)=W2 at *;generalize fY h (ar h r x) (jg (cC h x X)) (cC h x X) x=x2 at *;unfold cC at e4;generalize(ord h x.rows).map (l6 (ar h r x))=l1 at *;generalize((ord h x.rows).filter (nk X)).map (l6 (ar h r x))=l2 at *;generalize(ord h x.rows).map (cI X (ar h r x))=l3 at *;generalize(ord h x.rows).map aY=l4 at *;generalize bN (ar h r x) (ord h x.rows)=gs at *;generalize aB h=hd at *;unfold Fq Qj;simp only[↓ev,hR,dy,wV,e1,aS,e2,pw,ll,fg,HG,e3,e5,e6,e7,aK,Cs,w6,g9,e8,XO,e4,lt2,EK,qQ]
end
variable{G:Row->Goal}{j:Int}
theorem Pw{α:Type}[DecidableEq α]:∀{l1 l2:List α},l1.Nodup->(∀a∈l1,a∈l2)->l1.length<=l2.length
 |[],_,_,_=>kg _
 |a::l1,l2,nd,h=>by
  rw[sf] at nd;have ha:=h a (.head _);have ih:=Pw (l1:=l1) (l2:=l2.erase a) nd.2 λb m=>by
   grind
  grind
section
variable{h:aF}{r:Int}{x:Hl}{n:Nat}{X:List (Str×D)}{w z:Row}
theorem Yc(g:aG h)(o:Ok h n x)(hw:w∈x.rows):((ar h r x w).2=none->(ar h r x w).1∈h.carts)/\∀j,(ar h r x w).2=some j->∃bt∈h.af,bt.name=(ar h r x w).1/\0<=j/\j<bt.long:=by
 obtain⟨bt,hb,eb,i0,i1,_⟩:=(o.rw w hw).1;have lo:=(g.lg bt hb).1;have eg:ar h r x w=jR h r x w bt:=by unfold ar;rw[<-eb,EH g hb]
 rw[eg];unfold jR;split
 .exact⟨λz=>(by cases z),λj e=>⟨bt,hb,rfl,by cases e;lia,by cases e;assumption⟩⟩
 .split
  .exact⟨λz=>(by cases z),λj e=>⟨bt,hb,rfl,by cases e;lia,by cases e;lia⟩⟩
  .obtain⟨a,ea,ha⟩:=Qo g o hw hb eb;rw[ea,DC];unfold uj;split
   .simp_all
   .rename_i hc
    split
    .exact⟨λz=>(by cases z),λj e=>⟨bt,hb,rfl,by cases e;lia,by cases e;lia⟩⟩
    .have hm:a∈h.af.map av.name:=(Ik g.fwd bt hb a ha).resolve_right λz=>hc (lV.mpr z)
     obtain⟨b2,t7,e2⟩:=fQ.mp hm;have l2:=(g.lg b2 t7).1;exact⟨λz=>(by cases z),λj e=>⟨b2,t7,e2,by cases e;lia,by cases e;lia⟩⟩
theorem jE.sub{L:List Row}{W X:List (Str×D)}(a:jE G L W X):∀b∈W.map (·.1),b∈X.map (·.1):=by
 induction a with
 |base=>exact λ_ m=>m
 |step _ _ _ ih=>exact λb m=>by rw[gf];exact gw.mpr (.inl (ih b m))
theorem wW(o:Ok h n x):w∈cC h x X↔w∈x.rows/\w.bag∉X.map (·.1):=by
 unfold cC;rw[sU,o.mem,iS]
theorem VO(o:Ok h n x)(t:lj h r x X):∃C:List (aZ×Str),∀w∈cC h x X,(ar h r x w).2.isSome=true->look C (gk (ar h r x) w)=some w.bag:=by
 obtain⟨C,oC,gr,fn⟩:=t;refine⟨C,λw hw hs=>?_⟩
 obtain⟨hr,hX⟩:=(wW o).mp hw;have h1:w.bag∉(b_ (cv h x) (ar h r x) (ord h x.rows)).map (·.1):=λm=>hX (gr.sub _ (by rw[gf];exact gw.mpr (.inl m)))
 have ha:w∈ask (ar h r x) (b_ (cv h x) (ar h r x) (ord h x.rows)) (ord h x.rows):=il.mpr ⟨o.mem.mpr hr,h1,hs⟩;obtain⟨c,hc⟩:=Option.ne_none_iff_exists'.mp (oC.2.1 w ha);rw[hc];by_cases e:c=w.bag
 .rw[e]
 .refine bQ (gr.sub w.bag ?_) hX
  grind [dr]
theorem QI(e:(G w).2=some j):gk G w=((G w).1,j):=by unfold gk;rw[e];rfl
theorem SU(o:Ok h n x)(t:lj h r x X)(hw:w∈cC h x X)(hz:z∈cC h x X){k:Int}(ew:(ar h r x w).2=some j)(ez:(ar h r x z).2=some k)(e:((ar h r x w).1,j)=((ar h r x z).1,k)):w=z:=by
 obtain⟨C,hC⟩:=VO o t;have h1:=hC w hw (by rw[ew];rfl)
 have h2:=hC z hz (by rw[ez];rfl)
 rw[QI ew,e,<-QI ez,h2] at h1;exact tO o.nb ((wW o).mp hw).1 ((wW o).mp hz).1 (Option.some.inj h1).symm
theorem Yd(un:(x.rows.map λw=>(w.b,w.i)).Nodup)(o:Ok h n x)(hz:z∈x.rows)(ew:(G w).2=some j)(e:((G w).1,j)=(z.b,z.i)):hold G (ord h x.rows) w=some z.bag:=by
 unfold hold;rw[ew];dsimp only;rw[e];refine VI ?_ (fQ.mpr ⟨z,o.mem.mpr hz,rfl⟩);unfold gZ;rw[fR];exact(o.perm.map _).nodup_iff.mpr un
theorem VP(o:Ok h n x)(t:lj h r x X)(hw:w∈cC h x X)(hz:z∈x.rows)(ew:(ar h r x w).2=some j)(e:((ar h r x w).1,j)=(z.b,z.i)):z∈cC h x X:=by
 obtain⟨C,oC,gr,fn⟩:=t;obtain⟨hr,hX⟩:=(wW o).mp hw;refine(wW o).mpr ⟨hz,λm=>fn w (o.mem.mpr hr) z.bag ⟨hX,Yd o.un o hz ew e,m⟩⟩
theorem IJ(o:Ok h n x)(hz:z∈x.rows):jg (cC h x X) z=true↔z∈cC h x X:=by
 unfold jg;rw[lV,fQ];constructor
 .rintro⟨u,hu,e⟩;rw[<-tO o.nb ((wW o).mp hu).1 hz e];exact hu
 .exact λm=>⟨z,m,rfl⟩
end
section
variable{h:aF}{r:Int}{x:Hl}{n:Nat}{X:List (Str×D)}{w z z':Row}
theorem Ot(o:Ok h n x)(hz:z'∈(eH h r x X).rows):∃z∈x.rows,z'.bag=z.bag/\z'.fl=z.fl/\((z∉cC h x X/\z'=z)\/(z∈cC h x X/\nI h (ar h r x) z=some z')):=by
 obtain⟨z,J8,e⟩:=nP.mp hz;refine⟨z,J8,?_⟩;split at e
 .rename_i hm
  obtain⟨e1,e2⟩:=E' e;exact⟨e1,e2,.inr ⟨(IJ o J8).mp hm,e⟩⟩
 .rename_i hm
  cases e;exact⟨rfl,rfl,.inl ⟨λm=>hm ((IJ o J8).mpr m),rfl⟩⟩
theorem e5c{G:Row->Goal}(e:nI h G z=some z')(h0:0<=z.gn):0<=z'.gn:=by
 grind [nI]
theorem Jd{G:Row->Goal}(e:nI h G z=some z'):∃j,(G z).2=some j/\z'.b=(G z).1/\z'.i=j:=by
 grind [nI]
theorem Px{nw:Int}{p:Str×Str×Int}(o:Ok h n x)(hp:p∈(cC h x X).filterMap (fL (ar h r x) nw)):∃u∈x.rows,u∈cC h x X/\(ar h r x u).2=none/\p=(u.bag,(ar h r x u).1,nw):=by
 grind [wW,fL]
theorem Py{G:Row->Goal}{nw:Int}:∀M:List Row,((M.filterMap (fL G nw)).map (·.1)).Sublist (M.map Row.bag)
 |[]=>.slnil
 |u::M=>by
  have ih:=Py (G:=G) (nw:=nw) M;rw[cR];cases e:(G u).2 with
  |none=>
   rw[List.filterMap_cons_some (b:=(u.bag,(G u).1,nw)) (by unfold fL;rw[e])]
   exact ih.cons₂ _
  |some j=>
   rw[List.filterMap_cons_none (by unfold fL;rw[e])]
   exact ih.cons _
theorem Ok.turn(g:aG h)(o:Ok h n x)(t:lj h r x X):Ok h n (eH h r x X):=by
 have nM:((cC h x X).map Row.bag).Nodup:=(((o.perm.map _).nodup_iff.mpr o.nb:((ord h x.rows).map Row.bag).Nodup)).sublist (List.Sublist.map _ DK);have sb:((eH h r x X).rows.map Row.bag).Sublist (x.rows.map Row.bag):=Ir _ _;have rN:∀b∈((cC h x X).filterMap (fL (ar h r x) (x.now+1))).map (·.1),∃u∈x.rows,u∈cC h x X/\(ar h r x u).2=none/\b=u.bag:=λb m=>by
  obtain⟨p,hp,rfl⟩:=fQ.mp m;obtain⟨u,h1,h2,h3,rfl⟩:=Px o hp;exact⟨u,h1,h2,h3,rfl⟩
 have dj:∀b∈(eH h r x X).rows.map Row.bag,b∉((cC h x X).filterMap (fL (ar h r x) (x.now+1))).map (·.1):=λb mb mo=>by
  obtain⟨z',F2,rfl⟩:=fQ.mp mb;obtain⟨u,hu,hum,hn,e⟩:=rN _ mo;obtain⟨z,hz,eb,_,st⟩:=Ot o F2;have ezu:z=u:=tO o.nb hz hu (by rw[<-eb,e])
  grind [Jd]
 have ndo:(((cC h x X).filterMap (fL (ar h r x) (x.now+1))).map (·.1)).Nodup:=by
  exact nM.sublist (Py _)
 have nd:((eH h r x X).rows.map Row.bag++(eH h r x X).gone.map (·.1)).Nodup:=by
  have o1:=lY.mp o.nd;have eg:(eH h r x X).gone.map (·.1)=x.gone.map (·.1)++((cC h x X).filterMap (fL (ar h r x) (x.now+1))).map (·.1):=by
   show(x.gone++_).map _=_
   simp_all
  rw[eg,lY];refine⟨o1.1.sublist sb,lY.mpr ⟨o1.2.1,ndo,λa ma b mb e=>?_⟩,λa ma b mb e=>?_⟩
  .obtain⟨u,hu,_,_,eu⟩:=rN b mb;exact o1.2.2 u.bag (lU hu) a ma (by rw[e,eu])
  .rcases gw.mp mb with mb|mb
   .exact o1.2.2 a (sb.subset ma) b mb e
   .exact dj a ma (by rw[e];exact mb)
 refine⟨λz' F2=>?_,nd,?_,o.bk,o.bn,λp hp=>?_,?_,?_⟩
 .obtain⟨z,hz,eb,ef,st⟩:=Ot o F2;obtain⟨k1,k2,k3⟩:=o.rw z hz;refine⟨?_,by rw[eb];exact k2,by rw[ef];exact k3⟩
  rcases st with⟨_,rfl⟩|⟨_,s2⟩
  .exact k1
  .obtain⟨j,ej,e1,e2⟩:=Jd s2;obtain⟨bt,hb,e3,e4,e5⟩:=(Yc g o hz).2 j ej;obtain⟨_,_,_,_,_,JD⟩:=k1;exact⟨bt,hb,by rw[e1];exact e3,by rw[e2];exact e4,by rw[e2];exact e5,e5c s2 JD⟩
 .show((gH h (ar h r x) (jg (cC h x X)) x.rows).map _).Nodup;unfold gH;rw[List.Nodup,Ax,List.pairwise_filterMap];have un:=o.un;have nb:=o.nb;rw[List.Nodup,Ax] at un nb;refine(un.and nb).imp_of_mem λ{a b} ma mb ne a' ea b' eb' e=>?_
  grind [Jd,IJ,VP,SU]
 .rcases gw.mp (show p∈x.gone++(cC h x X).filterMap (fL (ar h r x) (x.now+1)) from hp) with m|m
  .exact o.gi p m
  .obtain⟨u,hu,_,_,rfl⟩:=Px o m;exact(o.rw u hu).2.1
 .have:=sb.length_le;rw[bJ,bJ] at this;exact iU this o.rl
 .have:=Pw nd (l2:=x.rows.map Row.bag++x.gone.map (·.1)) λa m=>by
   rcases gw.mp m with m|m
   .exact gw.mpr (.inl (sb.subset m))
   .have m:a∈(x.gone++(cC h x X).filterMap (fL (ar h r x) (x.now+1))).map (·.1):=m
    rw[gf,gw] at m;rcases m with m|m
    .exact gw.mpr (.inr m)
    .obtain⟨u,hu,_,_,e⟩:=rN a m;exact gw.mpr (.inl (by rw[e];exact lU hu))
  rw[dw,dw,bJ,bJ,bJ,bJ] at this;have sz:=o.sz;show x.book.length+x.halts.length+_+_<=n;lia
end
variable{l:List Str}
abbrev kE(z:Str)(v:Bool):Prop:=Pr nA [du z] (rd (.bl v))
def Dn(h:aF)(r:Int)(n:Nat)(x:Hl)(s:List Cell)(res:aj (Rs Rv)):Prop:=(∃x',res=some (.ok (rd .aJ) (hS (aB h) r x' s))/\Ok h (n+1) x')\/∃C,res=some (.ex C none (hS (aB h) r x s))/\wT iQ C=some true
section
variable{s:List Cell}{h:aF}{r:Int}{x:Hl}{n q:Nat}{f ct b:Str}{cl:Int}{v:Bool}
theorem Bp{hd:D}(q:Nat)(hv:kE f v):wx q [gb,du f] (hS hd r x s)=some (if(v&&(x.book.map (·.1)).contains f)=true then .ok (rd .aJ) (hS hd r x s) else .ex 104 none (hS hd r x s)):=by
 have i:(aN (kO x.book) (.inr f)).isSome=_:=zW;unfold wx L0;cases v with
 |false=>simp only[↓ev,hv,cz,hR,aK]
 |true=>
  cases hc:(x.book.map (·.1)).contains f with
  |true=>rw[hc] at i;simp only[↓ev,hv,aK,hR,p5,qL,aS,i,fB,cz]
  |false=>rw[hc] at i;simp only[↓ev,hv,aK,hR,p5,qL,aS,i,j_,cz]
theorem Nz(q:Nat){S:aR}:AM q [aM cl] S=some (if cl<0 then .ex 92 none S else .ok (rd .aJ) S):=by
 unfold AM L6;by_cases hl:cl<0
 .rw[bL hl];have hl:=bK hl;simp only[↓ev,hl,decide_true,eA]
 .rw[br hl];have hl:=eq_false hl;simp only[↓ev,hl,decide_false,aK,eA]
theorem Ok.up(o:Ok h n x):Ok h (n+1) x:=⟨o.rw,o.nd,o.un,o.bk,o.bn,o.gi,o.rl,LM o.sz⟩
theorem AO(h:l.contains b=true):b∈l:=lV.mp h
theorem HJ(h:l.contains b=false):b∉l:=λm=>by rw[lV.mpr m] at h;cases h
theorem VQ(g:aG h)(o:Ok h n x)(hn:n<1000)(hv:kE f v):Dn h r n x s (Et 0 [gb,du f,du ct,aM cl] (hS (aB h) r x s)):=by
 have i:(aN (kO x.book) (.inr f)).isSome=_:=zW;have cu:cutD (dS h.carts) (some 1) none=dS (h.carts.drop 1):=by rw[show(1:Int)=((1:Nat):Int) from rfl,N6,dS,dS,GI]
 have e1:=λq S=>Nz (cl:=cl) (S:=S) q
 have hD:aB h=.tup [.lst (h.af.map aw),.lst (dS h.carts)]:=rfl;unfold Dn;rw[hD];unfold Et MR;cases v with
 |false=>
  refine .inr ⟨44,?_,rfl⟩;simp only[↓ev,hv,cz,hR]
 |true=>
  cases h1:(x.book.map (·.1)).contains f with
  |true=>
   rw[h1] at i;refine .inr ⟨44,?_,rfl⟩;simp only[↓ev,hv,aK,hR,p5,qL,aS,i,cz]
  |false=>
   rw[h1] at i;cases h2:(h.carts.drop 1).contains ct with
   |false=>
    refine .inr ⟨68,?_,rfl⟩;simp only[↓ev,hv,aK,hR,p5,qL,aS,i,l0,mm,cQ,cu,iF,ik,h2,j_,cz]
   |true=>
    by_cases hl:cl<0
    .simp only[bL hl] at e1;refine .inr ⟨92,?_,rfl⟩;simp only[↓ev,hv,aK,hR,p5,qL,aS,i,l0,mm,cQ,cu,iF,ik,h2,fB,e1,cz]
    .simp only[br hl] at e1;have hf:=HJ h1;have p:bR (kO x.book) (.inr f) (.tup [.str f,.str ct,.int cl])=kO (x.book++[(f,ct,cl)]):=by
      unfold kO;rw[Bv hf];unfold td;rw[gf];rfl
     have sz:=o.sz;have l1:((kO x.book).length<1000000)=True:=bK (by unfold kO;rw[lq];lia)
     refine .inl ⟨{ x with book:=x.book++[(f,ct,cl)]},?_,λw m=>⟨(o.rw w m).1,(o.rw w m).2.1,λf' e=>?_⟩,o.nd,o.un,λp m=>?_,?_,o.gi,o.rl,?_⟩
     .simp only[↓ev,hS,hR,hv,aK,p5,qL,aS,i,l0,mm,cQ,cu,iF,ik,h2,fB,e1,l1,p,cz]
     .rw[gf];exact gw.mpr (.inl ((o.rw w m).2.2 f' e))
     .rcases gw.mp m with m|m
      .exact o.bk p m
      grind
     .rw[gf,lY];refine⟨o.bn,by simp,λa ma b mb e=>hf ?_⟩
      have:b=f:=by simpa using mb
      rw[<-this,<-e];exact ma
     grind
theorem VR(g:aG h)(o:Ok h n x)(hn:n<1000)(hv:kE f v):Dn h r n x s (Eu 0 [gb,du f,aM cl] (hS (aB h) r x s)):=by
 have e0:=λq=>Bp (s:=s) (hd:=aB h) (r:=r) (x:=x) q hv
 have e1:=λq S=>Nz (cl:=cl) (S:=S) q
 unfold Dn;generalize aB h=hd at *;unfold Eu MS;cases hc:(v&&(x.book.map (·.1)).contains f) with
 |false=>
  simp only[hc,aK,fS] at e0;refine .inr ⟨104,?_,rfl⟩;simp only[↓ev,hR,dy,tu,e0,cz]
 |true=>
  simp only[hc,nU] at e0;by_cases hl:cl<0
  .simp only[bL hl] at e1;refine .inr ⟨92,?_,rfl⟩;simp only[↓ev,hR,dy,tu,e0,e1,cz]
  .simp only[br hl] at e1;rw[jy] at hc;have hm:=AO hc.2;obtain⟨p,hp,ep⟩:=fQ.mp hm;have v0:aN (kO x.book) (.inr f)=some (.tup [.str p.1,.str p.2.1,.int p.2.2]):=by rw[<-ep];exact iG o.bn hp
   have pu:bR (kO x.book) (.inr f) (.tup [.str f,.str p.2.1,.int cl])=kO (x.book.map λz=>if z.1=f then(f,z.2.1,cl) else z):=by
    unfold kO;rw[Bw o.bn hm];unfold td;rw[fR];refine m6 λz mz=>?_
    dsimp only[Function.comp];by_cases e:z.1=f
    .rw[bL e,bL e,tO (f:=λp:Str×Str×Int=>p.1) o.bn mz hp (by rw[e,ep]),ep]
     rfl
    .rw[br e,br e]
   have sz:=o.sz;have l1:((kO x.book).length<1000000)=True:=bK (by unfold kO;rw[lq];lia)
   have ek:(x.book.map λz=>if z.1=f then(f,z.2.1,cl) else z).map (·.1)=x.book.map (·.1):=by
    rw[fR];refine m6 λz _=>?_
    dsimp only[Function.comp];split
    .rename_i e;exact e.symm
    .rfl
   refine .inl ⟨{ x with book:=x.book.map λz=>if z.1=f then(f,z.2.1,cl) else z},?_,λw m=>⟨(o.rw w m).1,(o.rw w m).2.1,λf' e=>?_⟩,o.nd,o.un,λp m=>?_,?_,o.gi,o.rl,?_⟩
   .simp only[↓ev,hS,hR,dy,tu,e0,e1,p5,qL,aS,v0,cQ,l1,pu,cz]
   .show f'∈(x.book.map _).map _;rw[ek];exact(o.rw w m).2.2 f' e
   .obtain⟨z,mz,rfl⟩:=fQ.mp m;split
    .exact o.bk z mz
    .exact o.bk z mz
   .show((x.book.map _).map _).Nodup;rw[ek];exact o.bn
   grind
theorem e5d(g:aG h)(o:Ok h n x)(hn:n<1000):Dn h r n x s (A_ 0 [gb,du b] (hS (aB h) r x s)):=by
 cases hb:(h.af.map av.name).contains b with
 |false=>
  have e0:=λq=>zD (s:=s) (r:=r) (x:=x) (q:=q) g hb
  simp only[aK,fS] at e0;refine .inr ⟨116,?_,rfl⟩;generalize aB h=hd at *;unfold A_ Ie;simp only[↓ev,hR,dy,uX,e0,cz]
 |true=>
  have e0:=λq=>zD (s:=s) (r:=r) (x:=x) (q:=q) g hb
  simp only[nU] at e0;have sz:=o.sz;have l1:((mE x.halts).length<1000000)=True:=bK (by rw[IY];lia)
  have p:=Ft b x.halts;refine .inl ⟨{ x with halts:=gG x.halts b},?_,o.rw,o.nd,o.un,o.bk,o.bn,o.gi,o.rl,?_⟩
  .generalize aB h=hd at *;unfold A_ Ie;simp only[↓ev,hS,hR,dy,uX,e0,zG,Be,aS,l1,p,cz]
  grind [N8]
theorem Ye(b:Str)(ks:List Str):dm (mE ks) b=mE (ks.filter λk=>decide (k≠b)):=Bm (k:=λk=>k) (v:=λ_=>.bl true)
theorem Yf(g:aG h)(o:Ok h n x)(hb:(h.af.map av.name).contains b=true):zz 0 [gb,du b] (hS (aB h) r x s)=some (.ok (rd .aJ) (hS (aB h) r { x with halts:=x.halts.filter λk=>decide (k≠b)} s)):=by
 have e0:=λq=>zD (s:=s) (r:=r) (x:=x) (q:=q) g hb
 simp only[nU] at e0;have i:=ve b x.halts;have d:=Ye b x.halts;have t1:f_ (mE x.halts)=true:=xq (k:=λk=>k) (v:=λ_=>.bl true)
 generalize aB h=hd at *;unfold zz HR;cases hc:x.halts.contains b with
 |true=>
  rw[hc] at i;obtain⟨y,hy⟩:=Option.isSome_iff_exists.mp i;simp only[↓ev,hS,hR,dy,uX,e0,zG,Be,aS,aK,hy,v_,t1,d,cz]
 |false=>
  rw[hc] at i;have hf:x.halts.filter (λk=>decide (k≠b))=x.halts:=List.filter_eq_self.mpr λk m=>qg λe=>HJ hc (by rw[<-e];exact m)
  simp only[↓ev,hS,hR,dy,uX,e0,zG,Be,aS,aK,i,cz,hf]
theorem Ok.start(o:Ok h n x):Ok h n { x with halts:=x.halts.filter λk=>decide (k≠b)}:=⟨o.rw,o.nd,o.un,o.bk,o.bn,o.gi,o.rl,by
 have:=v9 (λk=>decide (k≠b)) x.halts
 have sz:=o.sz
 lia⟩
theorem VS(g:aG h)(o:Ok h n x):Dn h r n x s (zz 0 [gb,du b] (hS (aB h) r x s)):=by
 cases hb:(h.af.map av.name).contains b with
 |false=>
  have e0:=λq=>zD (s:=s) (r:=r) (x:=x) (q:=q) g hb
  simp only[aK,fS] at e0;refine .inr ⟨116,?_,rfl⟩;generalize aB h=hd at *;unfold zz HR;simp only[↓ev,hR,dy,uX,e0,cz]
 |true=>exact .inl ⟨_,Yf g o hb,o.start.up⟩
end
theorem Yg{b:Str}(hn:oA b):b.length<=8:=by
 refine LX λz=>?_
 have e:=hn 0 ⟨[],[]⟩;have h2:((b.length:Int)<=8)=False:=eq_false (by lia)
 have h3:(1<=(b.length:Int))=True:=bK (by lia)
 by_cases hl:b.length<=1000000
 .have h4:=bK hl;have e2:nA 0 [du b] ⟨[],[]⟩=some (.ok (rd (.bl false)) ⟨[],[]⟩):=by
   unfold nA A2;simp only[↓ev,Cm,aK,h4,h3,decide_true,h2,decide_false];rfl
  lia
 .have h4:=eq_false hl;have e2:nA 0 [du b] ⟨[],[]⟩=none:=by
   unfold nA A2;simp only[↓ev,Cm,aK,h4];rfl
  lia
noncomputable def Ga(rows:List Row)(b:Str):Bool:=rows.any λw=>w.b == b&&w.i == 0
theorem VT(b:Str)(rows:List Row):((gu rows).map (·.2)).any (λz=>eL z (pl b 0))=Ga rows b:=by
 unfold gu td Ga;rw[fR,List.any_map]
 congr 1
 funext w;exact pj
theorem Yh(rows:List Row):((gu rows).map (·.2)).all (dZ 40)=true:=by
 unfold gu td;rw[fR,As];exact kj.mpr λw _=>rfl
theorem Fb{α:Type}{k:α->Str}{v:α->D}{xs:List α}{x:α}(h:k x∉xs.map k):bR (td k v xs) (.inr (k x)) (v x)=td k v (xs++[x]):=by
 rw[Bv h];unfold td;rw[gf];rfl
section
variable{s:List Cell}{h:aF}{r:Int}{x:Hl}{n q:Nat}{f b bag:Str}{v v2:Bool}{fl:aj Str}
theorem IK{S:aR}{res:Rs Rv}{ff:D}(pre:∀rest:GS,tL rest 0 [cS,bH bag,ak ff,bH b,none] S=rest [cS,bH bag,ak ff,bH b,none] S)(e:(zN 0 [cS,bH bag,ak ff,bH b,none] S).bind (leave S.s.length)=some res):u9 0 [gb,du bag,.d ff,du b] S=some res:=by
 rw[<-pre (zN 0)] at e;exact e
theorem e6x(g:aG h)(o:Ok h n x)(hn:n<1000)(hv:kE bag v)(hf:∀f,fl=some f->kE f v2)(h8:x.rows.length<8):Dn h r n x s (u9 0 [gb,du bag,.d (aQ fl),du b] (hS (aB h) r x s)):=by
 have i1:(aN (gu x.rows) (.inr bag)).isSome=_:=zW;have i2:(aN (xD x.gone) (.inr bag)).isSome=_:=zW;cases v with
 |false=>
  refine .inr ⟨44,?_,rfl⟩;generalize aB h=hd at *;generalize aQ fl=ff at *;unfold u9 Bj tL;simp only[↓ev,hv,cz,hR]
 |true=>
 cases h1:(x.rows.map Row.bag).contains bag with
 |true=>
  rw[h1] at i1;refine .inr ⟨44,?_,rfl⟩;generalize aB h=hd at *;generalize aQ fl=ff at *;unfold u9 Bj tL;simp only[↓ev,hv,aK,hR,ku,kL,aS,i1,cz]
 |false=>
 rw[h1] at i1;cases h2:(x.gone.map (·.1)).contains bag with
 |true=>
  rw[h2] at i2;refine .inr ⟨44,?_,rfl⟩;generalize aB h=hd at *;generalize aQ fl=ff at *;unfold u9 Bj tL;simp only[↓ev,hv,aK,hR,ku,kL,aS,i1,zC,A3,i2,cz]
 |false=>
 rw[h2] at i2;have fz:(∃f,fl=some f/\(v2&&(x.book.map (·.1)).contains f)=false)\/(fl=none\/∃f,fl=some f/\(v2&&(x.book.map (·.1)).contains f)=true):=by
  cases fl with
  |none=>exact .inr (.inl rfl)
  |some f=>
   cases hc:(v2&&(x.book.map (·.1)).contains f) with
   |true=>exact .inr (.inr ⟨f,rfl,hc⟩)
   |false=>exact .inl ⟨f,rfl,hc⟩
 rcases fz with⟨f,rfl,hc⟩|fz
 .have e0:=λq=>Bp (s:=s) (hd:=aB h) (r:=r) (x:=x) q (hf f rfl)
  simp only[hc,aK,fS] at e0;refine .inr ⟨104,?_,rfl⟩;generalize aB h=hd at *;unfold u9 Bj tL aQ;simp only[↓ev,hv,aK,hR,ku,kL,aS,i1,zC,A3,i2,dy,tu,e0,cz]
 .have hfl:∀f,fl=some f->f∈x.book.map (·.1):=λf e=>by
   simp_all
  have pre:∀rest:GS,tL rest 0 [cS,bH bag,ak (aQ fl),bH b,none] (hS (aB h) r x s)=rest [cS,bH bag,ak (aQ fl),bH b,none] (hS (aB h) r x s):=λrest=>by
   rcases fz with rfl|⟨f,rfl,hc⟩
   .generalize aB h=hd at *;unfold tL aQ;simp only[↓ev,hv,aK,hR,ku,kL,aS,i1,zC,A3,i2]
   .have e0:=λq=>Bp (s:=s) (hd:=aB h) (r:=r) (x:=x) q (hf f rfl)
    simp only[hc,nU] at e0;generalize aB h=hd at *;unfold tL aQ;simp only[↓ev,hv,aK,hR,ku,kL,aS,i1,zC,A3,i2,dy,tu,e0]
  cases hb:(h.af.map av.name).contains b with
  |false=>
   have e1:=λq=>zD (s:=s) (r:=r) (x:=x) (q:=q) g hb
   simp only[aK,fS] at e1;refine .inr ⟨116,IK pre ?_,rfl⟩;generalize aB h=hd at *;generalize aQ fl=ff at *;unfold zN;simp only[↓ev,hR,dy,uX,e1,cz]
  |true=>
   have e1:=λq=>zD (s:=s) (r:=r) (x:=x) (q:=q) g hb
   simp only[nU] at e1;have t1:f_ (gu x.rows)=true:=xq;have va:=VT b x.rows;have vo:=Yh x.rows;obtain⟨bt,FN,QM⟩:=fQ.mp (AO hb);have lb:=Yg (g.nm bt FN);rw[QM] at lb;have l1:(b.length<=1000000)=True:=bK (by lia)
   have l2:((Str.empty++("cell 0 of belt ":Str)).length<=1000000)=True:=bK (by decide +kernel)
   have l3:((Str.empty++("cell 0 of belt ":Str)++b).length<=1000000)=True:=bK (by
    rw[Str.length_append];have:(Str.empty++("cell 0 of belt ":Str)).length<=100:=by decide +kernel
    lia)
   have l4:((Str.empty++("cell 0 of belt ":Str)++b++(" has a bag":Str)).length<=1000000)=True:=bK (by
    rw[Str.length_append,Str.length_append];have:(Str.empty++("cell 0 of belt ":Str)).length<=100:=by decide +kernel
    have:(" has a bag":Str).length<=100:=by decide +kernel
    lia)
   cases ho:Ga x.rows b with
   |true=>
    rw[ho] at va;refine .inr ⟨128,IK pre ?_,rfl⟩;generalize aB h=hd at *;generalize aQ fl=ff at *;unfold zN;simp only[↓ev,hR,dy,uX,e1,aS,ku,kL,t1,vo,aK,va,l2,l1,l3,l4,cz]
   |false=>
    rw[ho] at va;have xY:=HJ h1;have p1:bR (gu x.rows) (.inr bag) (pl b 0)=gu (x.rows++[⟨bag,b,0,fl,0⟩]):=Fb (x:=(⟨bag,b,0,fl,0⟩:Row)) xY;have p2:bR (gR x.rows) (.inr bag) (aQ fl)=gR (x.rows++[⟨bag,b,0,fl,0⟩]):=Fb (x:=(⟨bag,b,0,fl,0⟩:Row)) xY;have p3:bR (kf x.rows) (.inr bag) (.int 0)=kf (x.rows++[⟨bag,b,0,fl,0⟩]):=Fb (x:=(⟨bag,b,0,fl,0⟩:Row)) xY;have m1:((gu x.rows).length<1000000)=True:=bK (by unfold gu;rw[lq];lia)
    have m2:((gR x.rows).length<1000000)=True:=bK (by unfold gR;rw[lq];lia)
    have m3:((kf x.rows).length<1000000)=True:=bK (by unfold kf;rw[lq];lia)
    have sz:=o.sz;have lo:=(g.lg bt FN).1;refine .inl ⟨{ x with rows:=x.rows++[⟨bag,b,0,fl,0⟩]},IK pre ?_,λw m=>?_,?_,?_,o.bk,o.bn,o.gi,?_,?_⟩
    .generalize aB h=hd at *;generalize aQ fl=ff at *;unfold zN;simp only[↓ev,hS,hR,dy,uX,e1,aS,ku,kL,t1,vo,aK,va,m1,p1,o8,pY,m2,p2,A0,Ew,m3,p3,cz]
    .rcases gw.mp m with m|m
     .exact o.rw w m
     .rw[lW.mp m];exact⟨⟨bt,FN,QM,LJ _,by show(0:Int)<_;lia,LJ _⟩,hv,hfl⟩
    .dsimp only;rw[gf,lX];have o1:=lY.mp o.nd
     grind
    .dsimp only;rw[gf];refine lY.mpr ⟨o.un,by simp,λa ma c mc e=>?_⟩
     grind [Ga]
    .dsimp only;rw[dw,sW];lia
    .dsimp only;rw[dw,sW];lia
end
variable{hd:D}
noncomputable def fO(p:Row->Bool)(y:aj Str)(z:Row):Row:=if p z=true then{ z with fl:=y} else z
section
variable{s:List Cell}{h:aF}{r:Int}{x:Hl}{n q:Nat}{f bag:Str}{v v2:Bool}{p:Row->Bool}{y:aj Str}{rows:List Row}
theorem Pz:(rows.map (fO p y)).map Row.bag=rows.map Row.bag:=by
 rw[fR];refine m6 λz _=>?_
 dsimp only[Function.comp];unfold fO;split <;> rfl
theorem Qs:gu (rows.map (fO p y))=gu rows:=by
 unfold gu td;rw[fR];refine m6 λz _=>?_
 dsimp only[Function.comp];unfold fO;split <;> rfl
theorem Qt:kf (rows.map (fO p y))=kf rows:=by
 unfold kf td;rw[fR];refine m6 λz _=>?_
 dsimp only[Function.comp];unfold fO;split <;> rfl
theorem Ok.read(o:Ok h n x){bk:List (Str×Str×Int)}(hb:∀q∈bk,q∈x.book)(hbn:(bk.map (·.1)).Nodup)(hl:bk.length<=x.book.length)(hf:∀w∈x.rows,∀f,(fO p y w).fl=some f->f∈bk.map (·.1)):Ok h (n+1) { x with book:=bk,rows:=x.rows.map (fO p y)}:=by
 have sz:=o.sz;refine⟨λw m=>?_,?_,?_,λq m=>o.bk q (hb q m),hbn,o.gi,?_,?_⟩
 .obtain⟨z,mz,rfl⟩:=fQ.mp m;obtain⟨k1,k2,k3⟩:=o.rw z mz;refine⟨?_,?_,hf z mz⟩
  .unfold fO;split
   .exact k1
   .exact k1
  .unfold fO;split
   .exact k2
   .exact k2
 .dsimp only;rw[Pz];exact o.nd
 .dsimp only;have:(x.rows.map (fO p y)).map (λw=>(w.b,w.i))=x.rows.map λw=>(w.b,w.i):=by
   rw[fR];refine m6 λz _=>?_
   dsimp only[Function.comp];unfold fO;split <;> rfl
  rw[this];exact o.un
 .dsimp only;rw[bJ];exact o.rl
 grind
theorem VU(q:Nat)(hv:kE bag v):wz q [gb,du bag] (hS hd r x s)=some (if(v&&(x.rows.map Row.bag).contains bag)=true then .ok (rd .aJ) (hS hd r x s) else .ex 140 none (hS hd r x s)):=by
 have i:(aN (gu x.rows) (.inr bag)).isSome=_:=zW;unfold wz G6;cases v with
 |false=>simp only[↓ev,hv,cz,hR,aK]
 |true=>
  cases hc:(x.rows.map Row.bag).contains bag with
  |true=>rw[hc] at i;simp only[↓ev,hv,aK,hR,ku,kL,aS,i,fB,cz]
  |false=>rw[hc] at i;simp only[↓ev,hv,aK,hR,ku,kL,aS,i,j_,cz]
theorem e5e(g:aG h)(o:Ok h n x)(hn:n<1000)(hv:kE bag v)(ox:kE f v2):Dn h r n x s (EN 0 [gb,du bag,du f] (hS (aB h) r x s)):=by
 have e0:=λq=>VU (s:=s) (hd:=aB h) (r:=r) (x:=x) q hv
 have e1:=λq=>Bp (s:=s) (hd:=aB h) (r:=r) (x:=x) q ox
 unfold Dn;generalize aB h=hd at *;unfold EN NY;cases hc:(v&&(x.rows.map Row.bag).contains bag) with
 |false=>
  simp only[hc,aK,fS] at e0;refine .inr ⟨140,?_,rfl⟩;simp only[↓ev,hR,dy,zq,e0,cz]
 |true=>
  simp only[hc,nU] at e0;cases q9:(v2&&(x.book.map (·.1)).contains f) with
  |false=>
   simp only[q9,aK,fS] at e1;refine .inr ⟨104,?_,rfl⟩;simp only[↓ev,hR,dy,zq,e0,tu,e1,cz]
  |true=>
   simp only[q9,nU] at e1;rw[jy] at hc q9;have hm:=AO hc.2;have p1:bR (gR x.rows) (.inr bag) (.str f)=gR (x.rows.map (fO (λz=>z.bag == bag) (some f))):=by
    unfold gR;rw[Bw o.nb hm];unfold td;rw[fR];refine m6 λz _=>?_
    dsimp only[Function.comp];unfold fO;by_cases e:z.bag=bag
    .rw[bL e,bL (beq_iff_eq.mpr e)];rfl
    .rw[br e,br (by rw[beq_iff_eq];exact e)]
   have p2:=Qs (p:=λz=>z.bag == bag) (y:=some f) (rows:=x.rows)
   have p3:=Qt (p:=λz=>z.bag == bag) (y:=some f) (rows:=x.rows)
   have rl:=o.rl;have m2:((gR x.rows).length<1000000)=True:=bK (by unfold gR;rw[lq];lia)
   refine .inl ⟨_,?_,o.read (p:=λz=>z.bag == bag) (y:=some f) (λ_ m=>m) o.bn (bU _) λw mw f' e=>?_⟩
   .simp only[↓ev,hS,hR,dy,zq,e0,tu,e1,o8,pY,aS,m2,p1,cz,p2,p3]
   .unfold fO at e;split at e
    .cases e;exact AO q9.2
    .exact(o.rw w mw).2.2 f' e
theorem e5f{rs:List Row}{w:Row}(nb:(rs.map Row.bag).Nodup)(hw:w∈rs)(hl:rs.length<1000){x:Hl}{a2:aj Val}:AR 0 [cS,bH f,bH w.bag] (hS hd r { x with rows:=rs} s)=some (.nx [cS,bH f,bH w.bag] (hS hd r { x with rows:=rs.map (fO (λz=>z.bag == w.bag&&z.fl == some f) none)} s)):=by
 have v0:aN (gR rs) (.inr w.bag)=some (aQ w.fl):=iG nb hw;have p2:=Qs (p:=λz=>z.bag == w.bag&&z.fl == some f) (y:=none) (rows:=rs)
 have p3:=Qt (p:=λz=>z.bag == w.bag&&z.fl == some f) (y:=none) (rows:=rs)
 have m2:((gR rs).length<1000000)=True:=bK (by unfold gR;rw[lq];lia)
 have same:w.fl≠some f->rs.map (fO (λz=>z.bag == w.bag&&z.fl == some f) none)=rs:=λne=>by
  conv=>rhs;rw[<-List.map_id rs]
  refine m6 λz mz=>?_
  unfold fO;rw[br λe=>?_]
  .rfl
  .rw[jy,beq_iff_eq,beq_iff_eq] at e;rw[tO nb mz hw e.1] at e;exact ne e.2
 unfold AR;cases hf:w.fl with
 |none=>
  rw[hf] at v0;rw[same (by rw[hf];intro z;cases z)]
  unfold aQ at v0;have en:eL .aJ (.str f)=false:=rfl;simp only[↓ev,hR,o8,pY,aS,v0,aK,en]
 |some f'=>
  rw[hf] at v0;unfold aQ at v0;cases he:(f' == f) with
  |false=>
   rw[same (by rw[hf];intro z;cases z;rw[dP] at he;cases he)]
   simp only[↓ev,hR,o8,pY,aS,v0,aK,eC,he]
  |true=>
   have p1:bR (gR rs) (.inr w.bag) .aJ=gR (rs.map (fO (λz=>z.bag == w.bag&&z.fl == some f) none)):=by
    unfold gR;rw[Bw nb (lU hw)];unfold td;rw[fR];refine m6 λz mz=>?_
    dsimp only[Function.comp];unfold fO;by_cases e:z.bag=w.bag
    .have ez:=tO nb mz hw e;rw[bL e,bL (by rw[ez];dsimp only;rw[hf,dP,beq_iff_eq.mp he];simp)]
     rfl
    .rw[br e,br (by rw[jy,beq_iff_eq];exact λz=>e z.1)]
   simp only[↓ev,hS,hR,o8,pY,aS,v0,aK,eC,he,m2,p1,p2,p3]
theorem VW{z:Row}:(fO p y z).bag=z.bag:=by unfold fO;split <;> rfl
theorem VX(d:List Row)(w z:Row):fO (λz=>z.bag == w.bag&&z.fl == some f) none (fO (λz=>(d.map Row.bag).contains z.bag&&z.fl == some f) none z)=fO (λz=>((d++[w]).map Row.bag).contains z.bag&&z.fl == some f) none z:=by
 unfold fO;dsimp only;rw[gf];by_cases h2:z.fl=some f
 .by_cases h1:z.bag∈d.map Row.bag
  .simp[h1,h2]
  .by_cases h3:z.bag=w.bag
   .rw[h3] at h1;simp[h1,h2,h3]
   .simp[h1,h2,h3]
 .simp[h2]
theorem Yi(nb:(x.rows.map Row.bag).Nodup)(hl:x.rows.length<1000):∃a2,aL (ae 2) (AR 0) (dS (x.rows.map Row.bag)) [cS,bH f,none] (hS hd r x s)=some (.nx [cS,bH f,a2] (hS hd r { x with rows:=x.rows.map (fO (λz=>z.fl == some f) none)} s)):=by
 rw[show dS (x.rows.map Row.bag)=x.rows.map λw=>.str w.bag by unfold dS;rw[fR];rfl]
 obtain⟨U',S',e,⟨a2,rfl⟩,rfl⟩:=jG (gg:=ae 2) (body:=AR 0) (f:=λw:Row=>.str w.bag) (U:=[cS,bH f,none]) (S:=hS hd r x s) (λpre U S'=>(∃a2,U=[cS,bH f,a2])/\S'=hS hd r { x with rows:=x.rows.map (fO (λz=>(pre.map Row.bag).contains z.bag&&z.fl == some f) none)} s) x.rows ⟨⟨_,rfl⟩,by
   have:x.rows.map (fO (λz=>(([]:List Row).map Row.bag).contains z.bag&&z.fl == some f) none)=x.rows:=by
    conv=>rhs;rw[<-List.map_id x.rows]
    rfl
   rw[this]⟩ (by
  rintro d w post eq U S' ⟨⟨a2,rfl⟩,rfl⟩;have hw:w∈x.rows:=by rw[eq];simp
  have e:=e5f (hd:=hd) (r:=r) (s:=s) (x:=x) (f:=f) (a2:=none) (rs:=x.rows.map (fO (λz=>(d.map Row.bag).contains z.bag&&z.fl == some f) none)) (w:=fO (λz=>(d.map Row.bag).contains z.bag&&z.fl == some f) none w) (by rw[Pz];exact nb) (lU hw) (by rw[bJ];exact hl)
  rw[VW] at e;refine⟨_,_,_,rfl,.inl e,⟨_,rfl⟩,?_⟩;rw[fR]
  congr 3
  funext z;exact VX d w z)
 have:x.rows.map (fO (λz=>(x.rows.map Row.bag).contains z.bag&&z.fl == some f) none)=x.rows.map (fO (λz=>z.fl == some f) none):=m6 λz mz=>by
  have hc:(x.rows.map Row.bag).contains z.bag=true:=lV.mpr (lU mz);unfold fO;simp only[hc,Bool.true_and]
 rw[this] at e;exact⟨a2,e⟩
theorem e6y(g:aG h)(o:Ok h n x)(hv:kE f v):Dn h r n x s (Ef 0 [gb,du f] (hS (aB h) r x s)):=by
 have e0:=λq=>Bp (s:=s) (hd:=aB h) (r:=r) (x:=x) q hv
 unfold Dn;generalize aB h=hd at *;unfold Ef Mq;cases hc:(v&&(x.book.map (·.1)).contains f) with
 |false=>
  simp only[hc,aK,fS] at e0;refine .inr ⟨104,?_,rfl⟩;simp only[↓ev,hR,dy,tu,e0,cz]
 |true=>
  simp only[hc,nU] at e0;rw[jy] at hc;obtain⟨p,hp,ep⟩:=fQ.mp (AO hc.2);have v0:aN (kO x.book) (.inr f)=some (t3 p):=by rw[<-ep];exact iG o.bn hp
  have d1:dm (kO x.book) f=kO (x.book.filter λz=>decide (z.1≠f)):=Bm
  have t1:f_ (kO x.book)=true:=xq;have k1:(gR x.rows).map (·.1.d)=dS (x.rows.map Row.bag):=Ph
  have rl:=o.rl;have l1:((gR x.rows).length<1000000)=True:=bK (by unfold gR;rw[lq];lia)
  have l2:((gR x.rows).length<=1000000)=True:=bK (by unfold gR;rw[lq];lia)
  obtain⟨a2,e1⟩:=Yi (hd:=hd) (r:=r) (s:=s) (f:=f) (x:={ x with book:=x.book.filter λz=>decide (z.1≠f)}) o.nb (by dsimp only;lia)
  generalize t3 p=tp at *;refine .inl ⟨_,?_,o.read (p:=λz=>z.fl == some f) (y:=none) (bk:=x.book.filter λz=>decide (z.1≠f)) (λq m=>(sU.mp m).1) (o.bn.sublist (List.Sublist.map _ DK)) (v9 _ _) λw mw f' e=>?_⟩
  .dsimp only at e1;simp only[↓ev,hS,hR,dy,tu,e0,p5,qL,aS,t1,v0,d1,o8,pY,k1,g9,e1,cz]
  .unfold fO at e;split at e
   .cases e
   .rename_i ne
    obtain⟨q,hq,eq⟩:=fQ.mp ((o.rw w mw).2.2 f' e)
    grind
end
inductive hV:D->Prop
 |lB {f ct:Str} {cl:Int} {v:Bool}:kE f v->hV (.tup [.str "flight",.str f,.str ct,.int cl])
 |change {f:Str} {cl:Int} {v:Bool}:kE f v->hV (.tup [.str "change",.str f,.int cl])
 |off {f:Str} {v:Bool}:kE f v->hV (.tup [.str "off",.str f])
 |put {bag b:Str} {fl:aj Str} {v v2:Bool}:kE bag v->(∀f,fl=some f->kE f v2)->hV (.tup [.str "put",.str bag,aQ fl,.str b])
 |read {bag f:Str} {v v2:Bool}:kE bag v->kE f v2->hV (.tup [.str "read",.str bag,.str f])
 |stop {b:Str}:hV (.tup [.str "stop",.str b])
 |start {b:Str}:hV (.tup [.str "start",.str b])
section
variable{s:List Cell}{h:aF}{r:Int}{x:Hl}{n q:Nat}{d:D}
theorem Rq:(("change":Str) == "flight")=false:=by decide +kernel
theorem Rr:(("off":Str) == "flight")=false:=by decide +kernel
theorem Rt:(("off":Str) == "change")=false:=by decide +kernel
theorem K7:(("put":Str) == "flight")=false:=by decide +kernel
theorem K8:(("put":Str) == "change")=false:=by decide +kernel
theorem K9:(("put":Str) == "off")=false:=by decide +kernel
theorem Ru:(("read":Str) == "flight")=false:=by decide +kernel
theorem Rw:(("read":Str) == "change")=false:=by decide +kernel
theorem Rx:(("read":Str) == "off")=false:=by decide +kernel
theorem CY:(("read":Str) == "put")=false:=by decide +kernel
theorem CZ:(("stop":Str) == "flight")=false:=by decide +kernel
theorem C0:(("stop":Str) == "change")=false:=by decide +kernel
theorem C1:(("stop":Str) == "off")=false:=by decide +kernel
theorem C2:(("stop":Str) == "put")=false:=by decide +kernel
theorem C3:(("stop":Str) == "read")=false:=by decide +kernel
theorem C4:(("start":Str) == "flight")=false:=by decide +kernel
theorem C5:(("start":Str) == "change")=false:=by decide +kernel
theorem C6:(("start":Str) == "off")=false:=by decide +kernel
theorem C7:(("start":Str) == "put")=false:=by decide +kernel
theorem C8:(("start":Str) == "read")=false:=by decide +kernel
theorem C9:(("start":Str) == "stop")=false:=by decide +kernel
theorem e5g(g:aG h)(o:Ok h n x)(hn:n<1000)(om:hV d):Dn h r n x s (qK 0 [gb,.d d] (hS (aB h) r x s)):=by
 cases om with
 |@lB f ct cl v hv=>
  have e:=VQ (s:=s) (r:=r) (ct:=ct) (cl:=cl) g o hn hv;unfold Dn at *;generalize aB h=hd at *;unfold qK tG;rcases e with⟨x',e,ok⟩|⟨C,e,hC⟩
  .refine .inl ⟨x',?_,ok⟩;simp only[↓ev,bV,aK,eC,dP,hR,dy,Nu,cQ,eJ,lr,e,cz]
  .refine .inr ⟨C,?_,hC⟩;simp only[↓ev,bV,aK,eC,dP,hR,dy,Nu,cQ,eJ,lr,e,cz]
 |@change f cl v hv=>
  have e:=VR (s:=s) (r:=r) (cl:=cl) g o hn hv;unfold Dn at *;generalize aB h=hd at *;unfold qK tG;rcases e with⟨x',e,ok⟩|⟨C,e,hC⟩
  .refine .inl ⟨x',?_,ok⟩;simp only[↓ev,bV,aK,eC,Rq,dP,hR,dy,Nv,cQ,eJ,e,cz]
  .refine .inr ⟨C,?_,hC⟩;simp only[↓ev,bV,aK,eC,Rq,dP,hR,dy,Nv,cQ,eJ,e,cz]
 |@off f v hv=>
  have e:=e6y (s:=s) (r:=r) g o hv;unfold Dn at *;generalize aB h=hd at *;unfold qK tG;rcases e with⟨x',e,ok⟩|⟨C,e,hC⟩
  .refine .inl ⟨x',?_,ok⟩;simp only[↓ev,bV,aK,eC,Rr,Rt,dP,hR,dy,MD,cQ,e,cz]
  .refine .inr ⟨C,?_,hC⟩;simp only[↓ev,bV,aK,eC,Rr,Rt,dP,hR,dy,MD,cQ,e,cz]
 |@put bag b fl v v2 hv hf=>
  have eb:=λq=>By (s:=s) (r:=r) (q:=q) g o
  have ll:(((ord h x.rows).map aY).length:Int)=(x.rows.length:Int):=by rw[bJ,o.perm.length_eq]
  by_cases h8:x.rows.length<8
  .have e:=e6x (s:=s) (r:=r) (b:=b) (fl:=fl) g o hn hv hf h8;have l8:((x.rows.length:Int)<8)=True:=bK (by lia)
   unfold Dn at *;generalize(ord h x.rows).map aY=rl at *;generalize aB h=hd at *;generalize aQ fl=ff at *;unfold qK tG;rcases e with⟨x',e,ok⟩|⟨C,e,hC⟩
   .refine .inl ⟨x',?_,ok⟩;simp only[↓ev,bV,aK,eC,K7,K8,K9,dP,hR,dy,wV,eb,ll,l8,decide_true,Qm,cQ,eJ,lr,e,cz]
   .refine .inr ⟨C,?_,hC⟩;simp only[↓ev,bV,aK,eC,K7,K8,K9,dP,hR,dy,wV,eb,ll,l8,decide_true,Qm,cQ,eJ,lr,e,cz]
  .have l8:((x.rows.length:Int)<8)=False:=eq_false (by lia)
   refine .inl ⟨x,?_,o.up⟩;generalize(ord h x.rows).map aY=rl at *;generalize aB h=hd at *;generalize aQ fl=ff at *;unfold qK tG;simp only[↓ev,bV,aK,eC,K7,K8,K9,dP,hR,dy,wV,eb,ll,l8,decide_false,cz]
 |@read bag f v v2 hv ox=>
  have e:=e5e (s:=s) (r:=r) g o hn hv ox;unfold Dn at *;generalize aB h=hd at *;unfold qK tG;rcases e with⟨x',e,ok⟩|⟨C,e,hC⟩
  .refine .inl ⟨x',?_,ok⟩;simp only[↓ev,bV,aK,eC,Ru,Rw,Rx,CY,dP,hR,dy,Pj,cQ,eJ,e,cz]
  .refine .inr ⟨C,?_,hC⟩;simp only[↓ev,bV,aK,eC,Ru,Rw,Rx,CY,dP,hR,dy,Pj,cQ,eJ,e,cz]
 |@stop b=>
  have e:=e5d (s:=s) (r:=r) (b:=b) g o hn;unfold Dn at *;generalize aB h=hd at *;unfold qK tG;rcases e with⟨x',e,ok⟩|⟨C,e,hC⟩
  .refine .inl ⟨x',?_,ok⟩;simp only[↓ev,bV,aK,eC,CZ,C0,C1,C2,C3,dP,hR,dy,Pk,cQ,e,cz]
  .refine .inr ⟨C,?_,hC⟩;simp only[↓ev,bV,aK,eC,CZ,C0,C1,C2,C3,dP,hR,dy,Pk,cQ,e,cz]
 |@start b=>
  have e:=VS (s:=s) (r:=r) (b:=b) g o;unfold Dn at *;generalize aB h=hd at *;unfold qK tG;rcases e with⟨x',e,ok⟩|⟨C,e,hC⟩
  .refine .inl ⟨x',?_,ok⟩;simp only[↓ev,bV,aK,eC,C4,C5,C6,C7,C8,C9,dP,hR,dy,Ob,cQ,e,cz]
  .refine .inr ⟨C,?_,hC⟩;simp only[↓ev,bV,aK,eC,C4,C5,C6,C7,C8,C9,dP,hR,dy,Ob,cQ,e,cz]
theorem e5h(g:aG h)(o:Ok h n x)(hn:n<1000)(om:hV d):∃(v:Bool) (x':Hl),Ok h (n+1) x'/\Ba 0 [gb,.d d] (hS (aB h) r x s)=some (.ok (rd (.bl v)) (hS (aB h) r x' s)):=by
 have e:=e5g (s:=s) (r:=r) g o hn om;unfold Dn at e;rcases e with⟨x',e,ok⟩|⟨C,e,hC⟩
 .refine⟨true,x',ok,?_⟩;generalize aB h=hd at *;unfold Ba Ih;simp only[↓ev,aS,e,cz]
 .have hC':(iQ.any λp=>p.2 == C)=true:=by
   unfold wT at hC;split at hC
   .assumption
   .cases hC
  refine⟨false,x,o.up,?_⟩;generalize aB h=hd at *;unfold Ba Ih;simp only[↓ev,aS,e,hC',cz]
end
theorem Fc(l:List Nat)(h1:1<=l.length)(h2:l.length<=8):∃v,kE ⟨l.toArray⟩ v:=by
 have e:∀q S,bf (ae 0) (gq true) (Ei q) (l.map λc=>.str (ja c)) [none] S []=some (.ok ((l.map λc => !(Builtin.Str.occurrences (Str.ofString "abcdefghijklmnopqrstuvwxyz") (ja c) 0 (Str.ofString "abcdefghijklmnopqrstuvwxyz").length 1).isEmpty).map D.bl) S):=λq S=>by
  rw[p_ (λc=>D.bl (!(Builtin.Str.occurrences (Str.ofString "abcdefghijklmnopqrstuvwxyz") (ja c) 0 (Str.ofString "abcdefghijklmnopqrstuvwxyz").length 1).isEmpty)) l (by lia) λc m=>⟨rd (.bl _),by
   rfl,rfl⟩,fR]
  rfl
 have c1:(1<=((⟨l.toArray⟩:Str).length:Int))=True:=bK (by rw[tM];lia)
 have c2:(((⟨l.toArray⟩:Str).length:Int)<=8)=True:=bK (by rw[tM];lia)
 have c3:((⟨l.toArray⟩:Str).length<=1000000)=True:=bK (by rw[tM];lia)
 refine⟨(l.map λc => !(Builtin.Str.occurrences (Str.ofString "abcdefghijklmnopqrstuvwxyz") (ja c) 0 (Str.ofString "abcdefghijklmnopqrstuvwxyz").length 1).isEmpty).all id,λq S=>?_⟩
 generalize(l.map λc => !(Builtin.Str.occurrences (Str.ofString "abcdefghijklmnopqrstuvwxyz") (ja c) 0 (Str.ofString "abcdefghijklmnopqrstuvwxyz").length 1).isEmpty)=bs at *
 unfold nA A2;simp only[↓ev,Cm,aK,c3,c1,decide_true,c2,e,HU,eA]
noncomputable abbrev l3:List D:=[.int 11,.int 12,.int 13]
theorem QJ:∀a:Nat,a<3->dR l3 (a:Int)=some (.int ((11+a:Nat):Int))
 |0,_=>rfl
 |1,_=>rfl
 |2,_=>rfl
section
variable{ns:List Int}
theorem Yj(n:Nat)(hn:n<20):∃f v,Pr zp [.d (bh ns),aM (n:Int)] (rd (.str f))/\kE f v:=by
 obtain⟨d1,d2,d3⟩:=gF ns 12 4 3 (by decide) (by decide) (by decide)
 have d1:Pr gY [.d (bh ns),aM 12,aM 4,aM 3] _:=d1;cases h6:((n:Int) == 6) with
 |true=>
  obtain⟨v,hv⟩:=Fc [65] (by decide) (by decide)
  refine⟨"A",v,λq S=>?_,by rw[show("A":Str)=⟨[65].toArray⟩ by decide +kernel];exact hv⟩
  generalize(n:Int)=ni at *;unfold zp Ha;simp only[↓ev,aK,dU,h6,eA]
 |false=>
  have ha:=QJ (bo ns 12 4 3).toNat (by lia)
  rw[Int.toNat_of_nonneg d2] at ha;have hx:=Fs ns (11+(bo ns 12 4 3).toNat) (by lia) n hn
  have hl:=zV ns (11+(bo ns 12 4 3).toNat) (by lia) n
  obtain⟨v,hv⟩:=Fc _ hl.1 hl.2;refine⟨_,v,λq S=>?_,hv⟩
  generalize((11+(bo ns 12 4 3).toNat:Nat):Int)=qi at *;generalize bo ns 12 4 3=dg at *;generalize(n:Int)=ni at *;unfold zp Ha;unfold i4 at hx;simp only[↓ev,aK,dU,h6,aS,d1,ha,hx,eA]
theorem Yk(n:Nat)(hn:n<20):∃f v,Pr zt [.d (bh ns),aM (n:Int)] (rd (.str f))/\kE f v:=by
 obtain⟨d1,d2,d3⟩:=gF ns 13 4 3 (by decide) (by decide) (by decide)
 have d1:Pr gY [.d (bh ns),aM 13,aM 4,aM 3] _:=d1;cases h6:((n:Int) == 12) with
 |true=>
  obtain⟨v,hv⟩:=Fc [98,49] (by decide) (by decide)
  refine⟨"b1",v,λq S=>?_,by rw[show("b1":Str)=⟨[98,49].toArray⟩ by decide +kernel];exact hv⟩
  generalize(n:Int)=ni at *;unfold zt Hq;simp only[↓ev,aK,dU,h6,eA]
 |false=>
  have ha:=QJ (bo ns 13 4 3).toNat (by lia)
  rw[Int.toNat_of_nonneg d2] at ha;have hx:=Fs ns (11+(bo ns 13 4 3).toNat) (by lia) n hn
  have hl:=zV ns (11+(bo ns 13 4 3).toNat) (by lia) n
  obtain⟨v,hv⟩:=Fc _ hl.1 hl.2;refine⟨_,v,λq S=>?_,hv⟩
  generalize((11+(bo ns 13 4 3).toNat:Nat):Int)=qi at *;generalize bo ns 13 4 3=dg at *;generalize(n:Int)=ni at *;unfold zt Hq;unfold i4 at hx;simp only[↓ev,aK,dU,h6,aS,d1,ha,hx,eA]
theorem SV(k:Nat)(hk:k<900):∃cl,Pr uZ [.d (bh ns),aM (k:Int)] (rd (.int cl)):=by
 have hp:=xp ns (k+1) 10 (by lia) (by decide)
 obtain⟨c,hc⟩:=IX ns k;obtain⟨d1,_,_⟩:=gF ns (k+1) 3 30 (by lia) (by decide) (by decide)
 rw[show((k+1:Nat):Int)=(k:Int)+1 by lia] at hp d1
 have d1:Pr gY [.d (bh ns),aM ((k:Int)+1),aM 3,aM 30] _:=d1;generalize(k:Int)=ki at *;generalize bo ns (k+1) 0 10=pv at *;have p8:(0<(10:Int)^8)=True:=bK (by decide)
 have p9:(0<(10:Int)^9)=True:=bK (by decide)
 have Rl:(Int.natAbs 10<2^64)=True:=bK (by decide)
 cases h0:(pv == 0) with
 |true=>
  refine⟨-1 - c%10^8,λq S=>?_⟩
  unfold uZ Ek;simp only[↓ev,hp,aS,aK,dU,h0,hc,Rl,and_self,decide_true,p8,eA]
 |false=>
  cases h1:(pv == 1) with
  |true=>
   refine⟨c%10^9,λq S=>?_⟩
   unfold uZ Ek;simp only[↓ev,hp,aS,aK,dU,h0,h1,hc,Rl,and_self,decide_true,p9,eA]
  |false=>
   refine⟨bo ns (k+1) 3 30,λq S=>?_⟩
   unfold uZ Ek;simp only[↓ev,hp,aS,aK,dU,h0,h1,d1,eA]
end
section
variable{ns:List Int}{k kd mk fi ob tb oc ln Ad cl:Int}{bl nl cs c1 n1:List D}{f bag b ct:Str}{S:aR}
structure GL (ns:List Int) (k kd mk fi ob tb oc ln Ad cl:Int) (bl nl cs c1 n1:List D) (f bag b ct:Str):Prop where
 hp:Pr kx [.d (bh ns),aM k,aM 20] (rd (.int kd))
 ht:Pr mj [.d (bh ns),aM k,aM 10] (rd (.int mk))
 hi:(mk == 9)=true/\fi=6\/(mk == 9)=false/\fi=mk%3
 hf:Pr zp [.d (bh ns),aM fi] (rd (.str f))
 ho:Pr jo [.d (bh ns),aM k,aM 13] (rd (.int ob))
 hb:Pr zt [.d (bh ns),aM ob] (rd (.str bag))
 hc:∀q S,bf (ae 0) (gq true) (Eo q) bl [none] S []=some (.ok nl S)
 k1:cutD cs none (some 1)=c1
 k2:cutD nl none (some 1)=n1
 a1:(nl.length+nl.length<=1000000)=True
 a2:(nl.length+nl.length+c1.length<=1000000)=True
 a3:(cs.length+n1.length<=1000000)=True
 ll:(nl.length:Int)=ln
 lc:((cs.length+n1.length:Nat):Int)=Ad
 hm:(-2^64<(2:Int)/\(2:Int)<2^64 \/ -2^64<ln/\ln<2^64)=True
 z_:Pr mj [.d (bh ns),aM (k+1),aM (2*ln+1)] (rd (.int tb))
 t7:dR (nl++(nl++c1)) tb=some (.str b)
 t_:Pr jo [.d (bh ns),aM (k+1),aM Ad] (rd (.int oc))
 z7:dR (cs++n1) oc=some (.str ct)
 pD:Pr uZ [.d (bh ns),aM k] (rd (.int cl))
abbrev sH(ns:List Int)(k kd mk cl:Int)(bl nl cs n1:List D)(f bag b ct:Str):Gm:=[ak (bh ns),cD k,ak (.tup [.lst bl,.lst cs]),cD kd,cD mk,bH f,bH bag,ak (.lst nl),bH b,ak (.lst (cs++n1)),ak (.tup [.str "flight",.str f,.str ct,.int cl])]
theorem sD(x:GL ns k kd mk fi ob tb oc ln Ad cl bl nl cs c1 n1 f bag b ct)(rest:GS):HS rest 0 [ak (bh ns),cD k,ak (.tup [.lst bl,.lst cs]),none,none,none,none,none,none,none,none] S=rest (sH ns k kd mk cl bl nl cs n1 f bag b ct) S:=by
 obtain⟨hp,ht,hi,hf,ho,hb,hc,k1,k2,a1,a2,a3,ll,lc,hm,z_,t7,t_,z7,pD⟩:=x;have m3:((0:Int)<3)=True:=bK (by decide)
 unfold HS;rcases hi with⟨h9,rfl⟩|⟨h9,rfl⟩
 .simp only[↓ev,hp,aS,ht,aK,dU,h9,hf,ho,hb,bV,g9,hc,a1,cQ,k1,Cs,a2,w6,ll,hm,z_,t7,k2,a3,lc,t_,z7,pD]
 .simp only[↓ev,hp,aS,ht,aK,dU,h9,m3,decide_true,hf,ho,hb,bV,g9,hc,a1,cQ,k1,Cs,a2,w6,ll,hm,z_,t7,k2,a3,lc,t_,z7,pD]
end
noncomputable def j8(m:Int):D:=.tup [.str "turn",.int m]
def wd(ds:List D):Prop:=ds.length<=2/\∀d∈ds,hV d\/∃m:Int,1<=m/\m<=12/\d=j8 m
section
variable{ns:List Int}{k kd mk fi ob tb oc ln Ad cl:Int}{bl nl cs c1 n1:List D}{f bag b ct:Str}{S:aR}{v v2:Bool}
theorem sE{hd:D}{ds:List D}(e:o9 0 [ak (bh ns),cD k,ak hd,none,none,none,none,none,none,none,none] S=some (.rt (.o (.lst ds)) S)):zB 0 [.d (bh ns),aM k,.d hd] S=some (.ok (.o (.lst ds)) S):=by
 unfold zB aU;generalize o9 0=ml at *;simp only[↓ev,e,eA]
theorem Ou(x:GL ns k kd mk fi ob tb oc ln Ad cl bl nl cs c1 n1 f bag b ct)(k0:0<=kd)(k20:kd<20)(hv:kE bag v)(ox:kE f v2){o3 t1 bg:Int}{bt:av}(h3:Pr jo [.d (bh ns),aM (k+1),aM 3] (rd (.int o3)))(vm:dR bl 0=some (aw bt))(hbg:(9<bt.long)=True/\bg=12\/(9<bt.long)=False/\bg=4)(BW:Pr mj [.d (bh ns),aM (k+1),aM bg] (rd (.int t1)))(ht1:0<=t1/\t1<12):∃ds,wd ds/\zB 0 [.d (bh ns),aM k,.d (.tup [.lst bl,.lst cs])] S=some (.ok (.o (.lst ds)) S):=by
 have pD:=x.pD;have one:∀{d:D},hV d->wd [d]:=λ{d} hd=>⟨by simp,λz m=>by rw[lW.mp m];exact .inl hd⟩
 by_cases c3:kd<3
 .have q1:=bK c3;refine⟨_,one (.lB (ct:=ct) (cl:=cl) ox),sE ?_⟩;unfold o9;rw[sD x];unfold qI;clear x;simp only[↓ev,sH,q1,decide_true,aS,aK]
 have q1:=eq_false c3;cases e3:(kd == 3) with
 |true=>
  refine⟨_,one (.change (cl:=cl) ox),sE ?_⟩;unfold o9;rw[sD x];unfold qI;clear x;simp only[↓ev,sH,q1,decide_false,aK,dU,e3,pD,aS]
 |false=>
 cases e4:(kd == 4) with
 |true=>
  refine⟨_,one (.off ox),sE ?_⟩;unfold o9;rw[sD x];unfold qI;clear x;simp only[↓ev,sH,q1,decide_false,aK,dU,e3,e4,aS]
 |false=>
 cases e5:(kd == 5) with
 |true=>
  refine⟨[.tup [.str "off",.str f],.tup [.str "flight",.str f,.str ct,.int cl]],⟨by simp,λz m=>?_⟩,sE ?_⟩
  .rcases y0a.mp m with rfl|m
   .exact .inl (.off ox)
   .rw[lW.mp m];exact .inl (.lB ox)
  .unfold o9;rw[sD x];unfold qI;clear x;simp only[↓ev,sH,q1,decide_false,aK,dU,e3,e4,e5,aS]
 |false=>
 by_cases Ow:kd<11
 .have q2:=bK Ow;cases e0:(o3 == 0) with
  |true=>
   refine⟨[.tup [.str "put",.str bag,.aJ,.str b]],one (.put (fl:=none) (v2:=true) hv λ_ z=>by cases z),sE ?_⟩
   unfold o9;rw[sD x];unfold qI;clear x;simp only[↓ev,sH,q1,decide_false,aK,dU,e3,e4,e5,q2,decide_true,h3,e0,aS]
  |false=>
   refine⟨[.tup [.str "put",.str bag,.str f,.str b]],one (.put (fl:=some f) hv λ_ z=>by cases z;exact ox),sE ?_⟩
   unfold o9;rw[sD x];unfold qI;clear x;simp only[↓ev,sH,q1,decide_false,aK,dU,e3,e4,e5,q2,decide_true,h3,e0,aS]
 have q2:=eq_false Ow;cases BP:(kd == 11) with
 |true=>
  refine⟨_,one (.read hv ox),sE ?_⟩;unfold o9;rw[sD x];unfold qI;clear x;simp only[↓ev,sH,q1,decide_false,aK,dU,e3,e4,e5,q2,BP,aS]
 |false=>
 have n11:kd≠11:=by rw[m7] at BP;exact BP
 by_cases SI:kd<14
 .rcases(show kd=12\/kd=13 by lia) with rfl|rfl
  .refine⟨_,one (.stop (b:=b)),sE ?_⟩;unfold o9;rw[sD x];unfold qI;rfl
  .refine⟨_,one (.start (b:=b)),sE ?_⟩;unfold o9;rw[sD x];unfold qI;rfl
 have q3:=eq_false SI;refine⟨[j8 (1+t1)],⟨by simp,λz m=>by rw[lW.mp m];exact .inr ⟨1+t1,by lia,by lia,rfl⟩⟩,sE ?_⟩
 unfold o9;rw[sD x];unfold qI;clear x;unfold j8;unfold aw at vm;rcases hbg with⟨h9,rfl⟩|⟨h9,rfl⟩
 .simp only[↓ev,sH,q1,decide_false,aK,dU,e3,e4,e5,q2,BP,q3,bV,vm,cQ,h9,decide_true,BW,aS]
 .simp only[↓ev,sH,q1,decide_false,aK,dU,e3,e4,e5,q2,BP,q3,bV,vm,cQ,h9,BW,aS]
end
theorem PB(ds:List D):cutD ds none (some 1)=ds.take 1:=by
 grind [cutD,HT.cG]
section
variable{ns:List Int}{h:aF}
theorem Yl(g:aG h)(b0:0<h.af.length)(k:Nat)(hk:k<900)(S:aR):∃ds,wd ds/\zB 0 [.d (bh ns),aM (k:Int),.d (aB h)] S=some (.ok (.o (.lst ds)) S):=by
 have bl:=g.sm.bl;have ct:=g.sm.ct;have c0:=g.c0;obtain⟨_,p0,p1⟩:=gF ns k 0 20 (by lia) (by decide) (by decide)
 have hp:=xp ns k 20 (by lia) (by decide)
 obtain⟨_,t0,t1⟩:=gF ns k 2 10 (by lia) (by decide) (by decide)
 have ht:=wR ns k 10 (by lia) (by decide)
 obtain⟨_,o0,o1⟩:=gF ns k 1 13 (by lia) (by decide) (by decide)
 have ho:=u_ ns k 13 (by lia) (by decide)
 obtain⟨fn,B5,hfi⟩:∃fn:Nat,fn<20/\((bo ns k 2 10 == 9)=true/\(fn:Int)=6\/(bo ns k 2 10 == 9)=false/\(fn:Int)=bo ns k 2 10%3):=by
  cases e:(bo ns k 2 10 == 9) with
  |true=>exact⟨6,by decide,.inl ⟨rfl,rfl⟩⟩
  |false=>exact⟨(bo ns k 2 10%3).toNat,by lia,.inr ⟨rfl,by lia⟩⟩
 obtain⟨f,v2,hf,ox⟩:=Yj (ns:=ns) fn B5;obtain⟨bag,v,hb,hv⟩:=Yk (ns:=ns) (bo ns k 1 13).toNat (by lia)
 rw[Int.toNat_of_nonneg o0] at hb;obtain⟨cl,pD⟩:=SV (ns:=ns) k hk;have comp:∀q S,bf (ae 0) (gq true) (Eo q) (h.af.map aw) [none] S []=some (.ok (dS (h.af.map av.name)) S):=λq S=>by
  rw[p_ (λb=>.str b.name) h.af (by lia) λb m=>⟨rd (.str b.name),by unfold Eo aw;simp only[↓ev,bV],rfl⟩,dS,fR]
  rfl
 obtain⟨_,tb0,tb1⟩:=gF ns (k+1) 2 (2*(h.af.length:Int)+1) (by lia) (by decide) (by lia)
 have z_:=wR ns (k+1) (2*(h.af.length:Int)+1) (by lia) (by lia)
 obtain⟨_,oc0,oc1⟩:=gF ns (k+1) 1 (((h.carts.length+1:Nat)):Int) (by lia) (by decide) (by lia)
 have t_:=u_ ns (k+1) (((h.carts.length+1:Nat)):Int) (by lia) (by lia)
 have h3:=u_ ns (k+1) 3 (by lia) (by decide)
 have BW:=wR ns (k+1) 12 (by lia) (by decide)
 have h4:=wR ns (k+1) 4 (by lia) (by decide)
 obtain⟨_,a0,a1⟩:=gF ns (k+1) 2 12 (by lia) (by decide) (by decide)
 obtain⟨_,RQ,b1⟩:=gF ns (k+1) 2 4 (by lia) (by decide) (by decide)
 rw[show((k+1:Nat):Int)=(k:Int)+1 by lia] at z_ t_ h3 BW h4
 have yq:(h.carts.take 1).length=1:=by rw[v5];lia
 have Rb:((h.af.map av.name).take 1).length=1:=by rw[v5,bJ];lia
 have t7:=E_ (xs:=h.af.map av.name++(h.af.map av.name++h.carts.take 1)) (k:=bo ns (k+1) 2 (2*(h.af.length:Int)+1)) tb0 (by rw[dw,dw,bJ,yq];lia)
 have z7:=E_ (xs:=h.carts++(h.af.map av.name).take 1) (k:=bo ns (k+1) 1 (((h.carts.length+1:Nat)):Int)) oc0 (by rw[dw,Rb];lia)
 generalize(h.af.map av.name++(h.af.map av.name++h.carts.take 1)).getD (bo ns (k+1) 2 (2*(h.af.length:Int)+1)).toNat ""=bb at *;generalize(h.carts++(h.af.map av.name).take 1).getD (bo ns (k+1) 1 (((h.carts.length+1:Nat)):Int)).toNat ""=cc at *;rw[dS,gf,gf,<-dS,<-dS] at t7;rw[dS,gf,<-dS,<-dS] at z7;have D:GL ns k (bo ns k 0 20) (bo ns k 2 10) fn (bo ns k 1 13) (bo ns (k+1) 2 (2*(h.af.length:Int)+1)) (bo ns (k+1) 1 (((h.carts.length+1:Nat)):Int)) h.af.length (((h.carts.length+1:Nat)):Int) cl (h.af.map aw) (dS (h.af.map av.name)) (dS h.carts) (dS (h.carts.take 1)) (dS ((h.af.map av.name).take 1)) f bag bb cc:=⟨hp,ht,hfi,hf,ho,hb,comp,by rw[PB,dS,dS,LP],by rw[PB,dS,dS,LP],bK (by simp;lia),bK (by simp;lia),bK (by simp;lia),by simp,by rw[bJ,bJ,Rb],bK (.inl (by decide)),z_,t7,t_,z7,pD⟩
 obtain⟨bt,FN,ab⟩:∃bt∈h.af,dR (h.af.map aw) 0=some (aw bt):=by
  cases e:h.af with
  |nil=>rw[e] at b0;simp at b0
  |cons z zs=>exact⟨z,.head _,bV⟩
 by_cases h9:9<bt.long
 .exact Ou D p0 p1 hv ox h3 ab (.inl ⟨bK h9,rfl⟩) BW ⟨a0,a1⟩
 .exact Ou D p0 p1 hv ox h3 ab (.inr ⟨eq_false h9,rfl⟩) h4 ⟨RQ,by lia⟩
end
abbrev Rf(h:aF)(a b:Row):Prop:=F8 (ji h a) (ji h b)=true
theorem e5j{h:aF}{rows:List Row}(nd:(rows.map (ji h)).Nodup):(ord h rows).Pairwise (Rf h):=by
 unfold ord;split
 .rename_i hl
  cases rows with
  |nil=>exact .nil
  |cons a l=>
   cases l with
   |nil=>exact List.pairwise_singleton _ _
   |cons b l=>simp at hl;lia
 .rename_i hl
  obtain⟨p,pw⟩:=A7 nd (by rw[bJ];lia)
  rw[bJ] at p;rw[Ax];refine pw.imp_of_mem λ{i j} hi hj h=>?_
  have i1:=pR.mp (p.mem_iff.mp hi);have j1:=pR.mp (p.mem_iff.mp hj);unfold ltAt at h;simp only[y9,fW,gz i1,gz j1,Au,DC] at h ⊢;exact h
inductive sx (h:aF) (st:List Str) (G:Row->Goal) (L:List Row) (w:Row):D->Prop
 |own:st.contains w.b=true->sx h st G L w (.tup [.str "stopped",.str w.b])
 |to {z:Str} {j:Int}:st.contains w.b=false->G w=(z,some j)->st.contains z=true->sx h st G L w (.tup [.str "stopped",.str z])
 |m8 {c:Row} {z:Str} {j:Int}:c∈L->(c.bag == w.bag)=false->G w=(z,some j)->G c=(z,some j)->st.contains c.b=false->(c.b=z\/w.b≠z/\rk h c.b<rk h w.b)->sx h st G L w (.tup [.str "yields",.str c.bag])
 |Fv {c:Row}:c∈L->G w=(c.b,some c.i)->sx h st G L w (iX c.bag)
theorem EV{L:List Row}(nd:(L.map Row.bag).Nodup){a b:Row}(ha:a∈L)(hb:b∈L)(e:a.bag=b.bag):a=b:=by
 obtain⟨i,hi,rfl⟩:=List.getElem_of_mem ha;obtain⟨j,hj,rfl⟩:=List.getElem_of_mem hb;have:=(An (h₀:=by simpa using hi) (h₁:=by simpa using hj) nd).mp (by simpa using e)
 subst this;rfl
section
variable{h:aF}{st:List Str}{G:Row->Goal}{L:List Row}{W X:List (Str×D)}{C:List (aZ×Str)}{w:Row}{p:Str×D}
theorem jE.mem(a:jE G L W X)(m:p∈X):p∈W\/∃w∈L,∃o,p=(w.bag,iX o)/\hold G L w=some o:=by
 induction a with
 |base=>exact .inl m
 |step _ hw hc ih=>
  rcases gw.mp m with m|m
  .exact ih m
  .exact .inr ⟨_,hw,_,lW.mp m,hc.2.1⟩
theorem Ym(nd:(L.map Row.bag).Nodup)(pw:L.Pairwise (Rf h))(hf:∀c∈L,∀w∈L,(G c).1≠c.b->rk h c.b=rk h w.b->w.i<=c.i)(oC:kU G (ask G (b_ st G L) L) C)(gr:jE G L (b_ st G L++(ask G (b_ st G L) L).filterMap (dr G C)) X)(hw:w∈L)(e:X.find? (λp=>p.1 == w.bag)=some p):sx h st G L w p.2:=by
 have pb:p.1=w.bag:=beq_iff_eq.mp (DA e :);have st0:∀c∈L,c.bag∉(b_ st G L).map (·.1)->st.contains c.b=false:=λc hc n=>by
  cases q:st.contains c.b with
  |false=>rfl
  |true=>
   refine bQ (fQ.mpr ⟨(c.bag,.tup [.str "stopped",.str c.b]),nP.mpr ⟨c,hc,?_⟩,rfl⟩) n;unfold iE;rw[bL q];rfl
 rcases gr.mem (DB e) with m|⟨z,hz,o,rfl,ho⟩
 .rcases gw.mp m with m|m
  .obtain⟨z,hz,e1⟩:=nP.mp m;obtain⟨y,e2,rfl⟩:=cW.mp e1;cases EV nd hz hw pb;unfold iE at e2;split at e2
   .cases e2;exact .own (by assumption)
   .rename_i hs
    split at e2
    .rename_i b j eg
     split at e2
     .cases e2;exact .to (by simpa using hs) eg (by assumption)
     .cases e2
    .cases e2
  .obtain⟨z,hz,e1⟩:=nP.mp m;obtain⟨z1,z2,z3⟩:=il.mp hz;unfold dr at e1;split at e1
   .cases e1
   .rename_i o hk
    split at e1
    .cases e1
    .rename_i ne
     cases e1;cases EV nd z1 hw pb;obtain⟨c,mc,rfl,c2,c3,c4⟩:=oC.1 _ _ hk;obtain⟨c5,c6,c7⟩:=il.mp mc;obtain⟨b,eb⟩:∃b,G w=(b.1,some b.2):=⟨gk G w,by unfold gk;cases q:(G w).2 with|none=>rw[q] at z3;cases z3|some j=>rw[<-q];exact Gr rfl (by simp[q])⟩
     have ec:G c=(b.1,some b.2):=by
      unfold gk at c2;cases q:(G c).2 with
      |none=>rw[q] at c7;cases c7
      |some j=>
       rw[q,eb] at c2;obtain⟨d1,d2⟩:=Prod.mk.inj c2;exact Gr d1 (q.trans (congrArg some d2))
     have k1:(gk G w).1=b.1:=by unfold gk;rw[eb]
     rw[k1] at c3 c4;refine .m8 c5 (by rw[m7];exact ne) eb ec (st0 c c5 c6) ?_
     by_cases hb:c.b=b.1
     .exact .inl hb
     .refine .inr ⟨λq=>hb (c3 ⟨w,hz,rfl,q⟩),?_⟩
      rcases c4.resolve_left hb w hz rfl with q|q
      .exact bQ (by rw[q]) ne
      .have lt:=List.pairwise_iff_forall_sublist.mp pw (q.trans (DK ..));have lt:=wa lt;rcases lt with lt|⟨l1,l2⟩
       .exact lt
       .have:=hf c c5 w z1 (by rw[ec];exact λq=>hb q.symm) l1
        exact bQ l2 (by show ¬c.i<w.i;lia)
 .cases EV nd hz hw pb;unfold hold at ho;split at ho
  .cases ho
  .rename_i j ej
   obtain⟨c,mc,ec⟩:=fQ.mp (Um ho);obtain⟨d1,d2⟩:=Prod.mk.inj ec;obtain⟨d3,d4⟩:=Prod.mk.inj d1;subst d2;exact .Fv mc (Gr d3.symm (ej.trans (congrArg some d4.symm)))
def sj(X:List (Str×D)):Nat->Str->Prop
 |0,b=>∃p,X.find? (λp=>p.1 == b)=some p/\∀o,p.2≠iX o
 |n+1,b=>∃p o,X.find? (λp=>p.1 == b)=some p/\p.2=iX o/\sj X n o
theorem sj.up{q:Str×D}:∀{n:Nat} {b:Str},sj X n b->sj (X++[q]) n b
 |0,b,⟨p,e,h⟩=>⟨p,by rw[List.find?_append,e];rfl,h⟩
 |n+1,b,⟨p,o,e,h,c⟩=>⟨p,o,by rw[List.find?_append,e];rfl,h,c.up⟩
theorem jE.Vu(a:jE G L W X)(h0:∀p∈W,∀o,p.2≠iX o):W.length<=X.length/\∀b∈X.map (·.1),∃n,n+W.length<=X.length/\sj X n b:=by
 induction a with
 |base=>
  refine⟨bU _,λb hb=>?_⟩
  obtain⟨p,hp,rfl⟩:=fQ.mp hb;cases q:W.find? (λz=>z.1 == p.1) with
  |none=>exact bQ (Gz.mp q p hp) (by simp)
  |some z=>exact⟨0,by lia,z,q,h0 z (DB q)⟩
 |@step X w o _ hw hc ih=>
  obtain⟨l,ih⟩:=ih;rw[dw,sW];refine⟨LM l,λb hb=>?_⟩
  rw[gf,gw] at hb;rcases hb with hb|hb
  .obtain⟨n,hn,c⟩:=ih b hb;exact⟨n,LM hn,c.up⟩
  .cases lW.mp hb;obtain⟨n,hn,c⟩:=ih o hc.2.2;refine⟨n+1,by lia,(w.bag,iX o),o,?_,rfl,c.up⟩
   rw[List.find?_append,Gz.mpr λz hz q=>hc.1 (fQ.mpr ⟨z,hz,beq_iff_eq.mp q⟩)]
   simp
end
abbrev ky(L:List Row):List (TK×D):=td Row.bag (λw=>pl w.b w.i) L
section
variable{h:aF}{st:List Str}{G:Row->Goal}{L:List Row}{w c:Row}{S:aR}{n:Nat}{z:Str}{j:Int}
theorem VY(g:aG h)(nd:(L.map Row.bag).Nodup)(ho:∀w∈L,ic h w)(hn:S.s[n]?=some (.o (.ay (ky L))))(hw:w∈L)(hc:c∈L)(ne:(c.bag == w.bag)=false)(eg:G w=(z,some j))(ec:G c=(z,some j))(hs:st.contains c.b=false)(hy:c.b=z\/w.b≠z/\rk h c.b<rk h w.b):
  Er 0 [.d (aB h),.d (.ay (bN G L)),.c n,.d (.lst (dS st)),du w.bag,du c.bag] S=some (.ok (rd (.bl true)) S):=by
 have bl:=g.sm.bl;have v1:aN (bN G L) (.inr w.bag)=some (gD (G w)):=iG nd hw;have v2:aN (bN G L) (.inr c.bag)=some (gD (G c)):=iG nd hc;have v3:aN (ky L) (.inr w.bag)=some (pl w.b w.i):=iG nd hw;have v4:aN (ky L) (.inr c.bag)=some (pl c.b c.i):=iG nd hc;rw[eg] at v1;rw[ec] at v2;have i1:=I_ (ho w hw).nm;have i2:=I_ (ho c hc).nm;have en:bf (ae 0) (gq true) (Hk 0) (h.af.map aw) [none] S []=some (.ok (dS (h.af.map av.name)) S):=by
  rw[p_ (λb=>.str b.name) h.af (by lia) λb m=>⟨rd (.str b.name),by unfold Hk aw;simp only[↓ev,bV],rfl⟩,dS,fR]
  rfl
 have v1:aN (bN G L) (.inr w.bag)=some (pl z j):=v1;have v2:aN (bN G L) (.inr c.bag)=some (pl z j):=v2;generalize bN G L=gs at *;generalize ky L=pd at *;generalize h.af.map av.name=nl at *;unfold aB;generalize h.af.map aw=bl1 at *;generalize dS h.carts=cs at *;unfold Er MP;cases q:(c.b == z) with
 |true=>simp only[↓ev,v2,fB,aK,eC,ne,v1,rM,pj,dP,hn,v4,bV,iF,ik,hs,g9,en,aS,q,eA]
 |false=>
  obtain⟨q1,q2⟩:=hy.resolve_left (by rw[m7] at q;exact q)
  have q1:(w.b == z)=false:=by rw[m7];exact q1
  have q2:(rk h c.b<rk h w.b)=True:=bK q2;simp only[↓ev,v2,fB,aK,eC,ne,v1,rM,pj,dP,hn,v4,bV,iF,ik,hs,g9,en,aS,q,v3,q1,j_,i2,i1,q2,decide_true,eA]
end
variable{b:GS}{f:Nat}{U:Gm}
abbrev cZ(X:List (Str×D))(G:Row->Goal)(L:List Row):List D:=L.map (cI X G)
section
variable{h:aF}{st:List Str}{G:Row->Goal}{L:List Row}{X:List (Str×D)}{w c:Row}{S:aR}{n:Nat}{z:Str}{j:Int}{p:Str×D}{g0 g1 g2 g3 g5 g6 g7:aj Val}
theorem Fd(e:X.find? (λp=>p.1 == w.bag)=some p):cI X G w=.tup [.str w.bag,pl w.b w.i,pl w.b w.i,p.2]:=by unfold cI;rw[e]
theorem Ov:∃a b,cI X G w=.tup [.str w.bag,pl w.b w.i,a,b]:=by
 unfold cI;split <;> exact⟨_,_,rfl⟩
theorem Yn(q:Nat)(nd:(L.map Row.bag).Nodup)(hl:L.length<=100)(hc:c∈L){b:Str}{x1 x2:D}:∃l,bf (ae 0) (Ec q) (Ed q) (cZ X G L) [none,ak (.tup [.str b,x1,x2,iX c.bag])] S []=some (.ok (cI X G c::l) S):=by
 have key:bf (ae 0) (Ec q) (Ed q) (cZ X G L) [none,ak (.tup [.str b,x1,x2,iX c.bag])] S []=some (.ok (L.filterMap λw=>if(w.bag == c.bag)=true then some (cI X G w) else none) S):=by
  rw[tR (λw=>if(w.bag == c.bag)=true then some (cI X G w) else none) L (by lia) λw m=>by
   obtain⟨a1,a2,e⟩:=Ov (X:=X) (G:=G) (w:=w);rw[e];unfold Ec Ed iX;cases q:(w.bag == c.bag) with
   |true=>exact .inr ⟨rd _,_,rfl,by simp only[↓ev,bV,lr,cQ,aK,eC,q],by simp only[↓ev],rfl⟩
   |false=>exact .inl ⟨rfl,by simp only[↓ev,bV,lr,cQ,aK,eC,q]⟩]
 rw[key];cases q:L.filterMap λw=>if(w.bag == c.bag)=true then some (cI X G w) else none with
 |nil=>exact bQ (List.filterMap_eq_nil_iff.mp q c hc) (by simp)
 |cons d l=>
  have:d∈L.filterMap λw=>if(w.bag == c.bag)=true then some (cI X G w) else none:=by rw[q];exact .head _
  obtain⟨w,hw,e⟩:=nP.mp this;split at e
  .rename_i e2
   cases e;cases EV nd hw hc (beq_iff_eq.mp e2);exact⟨l,rfl⟩
  .cases e
theorem Yo{c:GT}{U':Gm}{R:aj Fr}(ec:c U S=some (.ok true S))(eb:b U S=some (.nx U' S))(e2:bj c b f U' S=R):bj c b (f+1) U S=R:=by
 unfold bj;simp only[ec,↓ev,eb,e2]
theorem e5k{c:GT}(ec:c U S=some (.ok false S)):bj c b (f+1) U S=some (.nx U S):=by
 unfold bj;simp only[ec,↓ev,aK]
def Am:GT:=cM (gQ Gd 9 (gI 0)) (cM (gQ pM (gX 8 (gI 3)) (gC .aJ)) (gQ d_ (gX (gX 8 (gI 3)) (gI 0)) (gC (.str "behind"))))
theorem Yp(nd:(L.map Row.bag).Nodup)(hl:L.length<=100)(hb:∀w∈L,∀p,X.find? (λp=>p.1 == w.bag)=some p->sx h st G L w p.2):∀(m f:Nat) (w:Row) (k:Int),w∈L->sj X m w.bag->m<f->(m:Int)<k->k<=100->∃t ts b x1 x2 k',(t == ("behind":Str))=false/\bj Am (wB 0) f [g0,g1,g2,g3,ak (.lst (cZ X G L)),g5,g6,g7,ak (cI X G w),cD k] S=some (.nx [g0,g1,g2,g3,ak (.lst (cZ X G L)),g5,g6,g7,ak (.tup [b,x1,x2,.tup (.str t::ts)]),k'] S):=by
 have bb:(("behind":Str) == "behind")=true:=by decide +kernel
 intro m
 induction m with
 |zero=>
  intro f w k hw ⟨p,e,nb⟩ hf hk FW;obtain⟨f,rfl⟩:∃f',f=f'+1:=⟨f - 1,by lia⟩
  have wy:=hb w hw p e;have h0:(0<k)=True:=bK (by lia)
  have fin:∃t ts,p.2=.tup (.str t::ts)/\(t == ("behind":Str))=false:=by
   generalize p.2=y at *;cases wy with
   |own _=>exact⟨_,_,rfl,by decide +kernel⟩
   |to _ _ _=>exact⟨_,_,rfl,by decide +kernel⟩
   |m8 _ _ _ _ _ _=>exact⟨_,_,rfl,by decide +kernel⟩
   |Fv _ _=>exact bQ rfl (nb _)
  obtain⟨t,ts,et,nt⟩:=fin;rw[Fd e,et];exact⟨t,ts,_,_,_,_,nt,e5k (by unfold Am;simp only[↓ev,h0,decide_true,lr,bV,aK,eC,nt])⟩
 |succ m ih=>
  intro f w k hw ⟨p,o,e,eo,ch⟩ hf hk FW;obtain⟨f,rfl⟩:∃f',f=f'+1:=⟨f - 1,by lia⟩
  have wy:=hb w hw p e;rw[eo] at wy;obtain⟨c,hc,rfl⟩:∃c∈L,o=c.bag:=by
   generalize hy:iX o=y at wy;unfold iX at hy;cases wy with
   |own _=>exact bQ (show("behind":Str)="stopped" by cases hy) (by decide +kernel)
   |to _ _ _=>exact bQ (show("behind":Str)="stopped" by cases hy) (by decide +kernel)
   |m8 _ _ _ _ _ _=>exact bQ (show("behind":Str)="yields" by cases hy) (by decide +kernel)
   |Fv hc _=>cases hy;exact⟨_,hc,rfl⟩
  obtain⟨t,ts,b,x1,x2,k',nt,e2⟩:=ih f c (k - 1) hc ch (by lia) (by lia) (by lia)
  obtain⟨l,e3⟩:=Yn (X:=X) (G:=G) (S:=S) 0 nd hl hc (b:=w.bag) (x1:=pl w.b w.i) (x2:=pl w.b w.i);have h0:(0<k)=True:=bK (by lia)
  have hz:Nat.ble k.natAbs 1000000000000=true:=by rw[Nat.ble_eq];lia
  refine⟨t,ts,b,x1,x2,k',nt,?_⟩;rw[Fd e,eo];refine Yo ?_ ?_ e2
  .unfold Am iX;simp only[↓ev,h0,decide_true,lr,bV,aK,eC,dP]
  .clear e2 ih;unfold iX at *;generalize cZ X G L=ll at *;generalize cI X G c=lc at *;unfold wB;simp only[↓ev,g9,e3,bV,aS]
end
theorem Jt{a b c d:Str}:eL (.tup [.str a,.str b]) (.tup [.str c,.str d])=(a == c&&(b == d)):=by
 show((a == c)&&((b == d)&&true))=_;rw[Gy]
theorem BE:(((2:Nat):Int) == 2)=true:=rfl
section
variable{h:aF}{st:List Str}{G:Row->Goal}{L:List Row}{X:List (Str×D)}{w c:Row}{S:aR}{n:Nat}{z:Str}{j:Int}{p:Str×D}
theorem VZ(g:aG h)(nd:(L.map Row.bag).Nodup)(hl:L.length<=100)(ho:∀w∈L,ic h w)(hn:S.s[n]?=some (.o (.ay (ky L))))(hb:∀w∈L,∀p,X.find? (λp=>p.1 == w.bag)=some p->sx h st G L w p.2){m:Nat}(hm:m<L.length)(ch:sj X m w.bag)(hw:w∈L)(e:X.find? (λp=>p.1 == w.bag)=some p):
  wG 0 [.d (aB h),.d (.ay (bN G L)),.c n,.d (.lst (dS st)),.d (.lst (cZ X G L)),.d (cI X G w)] S=some (.ok (rd (.bl true)) S):=by
 have wy:=hb w hw p e;have v1:aN (bN G L) (.inr w.bag)=some (gD (G w)):=iG nd hw;have s1:(("stopped":Str) == "stopped")=true:=by decide +kernel
 have s2:(("yields":Str) == "stopped")=false:=by decide +kernel
 have s3:(("yields":Str) == "yields")=true:=by decide +kernel
 have s4:(("behind":Str) == "stopped")=false:=by decide +kernel
 have s5:(("behind":Str) == "yields")=false:=by decide +kernel
 have s6:(("behind":Str) == "behind")=true:=by decide +kernel
 have wk:∀f,p.2=iX f->∃t ts b x1 x2 k',(t == ("behind":Str))=false/\bj Am (wB 0) 1000 [ak (aB h),ak (.ay (bN G L)),aO n,ak (.lst (dS st)),ak (.lst (cZ X G L)),ak (cI X G w),bH w.bag,ak (iX f),ak (cI X G w),cD (L.length:Int)] S=some (.nx [ak (aB h),ak (.ay (bN G L)),aO n,ak (.lst (dS st)),ak (.lst (cZ X G L)),ak (cI X G w),bH w.bag,ak (iX f),ak (.tup [b,x1,x2,.tup (.str t::ts)]),k'] S):=λf _=>Yp nd hl hb m 1000 w _ hw ch (by lia) (by lia) (by lia)
 have v2:=λc (hc:c∈L)=>iG (v:=λw=>pl w.b w.i) nd hc
 have yl:=λ{c z j} hc ne eg ec hs hy=>VY (S:=S) (G:=G) (c:=c) (z:=z) (j:=j) (st:=st) g nd ho hn hw hc ne eg ec hs hy
 have ln:(cZ X G L).length=L.length:=bJ ..;clear hb ho g;rw[Fd e] at *;generalize p.2=y at *;generalize hgs:bN G L=gs at *;generalize hpd:ky L=pd at *;generalize cZ X G L=ll at *;generalize aB h=hd at *;cases wy with
 |own hs=>
  clear wk yl;unfold wG wD;cases q:G w with
  |mk a b=>
   cases b with
   |none=>
    have v1:aN gs (.inr w.bag)=some (.str a):=by rw[v1,q];rfl
    simp only[↓ev,bV,aS,lr,eJ,cQ,rM,pj,dP,fB,aK,oz,dU,BE,v1,Cm,Jt,iF,ik,hs,eA]
   |some j=>
    have v1:aN gs (.inr w.bag)=some (pl a j):=by rw[v1,q];rfl
    simp only[↓ev,bV,aS,lr,eJ,cQ,rM,pj,dP,fB,aK,oz,dU,BE,v1,F5,eC,iF,ik,hs,eA]
 |to h0 eg hz=>
  clear wk yl
  rename_i z j
  have v1:aN gs (.inr w.bag)=some (pl z j):=by rw[v1,eg];rfl
  unfold wG wD;simp only[↓ev,bV,aS,lr,eJ,cQ,rM,pj,dP,fB,aK,oz,dU,BE,v1,F5,eC,iF,ik,hz,h0,eA]
 |m8 hc ne eg ec hs hy=>
  rename_i c z j
  have v1:aN gs (.inr w.bag)=some (pl z j):=by rw[v1,eg];rfl
  have yl:=yl hc ne eg ec hs hy;clear wk;unfold wG wD;simp only[↓ev,bV,aS,lr,eJ,cQ,rM,pj,dP,fB,aK,oz,dU,BE,v1,F5,eC,s2,yl,eA]
 |Fv hc eg=>
  rename_i c
  have v1:aN gs (.inr w.bag)=some (pl c.b c.i):=by rw[v1,eg];rfl
  have v2:aN pd (.inr c.bag)=some (pl c.b c.i):=by rw[<-hpd];exact v2 c hc
  obtain⟨t,ts,b,x1,x2,k',nt,e2⟩:=wk _ rfl;clear wk yl;unfold wG;rw[show aU 6 10 wD 0=runM 6 10 (wD 0) from rfl];unfold wD;unfold iX at *;have step:bj (cM (gQ Gd 9 (gI 0)) (cM (gQ pM (gX 8 (gI 3)) (gC .aJ)) (gQ d_ (gX (gX 8 (gI 3)) (gI 0)) (gC (.str "behind"))))) (wB 0) 1000=bj Am (wB 0) 1000:=rfl;rw[step];generalize bj Am (wB 0) 1000=wl at *;simp only[↓ev,bV,aS,lr,eJ,cQ,rM,pj,dP,fB,aK,oz,dU,BE,v1,F5,eC,s4,s5,hn,v2,DC,ln,e2,nt,j_,eA]
end
theorem IQ:(((4:Nat):Int) == 4)=true:=rfl
theorem Uo{α:Type}{l:List α}{f:α->aZ}(nd:(l.map f).Nodup)(hl:l.length<=8):nG (.lst (l.map λa=>pl (f a).1 (f a).2))=some (rd (.int (l.length:Nat))):=by
 have hk:∀l:List α,jk (l.map λa=>pl (f a).1 (f a).2)=some ((l.map f).map kC):=λl=>by
  induction l with
  |nil=>simp[jk]
  |cons a l ih=>simp only[qq6,jk,pQ,ih];rfl
 unfold nG;dsimp only;rw[hk];have c1:((l.map f).map kC).Nodup:=by
  rw[List.Nodup,Ax];exact List.Pairwise.imp (λ{a b} h e=>h (by unfold kC at e;simp at e;exact Gr e.1 e.2)) nd
 have c2:(((l.map f).map kC).all λk=>match k with|.tp l=>l.all (TK.ok 0)|_=>false)=true:=by
  rw[kj];intro k m;obtain⟨c,_,rfl⟩:=fQ.mp m;rfl
 have c3:((l.map f).map kC).length=l.length:=by simp
 rw[<-c3] at hl ⊢;exact bL ⟨c1,c2,hl⟩
seal nG
section
variable{h:aF}{st:List Str}{G:Row->Goal}{L:List Row}{X:List (Str×D)}{w c:Row}{S:aR}{s:List Cell}{rr:List Cell}{n:Nat}{p:Str×D}{g0 g1 g2 g3 g4 g6 g7 g8 a6 a7:aj Val}
theorem e5l{d:List Row}(hk:w.bag∉d.map Row.bag)(hl:d.length<1000):AN 0 [g0,g1,g2,g3,g4,aO s.length,ak (aY w),g7,g8] ⟨s++[.o (.ay (ky d))],rr⟩=some (.nx [g0,g1,g2,g3,g4,aO s.length,ak (aY w),g7,g8] ⟨s++[.o (.ay (ky (d++[w])))],rr⟩):=by
 have hp:bR (ky d) (.inr w.bag) (pl w.b w.i)=ky (d++[w]):=Fb hk;have kD:((ky d).length<1000000)=True:=bK (by rw[lq];lia)
 generalize ky d=a at *;generalize ky (d++[w])=b at *;unfold AN aY;generalize aQ w.fl=ff at *;simp only[↓ev,eJ,bV,eK,kD,hp,jv]
theorem Yq(nd:(L.map Row.bag).Nodup)(hl:L.length<=100):∃a6,aL (ae 6) (AN 0) (L.map aY) [g0,g1,g2,g3,g4,aO s.length,none,g7,g8] ⟨s++[.o (.ay [])],rr⟩=some (.nx [g0,g1,g2,g3,g4,aO s.length,a6,g7,g8] ⟨s++[.o (.ay (ky L))],rr⟩):=by
 obtain⟨U',S',e,⟨a6,rfl⟩,rfl⟩:=jG (gg:=ae 6) (body:=AN 0) (f:=aY) (U:=[g0,g1,g2,g3,g4,aO s.length,none,g7,g8]) (S:=⟨s++[.o (.ay [])],rr⟩) (λpre U S'=>(∃a6,U=[g0,g1,g2,g3,g4,aO s.length,a6,g7,g8])/\S'=⟨s++[.o (.ay (ky pre))],rr⟩) L ⟨⟨_,rfl⟩,rfl⟩ (by
  rintro d w post eq U S' ⟨⟨a6,rfl⟩,rfl⟩;have hk:w.bag∉d.map Row.bag:=by
   rw[eq,gf,cR] at nd;have:=lY.mp nd;exact λm=>this.2.2 _ m _ (.head _) rfl
  have hd:d.length<1000:=by rw[eq,dw] at hl;lia
  exact⟨_,_,_,rfl,.inl (e5l hk hd),⟨_,rfl⟩,rfl⟩)
 exact⟨a6,e⟩
theorem e5m(g:aG h)(nd:(L.map Row.bag).Nodup)(hl:L.length<=100)(ho:∀w∈L,ic h w)(hn:S.s[n]?=some (.o (.ay (ky L))))(hb:∀w∈L,∀p,X.find? (λp=>p.1 == w.bag)=some p->sx h st G L w p.2)(hc:∀b∈X.map (·.1),∃m,m<L.length/\sj X m b)(hw:w∈L):
  zo 0 [ak (aB h),ak (.ay (bN G L)),g2,ak (.lst (dS st)),ak (.lst (cZ X G L)),aO n,g6,ak (cI X G w),g8] S=some (.nx [ak (aB h),ak (.ay (bN G L)),g2,ak (.lst (dS st)),ak (.lst (cZ X G L)),aO n,g6,ak (cI X G w),g8] S):=by
 have v1:aN (bN G L) (.inr w.bag)=some (gD (G w)):=iG nd hw;cases e:X.find? (λp=>p.1 == w.bag) with
 |none=>
  have el:cI X G w=.tup [.str w.bag,pl w.b w.i,gD (G w),.aJ]:=by unfold cI;rw[e]
  rw[el];generalize bN G L=gs at *;generalize cZ X G L=ll at *;generalize aB h=hd at *;unfold zo;cases q:G w with
  |mk a b=>
   rw[q] at v1;cases b with
   |none=>simp only[↓ev,gD,oz,aK,dU,IQ,fB,lr,eJ,bV,v1,eC,dP]
   |some j=>simp only[↓ev,gD,oz,aK,dU,IQ,fB,lr,eJ,bV,v1,rM,pj,dP]
 |some p=>
  have pb:p.1=w.bag:=beq_iff_eq.mp (DA e :);obtain⟨m,hm,ch⟩:=hc w.bag (by rw[<-pb];exact lU (DB e))
  have es:=VZ (S:=S) g nd hl ho hn hb hm ch hw e;have wy:=hb w hw p e;have nn:∃l,p.2=.tup l:=by
   generalize p.2=y at *;cases wy <;> exact⟨_,rfl⟩
  obtain⟨l,nn⟩:=nn;rw[Fd e,nn] at es ⊢;generalize bN G L=gs at *;generalize cZ X G L=ll at *;generalize aB h=hd at *;unfold zo;simp only[↓ev,oz,aK,dU,IQ,fB,lr,es]
end
def jH(X:List (Str×D))(G:Row->Goal)(w:Row):aj aZ:=match X.find? λp=>p.1 == w.bag with
 |some _=>some (w.b,w.i)
 |none=>(G w).2.map λj=>((G w).1,j)
def nD(w:Row):D:=.tup [.str w.bag,pl w.b w.i]
theorem e6z:∀L:List Row,eL (.lst (L.map nD)) (.lst (L.map nD))=true:=λL=>by
 show eP _ _=true
 induction L with
 |nil=>rfl
 |cons w L ih=>
  show(eL (nD w) (nD w)&&eP _ _)=true;rw[ih,Gy];show((w.bag == w.bag)&&(eL (pl w.b w.i) (pl w.b w.i)&&true))=true;rw[pj];simp
theorem e7a(L:List Row):dZ 40 (.lst (L.map nD))=true:=by
 show(L.map nD).all (dZ 39)=true;rw[As];exact kj.mpr λw _=>rfl
theorem K4{a b c d:D}:(if HT.cG 4 0 none=0/\HT.cG 4 4 (some 2)=4 then none else some (rd (.tup (cutD [a,b,c,d] none (some 2)))))=some (rd (.tup [a,b])):=rfl
section
variable{h:aF}{st:List Str}{G:Row->Goal}{L:List Row}{X:List (Str×D)}{w c:Row}{S:aR}{s:List Cell}{rr:List Cell}{n:Nat}{p:Str×D}
theorem e5n(q:Nat)(hl:L.length<=100):bf (ae 0) (gq true) (G7 q) (cZ X G L) [none] S []=some (.ok (L.map nD) S):=by
 rw[p_ nD L (by lia) λw m=>⟨rd (nD w),by
  obtain⟨a1,a2,e⟩:=Ov (X:=X) (G:=G) (w:=w);rw[e];unfold G7 nD;simp only[↓ev,K4],rfl⟩]
theorem e5o(q:Nat)(hl:L.length<=100):bf (ae 0) (gq true) (G8 q) (L.map aY) [none] S []=some (.ok (L.map nD) S):=by
 rw[p_ nD L (by lia) λw m=>⟨rd (nD w),by
  unfold G8 nD aY;generalize aQ w.fl=ff;simp only[↓ev,bV,eJ,aS],rfl⟩]
theorem V0(q:Nat)(hl:L.length<=100):bf (ae 0) (G9 q) (G_ q) (cZ X G L) [none] S []=some (.ok ((L.filterMap (jH X G)).map λp=>pl p.1 p.2) S):=by
 rw[tR (λw=>(jH X G w).map λp=>pl p.1 p.2) L (by lia) λw m=>by
  unfold cI jH G9 G_;cases X.find? λp=>p.1 == w.bag with
  |some p=>exact .inr ⟨rd _,_,rfl,by simp only[↓ev,eJ,oz],by simp only[↓ev,eJ],rfl⟩
  |none=>
   cases G w with
   |mk a b=>
    cases b with
    |none=>exact .inl ⟨rfl,by simp only[↓ev,gD,eJ,F4]⟩
    |some j=>exact .inr ⟨rd (pl a j),_,rfl,by simp only[↓ev,gD,eJ,oz],by simp only[↓ev,gD,eJ],rfl⟩,LS]
theorem e7b(g:aG h)(nd:(L.map Row.bag).Nodup)(hl:L.length<=8)(ho:∀w∈L,ic h w)(hb:∀w∈L,∀p,X.find? (λp=>p.1 == w.bag)=some p->sx h st G L w p.2)(hc:∀b∈X.map (·.1),∃m,m<L.length/\sj X m b)(hu:(L.filterMap (jH X G)).Nodup):
  D_ 0 [.d (aB h),.d (.ay (bN G L)),.d (.lst (L.map aY)),.d (.lst (dS st)),.d (.lst (cZ X G L))] ⟨s,rr⟩=some (.ok (rd (.bl true)) ⟨s,rr⟩):=by
 obtain⟨a6,e1⟩:=Yq (s:=s) (rr:=rr) (g0:=ak (aB h)) (g1:=ak (.ay (bN G L))) (g2:=ak (.lst (L.map aY))) (g3:=ak (.lst (dS st))) (g4:=ak (.lst (cZ X G L))) (g7:=none) (g8:=none) nd (by lia)
 have e2:=λS=>e5n (X:=X) (G:=G) (S:=S) 0 (show L.length<=100 by lia)
 have e3:=λS=>e5o (S:=S) 0 (show L.length<=100 by lia)
 have e4:=λS=>V0 (X:=X) (G:=G) (S:=S) 0 (show L.length<=100 by lia)
 have e5:∃a7,aL (ae 7) (zo 0) (cZ X G L) [ak (aB h),ak (.ay (bN G L)),ak (.lst (L.map aY)),ak (.lst (dS st)),ak (.lst (cZ X G L)),aO s.length,a6,none,none] ⟨s++[.o (.ay (ky L))],rr⟩=some (.nx [ak (aB h),ak (.ay (bN G L)),ak (.lst (L.map aY)),ak (.lst (dS st)),ak (.lst (cZ X G L)),aO s.length,a6,a7,none] ⟨s++[.o (.ay (ky L))],rr⟩):=by
  obtain⟨U',S',e,⟨a7,rfl⟩,rfl⟩:=jG (gg:=ae 7) (body:=zo 0) (f:=cI X G) (U:=[ak (aB h),ak (.ay (bN G L)),ak (.lst (L.map aY)),ak (.lst (dS st)),ak (.lst (cZ X G L)),aO s.length,a6,none,none]) (S:=⟨s++[.o (.ay (ky L))],rr⟩) (λpre U S'=>(∃a7,U=[ak (aB h),ak (.ay (bN G L)),ak (.lst (L.map aY)),ak (.lst (dS st)),ak (.lst (cZ X G L)),aO s.length,a6,a7,none])/\S'=⟨s++[.o (.ay (ky L))],rr⟩) L ⟨⟨_,rfl⟩,rfl⟩ (by
   rintro d w post eq U S' ⟨⟨a7,rfl⟩,rfl⟩;exact⟨_,_,_,rfl,.inl (e5m g nd (by lia) ho eK hb hc (by rw[eq];simp)),⟨_,rfl⟩,rfl⟩)
  exact⟨a7,e⟩
 obtain⟨a7,e5⟩:=e5;have e6:=Uo (l:=L.filterMap (jH X G)) (f:=id) (by simpa using hu) (iU (DD _ _) hl)
 have e7:((L.filterMap (jH X G)).map λp=>pl p.1 p.2).length=(L.filterMap (jH X G)).length:=bJ ..
 have e8:=e6z L;have e9:=e7a L;dsimp only[id] at e6;generalize(L.filterMap (jH X G)).map (λp=>pl p.1 p.2)=cl at *
 generalize L.map nD=bp at *;generalize L.map aY=rs at *;generalize cZ X G L=ll at *;generalize bN G L=gs at *;generalize ky L=ad at *;generalize aB h=hd at *;unfold D_ Mg;simp only[↓ev,aS,g9,e1,Q8,aK,e2,e3,e9,e8,fB,e5,e4,e6,e7,dU,dP,qQ]
end
section
variable{h:aF}{r:Int}{x:Hl}{n:Nat}{X:List (Str×D)}
theorem lj.why(g:aG h)(o:Ok h n x)(t:lj h r x X):(∀w∈ord h x.rows,∀p,X.find? (λp=>p.1 == w.bag)=some p->sx h (cv h x) (ar h r x) (ord h x.rows) w p.2)/\∀b∈X.map (·.1),∃m,m<(ord h x.rows).length/\sj X m b:=by
 have nd:((ord h x.rows).map Row.bag).Nodup:=(o.perm.map _).nodup_iff.mpr o.nb;obtain⟨C,oC,gr,_⟩:=t;refine⟨λw hw p e=>Ym nd (e5j o.nk) (λc hc w hw hg e=>?_) oC gr hw e,λb hb=>?_⟩
 .obtain⟨bt,b1,b2,b3,b4,_⟩:=(o.rw c (o.mem.mp hc)).1;obtain⟨bu,u1,u2,u3,u4,_⟩:=(o.rw w (o.mem.mp hw)).1;have eb:c.b=w.b:=Qn (o.rw c (o.mem.mp hc)).1.nm (o.rw w (o.mem.mp hw)).1.nm e;have et:bu=bt:=Bd g.fwd bu u1 bt b1 (by rw[u2,b2,eb])
  subst et;have ef:=EH g b1;rw[b2] at ef;by_cases hl:c.i+1<bu.long
  .refine bQ ?_ hg;unfold ar;rw[ef];show(jR h r x c bu).1=_;unfold jR;rw[bL hl];exact b2
  .lia
 .have h0:∀p∈b_ (cv h x) (ar h r x) (ord h x.rows)++(ask (ar h r x) (b_ (cv h x) (ar h r x) (ord h x.rows)) (ord h x.rows)).filterMap (dr (ar h r x) C),(∀o,p.2≠iX o)/\p.1∈(ord h x.rows).map Row.bag:=λp m=>by
   rcases gw.mp m with m|m
   .refine⟨λo e=>?_,MX _ _ _ _ (lU m)⟩
    obtain⟨z,_,e1⟩:=nP.mp m;obtain⟨y,e2,rfl⟩:=cW.mp e1;have e:y=iX o:=e;rw[e] at e2;unfold iE iX at e2;split at e2
    .exact bQ (show("stopped":Str)="behind" by cases e2) (by decide +kernel)
    .split at e2
     .split at e2
      .exact bQ (show("stopped":Str)="behind" by cases e2) (by decide +kernel)
      .cases e2
     .cases e2
   .refine⟨λo e=>?_,?_⟩
    .obtain⟨z,_,e1⟩:=nP.mp m;unfold dr at e1;split at e1
     .cases e1
     .split at e1
      .cases e1
      .cases e1;unfold iX at e;exact bQ (show("yields":Str)="behind" by cases e) (by decide +kernel)
    .obtain⟨z,hz,e⟩:=fQ.mp (Om _ _ _ (lU m));rw[<-e];exact lU (il.mp hz).1
  obtain⟨l,ch⟩:=gr.Vu λp m=>(h0 p m).1
  obtain⟨m,hm,c⟩:=ch b hb;refine⟨m,?_,c⟩;have tt:=gr.vY;generalize b_ (cv h x) (ar h r x) (ord h x.rows)++(ask (ar h r x) (b_ (cv h x) (ar h r x) (ord h x.rows)) (ord h x.rows)).filterMap (dr (ar h r x) C)=W at *;have lt:mu (ord h x.rows) W<(ord h x.rows).length:=by
   cases W with
   |nil=>
    have:X=[]:=by
     clear hb c ch hm l tt h0
     rename_i rt
     clear rt
     induction gr with
     |base=>rfl
     |step _ _ hc ih=>rw[ih] at hc;exact bQ hc.2.2 (by simp)
    rw[this] at hb;cases hb
   |cons p W=>
    obtain⟨z,hz,e⟩:=fQ.mp (h0 p (.head _)).2;unfold mu;rw[List.length_filter_lt_length_iff_exists];exact⟨z,hz,by rw[iS,e];simp⟩
  lia
theorem lj.cells(g:aG h)(o:Ok h n x)(t:lj h r x X):((ord h x.rows).filterMap (jH X (ar h r x))).Nodup:=by
 have un:=(o.turn g t).un;have e:(eH h r x X).rows.map (λw=>(w.b,w.i))=x.rows.filterMap (jH X (ar h r x)):=by
  show(gH h (ar h r x) (jg (cC h x X)) x.rows).map _=_;unfold gH;rw[LS];refine Iq λw hw=>?_
  have hi:jg (cC h x X) w=nk X w:=by
   unfold jg cC;rw[yX,lV];constructor
   .intro m;obtain⟨z,hz,e⟩:=fQ.mp m;obtain⟨z1,z2⟩:=sU.mp hz;rw[iS] at z2 ⊢;rw[<-e];exact z2
   .exact λq=>lU (sU.mpr ⟨o.mem.mpr hw,q⟩)
  rw[hi];unfold jH;rcases Pq X w with⟨e1,e2,_⟩|⟨p,e1,e2,_⟩
  .rw[e1,e2,bL rfl];unfold nI;cases(ar h r x w).2 <;> rfl
  .rw[e1,e2];rfl
 rw[e] at un;exact(o.perm.filterMap _).nodup_iff.mpr un
end
theorem Uq{d:D}(hd:hV d):∃t ts,d=.tup (.str t::ts)/\(t == ("turn":Str))=false:=by
 cases hd with
 |lB _=>exact⟨_,_,rfl,by decide +kernel⟩
 |change _=>exact⟨_,_,rfl,by decide +kernel⟩
 |off _=>exact⟨_,_,rfl,by decide +kernel⟩
 |put _ _=>exact⟨_,_,rfl,by decide +kernel⟩
 |read _ _=>exact⟨_,_,rfl,by decide +kernel⟩
 |stop=>exact⟨_,_,rfl,by decide +kernel⟩
 |start=>exact⟨_,_,rfl,by decide +kernel⟩
section
variable{s:List Cell}{h:aF}{r:Int}{x:Hl}{n:Nat}{d:D}{g0 g3 g4 a5 a6 a7 a8:aj Val}{ns:List Int}
theorem e5p(g:aG h)(o:Ok h n x)(hn:n<1000):∃x' b6 b7 b8,Ok h n x'/\Bk 0 [g0,ak (aB h),cS,g3,g4,a5,a6,a7,a8] (hS (aB h) r x s)=some (.nx [g0,ak (aB h),cS,g3,g4,a5,b6,b7,b8] (hS (aB h) r x' s)):=by
 have rl:=o.rl;have pl:=o.perm.length_eq;have nd:((ord h x.rows).map Row.bag).Nodup:=(o.perm.map _).nodup_iff.mpr o.nb;have e1:=λq s=>By (s:=s) (r:=r) (q:=q) g o
 have e2:=λs=>Oi (s:=s) (r:=r) g o
 have e3:=λq s=>HV (s:=s) (r:=r) (q:=q) (x:=x) g
 obtain⟨X,t,e4⟩:=ω (r:=r) (s:=s) g o hn;obtain⟨w1,w2⟩:=t.why g o;have e5:=e7b (s:=s) (rr:=hR (aB h) r (eH h r x X)) g nd (by lia) (λw m=>(o.rw w (o.mem.mp m)).1) w1 w2 (t.cells g o)
 have pw:=II (G:=ar h r x) (ord h x.rows);have fg:=Pu (G:=ar h r x) nd;have ll:((bN (ar h r x) (ord h x.rows)).length<1000)=True:=bK (by unfold bN;rw[lq];lia)
 have ew:(ord h x.rows).map (mR h r x)=(ord h x.rows).map (l6 (ar h r x)):=rfl;rw[ew] at e2;refine⟨eH h r x X,ak (.ay (bN (ar h r x) (ord h x.rows))),ak (.lst ((ord h x.rows).map aY)),ak (.lst (dS (cv h x))),o.turn g t,?_⟩;clear w1 w2 t;unfold cZ at e5;generalize eH h r x X=x2 at *;generalize(ord h x.rows).map (l6 (ar h r x))=l1 at *;generalize(ord h x.rows).map (cI X (ar h r x))=l3 at *;generalize(ord h x.rows).map aY=l4 at *;generalize bN (ar h r x) (ord h x.rows)=gs at *;generalize aB h=hd at *;unfold Bk;simp only[↓ev,e2,pw,ll,fg,aS,hR,dy,wV,e1,HG,e3,e4,e5,aK]
theorem Yr(g:aG h)(o:Ok h n x)(hn:n<1000)(m:Nat):∃x' b5 b6 b7 b8,Ok h n x'/\aL (ae 5) (Bk 0) (iC 0 m) [g0,ak (aB h),cS,g3,g4,a5,a6,a7,a8] (hS (aB h) r x s)=some (.nx [g0,ak (aB h),cS,g3,g4,b5,b6,b7,b8] (hS (aB h) r x' s)):=by
 rw[rT];obtain⟨U',S',e,⟨b5,b6,b7,b8,rfl⟩,x',o',rfl⟩:=jG (gg:=ae 5) (body:=Bk 0) (f:=λ(i:Nat)=>D.int (i:Int)) (U:=[g0,ak (aB h),cS,g3,g4,a5,a6,a7,a8]) (S:=hS (aB h) r x s) (λpre U S'=>(∃b5 b6 b7 b8,U=[g0,ak (aB h),cS,g3,g4,b5,b6,b7,b8])/\∃x',Ok h n x'/\S'=hS (aB h) r x' s) (List.range m) ⟨⟨_,_,_,_,rfl⟩,x,o,rfl⟩ (by
  rintro d i post eq U S' ⟨⟨b5,b6,b7,b8,rfl⟩,x',o',rfl⟩;obtain⟨x2,c6,c7,c8,o2,e⟩:=e5p (r:=r) (s:=s) (g0:=g0) (g3:=g3) (g4:=g4) (a5:=cD (i:Int)) (a6:=b6) (a7:=b7) (a8:=b8) g o' hn;exact⟨_,_,_,rfl,.inl e,⟨_,_,_,_,rfl⟩,_,o2,rfl⟩)
 exact⟨x',b5,b6,b7,b8,o',e⟩
theorem Ys(g:aG h)(o:Ok h n x)(hn:n<1000)(om:hV d\/∃m:Int,1<=m/\m<=12/\d=j8 m):∃x' b5 b6 b7 b8,Ok h (n+1) x'/\zO 0 [g0,ak (aB h),cS,g3,ak d,a5,a6,a7,a8] (hS (aB h) r x s)=some (.nx [g0,ak (aB h),cS,g3,ak d,b5,b6,b7,b8] (hS (aB h) r x' s)):=by
 rcases om with om|⟨m,m1,m12,rfl⟩
 .obtain⟨v,x',o',e⟩:=e5h (s:=s) (r:=r) g o hn om;obtain⟨t,ts,rfl,ht⟩:=Uq om;refine⟨x',a5,a6,a7,a8,o',?_⟩;clear om;generalize aB h=hd at *;unfold zO;simp only[↓ev,bV,eC,ht,j_,e]
 .obtain⟨x',b5,b6,b7,b8,o',e⟩:=Yr (r:=r) (s:=s) (g0:=g0) (g3:=g3) (g4:=(ak (j8 m))) (a5:=a5) (a6:=a6) (a7:=a7) (a8:=a8) g o hn m.toNat;have hz:Nat.ble m.natAbs 1000000000000=true:=by rw[Nat.ble_eq];lia
  have ht:(("turn":Str) == "turn")=true:=by decide +kernel
  refine⟨x',b5,b6,b7,b8,o'.up,?_⟩;generalize aB h=hd at *;unfold zO;unfold j8 at e ⊢;simp only[↓ev,bV,eC,dP,fB,aK,cQ,hz,g9,e]
theorem V1(g:aG h)(o:Ok h n x)(ds:List D)(hl:n+ds.length<900)(om:∀d∈ds,hV d\/∃m:Int,1<=m/\m<=12/\d=j8 m):∃x' b4 b5 b6 b7 b8,Ok h (n+ds.length) x'/\aL (ae 4) (zO 0) ds [g0,ak (aB h),cS,g3,g4,a5,a6,a7,a8] (hS (aB h) r x s)=some (.nx [g0,ak (aB h),cS,g3,b4,b5,b6,b7,b8] (hS (aB h) r x' s)):=by
 have key:=jG (gg:=ae 4) (body:=zO 0) (f:=λd:D=>d) (U:=[g0,ak (aB h),cS,g3,g4,a5,a6,a7,a8]) (S:=hS (aB h) r x s) (λpre U S'=>(∃b4 b5 b6 b7 b8,U=[g0,ak (aB h),cS,g3,b4,b5,b6,b7,b8])/\∃x',Ok h (n+pre.length) x'/\S'=hS (aB h) r x' s) ds ⟨⟨_,_,_,_,_,rfl⟩,x,o,rfl⟩ (by
  rintro p d post eq U S' ⟨⟨b4,b5,b6,b7,b8,rfl⟩,x',o',rfl⟩;have hp:p.length+1<=ds.length:=by
   simp_all
  obtain⟨x2,c5,c6,c7,c8,o2,e⟩:=Ys (r:=r) (s:=s) (g0:=g0) (g3:=g3) (a5:=b5) (a6:=b6) (a7:=b7) (a8:=b8) g o' (by lia) (om d (by rw[eq];simp))
  refine⟨_,_,_,rfl,.inl e,⟨_,_,_,_,_,rfl⟩,x2,?_,rfl⟩;rw[dw,sW];exact o2)
 rw[List.map_id'] at key;obtain⟨U',S',e,⟨b4,b5,b6,b7,b8,rfl⟩,x',o',rfl⟩:=key;exact⟨x',b4,b5,b6,b7,b8,o',e⟩
theorem Ko(g:aG h)(b0:0<h.af.length)(o:Ok h n x)(hn:n<60)(k:Nat)(hk:k<900):∃x' b4 b5 b6 b7 b8,Ok h (n+2) x'/\zP 0 [ak (bh ns),ak (aB h),cS,cD (k:Int),g4,a5,a6,a7,a8] (hS (aB h) r x s)=some (.nx [ak (bh ns),ak (aB h),cS,cD (k:Int),b4,b5,b6,b7,b8] (hS (aB h) r x' s)):=by
 obtain⟨ds,dk,ed⟩:=Yl (ns:=ns) g b0 k hk (hS (aB h) r x s);have dl:=dk.1;obtain⟨x',b4,b5,b6,b7,b8,o',e⟩:=V1 (r:=r) (s:=s) (g0:=(ak (bh ns))) (g3:=(cD (k:Int))) (g4:=g4) (a5:=a5) (a6:=a6) (a7:=a7) (a8:=a8) g o ds (by lia) dk.2
 refine⟨x',b4,b5,b6,b7,b8,⟨o'.rw,o'.nd,o'.un,o'.bk,o'.bn,o'.gi,o'.rl,iU o'.sz (by lia)⟩,?_⟩
 clear dk o' dl o g;generalize(k:Int)=ki at *;generalize aB h=hd at *;unfold zP;simp only[↓ev,ed,g9,e]
theorem e7c(g:aG h)(b0:0<h.af.length)(o:Ok h 0 x)(m:Nat)(hm:m<=25):∃U' S',aL (ae 3) (zP 0) (lP 15 2 m) [ak (bh ns),ak (aB h),cS,g3,g4,a5,a6,a7,a8] (hS (aB h) r x s)=some (.nx U' S'):=by
 have er:lP 15 2 m=(List.range m).map λi=>D.int ((15+2*i:Nat):Int):=by
  grind [lP]
 rw[er];obtain⟨U',S',e,_⟩:=jG (gg:=ae 3) (body:=zP 0) (f:=λi:Nat=>D.int ((15+2*i:Nat):Int)) (U:=[ak (bh ns),ak (aB h),cS,g3,g4,a5,a6,a7,a8]) (S:=hS (aB h) r x s) (λpre U S'=>(∃a3 a4 a5 a6 a7 a8,U=[ak (bh ns),ak (aB h),cS,a3,a4,a5,a6,a7,a8])/\∃x',Ok h (2*pre.length) x'/\S'=hS (aB h) r x' s) (List.range m) ⟨⟨_,_,_,_,_,_,rfl⟩,x,o,rfl⟩ (by
  rintro p i post eq U S' ⟨⟨a3,a4,a5,a6,a7,a8,rfl⟩,x',o',rfl⟩;obtain⟨hq,hi⟩:=Ii eq;obtain⟨x2,b4,b5,b6,b7,b8,o2,e⟩:=Ko (ns:=ns) (r:=r) (s:=s) (g4:=a4) (a5:=a5) (a6:=a6) (a7:=a7) (a8:=a8) g b0 o' (by lia) (15+2*i) (by lia)
  refine⟨_,_,_,rfl,.inl e,⟨_,_,_,_,_,_,rfl⟩,x2,?_,rfl⟩;rw[dw,sW,Nat.mul_add];exact o2)
 exact⟨U',S',e⟩
noncomputable def x0:Hl:=⟨0,[],[],[],[]⟩
theorem sR(h:aF):Ok h 0 x0:=⟨λw m=>(by cases m),GC,GC,λp m=>(by cases m),GC,λp m=>(by cases m),by decide,by decide⟩
theorem e5q{S2:aR}(e:BG 0 [ak (bh ns),none,none,none,none,none,none,none,none] ⟨[],[]⟩=some (.rt (rd (.bl true)) S2)):∃S,FA 0 [.d (bh ns)] ⟨[],[]⟩=some (.ok (.v (.d (.bl true))) S):=by
 refine⟨S2.cut 0,?_⟩;unfold FA aU;generalize BG 0=ml at *;simp only[↓ev,e]
theorem e5r{hd:D}{t:Int}{U':Gm}{S':aR}(hh:P0 zA [.d (bh ns)] (rd hd))(hr:Pr kx [.d (bh ns),aM 14,aM 3] (rd (.int r)))(hi:Bb 0 [gb,.d hd,aM r] ⟨[],[.ins cHall []]⟩=some (.ok (rd .aJ) (hS hd r x0 [])))(ho:Pr jo [.d (bh ns),aM 14,aM 20] (rd (.int t)))(hm:(-2^64<(2:Int)/\(2:Int)<2^64 \/ -2^64<t/\t<2^64)=True)(hz:Nat.ble (23+2*t).natAbs 1000000=true)
  (hl:aL (ae 3) (zP 0) (lP 15 2 (fK 15 (23+2*t))) [ak (bh ns),ak hd,cS,none,none,none,none,none,none] (hS hd r x0 [])=some (.nx U' S')):BG 0 [ak (bh ns),none,none,none,none,none,none,none,none] ⟨[],[]⟩=some (.rt (rd (.bl true)) S'):=by
 unfold BG;have z15:Nat.ble (15:Int).natAbs 1000000=true:=by decide
 simp only[↓ev,hh,aS,hr,hi,ho,hm,z15,hz,and_self,g9,hl]
theorem e7d:∀ns:List Int,ns.length<=63->∃S,FA 0 [.d (.lst (ns.map D.int))] ⟨[],[]⟩=some (.ok (.v (.d (.bl true))) S):=by
 intro ns _;obtain⟨h,g,sl,b0,b5,c4,eh⟩:=XJ ns;obtain⟨_,r0,r4⟩:=gF ns 14 0 3 (by decide) (by decide) (by decide)
 have hr:Pr kx [.d (bh ns),aM 14,aM 3] _:=xp ns 14 3 (by decide) (by decide)
 obtain⟨_,t0,t21⟩:=gF ns 14 1 20 (by decide) (by decide) (by decide)
 have ho:Pr jo [.d (bh ns),aM 14,aM 20] _:=u_ ns 14 20 (by decide) (by decide)
 generalize bo ns 14 0 3=r at *;generalize bo ns 14 1 20=t at *;obtain⟨U',S',hl⟩:=e7c (ns:=ns) (r:=r) (s:=[]) (g3:=none) (g4:=none) (a5:=none) (a6:=none) (a7:=none) (a8:=none) g b0 (sR h) (fK 15 (23+2*t)) (by unfold fK;lia)
 exact e5q (e5r eh hr (Z8 (S:=⟨[],[]⟩) g) ho (bK (.inl (by decide))) (by rw[Nat.ble_eq];lia) hl)
end
variable{w:cA}{K:aI}{mg:Str->aj ah}{us:List ah}{h:bS}{l:PySem.W.OpenLaw}
def oM(K:aI):L2.Sp:=λvs H Q _=>∃(a:ai) (ns:List Int),vs=[.ref a]/\cT K H a (ns.map V.int)/\ns.length<=63/\∀H',Q (.bl true) H'
theorem e5s{P:cX}{base:bS}(T:Txt K mg):dA P w K mg base (l7 P w) 7 (fA K none "law") (fF K (fA K none "law")) ["_law_script"] (oM K):=by
 exact Xq (ZU T 0) e7d
theorem us_1(h:us.length=1):∃a0,us=[a0]:=by
 obtain _|⟨a0,us⟩:=us
 .cases h
 obtain _|⟨z,us⟩:=us
 .exact⟨a0,rfl⟩
 .simp at h
theorem us_2(h:us.length=2):∃a0 a1,us=[a0,a1]:=by
 obtain _|⟨a0,us⟩:=us
 .cases h
 obtain _|⟨a1,us⟩:=us
 .cases h
 obtain _|⟨z,us⟩:=us
 .exact⟨a0,a1,rfl⟩
 .simp at h
theorem us_3(h:us.length=3):∃a0 a1 a2,us=[a0,a1,a2]:=by
 obtain _|⟨a0,us⟩:=us
 .cases h
 obtain _|⟨a1,us⟩:=us
 .cases h
 obtain _|⟨a2,us⟩:=us
 .cases h
 obtain _|⟨z,us⟩:=us
 .exact⟨a0,a1,a2,rfl⟩
 .simp at h
theorem us_4(h:us.length=4):∃a0 a1 a2 a3,us=[a0,a1,a2,a3]:=by
 obtain _|⟨a0,us⟩:=us
 .cases h
 obtain _|⟨a1,us⟩:=us
 .cases h
 obtain _|⟨a2,us⟩:=us
 .cases h
 obtain _|⟨a3,us⟩:=us
 .cases h
 obtain _|⟨z,us⟩:=us
 .exact⟨a0,a1,a2,a3,rfl⟩
 .simp at h
theorem us_5(h:us.length=5):∃a0 a1 a2 a3 a4,us=[a0,a1,a2,a3,a4]:=by
 obtain _|⟨a0,us⟩:=us
 .cases h
 obtain _|⟨a1,us⟩:=us
 .cases h
 obtain _|⟨a2,us⟩:=us
 .cases h
 obtain _|⟨a3,us⟩:=us
 .cases h
 obtain _|⟨a4,us⟩:=us
 .cases h
 obtain _|⟨z,us⟩:=us
 .exact⟨a0,a1,a2,a3,a4,rfl⟩
 .simp at h
theorem us_6(h:us.length=6):∃a0 a1 a2 a3 a4 a5,us=[a0,a1,a2,a3,a4,a5]:=by
 obtain _|⟨a0,us⟩:=us
 .cases h
 obtain _|⟨a1,us⟩:=us
 .cases h
 obtain _|⟨a2,us⟩:=us
 .cases h
 obtain _|⟨a3,us⟩:=us
 .cases h
 obtain _|⟨a4,us⟩:=us
 .cases h
 obtain _|⟨a5,us⟩:=us
 .cases h
 obtain _|⟨z,us⟩:=us
 .exact⟨a0,a1,a2,a3,a4,a5,rfl⟩
 .simp at h
abbrev hZ(K:aI)(n:Str)(C:ai):Prop:=PySem.W.nsIn K mainGlobals n=some (some (.ref C))/\fD K C (.ref 31::p7) none/\PySem.W.keepIn K (.ref C)=true
theorem errs_mk(X:K.In h)(G:h.Ns mainGlobals mg)(h0:hZ K "NoName" 44)(h1:hZ K "NoSize" 56)(h2:hZ K "NoOut" 68)(h3:hZ K "NoHand" 80)(h4:hZ K "NoMoment" 92)(h5:hZ K "NoFlight" 104)(h6:hZ K "NoBelt" 116)(h7:hZ K "NoRoom" 128)(h8:hZ K "NoBag" 140)(GB:fD K 31 p7 none)(hB:PySem.W.nsIn K mainGlobals "CarryError"=some (some (.ref 31))):oQ K mg iQ 31:=by
 refine⟨λp hp=>?_,GB,PySem.W.mg_of X G hB⟩
 simp only[iQ,y0a,y1w,or_false] at hp;rcases hp with rfl|rfl|rfl|rfl|rfl|rfl|rfl|rfl|rfl
 .exact⟨PySem.W.mg_of X G h0.1,h0.2⟩
 .exact⟨PySem.W.mg_of X G h1.1,h1.2⟩
 .exact⟨PySem.W.mg_of X G h2.1,h2.2⟩
 .exact⟨PySem.W.mg_of X G h3.1,h3.2⟩
 .exact⟨PySem.W.mg_of X G h4.1,h4.2⟩
 .exact⟨PySem.W.mg_of X G h5.1,h5.2⟩
 .exact⟨PySem.W.mg_of X G h6.1,h6.2⟩
 .exact⟨PySem.W.mg_of X G h7.1,h7.2⟩
 .exact⟨PySem.W.mg_of X G h8.1,h8.2⟩
theorem fin_mk{fa:ai}(X:K.In h)(G:h.Ns mainGlobals mg)(hfa:mg "law"=some (.ref fa))(T:Txt K mg)
  : ∃fd:kI,(∀(s:ao) (v:ah),BindsTo s fd ⟨[v],[]⟩ [("_law_script",v)])/\∀base:bS,K.In base->base.Ns mainGlobals mg->dA l.prog w K mg base (l7 l.prog w) 7 fa fd ["_law_script"] (oM K):=by
 have e:=hfa.symm.trans T.qy.mg;cases e;obtain⟨oc,od,kV,doc,pm,an,f6,ct,oB,e,_,_⟩:=T.qy.fn.ex;exact⟨_,λs v=>by rw[e];exact .of_eq rfl,λbase _ _=>e5s T⟩
theorem walk{q:cX}{loose:List Str}{XP:(Str->aj ah)->bS->Prop}{YP:cA->bS->Prop}{d:DefRec}{K:Params->aI}(hn:l.most=some 63)(B4:d.params.defaults=[])
  (hY:∀(w:cA) (h:bS),YP w h->(K w.params).In h)
  (F:∀(w:cA) (mg:Str->aj ah) (fa:ai) (h:bS),(K w.params).In h->h.Ns mainGlobals mg->mg d.name=some (.ref fa)-> ∃fd:kI,(∀(s:ao) (u:ah),BindsTo s fd ⟨[u],[]⟩ [("_law_script",u)])/\∀base:bS,(K w.params).In base->base.Ns mainGlobals mg->dA l.prog w (K w.params) mg base (l7 l.prog w) 7 fa fd ["_law_script"] (oM (K w.params))) :
  PySem.W.WalkO q loose XP YP l.row.toRowW d [] (λf vs=>PySem.call f vs):=
 L2.uL (n:=63) (k:=7) (x:="_law_script") (CX:=λw=>l7 l.prog w) (sp:=λw=>oM (K w.params)) hn (by decide) B4 ⟨rfl,by decide,by decide⟩ hY F (λ_ _ a ns hl _ hS=>⟨a,ns,rfl,hS,hl,λ_=>rfl⟩) λ_ _ _ _ _ ⟨_,_,_,_,_,_,z⟩=>z
end Carry
end
open PySem PySem.W PyProof.Rows
set_option maxRecDepth 100000 in
set_option maxHeartbeats 0 in
theorem PySem.Challenge.cw_carry_k67_why_bags_stand_holds : PySem.Challenge.rw_carry_k67_why_bags_stand.Holds := by
 simp -failIfUnchanged only[Carry.Hd.hd0];w_on;o_law;(try simp only[Carry.Hd.hd]);k_head;(case hw=>w_witness2)
 k_fill
 refine Carry.walk (l:=PySem.Challenge.rw_carry_k67_why_bags_stand) rfl rfl (λw h Y=>PySem.W.kIn_of Y) ?F
 case F=>
  intro w mg fa h KX G hmg;refine' Carry.fin_mk KX G hmg ?T;constructor
  case atr=>
   intro p hp;simp only[Carry.atrs,y0a,y1w,or_false] at hp;rcases hp with rfl|rfl|rfl|rfl|rfl|rfl|rfl|rfl|rfl|rfl <;> (dsimp only[Carry.cHall];exact⟨⟨by k_is,by k_is,by k_is,by k_is⟩,by show _=_;k_is⟩)
  case er=>
   refine' Carry.errs_mk KX G ?h0 ?h1 ?h2 ?h3 ?h4 ?h5 ?h6 ?h7 ?h8 ?GB ?hB
   all_goals first|(refine' ⟨?za,?zb,?zd⟩;(case zb=>refine' L2.errC_mk ?zl ?zm ?zs ?zi;(case zl=>k_is);(case zm=>k_is);(case zs=>kernel_rfl);(case zi=>kernel_rfl));(case za=>k_is);(case zd=>k_is))|(refine' L2.errC_mk ?zl ?zm ?zs ?zi;(case zl=>k_is);(case zm=>k_is);(case zs=>kernel_rfl);(case zi=>kernel_rfl))|k_is|(show _=_;k_is)
  all_goals first|refine' L2.dM KX G ?_ ?_ ?_|refine' L2.mM ?_ ?_ ?_ ?_|refine' L2.mK ?_ ?_ ?_ ?_|refine' L2.Cls.mk ?_ ?_ ?_ ?_|refine' L2.kM KX G ?_|refine' PySem.W.mg_of KX G ?_|refine' PySem.W.mg_none_of KX G ?_
  all_goals (try dsimp only[Carry.cHall])
  all_goals first|(refine' L2.fun_mk ?zl ?zc ?zk;(case zl=>k_is);(case zc=>k_is);(case zk=>k_is))|(intro _ _ _ _ _ _ us hl;obtain⟨_,rfl⟩:=Carry.us_1 hl;rfl)|(intro _ _ _ _ _ _ us hl;obtain⟨_,_,rfl⟩:=Carry.us_2 hl;rfl)|(intro _ _ _ _ _ _ us hl;obtain⟨_,_,_,rfl⟩:=Carry.us_3 hl;rfl)|(intro _ _ _ _ _ _ us hl;obtain⟨_,_,_,_,rfl⟩:=Carry.us_4 hl;rfl)|(intro _ _ _ _ _ _ us hl;obtain⟨_,_,_,_,_,rfl⟩:=Carry.us_5 hl;rfl)|(intro _ _ _ _ _ _ us hl;obtain⟨_,_,_,_,_,_,rfl⟩:=Carry.us_6 hl;rfl)|k_is|(show _=_;k_is)|skip
  all_goals (try (refine' L2.fun_mk ?zl ?zc ?zk;(case zl=>k_is);(case zc=>k_is);(case zk=>k_is)))