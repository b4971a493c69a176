import PyProof.Rows.All
import Wide.All
import OpenK.AllK
import Wide.FinOn
import Lean
import PyProof.EqAt
import PyProof.EqKinds
import PyProof.TupleCall
import PyProof.StationsW
import PyProof.ExcClass3
import PyProof.ExcInit
import PyProof.ExcBaseAll.ValueError
import PyProof.ExcArgsOwn
import KE.KIsAll
import PyProof.ExcAttrAll.ValueError
import PyProof.InstStoreFacts
import KE.KTryMore
import PyProof.RulesAs
import PyProof.NsDelKeeps
import KE.KRevIter
import PyProof.SeqI3
import PyProof.DictWalks
import PyProof.EnumIter
import PyProof.EnumStmt
import PyProof.EnumMake
import PyProof.WalksEnum
import PyProof.FactsAll.NoneType_1
import PyProof.NeKinds
import KE.KDictList
import KE.KItemsList
import PyProof.Rows.SortShell
import PyProof.WalkInts
import PyProof.MeetsSeq
import PyProof.SeqRoads2
import KE.KDictOf
import PyProof.AttrMissHeap
import KE.KSortTup
import PyProof.Rows.SortWalk
import PyProof.Rows.SumAny
import PyProof.Rows.SetFrom
import PyProof.Rows.SortStr
import PySem.Challenge.RW_carry_k36_soonest_walked
set_option linter.all false
set_option bootstrap.genMatcherCode false
set_option compiler.extract_closed false
set_option compiler.reuse false
set_option genSizeOf false
set_option genSizeOfSpec false
def aW:=@List.length_map.{0,0}
def bC:=@Nat.le_refl
def b_:=@List.length_append.{0}
def cC:=@Option.bind_eq_some_iff.{0,0}
def cK:=@List.getElem?_eq_some_iff.{0}
def cQ:=@PySem.Heap.lt_size
def y06:=@List.mem_cons.{0}
def cS:=@Option.map_eq_some_iff.{0,0}
def c_:=@List.map_cons.{0,0}
theorem dg:type_of% @List.length_cons.{0}:=rfl
def dq:=@List.size_toArray.{0}
def dD:=@List.mem_append.{0}
def dF:=@List.mem_map.{0,0}
def dU:=@PySem.Heap.get?_push_of_some
def dW:=@List.mem_singleton.{0}
def eO:=@Nat.lt_of_lt_of_le
def gf:=@List.mem_filter.{0}
def gj:=@List.getElem?_append_left.{0}
def gn:=@List.getElem?_map.{0,0}
def gp:=@List.getElem?_eq_getElem.{0}
def gq:=@List.map_append.{0,0}
def gA:=@List.nodup_cons.{0}
def gE:=@List.getElem?_append_right.{0}
def gF:=@List.all_eq_true.{0}
def g_:=@List.append_assoc.{0}
def iP:=@Nat.ne_of_lt
def iQ:=@Nat.le_trans
def iU:=@List.getElem?_set_ne.{0}
def iW:=@List.length_singleton.{0}
def iX:=@List.prefix_refl.{0}
def jl:=@Nat.lt_irrefl
def jD:=@PySem.Heap.get?_push_size
def jE:=@Bool.false_eq_true
def kg:=@List.mem_of_getElem?.{0}
def kh:=@Nat.sub_self
def kN:=@List.length_range
def kL:=@List.map_map.{0,0,0}
def k6:=@List.mem_range
def k7:=@Nat.zero_le
def k8:=@List.nodup_append.{0}
def k9:=@List.all_cons.{0}
def k_:=@List.map_singleton.{0,0}
def lQ:=@List.append_nil.{0}
def mD:=@List.mem_cons_of_mem.{0}
def mE:=@List.length_set.{0}
def m6:=@Bool.and_eq_true
def m7:=@List.mem_append_right.{0}
def nu:=@PySem.Heap.get?_update_self
def ny:=@PySem.Heap.get?_update_other
theorem nz:type_of% @List.length_nil.{0}:=rfl
def pD:=@List.mem_cons_self.{0}
def pF:=@Array.getElem?_eq_getElem.{0}
def pH:=@Nat.ble_eq_true_of_le
def qh:=@List.getElem?_set_self.{0}
def qi:=@Bool.false_ne_true
def qj:=@Bool.eq_iff_iff
theorem qk:type_of% @Option.bind_some.{0,0}:=λ_ _=>rfl
def r6:=@List.length_take.{0}
def r9:=@Nat.lt_succ_self
def r_:=@Bool.and_eq_true_iff
def sd:=@Int.le_refl
def t_:=@List.mem_append_left.{0}
def ua:=@List.getElem_mem.{0}
def ub:=@Array.getElem?_eq_some_iff.{0}
def uc:=@Array.getElem?_toList.{0}
def wC:=@List.mem_filterMap.{0,0}
def wD:=@List.length_drop.{0}
def wH:=@Bool.not_true
def wI:=@List.find?_cons.{0}
def wJ:=@List.nodup_nil.{0}
def wK:=@List.nil_append.{0}
def wM:=@Nat.not_lt_zero
def yl:=@List.filter_cons.{0}
def ym:=@List.length_replicate.{0}
def yo:=@Nat.le_succ
def yp:=@List.any_eq_true.{0}
def yq:=@List.take_of_length_le.{0}
def yr:=@List.all_map.{0,0}
def yu:=@List.mem_map_of_mem.{0,0}
def yv:=@Nat.zero_add
def Br:=@Nat.le_of_lt
def Bs:=@List.filterMap_cons.{0,0}
theorem Bt:type_of% @Array.length_toList.{0}:=rfl
def Bu:=@Nat.ne_of_gt
def Bv:=@List.map_nil.{0,0}
def Bw:=@Nat.lt_succ_of_lt
def By:=@Bool.and_false
theorem Bz:type_of% @List.foldl_cons.{0,0}:=rfl
def BA:=@List.take_append_drop.{0}
def BB:=@List.contains_iff_mem.{0}
def BC:=@Nat.pow_succ
def DP:=@List.getElem?_take_of_lt.{0}
def DQ:=@Nat.le_of_eq
def DR:=@List.mem_iff_getElem.{0}
def DS:=@List.drop_of_length_le.{0}
def DT:=@List.mem_iff_getElem?.{0}
def y1y:=@List.not_mem_nil.{0}
def DU:=@List.getElem?_range
def DJ:=@List.drop_eq_getElem_cons.{0}
def DK:=@List.getElem?_eq_none.{0}
def DL:=@Nat.le_of_lt_succ
def DM:=@List.flatMap_cons.{0,0}
def DN:=@List.mem_flatMap.{0,0}
def DO:=@List.pairwise_cons.{0}
def Iu:=@List.getElem?_replicate.{0}
def Iv:=@Array.forIn_toList.{0,0,0}
theorem Iw:type_of% @List.getElem?_cons_succ.{0}:=rfl
def Iy:=@Bool.not_eq_true
def Iz:=@List.take_left.{0}
def IA:=@List.set_append_right.{0}
def IB:=@List.ext_getElem?.{0}
def IC:=@Nat.one_mul
def ID:=@Nat.mod_mul
def IE:=@Int.emod_lt_of_pos
def IF:=@Int.emod_nonneg
def IG:=@List.cons_ne_nil.{0}
def IH:=@List.mapM_cons.{0,0,0}
def II:=@List.pairwise_map.{0,0}
def IJ:=@List.map_congr_left.{0,0}
def IK:=@Int.not_lt
def IL:=@List.length_filter_le.{0}
def IM:=@Nat.add_mul
def aE:=@PySem.wpAny_bind
def a_:=@PySem.wpAny_pure
def wN:=@if_true.{1}
def aU:=@if_pos.{1}
def aO:=@if_neg.{1}
def iY:=@if_false.{1}
def eP:=@decide_eq_true
def eC:=@decide_eq_false
def qm:=@beq_self_eq_true.{0}
def jH:=@PySem.wpAny_holding
def Og:=@decide_eq_true_iff
def pI:=@of_decide_eq_true
def nA:=@beq_eq_false_iff_ne.{0}
def kj:=@Classical.byContradiction
def bG:=@absurd.{0}
def mF:=@True.intro
def cg:=@eq_true
namespace Carry.Hd
open Lean Meta PySem PySem.W
abbrev kC:=@mkConst
abbrev aM:=@mkAppM
abbrev nL:=mkRawNatLit
abbrev Ex:=Lean.Expr
def fit(ds:Array (Ex×Ex×Ex)):MetaM (Array (Ex×Ex×Ex)):=do
 let cs:Std.HashSet Ex:=ds.foldl (λz d=>if d.1.isConst then z.insert d.1 else z) {}
 ds.filterM λd=>do
  let ty:=Fast.bareType (<-inferType d.1)
  return (ty.find? λy=>cs.contains y || y.isConstOf ``PySem.W.Frag).isNone
def spots(ds:Array (Ex×Ex×Ex)):Std.HashMap Ex Nat:=ds.zipIdx.foldl (λz d=>z.insert d.1.1 d.2) {}
def parts(tw:Name->MetaM Unit)(v:Ex):MetaM (Array (Ex×Ex×Ex)):=do
 for x in Fast.constsOf v do
  if let .const c _:=x then
   if((<-getEnv).getModuleIdxFor? c).isNone || (`PySem.Challenge).isPrefixOf c then tw c
 fit (<-Fast.twinsIn v)
def decl(d:Declaration):MetaM Unit:=withOptions (Elab.async.set · false) (addDecl d)
def twin:Nat->Name->MetaM Unit
 |0,_=>return
 |k+1,c=>do
  let (n,e) <-Fast.stemIn c true
  if(<-getEnv).contains e then return
  if let some none:=(<-Fast.primed.get).get? c then return
  let some (.defnInfo d):=(<-getEnv).find? c|return
  let ds <-parts (twin k) d.value
  if ds.isEmpty then
   Fast.primed.modify λz=>z.insert c none
   return
  let ix:=spots ds
  decl (.defnDecl { name:=n,levelParams:=[],type:=d.type,value:=Fast.putIn ix (λi=>ds[i]!.2.1) d.value,hints:=d.hints,safety:=.safe})
  decl (.thmDecl { name:=e,levelParams:=[],type:=<-mkEq (kC c) (kC n),value:=<-mkEqRefl (kC c)})
  Fast.primed.modify λz=>z.insert c (some (n,e))
def prep(v:Ex):MetaM (Array (Ex×Ex×Ex)):=parts (twin 9) v
def put(stem:Name)(ty v:Ex):MetaM Ex:=do
 let ds <-prep v
 let c <-defAt stem ty (Fast.putIn (spots ds) (λi=>ds[i]!.2.1) v)
 Fast.primed.modify λz=>z.insert c.constName! none
 return c
abbrev Objs:=Array (Obj×Obj×Ex)
def lay(old:Objs)(s t:Shared):MetaM Objs:=do
 let P:=kC ``Params
 unless s.heap.objs.size == t.heap.objs.size && s.toks == t.toks && toExpr s.drawn == toExpr t.drawn && toExpr s.heap.life == toExpr t.heap.life do failure
 let mut out:=#[]
 for i in [0:s.heap.objs.size] do
  let (a,b):=(s.heap.objs[i]!,t.heap.objs[i]!)
  if let some (a',b',e):=old[i]? then
   if sameObjNow a' a && sameObjNow b' b then
    out:=out.push (a',b',e)
    continue
  let v <-withLocalDeclD `P P λp=>do
   let e:=objE p a
   unless e == objE p b do failure
   mkLambdaFVars #[p] e
  out:=out.push (a,b,<-put `o (<-mkArrow P (kC ``Obj)) v)
 return out
def state(l:Bool)(old:Objs)(s t:Shared):MetaM (Objs×W.State):=do
 let P:=kC ``Params
 let os <-lay old s t
 let life:=toExpr s.heap.life
 let S:W.State:={ heap:=default,gens:=<-gensE s t,drawn:=toExpr s.drawn,toks:=nL s.toks}
 if l then
  let v <-withLocalDeclD `P P λp=>mkLambdaFVars #[p] (mkApp2 (kC ``Heap.mk) (mkApp2 (kC ``Array.mk [0]) (kC ``Obj) (listE (kC ``Obj) (os.toList.map λx=>mkApp x.2.2 p))) life)
  return (os,{ S with heap:=<-put `h (<-mkArrow P (kC ``Heap)) v})
 let v <-withLocalDeclD `P P λp=>mkLambdaFVars #[p] (treeE p (os.map (·.2.2)) 1 0)
 return (os,{ S with tree:=some (<-put `t (<-mkArrow P (kC ``BT)) v,nL s.heap.objs.size,life)})
def aux(ty pf:Ex):MetaM Ex:=do return kC (<-withOptions (Elab.async.set · false) (mkAuxLemma [] ty pf (cache:=false)))
def look:Nat->Ex->Ex->MetaM Ex
 |k,l,r=>do
  let W:=kC ``World
  let O:=kC ``OsState
  let q <-withLocalDeclD `w W λw=>withLocalDeclD `os O λos=>do
   let un (e:Ex):MetaM Ex:=do
    let e:=(mkApp2 e w os).headBeta
    if e.isAppOf ``openSeen || e.isAppOf ``openGood then return (<-unfoldDefinition? e).getD e
    return e
   let (a,b):=(<-un l,<-un r)
   unless a.isAppOfArity ``Prod.mk 4 && b.isAppOfArity ``Prod.mk 4 do return none
   let sh (e:Ex) (i:Nat):MetaM Ex:=mkLambdaFVars #[w,os] (e.getArg! i)
   return some (<-sh a 2,<-sh b 2,<-sh a 3,<-sh b 3)
  match k,q with
  |n+1,some (a1,b1,a2,b2)=>
   let (x,y):=(<-look n a1 b1,<-look n a2 b2)
   let (ty,pf) <-withLocalDeclD `w W λw=>withLocalDeclD `os O λos=>do
    return (<-mkForallFVars #[w,os] (<-mkEq (mkApp2 l w os).headBeta (mkApp2 r w os).headBeta),<-mkLambdaFVars #[w,os] (<-aM ``looks_pair #[mkApp2 x w os,mkApp2 y w os]))
   aux ty pf
  |_,_=>
   let P <-withLocalDeclD `w W λw=>do mkLambdaFVars #[w] (<-mkEq (mkApp l w).headBeta (mkApp r w).headBeta)
   discard <| prep P
   let e <-byKernelQuick P []
   withLocalDeclD `w W λw=>withLocalDeclD `os O λos=>do mkLambdaFVars #[w,os] (<-aM ``congrFun #[mkApp e w,os])
structure Ct where
 (pE m0 ann bE env cE B fp:Ex)
def nP:Nat->Ex:=nL
def cGo(c:Ct)(f:Name)(more:Array Ex)(n:Nat)(w s th:Ex):Ex:=mkAppN (kC f) (#[kC ``treeTable,c.pE,w,c.m0,c.ann]++more++#[nP n,s,th])
def cCom(c:Ct)(w:Ex):Array Ex:=#[kC ``treeTable,c.pE,w,c.m0,c.ann,c.env,c.fp]
def b3e(c:Ct)(rows:List String)(l r:Ex->Ex->MetaM Ex):MetaM Ex:=do
 discard <| prep c.pE
 discard <| prep c.env
 byPiece rows l r
def two(a b:Ex):MetaM Ex:=aM ``Prod.mk #[a,b]
def som(a:Ex):MetaM Ex:=aM ``some #[a]
def cEnds(c:Ct)(S:Ex)(pos:Pos):MetaM Ex:=do som (<-two (kC ``Flow.next) (<-two S (<-two c.cE (toExpr pos))))
def b3f(x y:Snap):List String:=(x.rows++y.rows).eraseDups
abbrev Gr:=List Ex×Nat×Snap×Snap×List String
def grp(l:Array Gr)(p:Ex×Snap×Snap):Array Gr:=
 let k:=max p.2.1.steps p.2.2.steps
 let rs:=b3f p.2.1 p.2.2
 let one:=l.push ([p.1],k,p.2.1,p.2.2,rs)
 match l.back? with
 |some (q,n,_,_,r)=>if n+k<=3000 && (r++rs).eraseDups.length<=3 then l.pop.push (q++[p.1],n+k,p.2.1,p.2.2,(r++rs).eraseDups) else one
 |none=>one
abbrev Cur:=Objs×W.State×Pos
abbrev Lm:=Ex×Nat×W.State×Pos×W.State×Pos×Ex
def one:Array Ex:=#[nP 1]
def cStep(c:Ct)(p:Gr)(q:Cur):MetaM (Cur×Lm):=do
 let T:=kC ``Stmt
 let stE <-defAt `st (mkApp (kC ``List [0]) T) (listE T p.1)
 discard <| prep stE
 let x:=p.2.2.1
 let n:=p.2.1.succ
 let S <-state false q.1 x.s p.2.2.2.1.s
 let th:=mkAppN (kC ``piecesOf) #[stE,c.env,c.cE,toExpr q.2.2,c.B]
 let h <-b3e c p.2.2.2.2 (λw os=>pure (cGo c ``segRunT one n w (q.2.1.atT w os) th)) λw os=>cEnds c (S.2.atT w os) x.pos
 return ((S.1,S.2,x.pos),stE,n,q.2.1,q.2.2,S.2,x.pos,<-liftT h ``segRun_of)
def cWalk(c:Ct):List Gr->Cur->List Lm->MetaM (Cur×List Lm)
 |[],q,ls=>return (q,ls)
 |p::r,q,ls=>do
  let x <-cStep c p q
  cWalk c r x.1 (x.2::ls)
def cf(w os l:Ex):MetaM Ex:=aM ``congrFun #[mkApp l w,os]
def add(n:Nat)(M:Ex):Ex:=mkApp2 (kC ``Nat.add) (nP n) M
def cApp(c:Ct)(w os r:Ex):List Lm->Ex->Ex->Ex->MetaM (Ex×Ex)
 |[],_,M,k=>return (M,k)
 |(st,n,S1,p1,S,p2,h)::l,t,M,k=>do
  cApp c w os r l (<-aM ``HAppend.hAppend #[st,t]) (add n M) (mkAppN (kC ``piece_app) (cCom c w++#[nP n,M,S1.at w os,S.at w os,r,st,t,c.cE,toExpr p1,toExpr p2,<-cf w os h,k]))
def envAt(s:Scope)(v:Value)(f:Addr):Env:={ scope:=s,locals:=mainNs,globals:=mainNs,cells:=[],code:=v,frame:=some f}
def ctx(pE:Ex)(t:Trace):MetaM (Ct×List Ex):=do
 let bE <-aM ``behindTheImports #[pE]
 let some cells <-cellsD? bE|failure
 let m <-aM ``Program.main #[pE]
 let some env0 <-unfoldDefinition? (mkApp3 (kC ``envAt) (<-aM ``Module.scope #[m]) (toExpr t.code) (toExpr t.frame))|failure
 let env <-defAt `env (kC ``Env) env0
 let fp:=toExpr t.framePos
 return (⟨pE,nP t.s0.heap.objs.size,toExpr t.ann,bE,env,mkApp2 (kC ``Code.body) bE env,listE (kC ``Frame) [mkApp (kC ``topFrame) fp],fp⟩,cells)
def d3l(pE N:Ex):MetaM Ex:=do
 let op <-aM ``opening #[pE]
 let e1 <-aux (<-mkEq op (mkApp (kC ``plainProg) (<-aM ``Scope.names #[<-aM ``Module.scope #[<-aM ``Program.main #[pE]]]))) (<-mkEqRefl op)
 let e2 <-withLocalDeclD `s (kC ``Shared) λs=>do
  let r <-som s
  aux (<-mkForallFVars #[s] (<-mkEq (mkApp2 (kC ``fenceModules?) pE s) r)) (<-mkLambdaFVars #[s] (<-mkEqRefl r))
 return mkAppN (kC ``boot_open) #[pE,N,e1,<-mkDecideProof (<-mkEq (mkApp2 (kC ``Nat.ble) (nP 600) N) (kC ``Bool.true)),e2]
def thr(l:List Ex):Ex:=mkAppN (kC ``Thread.mk) l.toArray
def cRun(c:Ct)(t t':Trace)(cells:List Ex)(S0:W.State):MetaM (W.State×Ex×Ex):=do
 let o:=(Array.range t.s0.heap.objs.size).map λi=>(t.s0.heap.objs[i]!,t'.s0.heap.objs[i]!,kC ((`PySem.W).str s!"boot_o_{i}"))
 let A <-state true o t.pre.s t'.pre.s
 let pp:=toExpr t.pre.pos
 let thA:=thr [mkApp2 (kC ``denote) (kC ``treeTable) c.cE,c.cE,pp,c.B]
 let stub:=mkApp (kC ``topStub) c.pE
 let pre <-b3e c (b3f t.pre t'.pre) (λw os=>pure (cGo c ``topGo #[] t.pre.steps w (S0.at w os) stub)) λw os=>do som (<-two (A.2.at w os) thA)
 let B <-state false A.1 t.block.s t'.block.s
 let block <-b3e c (b3f t.block t'.block) (λw os=>pure (cGo c ``segRun one t.block.steps.succ w (A.2.at w os) (mkAppN (kC ``blockOf) #[c.bE,c.env,c.cE,pp,c.B]))) λw os=>cEnds c (B.2.at w os) t.block.pos
 let q <-cWalk c ((cells.zip (t.pieces.zip t'.pieces)).foldl grp #[]).toList (B.1,B.2,t.block.pos) []
 let F <-state true q.1.1 t.fin.s t'.fin.s
 let F:=F.2
 let n:=t.fin.steps.succ
 let fin <-b3e c (b3f t.fin t'.fin) (λw os=>pure (cGo c ``topRun #[] n w (q.1.2.1.at w os) (thr [mkApp (kC ``doneF) (kC ``Flow.next),c.cE,toExpr q.1.2.2,c.B]))) λw os=>som (F.at w os)
 withLocalDeclD `w (kC ``World) λw=>withLocalDeclD `os (kC ``OsState) λos=>do
  let r:=F.at w os
  let (M,k) <-cApp c w os r q.2 (listE (kC ``Stmt) []) (nP n) (<-cf w os fin)
  let b:=t.block.steps.succ
  let k:=mkAppN (kC ``piece_block) (cCom c w++#[nP b,M,A.2.at w os,B.2.at w os,r,c.bE,c.cE,pp,toExpr t.block.pos,<-cf w os block,k])
  let M:=add b M
  let k:=mkAppN (kC ``go_top) #[kC ``treeTable,c.pE,w,c.m0,c.ann,nP t.pre.steps,M,S0.at w os,A.2.at w os,r,stub,thA,<-cf w os pre,k]
  let M:=add t.pre.steps M
  return (F,M,<-aux (<-mkForallFVars #[w,os] (<-mkEq (mkAppN (kC ``topRun) #[kC ``treeTable,c.pE,w,c.m0,c.ann,M,S0.at w os,stub]) (<-som r))) (<-mkLambdaFVars #[w,os] k))
def left(g:MVarId)(pE:Ex)(p:Program)(_:List String):MetaM Unit:=g.withContext do
 let a:=(<-instantiateMVars (<-g.getType)).consumeMData.getAppArgs
 let some N <-(Meta.evalNat a[7]!).run|failure
 let (.ok t,.ok t'):=(<-traceTop p N 1,<-traceTop p N 2)|failure
 let (c,cells) <-ctx pE t
 let S0:W.State:={ heap:=kC ``boot_heap,gens:=mkApp2 (kC ``Array.mk [0]) (kC ``GenState) (mkApp (kC ``List.nil [0]) (kC ``GenState)),drawn:=kC ``boot_drawn,toks:=kC ``boot_toks}
 let (Sf,M,run) <-cRun c t t' cells S0
 let lem:=kC ``LeftO.of_pieces
 let (ms,_,_) <-forallMetaTelescope (<-inferType lem)
 let vs:=#[pE]++(Array.range 8).map (λi=>a[i+1]!)++#[S0.heap,Sf.heap,S0.gens,Sf.gens,S0.drawn,Sf.drawn,S0.toks,Sf.toks,c.m0,c.ann,M]
 for (m,v) in ms.zip vs do m.mvarId!.assign v
 let want (i:Nat):MetaM Ex:=do instantiateMVars (<-inferType ms[i]!)
 let .forallE n1 d1 b1 i1 <-want 21|failure
 let .forallE _ _ bl _ <-want 24|failure
 let h <-withLocalDeclD `w (kC ``World) λw=>do
  let some (_,l,r):=(bl.instantiate1 w).eq?|failure
  look 12 (<-mkLambdaFVars #[w] l) (<-mkLambdaFVars #[w] r)
 let looks <-withLocalDeclD `w (kC ``World) λw=>do
  let f <-withLocalDeclD `os (kC ``OsState) λos=>mkLambdaFVars #[os] (mkApp2 h w os)
  mkLambdaFVars #[w] (<-aM ``funext #[f])
 g.assign (mkAppN lem (vs++#[<-d3l pE a[7]!,<-byKernelQuick (.lam n1 d1 b1 i1) [],run,<-mkDecideProof (<-want 23),looks]))
simproc_decl hd0 (PySem.W.OpenLaw.Holds _):=λe=>do
 if let .const (.str p s) _:=e.appArg! then twin 9 (p.str ("p"++(s.drop 1).toString))
 return .continue
simproc_decl hd (PySem.W.OpenRow.Holds _):=λ_=>do
 PySem.W.leftPieces.set (some left)
 return .continue
end Carry.Hd
noncomputable section
set_option Elab.async false
set_option maxRecDepth 100000
set_option tactic.hygienic false
abbrev ai:=@PySem.Value
abbrev au:=@PySem.Shared
abbrev aj:=@PySem.Addr
abbrev ql:=@PySem.SetTable
abbrev ah:=@Option.{0}
abbrev jF:=@PySem.FuncData
abbrev cy:=@PySem.Around
abbrev cL:=@PySem.Program
abbrev lR:=@PySem.NameKind
abbrev bJ:=@PySem.Heap
abbrev bX:=@PySem.World
abbrev aH:=@PySem.W.Frag
abbrev eU:=@PySem.W.Frag
namespace L2
open PySem PySem.Spec PyProof.Rows
def nO{p:Prop}{b:Bool}(h:b=false)(n:¬p):b=true↔p:=⟨λe=>(nomatch h.symm.trans e),λe=>(n e).elim⟩
def kY{p:Prop}(h:(p->False)->False):p:=kj h
abbrev Key:=Sum Int Str
noncomputable def tM:Key->ai->Bool
 |.inl k,v=>Value.isInt k v
 |.inr x,v=>Value.isStrOf x v
noncomputable def GZ(w:bX):Key->Int
 |.inl k=>hashInt k
 |.inr x=>hashStr w x
theorem um:∀{k:Key} {v:ai},tM k v=true->(∃i t,k=Sum.inl i/\v=Value.int i t)\/(∃x t,k=Sum.inr x/\v=Value.str x t)
 |.inl i,v,h=>by
  obtain⟨t,e⟩:=Value.isInt_shape (k:=i) (v:=v) h;exact .inl ⟨i,t,rfl,e⟩
 |.inr x,v,h=>by
  obtain⟨t,e⟩:=Value.isStrOf_shape (x:=x) (v:=v) h;exact .inr ⟨x,t,rfl,e⟩
def U5(a b:Int):decide ((Sum.inl a:Key)=Sum.inl b)=(a == b):=by
 by_cases e:a=b
 .subst e;simp
 .have h:¬(Sum.inl a:Key)=Sum.inl b:=λq=>e (Sum.inl.inj q)
  rw[eC h];exact(nA.mpr e).symm
def U6(a b:Str):decide ((Sum.inr a:Key)=Sum.inr b)=decide (a=b):=by
 by_cases e:a=b
 .subst e;simp
 .have h:¬(Sum.inr a:Key)=Sum.inr b:=λq=>e (Sum.inr.inj q)
  rw[eC h,eC e]
def U7(a:Int)(b:Str):decide ((Sum.inl a:Key)=Sum.inr b)=false:=eC (λq=>nomatch q)
def U8(a:Str)(b:Int):decide ((Sum.inr a:Key)=Sum.inl b)=false:=eC (λq=>nomatch q)
def EH(prog:cL)(w:bX):PySem.KeyKind prog w Key where
 is:=tM
 hash:=GZ w
 inj:=λv a b ha hb=>by
  grind [um]
 byValue:=λk v h=>by
  rcases um h with⟨i,t,rfl,rfl⟩|⟨x,t,rfl,rfl⟩ <;> rfl
 pyHash:=λhv h=>by
  rcases um hv with⟨i,t,rfl,rfl⟩|⟨x,t,rfl,rfl⟩
  .exact wpAny_pyHash_int h
  .exact wpAny_pyHash_str h
 eqBool:=λhu hv h=>by
  rcases um hu with⟨i,t,rfl,rfl⟩|⟨x,t,rfl,rfl⟩
  .rcases um hv with⟨j,u,rfl,rfl⟩|⟨y,u,rfl,rfl⟩
   .rw[U5] at h;exact wpAny_eqBool_int h
   .rw[U7] at h;exact SeqAt.EqAt.int_str i t y u _ _ _ _ h
  .rcases um hv with⟨j,u,rfl,rfl⟩|⟨y,u,rfl,rfl⟩
   .rw[U8] at h;exact SeqAt.EqAt.str_int x t j u _ _ _ _ h
   .rw[U6] at h;exact wpAny_eqBool_str h
 «strs»:=λk x t v h=>by
  rcases um h with⟨i,u,rfl,e⟩|⟨y,u,rfl,e⟩
  .exact nomatch e
  .injection e with e1 _;subst e1;cases v <;> rfl
inductive V where
 |aR|bl (b:Bool)|int (i:Int)|str (x:Str)|uR (b:Array UInt8)|zX (b:UInt64)|ref (a:aj)|ty (n:String)
 deriving DecidableEq
def RelV:V->ai->Prop
 |.aR,u=>u=Value.none
 |.bl b,u=>u=Value.bool b
 |.int i,u=>∃t,u=Value.int i t
 |.str x,u=>∃t,u=Value.str x t
 |.uR b,u=>∃t,u=Value.bytes b t
 |.zX b,u=>∃t,u=Value.float b t
 |.ref a,u=>u=Value.ref a
 |.ty n,u=>u=Value.type n
abbrev Vals:List V->List ai->Prop:=Paired RelV
theorem Vals.length{xs:List V}{us:List ai}(r:Vals xs us):xs.length=us.length:=Paired.length r
theorem Vals.get:∀{xs:List V} {us:List ai} {i:Nat} {x:V},Vals xs us->xs[i]?=some x->∃u,us[i]?=some u/\RelV x u
 |_,_,_,_,.nil,e=>by simp at e
 |_,_,0,_,.cons r _,e=>by simp at e;subst e;exact⟨_,rfl,r⟩
 |_,_,i+1,x,.cons _ t,e=>by
  obtain⟨u,h1,h2⟩:=Vals.get (i:=i) (x:=x) t (by simpa using e)
  exact⟨u,by simpa using h1,h2⟩
theorem Vals.set{x:V}{u:ai}(r:RelV x u):∀{xs:List V} {us:List ai} (i:Nat),Vals xs us->Vals (xs.set i x) (us.set i u)
 |_,_,_,.nil=>.nil
 |_,_,0,.cons _ t=>.cons r t
 |_,_,i+1,.cons q t=>.cons q (Vals.set r i t)
def Vals.append{xs ys:List V}{us ws:List ai}(h:Vals xs us)(s:Vals ys ws):Vals (xs++ys) (us++ws):=by
 induction h with
 |nil=>exact s
 |cons r t ih=>exact .cons r ih
theorem Vals.take:∀{xs:List V} {us:List ai} (n:Nat),Vals xs us->Vals (xs.take n) (us.take n)
 |_,_,0,_=>.nil
 |_,_,_+1,.nil=>.nil
 |_,_,n+1,.cons r t=>.cons r (Vals.take n t)
theorem Vals.drop:∀{xs:List V} {us:List ai} (n:Nat),Vals xs us->Vals (xs.drop n) (us.drop n)
 |_,_,0,r=>r
 |_,_,_+1,.nil=>.nil
 |_,_,n+1,.cons _ t=>Vals.drop n t
def kq:ah V->ah ai->Prop
 |some v,some u=>RelV v u
 |none,none=>True
 |_,_=>False
def KV{κ:Type}:List (κ×V)->List (κ×ai)->Prop:=Paired λ(p:κ×V) (q:κ×ai)=>p.1=q.1/\RelV p.2 q.2
def kV:Key->V
 |.inl i=>.int i
 |.inr x=>.str x
inductive TK where
 |inl (i:Int)|inr (x:Str)|tp (l:List TK)|aR
mutual
def TK.beq:TK->TK->Bool
 |.inl a,.inl b=>decide (a=b)
 |.inr a,.inr b=>decide (a=b)
 |.tp l,.tp m=>TK.qK l m
 |.aR,.aR=>true
 |_,_=>false
def TK.qK:List TK->List TK->Bool
 |[],[]=>true
 |a::l,b::m=>TK.beq a b&&TK.qK l m
 |_,_=>false
end
mutual
theorem TK.beq_iff:∀a b:TK,TK.beq a b=true↔a=b
 |.inl a,.inl b=>⟨λe=>by rw[pI (show decide (a=b)=true from e)],λe=>by cases e;exact eP rfl⟩
 |.inr a,.inr b=>⟨λe=>by rw[pI (show decide (a=b)=true from e)],λe=>by cases e;exact eP rfl⟩
 |.tp l,.tp m=>⟨λe=>by rw[(TK.iu l m).mp e],λe=>by cases e;exact(TK.iu l l).mpr rfl⟩
 |.inl _,.inr _=>nO rfl λe=>nomatch e
 |.inl _,.tp _=>nO rfl λe=>nomatch e
 |.inr _,.inl _=>nO rfl λe=>nomatch e
 |.inr _,.tp _=>nO rfl λe=>nomatch e
 |.tp _,.inl _=>nO rfl λe=>nomatch e
 |.tp _,.inr _=>nO rfl λe=>nomatch e
 |.aR,.aR=>⟨λ_=>rfl,λ_=>rfl⟩
 |.aR,.inl _=>nO rfl λe=>nomatch e
 |.aR,.inr _=>nO rfl λe=>nomatch e
 |.aR,.tp _=>nO rfl λe=>nomatch e
 |.inl _,.aR=>nO rfl λe=>nomatch e
 |.inr _,.aR=>nO rfl λe=>nomatch e
 |.tp _,.aR=>nO rfl λe=>nomatch e
theorem TK.iu:∀l m:List TK,TK.qK l m=true↔l=m
 |[],[]=>⟨λ_=>rfl,λ_=>rfl⟩
 |a::l,b::m=>by show(TK.beq a b&&TK.qK l m)=true↔_;rw[m6,TK.beq_iff a b,TK.iu l m];exact⟨λe=>by rw[e.1,e.2],λe=>by cases e;exact⟨rfl,rfl⟩⟩
 |[],_::_=>nO rfl λe=>nomatch e
 |_::_,[]=>nO rfl λe=>nomatch e
end
instance:DecidableEq TK:=λa b=>decidable_of_iff _ (TK.beq_iff a b)
mutual
def TK.hash(w:bX):TK->Int
 |.inl i=>hashInt i
 |.inr x=>hashStr w x
 |.tp l=>reduceHash (Builtin.Tuple.tupleHashOf (TK.dm w l))
 |.aR=>4238894112
def TK.dm(w:bX):List TK->List Int
 |[]=>[]
 |a::l=>TK.hash w a::TK.dm w l
end
noncomputable def TK.ok:Nat->TK->Bool
 |n+1,.tp l=>l.all (TK.ok n)
 |0,.tp _=>false
 |_,_=>true
def gG(w:bX)(e:TK×V×V)(x:DictEntry):Prop:=x.hash=e.1.hash w/\RelV e.2.1 x.key/\RelV e.2.2 x.val/\e.1.ok 8=true
inductive HO where
  |lst (xs:List V)
  |tup (xs:List V)
  |dK (kvs:List (Key×V))|dT (kvs:List (List Key×V))
  |dG (es:List (TK×V×V)) (ep:Nat)
  |set (S:Int->Bool) (n:Nat)
  |ins (C dx:aj) (fs:List (Str×V))
  |own (x:aj)
  |xd (fs:List (Str×V))
  |met (f x:aj)
  |Hz (lo hi:Int)
  |Y (o:Obj) (u:HO)
  |wo (ps:Array ai)
  |ext (φ:bJ->Prop)
abbrev Hp:=aj->ah HO
noncomputable def upd(H:Hp)(a:aj)(o:HO):Hp:=λb=>if b=a then some o else H b
theorem aN{H:Hp}{a:aj}{o:HO}:upd H a o a=some o:=by unfold upd;rw[aU rfl]
theorem dj{H:Hp}{a b:aj}{o:HO}(h:b≠a):upd H a o b=H b:=by unfold upd;rw[aO h]
def RT{H:Hp}{a:aj}{o u:HO}:upd (upd H a o) a u=upd H a u:=by
 funext b;unfold upd;split <;> rfl
def nM{H:Hp}{a b:aj}{o:HO}(h:H a=some o)(h':H b=none):a≠b:=by
 lia
section
variable(P:cL)(w:bX)
def cu(H:Hp)(h:bJ)(a:aj):HO->Prop
 |.lst xs=>xs.length<=sizeLine/\∃(aA:List ai) (n:Nat),Vals xs aA/\h.get? a=some { cls:=.type "list",data:=.seq aA.toArray n}
 |.tup xs=>xs.length<=sizeLine/\∃aA:List ai,Vals xs aA/\IsTup h a aA.toArray
 |.dK kvs=>kvs.length<=sizeLine/\(a == sysModules)=false/\∃vs,KV kvs vs/\h.DictOf (EH P w) a vs
 |.dT kvs=>kvs.length<=sizeLine/\(a == sysModules)=false/\∃xs:List (List Key×aj×ai),
   Paired (λ(p:List Key×V) (q:List Key×aj×ai)=>p.1=q.1/\H q.2.1=some (.tup (p.1.map kV))/\RelV p.2 q.2.2) kvs xs/\
   ∃o es ep,h.get? a=some o/\o.ExactDict/\o.data=.dict es ep/\es.toList=xs.map (entryOfKey (tupleKind (EH P w)))/\(xs.map (·.1)).Nodup
 |.dG es ep=>es.length<=sizeLine/\(a == sysModules)=false/\∃o xs,h.get? a=some o/\o.ExactDict/\o.data=.dict xs ep/\Paired (gG w) es xs.toList/\(es.map (·.1)).Nodup
 |.set S n=>h.SetOf (intKind P w) a S n
 |.ins C dx fs=>H dx=some (.own a)/\fs.length<=1000/\dx≠a/\h.get? a=some (PySem.W.instObj C dx)/\
   ∃mA,h.Ns1 dx mA/\(∀f,kq (fs.lookup f) (mA f))/\PySem.Within mA (fs.map (·.1))
 |.own _=>∃o,h.get? a=some o
 |.xd fs=>∃mA,h.Ns1 a mA/\∀f,kq (fs.lookup f) (mA f)
 |.Hz lo hi=>∃t u v,h.get? a=some { cls:=.type "range",data:=.fields #[.int lo t,.int hi u,.int 1 v]}
 |.Y o u=>h.get? a=some o/\cu H h a u
 |.wo ps=>h.get? a=some { cls:=.none,data:=.fields ps}
 |.met f x=>h.get? a=some (PySem.W.methodObj (.ref f) (.ref x))
 |.ext φ=>φ h/\(∃o,h.get? a=some o)/\∀h1 h2:bJ,φ h1->(∀o,h1.get? a=some o->h2.get? a=some o)->φ h2
def gu(H:Hp)(h:bJ):Prop:=∀a o,H a=some o->cu P w H h a o
end
section
variable{P:cL}{w:bX}{H H':Hp}{h h':bJ}{a:aj}{o:HO}
theorem cu.lt(x:cu P w H h a o):a<h.objs.size:=by
 cases o with
 |lst xs=>obtain⟨_,_,_,_,e⟩:=x;exact cQ e
 |tup xs=>obtain⟨_,_,_,p⟩:=x;exact p.lt
 |dK kvs=>obtain⟨_,_,_,_,o,_,_,e,_⟩:=x;exact cQ e
 |dT kvs=>obtain⟨_,_,_,_,o,_,_,e,_⟩:=x;exact cQ e
 |dG es ep=>obtain⟨_,_,o,_,e,_⟩:=x;exact cQ e
 |set S n=>obtain⟨o,_,_,_,e,_⟩:=x;exact cQ e
 |ins C dx fs=>obtain⟨_,_,_,e,_⟩:=x;exact cQ e
 |own y=>obtain⟨_,e⟩:=x;exact cQ e
 |xd fs=>obtain⟨_,⟨_,_,_,e,_⟩,_⟩:=x;exact cQ e
 |Hz lo hi=>obtain⟨_,_,_,e⟩:=x;exact cQ e
 |Y ob u=>obtain⟨e,_⟩:=x;exact cQ e
 |wo ps=>exact cQ (show h.get? a=some _ from x)
 |met f y=>exact cQ (show h.get? a=some _ from x)
 |ext φ=>obtain⟨_,⟨_,e⟩,_⟩:=x;exact cQ e
def Paired.AJ{α β:Type}{F G:α->β->Prop}{l₁:List α}{l₂:List β}(h:Paired F l₁ l₂)(f:∀a b,F a b->G a b):Paired G l₁ l₂:=by
 induction h with
 |nil=>exact .nil
 |cons r t ih=>exact .cons (f _ _ r) ih
def cu.j8(x:cu P w H h a o)(k:∀b u,(b=a\/H b=some (.own a))->h.get? b=some u->h'.get? b=some u)
  (ho:∀b,H b=some (.own a)->H' b=some (.own a)) (ht:∀b xs,H b=some (.tup xs)->H' b=some (.tup xs)):cu P w H' h' a o:=by
 induction o with
 |lst xs=>obtain⟨z,aA,n,r,e⟩:=x;exact⟨z,aA,n,r,k _ _ (.inl rfl) e⟩
 |tup xs=>obtain⟨z,aA,r,ob,e,c⟩:=x;exact⟨z,aA,r,ob,k _ _ (.inl rfl) e,c⟩
 |dK kvs=>obtain⟨z,y,vs,r,ob,es,ep,e,c⟩:=x;exact⟨z,y,vs,r,ob,es,ep,k _ _ (.inl rfl) e,c⟩
 |dT kvs=>
  obtain⟨z,y,xs,r,ob,es,ep,e,c⟩:=x;exact⟨z,y,xs,Paired.AJ r λp q z=>⟨z.1,ht _ _ z.2.1,z.2.2⟩,ob,es,ep,k _ _ (.inl rfl) e,c⟩
 |dG es ep=>obtain⟨z,y,ob,xs,e,c⟩:=x;exact⟨z,y,ob,xs,k _ _ (.inl rfl) e,c⟩
 |set S n=>obtain⟨ob,es,ep,t,e,c⟩:=x;exact⟨ob,es,ep,t,k _ _ (.inl rfl) e,c⟩
 |ins C dx fs=>
  obtain⟨d,z,ne,e,mA,⟨od,es,ep,e2,c⟩,r⟩:=x;exact⟨ho _ d,z,ne,k _ _ (.inl rfl) e,mA,⟨od,es,ep,k _ _ (.inr d) e2,c⟩,r⟩
 |own y=>obtain⟨ob,e⟩:=x;exact⟨ob,k _ _ (.inl rfl) e⟩
 |xd fs=>obtain⟨mA,⟨od,es,ep,e,c⟩,r⟩:=x;exact⟨mA,⟨od,es,ep,k _ _ (.inl rfl) e,c⟩,r⟩
 |Hz lo hi=>obtain⟨t,u,v,e⟩:=x;exact⟨t,u,v,k _ _ (.inl rfl) e⟩
 |Y ob u ih=>obtain⟨e,q⟩:=x;exact⟨k _ _ (.inl rfl) e,ih q⟩
 |wo ps=>
  have e:h.get? a=some { cls:=.none,data:=.fields ps}:=x;show h'.get? a=some { cls:=.none,data:=.fields ps};exact k a _ (.inl rfl) e
 |met f y=>
  have e:h.get? a=some (PySem.W.methodObj (.ref f) (.ref y)):=x;show h'.get? a=some (PySem.W.methodObj (.ref f) (.ref y));exact k a _ (.inl rfl) e
 |ext φ=>obtain⟨p,⟨o,e⟩,st⟩:=x;exact⟨st _ _ p λo q=>k _ _ (.inl rfl) q,⟨o,k _ _ (.inl rfl) e⟩,st⟩
theorem gu.lt(x:gu P w H h)(e:H a=some o):a<h.objs.size:=(x a o e).lt
def gu.fresh(x:gu P w H h)(e:h.objs.size<=a):H a=none:=by
 cases q:H a with
 |none=>rfl
 |some u=>exact bG (eO (x.lt q) e) (jl _)
def gu.kept(x:gu P w H h)(k:∀b u,h.get? b=some u->h'.get? b=some u):gu P w H h':=λa o e=>
 (x a o e).j8 (λb u _ q=>k b u q) (λ_ q=>q) λ_ _ q=>q
def gu.laid(x:gu P w H h)(k:∀b u,h.get? b=some u->h'.get? b=some u)(hp:h.objs.size<=a)(new:cu P w (upd H a o) h' a o):gu P w (upd H a o) h':=λb u e=>by
 have hn:=x.fresh hp;by_cases hb:b=a
 .subst hb;rw[aN] at e;cases e;exact new
 .rw[dj hb] at e;exact(x b u e).j8 (λc v _ q=>k c v q) (λc q=>by rw[dj (nM q hn)];exact q) λc xs q=>by rw[dj (nM q hn)];exact q
end
def Rd(H:Hp)(a:aj)(u:HO):Prop:=H a=some u\/∃o,H a=some (.Y o u)
def Rd.ok{P:cL}{w:bX}{H:Hp}{h:bJ}{a:aj}{u:HO}(r:Rd H a u)(x:gu P w H h):cu P w H h a u:=by
 rcases r with r|⟨o,r⟩
 .exact x a u r
 .obtain⟨_,q⟩:=x a _ r;exact q
def yC:ah HO->Prop
 |some (.lst _)=>True
 |some (.dK _)=>True
 |some (.dT _)=>True
 |some (.dG _ _)=>True
 |some (.set _ _)=>True
 |some (.ins _ _ _)=>True
 |some (.ext _)=>True
 |_=>False
section
variable{P:cL}{w:bX}{H:Hp}{h h':bJ}{x e:aj}{o':HO}
def gu.write(ok:gu P w H h)(mu:yC (H x))(he:e=x\/H e=some (.own x))(k:∀b u,b≠e->h.get? b=some u->h'.get? b=some u)(xY:∃u,h'.get? e=some u)
  (new:cu P w (upd H x o') h' x o'):gu P w (upd H x o') h':=λb u q=>by
 have Hi:∀c y,H c=some (.own y)->c≠x:=λc y r z=>by subst z;rw[r] at mu;exact mu
 have Hj:∀c xs,H c=some (.tup xs)->c≠x:=λc xs r z=>by subst z;rw[r] at mu;exact mu
 by_cases hb:b=x
 .grind [aN]
 .rw[dj hb] at q;by_cases xW:b=e
  .have q':H b=some (.own x):=by
    rcases he with z|z
    .exact bG (xW.trans z) hb
    .rw[xW];exact z
   rw[q] at q';cases q';obtain⟨v,hv⟩:=xY;exact⟨v,by rw[xW];exact hv⟩
  .refine(ok b u q).j8 (λc v hc r=>k c v ?_ r) (λc r=>by rw[dj (Hi c b r)];exact r) λc xs r=>by rw[dj (Hj c xs r)];exact r
   grind
end
structure Un (fs ex:List aj) (H H':Hp) (h h':bJ):Prop where
 keep:∀b o,h.get? b=some o->H b=none->b∉fs->b∉ex->h'.get? b=some o
 slot:∀b o,h.get? b=some o->H b=none->b∈fs->b∉ex->∃sl,h'.get? b=some { o with slots:=sl}
 free:∀b o,h.get? b=some o->H b=none->b∉ex->H' b=none
 there:∀b o,h.get? b=some o->b∉ex->∃o',h'.get? b=some o'
 jk:∀b xs,H b=some (.tup xs)->H' b=some (.tup xs)
 iA:∀b o u,H b=some (.Y o u)->H' b=some (.Y o u)
 jj:∀b ps,H b=some (.wo ps)->∃more,H' b=some (.wo (ps++more))
section
variable{fs Ym ex ex':List aj}{H H1 H2:Hp}{h h1 h2 h':bJ}{a x e:aj}{o:HO}
def Un.any(u:Un fs ex H H1 h h1){b:aj}{ob:Obj}(q:h.get? b=some ob)(n:H b=none)(hx:b∉ex):∃sl,h1.get? b=some { ob with slots:=sl}:=by
 by_cases hb:b∈fs
 .exact u.slot b ob q n hb hx
 .exact⟨ob.slots,u.keep b ob q n hb hx⟩
def Un.kept(k:∀b u,h.get? b=some u->h'.get? b=some u):Un fs ex H H h h':=
 ⟨λb ob q _ _ _=>k b ob q,λb ob q _ _ _=>⟨ob.slots,k b ob q⟩,λ_ _ _ n _=>n,λb ob q _=>⟨ob,k b ob q⟩,λ_ _ q=>q,λ_ _ _ q=>q,λ_ ps q=>⟨#[],by rw[q];simp⟩⟩
def Un.refl:Un fs ex H H h h:=Un.kept λ_ _ q=>q
def Un.laid(k:∀b u,h.get? b=some u->h'.get? b=some u)(hp:h.objs.size<=a)(hn:H a=none):Un fs ex H (upd H a o) h h' where
 keep:=λb u q _ _ _=>k b u q
 slot:=λb u q _ _ _=>⟨u.slots,k b u q⟩
 free:=λb u q n _=>by rw[dj (iP (eO (cQ q) hp))];exact n
 there:=λb u q _=>⟨u,k b u q⟩
 jk:=λb xs q=>by rw[dj (nM q hn)];exact q
 iA:=λb u xs q=>by rw[dj (nM q hn)];exact q
 jj:=λb ps q=>⟨#[],by rw[dj (nM q hn),q];simp⟩
def Un.write(mu:yC (H x))(he:e=x\/H e=some (.own x))(k:∀b u,b≠e->h.get? b=some u->h'.get? b=some u)(xY:∃u,h'.get? e=some u):Un fs ex H (upd H x o) h h':=by
 have hx:∀b,H b=none->b≠x:=λb n z=>by subst z;rw[n] at mu;exact mu
 have hb:∀b,H b=none->b≠e:=λb n z=>by
  subst z;rcases he with r|r
  .exact hx b n r
  .rw[n] at r;cases r
 have hm:∀b u,H b=some u->¬yC (some u)->b≠x:=λb u q nm z=>by subst z;rw[q] at mu;exact nm mu
 refine⟨λb u q n _ _=>k b u (hb b n) q,λb u q n _ _=>⟨u.slots,k b u (hb b n) q⟩,λb u q n _=>by rw[dj (hx b n)];exact n,λb u q _=>?_,
  λb xs q=>by rw[dj (hm b _ q λz=>z)];exact q,λb u xs q=>by rw[dj (hm b _ q λz=>z)];exact q,λb ps q=>⟨#[],by rw[dj (hm b _ q λz=>z),q];simp⟩⟩
 by_cases xW:b=e
 .subst xW;exact xY
 .exact⟨u,k b u xW q⟩
end
noncomputable def DI(h:bJ)(H:Hp):List aj:=(List.range h.objs.size).filter λa=>(H a).isSome
def jT(h:bJ)(H:Hp):bJ:=PySem.W.hideAll h (DI h H)
def O9(h:bJ)(H:Hp):(jT h H).objs.size=h.objs.size:=PySem.W.hideAll_size _ _
def Qo{h:bJ}{H:Hp}{b:aj}{o:Obj}(e:h.get? b=some o)(n:H b=none):(jT h H).get? b=some o:=
 PySem.W.hideAll_get _ e λhm=>by
  have q:(H b).isSome=true:=(gf.mp hm).2;rw[n] at q;simp at q
def RU{h:bJ}{H:Hp}{b:aj}{o:Obj}(e:(jT h H).get? b=some o):h.get? b=some o/\H b=none:=by
 have e':h.get? b=some o:=PySem.W.of_hideAll (DI h H) e;refine⟨e',?_⟩;cases q:H b with
 |none=>rfl
 |some x=>
  have hm:b∈DI h H:=gf.mpr ⟨k6.mpr (cQ e'),by simp[q]⟩
  have z:(jT h H).get? b=none:=PySem.W.hideAll_none (DI h H) hm;rw[z] at e;cases e
variable{s:au}{t' i:Nat}{ch:List aj}{x:Str}{M:Model}{A:cy}{E:ai->au->Prop}{v:V}{u:ai}{Q:Unit->au->Prop}
structure Mod (K:aH) (mg:Str->ah ai) (base:bJ):Prop where
 Dx:K.In base
 glob:base.Ns mainGlobals mg
 blt:∃mb,base.Ns builtinsNs mb/\∀x:Str,x≠"__name__"->mb x=bootBuiltins x
 nolimit:base.NoLimit
set_option genInjectivity false in
structure Cx where
 prog:cL
 w:bX
 K:aH
 mg:Str->ah ai
 base:bJ
 A:cy
 N:List Str
 s₀:au
 H₀:Hp
 env:Env
 outer:List Env
 stack:List Env
 ex:List aj
 fn:Str->Bool
 calm:Bool
 pn:List (aj×Obj)
 xe:ai->au->Prop
variable{X:Cx}
abbrev mX(X:Cx):=model X.prog X.w
noncomputable def i9(l:List Env):List aj:=l.filterMap (·.frame)
abbrev Cx.fs(X:Cx):List aj:=i9 X.outer
def BL(sc:Scope)(x:Str):Prop:=sc.names.lookup x=some .local \/ sc.names.lookup x=some .cell\/sc.names.lookup x=some .free
def Loc(sc:Scope)(x:Str):Prop:=sc.names.lookup x=some .local \/ sc.names.lookup x=some .cell
def Look(env:Env)(h:bJ)(m:Str->ah ai)(x:Str)(u:ai):Prop:=
 (env.kindOf x=some .local /\ m x=some u)\/((env.kindOf x=some .cell\/env.kindOf x=some .free)/\∃c,env.cells.lookup x=some c/\h.IsCell c (some u))
structure Cx.Ok (X:Cx):Prop where
 mod:Mod X.K X.mg X.base
 kind:X.env.scope.kind=.function
 glob:X.env.globals=mainGlobals
 blt:X.env.builtins=builtinsNs
 above:X.s₀.heap.objs.size<=X.env.locals
 inj:∀x y c,X.env.cells.lookup x=some c->X.env.cells.lookup y=some c->x=y
 has:∀x,(X.env.kindOf x=some .cell\/X.env.kindOf x=some .free)->∃c,X.env.cells.lookup x=some c
 Fx:∀x c,X.fn x=true->X.env.cells.lookup x=some c->X.s₀.heap.objs.size<=c
 hd:X.calm=true->X.A.handled=none
 frames:X.A.frames=some X.stack
 Ob:X.stack=X.outer\/(X.stack=X.env::X.outer/\X.env.frame=some X.env.locals)
 exf:∀b∈X.ex,b≠X.env.locals/\∀x c,X.env.cells.lookup x=some c->c≠b
 bs:∀b o,X.base.get? b=some o->X.s₀.heap.get? b=some o/\X.H₀ b=none
 xN:X.base.objs.size<=X.s₀.heap.objs.size
 vI:∀b o,X.base.get? b=some o->b∉X.ex
 zV:∀b∈X.ex,b∉X.fs
 jS:X.s₀.heap.FunFrames X.base X.outer
 Dd:∀b∈X.fs,X.H₀ b=none
structure Inv (X:Cx) (ae:List (aj×Obj)) (Z:List (ah V)) (H:Hp) (s:au):Prop where
 ok:X.Ok
 os:s.os=X.s₀.os
 bare:AllBare s.gens
 base:Un X.fs X.ex X.H₀ H X.s₀.heap s.heap
 loc:∃m,s.heap.Ns X.env.locals m/\∀(i:Nat) (x:Str) (v:V),X.N[i]?=some x->Z[i]?=some (some v)->BL X.env.scope x->∃u,RelV v u/\Look X.env s.heap m x u
 cell:∀x c,X.env.cells.lookup x=some c->∃v,s.heap.IsCell c v
 free:H X.env.locals=none
 fK:∀x c,X.env.cells.lookup x=some c->H c=none
 pin:∀p∈X.pn++ae,s.heap.get? p.1=some p.2/\H p.1=none/\p.1≠X.env.locals/\p.1∉X.fs/\∀v,p.2.data≠.cell v
 bL:gu X.prog X.w H s.heap
 len:Z.length=X.N.length
def jP{ae:List (aj×Obj)}{Z:List (ah V)}{H:Hp}{d:aj}{es:List (TK×V×V)}{ep:Nat}(I:Inv X ae Z H s)(hd:H d=some (.dG es ep)):cu X.prog X.w H s.heap d (.dG es ep):=I.bL d _ hd
section
variable{X:Cx}{ae:List (aj×Obj)}{Z:List (ah V)}{H H':Hp}{s:au}{h':bJ}
def Cx.Ok.Hh(ok:X.Ok){b:aj}{o:Obj}(e:X.base.get? b=some o):b∉X.fs:=λhb=>by
 have:=(ok.jS.mem hb).1
 lia
theorem Inv.bs(I:Inv X ae Z H s):∀b o,X.base.get? b=some o->s.heap.get? b=some o/\H b=none:=λb o e=>
 ⟨I.base.keep b o (I.ok.bs b o e).1 (I.ok.bs b o e).2 (I.ok.Hh e) (I.ok.vI b o e),I.base.free b o (I.ok.bs b o e).1 (I.ok.bs b o e).2 (I.ok.vI b o e)⟩
def Inv.bk(I:Inv X ae Z H s):∀b o,X.base.get? b=some o->s.heap.get? b=some o:=λb o e=>(I.bs b o e).1
theorem Inv.mod(I:Inv X ae Z H s):Mod X.K X.mg X.base:=I.ok.mod
def Inv.lG(I:Inv X ae Z H s):X.K.In s.heap:=I.ok.mod.Dx.keeps I.bk
theorem Inv.lt(I:Inv X ae Z H s):X.env.locals<s.heap.objs.size:=let ⟨_,hn,_⟩:=I.loc;hn.lt
def Inv.sz(I:Inv X ae Z H s):X.s₀.heap.objs.size<=s.heap.objs.size:=iQ I.ok.above (Br I.lt)
def Inv.vK(I:Inv X ae Z H s){a:aj}(h:s.heap.objs.size<=a):a∉X.fs:=λhb=>by
 obtain⟨_,o,ho,_⟩:=I.ok.jS.mem hb;exact bG (eO (cQ ho) (iQ I.sz h)) (jl _)
def Inv.uV(I:Inv X ae Z H s):∀x c,X.env.cells.lookup x=some c->c≠X.env.locals:=λx c e z=>by
 obtain⟨v,o,ho,hd⟩:=I.cell x c e;obtain⟨m,⟨o',es,ep,tm,hd',_⟩,_⟩:=I.loc
 lia
theorem Inv.jS(I:Inv X ae Z H s):s.heap.FunFrames X.base X.outer:=by
 have all:∀(l:List Env),(∀b∈i9 l,b∈X.fs)->X.s₀.heap.FunFrames X.base l->s.heap.FunFrames X.base l:=by
  intro l
  induction l with
  |nil=>intro _ _;trivial
  |cons env r ih=>
   intro hs hl;obtain⟨hk,⟨L,o,hf,hn,ho,hd⟩,hr⟩:=hl;have hL:L∈X.fs:=hs L (by unfold i9;rw[Bs,hf];exact pD)
   obtain⟨sl,e⟩:=I.base.slot L o ho (I.ok.Dd L hL) hL λz=>I.ok.zV L z hL
   exact⟨hk,⟨L,_,hf,hn,e,hd⟩,ih (λb hb=>hs b (by unfold i9;rw[Bs,hf];exact mD _ hb)) hr⟩
 exact all X.outer (λ_ hb=>hb) I.ok.jS
def Inv.stack(I:Inv X ae Z H s):s.heap.FunFrames X.base X.stack:=by
 rcases I.ok.Ob with e|⟨e,hf⟩
 .rw[e];exact I.jS
 .rw[e];obtain⟨m,hn,_⟩:=I.loc;refine .cons (by rw[I.ok.kind];decide) hf hn ?_ I.jS
  exact Heap.get?_none_of_le (iQ I.ok.xN I.ok.above)
def Inv.iM(I:Inv X ae Z H s):∀b∈i9 X.stack,b∈X.env.locals::X.fs:=λb hb=>by
 rcases I.ok.Ob with e|⟨e,hf⟩
 .rw[e] at hb;exact mD _ hb
 .rw[e] at hb;unfold i9 at hb;rw[Bs,hf] at hb;exact hb
def Inv.j9(I:Inv X ae Z H s):∀b∈i9 X.stack,H b=none:=λb hb=>by
 rcases y06.mp (I.iM b hb) with e|hb
 .rw[e];exact I.free
 .obtain⟨_,o,ho,_⟩:=I.ok.jS.mem hb;exact I.base.free b o ho (I.ok.Dd b hb) λz=>I.ok.zV b z hb
def Inv.step{g':Array GenState}{t':Nat}{d':Drawn}{ch:List aj}(I:Inv X ae Z H s)
  (lD:∀b∈ch,(b∈X.ex\/X.s₀.heap.objs.size<=b)/\b≠X.env.locals/\(∀x c,X.env.cells.lookup x=some c->c≠b)/\∀p∈X.pn++ae,p.1≠b)
  (keep:∀b o,b≠X.env.locals->b∉X.fs->b∉ch->s.heap.get? b=some o->H b=none->h'.get? b=some o)
  (slot:∀b o,b≠X.env.locals->b∈X.fs->b∉ch->s.heap.get? b=some o->H b=none->∃sl,h'.get? b=some { o with slots:=sl}) (free:∀b o,b∉ch->s.heap.get? b=some o->H b=none->H' b=none)
  (there:∀b o,b∉ch->s.heap.get? b=some o->∃o',h'.get? b=some o')
  (jk:∀b xs,H b=some (.tup xs)->H' b=some (.tup xs)) (iA:∀b o u,H b=some (.Y o u)->H' b=some (.Y o u)) (jj:∀b ps,H b=some (.wo ps)->∃more,H' b=some (.wo (ps++more)))
  (ns:∀m,s.heap.Ns X.env.locals m->h'.Ns X.env.locals m) (bL:gu X.prog X.w H' h') (hg:AllBare g') :
  Inv X ae Z H' { s with heap:=h',gens:=g',drawn:=d',toks:=t'}:=by
 have NR:∀b o,X.s₀.heap.get? b=some o->b≠X.env.locals:=λb o e=>iP (eO (cQ e) I.ok.above)
 have DA:∀b o,X.s₀.heap.get? b=some o->b∉X.ex->b∉ch:=λb o e hx hb=>by
  rcases(lD b hb).1 with z|z
  .exact hx z
  .exact bG (eO (cQ e) z) (jl _)
 have cellK:∀x c,X.env.cells.lookup x=some c->∀v,s.heap.IsCell c v->h'.IsCell c v:=λx c e v ⟨o,ho,hd⟩=>by
  have rq:c∉ch:=λz=>(lD c z).2.2.1 x c e rfl
  by_cases hc:c∈X.fs
  .obtain⟨sl,q⟩:=slot c o (I.uV x c e) hc rq ho (I.fK x c e);exact⟨_,q,hd⟩
  .exact⟨o,keep c o (I.uV x c e) hc rq ho (I.fK x c e),hd⟩
 refine⟨I.ok,I.os,hg,⟨λb o e n hb hx=>?_,λb o e n hb hx=>?_,λb o e n hx=>?_,λb o e hx=>?_,λb xs e=>jk b xs (I.base.jk b xs e),λb o xs e=>iA b o xs (I.base.iA b o xs e),λb ps e=>?_⟩,?_,λx c e=>?_,?_,λx c e=>?_,λp hp=>?_,bL,I.len⟩
 .exact keep b o (NR b o e) hb (DA b o e hx) (I.base.keep b o e n hb hx) (I.base.free b o e n hx)
 .obtain⟨sl,e1⟩:=I.base.slot b o e n hb hx;obtain⟨HH,e2⟩:=slot b _ (NR b o e) hb (DA b o e hx) e1 (I.base.free b o e n hx);exact⟨HH,e2⟩
 .obtain⟨o',e1⟩:=I.base.there b o e hx;exact free b o' (DA b o e hx) e1 (I.base.free b o e n hx)
 .obtain⟨o',e1⟩:=I.base.there b o e hx;exact there b o' (DA b o e hx) e1
 .obtain⟨m1,e1⟩:=I.base.jj b ps e;obtain⟨m2,e2⟩:=jj b _ e1;exact⟨m1++m2,by rw[e2,Array.append_assoc]⟩
 .obtain⟨m,hn,hl⟩:=I.loc;refine⟨m,ns m hn,λi x v e1 e2 e3=>?_⟩
  obtain⟨u,r,l⟩:=hl i x v e1 e2 e3;refine⟨u,r,?_⟩;rcases l with l|⟨k,c,e,z⟩
  .exact .inl l
  .exact .inr ⟨k,c,e,cellK x c e _ z⟩
 .obtain⟨v,z⟩:=I.cell x c e;exact⟨v,cellK x c e v z⟩
 .obtain⟨m,⟨o,_,_,ho,_⟩,_⟩:=I.loc;exact free _ o (λz=>(lD _ z).2.1 rfl) ho I.free
 .obtain⟨v,o,ho,hd⟩:=I.cell x c e;exact free c o (λz=>(lD c z).2.2.1 x c e rfl) ho (I.fK x c e)
 .obtain⟨e,n,ne,nf,d⟩:=I.pin p hp;have rq:p.1∉ch:=λz=>(lD p.1 z).2.2.2 p hp rfl
  exact⟨keep p.1 p.2 ne nf rq e n,free p.1 p.2 rq e n,ne,nf,d⟩
def Inv.un(I:Inv X ae Z H s)(u:Un X.fs [] H H' s.heap h')(bL:gu X.prog X.w H' h'):Inv X ae Z H' { s with heap:=h',toks:=t'}:=by
 obtain⟨m,⟨o,es,ep,ho,r⟩,_⟩:=id I.loc;obtain⟨sl,hL⟩:=u.any ho I.free (by simp)
 exact I.step (g':=s.gens) (d':=s.drawn) (ch:=[]) (λ_ z=>nomatch z) (λb o _ hb _ e n=>u.keep b o e n hb (by simp)) (λb o _ hb _ e n=>u.slot b o e n hb (by simp)) (λb o _ e n=>u.free b o e n (by simp)) (λb o _ e=>u.there b o e (by simp)) u.jk u.iA u.jj (λm' hm=>by
  obtain⟨o',es',mK,tm,r'⟩:=hm;rw[ho] at tm;cases tm;exact⟨_,es',mK,hL,r'⟩) bL I.bare
def Inv.call{g':Array GenState}{d':Drawn}(I:Inv X ae Z H s)(u:Un (i9 X.stack) ch H H' s.heap h')(bL:gu X.prog X.w H' h')(hg:AllBare g')
  (lD:∀b∈ch,(b∈X.ex\/X.s₀.heap.objs.size<=b)/\b≠X.env.locals/\(∀x c,X.env.cells.lookup x=some c->c≠b)/\∀p∈X.pn++ae,p.1≠b) :
  Inv X ae Z H' { s with heap:=h',gens:=g',drawn:=d',toks:=t'}:=by
 obtain⟨m,⟨o,es,ep,ho,r⟩,_⟩:=id I.loc;obtain⟨sl,hL⟩:=u.any ho I.free λz=>(lD _ z).2.1 rfl
 exact I.step (ch:=ch) lD (λb o hL hb hc e n=>u.keep b o e n (λz=>(y06.mp (I.iM b z)).elim hL hb) hc) (λb o _ _ hc e n=>u.any e n hc) (λb o hc e n=>u.free b o e n hc) (λb o hc e=>u.there b o e hc) u.jk u.iA u.jj (λm' hm=>by
  obtain⟨o',es',mK,tm,r'⟩:=hm;rw[ho] at tm;cases tm;exact⟨_,es',mK,hL,r'⟩) bL hg
def Inv.turned{it:aj}(I:Inv X ae Z H s)(k:∀b o,b≠it->s.heap.get? b=some o->h'.get? b=some o)(hn:H it=none)(hL:it≠X.env.locals)
  (h1:it∈X.ex\/X.s₀.heap.objs.size<=it) (h2:∀x c,X.env.cells.lookup x=some c->c≠it) (h3:∀p∈X.pn++ae,p.1≠it):Inv X ae Z H { s with heap:=h',toks:=t'}:=by
 have NU:∀b u,H b=some u->b≠it:=λb u e z=>by rw[z,hn] at e;cases e
 refine I.step (g':=s.gens) (d':=s.drawn) (ch:=[it]) (λb hb=>?_) (λb o _ _ hc e _=>k b o (λz=>hc (by simp[z])) e) (λb o _ _ hc e _=>⟨o.slots,k b o (λz=>hc (by simp[z])) e⟩) (λ_ _ _ _ n=>n)
  (λb o hc e=>⟨o,k b o (λz=>hc (by simp[z])) e⟩) (λ_ _ e=>e) (λ_ _ _ e=>e) (λb ps e=>⟨#[],by rw[e];simp⟩) (λm hm=>?_) (λb u e=>?_) I.bare
 .have e:b=it:=by simpa using hb
  subst e;exact⟨h1,hL,h2,h3⟩
 .obtain⟨o,es,ep,ho,r⟩:=hm;exact⟨o,es,ep,k _ o (Ne.symm hL) ho,r⟩
 .refine(I.bL b u e).j8 (λc v hc q=>k c v ?_ q) (λ_ q=>q) λ_ _ q=>q
  rcases hc with z|z
  .rw[z];exact NU b u e
  .exact NU c _ z
def Inv.tok(I:Inv X ae Z H s)(t:Nat):Inv X ae Z H { s with toks:=t}:=I.un (h':=s.heap) (t':=t) Un.refl I.bL
theorem Inv.kept{t':Nat}(I:Inv X ae Z H s)(k:∀b u,s.heap.get? b=some u->h'.get? b=some u):Inv X ae Z H { s with heap:=h',toks:=t'}:=I.un (Un.kept k) (I.bL.kept k)
theorem Inv.laid{a:aj}{o:HO}{t':Nat}(I:Inv X ae Z H s)(k:∀b u,s.heap.get? b=some u->h'.get? b=some u)(hp:s.heap.objs.size<=a)(new:cu X.prog X.w (upd H a o) h' a o):
  Inv X ae Z (upd H a o) { s with heap:=h',toks:=t'}:=I.un (Un.laid k hp (I.bL.fresh hp)) (I.bL.laid k hp new)
theorem Inv.write{x e:aj}{o:HO}{t':Nat}(I:Inv X ae Z H s)(mu:yC (H x))(he:e=x\/H e=some (.own x))(k:∀b u,b≠e->s.heap.get? b=some u->h'.get? b=some u)(xY:∃u,h'.get? e=some u)
  (new:cu X.prog X.w (upd H x o) h' x o):Inv X ae Z (upd H x o) { s with heap:=h',toks:=t'}:=I.un (Un.write mu he k xY) (I.bL.write mu he k xY new)
def Inv.ib{o8:List (aj×Obj)}(I:Inv X ae Z H s)(h:∀p∈o8,s.heap.get? p.1=some p.2/\H p.1=none/\p.1≠X.env.locals/\p.1∉X.fs/\∀v,p.2.data≠.cell v):Inv X o8 Z H s:=
 ⟨I.ok,I.os,I.bare,I.base,I.loc,I.cell,I.free,I.fK,λp hp=>(dD.mp hp).elim (λz=>I.pin p (t_ _ z)) (h p),I.bL,I.len⟩
def JZ{N:List Str}(hN:N.Nodup){j:Nat}(a:N[i]?=some x)(b:N[j]?=some x):i=j:=by
 obtain⟨h1,e1⟩:=cK.mp a;obtain⟨h2,e2⟩:=cK.mp b;exact(List.getElem_inj hN).mp (e1.trans e2.symm)
def Js(I:Inv X ae Z H s)(hN:X.N.Nodup)(hi:X.N[i]?=some x)(hx:Loc X.env.scope x)(r:RelV v u)
  (h:∀s',Inv X ae (Z.set i (some v)) H s'->(∃a,Heap.SameBut a s.heap s'.heap/\(a=X.env.locals\/X.env.cells.lookup x=some a))->Q () s') (hf:X.fn x=true\/X.env.scope.names.lookup x=some .local := by first|exact .inl rfl|exact .inr rfl|assumption):wpAny M A (storeName X.env x u) Q E s:=by
 obtain⟨m,hn,hl⟩:=id I.loc;have Gk:(X.env.scope.kind == .class || (X.env.scope.kind == .module&&X.env.locals != X.env.globals))=false:=by rw[I.ok.kind];rfl
 have NG:i<Z.length:=by rw[I.len];exact(cK.mp hi).1
 have uV:=I.uV;have tracked:∀{a:aj} {h':bJ},(∃o,s.heap.get? a=some o/\H a=none)->Heap.SameBut a s.heap h'->gu X.prog X.w H h':=λ{a h'} ha hs b ob e=>by
  obtain⟨_,_,hfree⟩:=ha;refine(I.bL b ob e).j8 (λc w' hc q=>(hs.2 c ?_).trans q) (λ_ q=>q) λ_ _ q=>q
  lia
 rcases hx with hk|hk
 .refine wpAny_storeName_local hk hn (λh' YZ hs=>?_) Gk
  obtain⟨oL,_,_,Y4,_⟩:=id hn;refine h _ ⟨I.ok,I.os,I.bare,⟨λb o e n hb hx=>?_,λb o e n hb hx=>?_,I.base.free,λb o e hx=>?_,I.base.jk,I.base.iA,I.base.jj⟩,⟨_,YZ,λj y v' e1 e2 e3=>?_⟩,λy c e=>?_,I.free,I.fK,λp hp=>?_,tracked ⟨oL,Y4,I.free⟩ hs,by simpa using I.len⟩ ⟨_,hs,.inl rfl⟩
  .exact(hs.2 b (iP (eO (cQ e) I.ok.above))).trans (I.base.keep b o e n hb hx)
  .obtain⟨sl,e1⟩:=I.base.slot b o e n hb hx;exact⟨sl,(hs.2 b (iP (eO (cQ e) I.ok.above))).trans e1⟩
  .obtain⟨o',e1⟩:=I.base.there b o e hx;exact⟨o',(hs.2 b (iP (eO (cQ e) I.ok.above))).trans e1⟩
  .by_cases hj:j=i
   .subst hj;rw[hi] at e1;cases e1;rw[qh NG] at e2;cases e2;exact⟨u,r,.inl ⟨hk,by simp⟩⟩
   .rw[iU (Ne.symm hj)] at e2;obtain⟨u',r',q⟩:=hl j y v' e1 e2 e3;refine⟨u',r',?_⟩;rcases q with⟨k,e⟩|⟨k,c,e,z⟩
    .refine .inl ⟨k,?_⟩;have:y≠x:=λe=>hj (JZ hN e1 (e ▸ hi))
     simp[this,e]
    .exact .inr ⟨k,c,e,z.sameBut hs (uV y c e)⟩
  .obtain⟨w',z⟩:=I.cell y c e;exact⟨w',z.sameBut hs (uV y c e)⟩
  .obtain⟨e,n,ne,nf,d⟩:=I.pin p hp;exact⟨(hs.2 p.1 ne).trans e,n,ne,nf,d⟩
 .have Gp:X.fn x=true:=by
   rcases hf with z|z
   .exact z
   .rw[z] at hk;cases hk
  obtain⟨c,hc⟩:=I.ok.has x (.inl hk);obtain⟨w',z⟩:=I.cell x c hc;refine wpAny_storeName_cell I.ok.kind hk hc z (λh' kQ hs=>?_)
  obtain⟨oc,NK,GH⟩:=id z;refine h { s with heap:=h'} ⟨I.ok,I.os,I.bare,⟨λb o e n hb hx=>?_,λb o e n hb hx=>?_,I.base.free,λb o e hx=>?_,I.base.jk,I.base.iA,I.base.jj⟩,⟨m,hn.sameBut hs (Ne.symm (uV x c hc)),λj y v' e1 e2 e3=>?_⟩,λy c' e=>?_,I.free,I.fK,λp hp=>?_,tracked ⟨oc,NK,I.fK x c hc⟩ hs,by simpa using I.len⟩ ⟨c,hs,.inr hc⟩
  .exact(hs.2 b (iP (eO (cQ e) (I.ok.Fx x c Gp hc)))).trans (I.base.keep b o e n hb hx)
  .obtain⟨sl,e1⟩:=I.base.slot b o e n hb hx;exact⟨sl,(hs.2 b (iP (eO (cQ e) (I.ok.Fx x c Gp hc)))).trans e1⟩
  .obtain⟨o',e1⟩:=I.base.there b o e hx;exact⟨o',(hs.2 b (iP (eO (cQ e) (I.ok.Fx x c Gp hc)))).trans e1⟩
  .by_cases hj:j=i
   .subst hj;rw[hi] at e1;cases e1;rw[qh NG] at e2;cases e2;exact⟨u,r,.inr ⟨.inl hk,c,hc,kQ⟩⟩
   .rw[iU (Ne.symm hj)] at e2;obtain⟨u',r',q⟩:=hl j y v' e1 e2 e3;refine⟨u',r',?_⟩;rcases q with q|⟨k,c',e,z'⟩
    .exact .inl q
    .refine .inr ⟨k,c',e,z'.sameBut hs ?_⟩;rintro rfl;exact hj (JZ hN e1 (I.ok.inj _ _ _ e hc ▸ hi))
  .by_cases ox:c'=c
   .subst ox;exact⟨_,kQ⟩
   .obtain⟨w2,z2⟩:=I.cell y c' e;exact⟨w2,z2.sameBut hs ox⟩
  .obtain⟨e,n,ne,nf,d⟩:=I.pin p hp;refine⟨(hs.2 p.1 ?_).trans e,n,ne,nf,d⟩;intro q;rw[q,NK] at e;have q':oc=p.2:=Option.some.inj e;exact d w' (by rw[<-q'];exact GH)
def Er(I:Inv X ae Z H s)(hN:X.N.Nodup)(hi:X.N[i]?=some x)(hx:Loc X.env.scope x)(r:RelV v u)
  (h:∀s',Inv X ae (Z.set i (some v)) H s'->Q () s') (hf:X.fn x=true\/X.env.scope.names.lookup x=some .local := by first|exact .inl rfl|exact .inr rfl|assumption):wpAny M A (storeName X.env x u) Q E s:=
 Js I hN hi hx r (λs' I' _=>h s' I') hf
def Inv.sT{s':au}(I:Inv X ae Z H s)(ho:s'.os=s.os)(u:Un (i9 X.stack) ch H H' s.heap s'.heap)(bL:gu X.prog X.w H' s'.heap)(hg:AllBare s'.gens)
  (lD:∀b∈ch,(b∈X.ex\/X.s₀.heap.objs.size<=b)/\b≠X.env.locals/\(∀x c,X.env.cells.lookup x=some c->c≠b)/\∀p∈X.pn++ae,p.1≠b):Inv X ae Z H' s':=by
 obtain⟨h',g',d',t',o'⟩:=s';have e:o'=s.os:=ho;subst e;exact I.call (g':=g') (t':=t') (d':=d') u bL hg lD
end
abbrev XK:=ai->ah aj->Hp->Prop
abbrev St:=List (ah V)
abbrev VK:=V->Hp->Prop
abbrev TE:=St->Hp->VK->Prop
abbrev TT:=St->Hp->(Bool->Hp->Prop)->Prop
abbrev TA:=St->Hp->(List V->Hp->Prop)->Prop
set_option genInjectivity false in
structure Ends where
 nx:St->Hp->Prop
 rt:VK
 bk:St->Hp->Prop:=λ_ _=>False
 ct:St->Hp->Prop:=λ_ _=>False
abbrev TS:=Ends->St->Hp->Prop
def EP(X:Cx)(ae:List (aj×Obj))(Z:St)(Q:VK)(u:ai)(s':au):Prop:=∃v H',Inv X ae Z H' s'/\RelV v u/\Q v H'
def TP(X:Cx)(ae:List (aj×Obj))(Z:St)(Q:Bool->Hp->Prop)(b:Bool)(s':au):Prop:=∃H',Inv X ae Z H' s'/\Q b H'
def AP(X:Cx)(ae:List (aj×Obj))(Z:St)(Q:List V->Hp->Prop)(us:List ai)(s':au):Prop:=∃vs H',Inv X ae Z H' s'/\Vals vs us/\Q vs H'
def SP(X:Cx)(ae:List (aj×Obj))(D:Ends)(f:Flow)(s':au):Prop:=
 match f with
 |.next=>∃Z' H',Inv X ae Z' H' s'/\D.nx Z' H'
 |.brk=>∃Z' H',Inv X ae Z' H' s'/\D.bk Z' H'
 |.cont=>∃Z' H',Inv X ae Z' H' s'/\D.ct Z' H'
 |.ret u=>∃v Z' H',Inv X ae Z' H' s'/\RelV v u/\D.rt v H'
def PE(X:Cx)(e:Expr)(t:TE):Prop:=
 ∀(ae:List (aj×Obj)) (s:au) (Z:St) (H:Hp) (Q:VK),Inv X ae Z H s->t Z H Q->wpAny (mX X) X.A (eval e X.env) (EP X ae Z Q) X.xe s
def PT(X:Cx)(e:Expr)(t:TT):Prop:=
 ∀(ae:List (aj×Obj)) (s:au) (Z:St) (H:Hp) (Q:Bool->Hp->Prop),Inv X ae Z H s->t Z H Q->wpAny (mX X) X.A (isTrue e X.env (eval e X.env)) (TP X ae Z Q) X.xe s
def PW(X:Cx)(e:Expr)(t:TT):Prop:=
 ∀(whole:Sem ai) (ae:List (aj×Obj)) (s:au) (Z:St) (H:Hp) (Q:Bool->Hp->Prop),Inv X ae Z H s->t Z H Q->wpAny (mX X) X.A (isTrue e X.env whole) (TP X ae Z Q) X.xe s
def PW.pt{e:Expr}{t:TT}(h:PW X e t):PT X e t:=h _
def PA(X:Cx)(es:List Expr)(t:TA):Prop:=
 ∀(pos:Pos) (ae:List (aj×Obj)) (s:au) (Z:St) (H:Hp) (Q:List V->Hp->Prop),Inv X ae Z H s->t Z H Q->wpAny (mX X) X.A (spliced (backTo pos (starEach es X.env))) (AP X ae Z Q) X.xe s
def PS(X:Cx)(st:Stmt)(t:TS):Prop:=
 ∀(ae:List (aj×Obj)) (s:au) (Z:St) (H:Hp) (D:Ends),Inv X ae Z H s->t D Z H->wpAny (mX X) X.A (exec st X.env) (SP X ae D) X.xe s
def ij(X:Cx)(st:List Stmt)(t:TS):Prop:=
 ∀(ae:List (aj×Obj)) (s:au) (Z:St) (H:Hp) (D:Ends),Inv X ae Z H s->t D Z H->wpAny (mX X) X.A (execs st X.env) (SP X ae D) X.xe s
def bz{α:Type}{t:Sem α}{Q Q':α->au->Prop}(h:wpAny M A t Q E s)(hQ:∀a s,Q a s->Q' a s):wpAny M A t Q' E s:=wpAny_mono h hQ λ_ _ x=>x
section
variable{X:Cx}
def Bg(i:Nat):TE:=λZ H Q=>∃v,Z[i]?=some (some v)/\Q v H
def tC(v:V):TE:=λ_ H Q=>Q v H
def U9{i:Nat}{x:Str}{pos:Pos}(hN:X.N[i]?=some x)(hv:BL X.env.scope x)(hd:(x == ("__debug__":Str))=false:=by decide)(oz:(x == ("__classdict__":Str))=false:=by decide):PE X (.Name x pos) (Bg i):=by
 intro ae s Z H Q I h;obtain⟨v,e,h⟩:=h;obtain⟨m,hn,hl⟩:=I.loc;obtain⟨u,r,l⟩:=hl i x v hN e hv;have fin:EP X ae Z Q u s:=⟨v,H,I,r,h⟩;rcases l with⟨hk,hm⟩|⟨hk,c,hc,jv⟩
 .exact wpAny_Name (wpAny_loadName_local I.ok.kind hk hn hm fin) hd
 .rcases hk with hk|hk
  .exact wpAny_Name (wpAny_loadName_cell I.ok.kind hk hc jv fin) hd
  .exact wpAny_Name (wpAny_loadName_free I.ok.kind hk hc jv fin oz) hd
def U_{i j pos}:PE X (.Constant (.int i) j pos) (tC (.int i)):=λ_ _ _ H _ I h=>wpAny_Constant_int ⟨.int i,H,I.tok _,⟨_,rfl⟩,h⟩
def Xj{b j pos}:PE X (.Constant (.bool b) j pos) (tC (.bl b)):=λ_ _ _ H _ I h=>Constant_bool ⟨.bl b,H,I,rfl,h⟩
def Va{j pos}:PE X (.Constant .none j pos) (tC .aR):=λ_ _ _ H _ I h=>Constant_none ⟨.aR,H,I,rfl,h⟩
def Vb{x j pos}:PE X (.Constant (.str x) j pos) (tC (.str x)):=λ_ _ _ H _ I h=>Calls.Constant_str ⟨.str x,H,I.tok _,⟨_,rfl⟩,h⟩
def Gl(X:Cx)(x:Str):Prop:=X.env.kindOf x=some .globalImplicit
def EI{E:ai->au->Prop}{ae:List (aj×Obj)}{s:au}{Z:St}{H:Hp}{x:Str}{u:ai}{pos:Pos}{Q:ai->au->Prop}(I:Inv X ae Z H s)(hg:Gl X x)(hm:X.mg x=some u)(h:Q u s)
  (hd:(x == ("__debug__":Str))=false:=by decide):wpAny (mX X) X.A (eval (.Name x pos) X.env) Q E s:=
 Calls.Name_function_global I.ok.kind hg (Calls.loadGlobal_global (by rw[I.ok.glob];exact I.mod.glob.keeps I.bk) hm h) hd
def qD{E:ai->au->Prop}{ae:List (aj×Obj)}{s:au}{Z:St}{H:Hp}{x:Str}{u:ai}{pos:Pos}{Q:ai->au->Prop}(I:Inv X ae Z H s)(hg:Gl X x)(hm:X.mg x=none)(hv:bootBuiltins x=some u)(h:Q u s)
  (hn:x≠"__name__":=by decide) (hd:(x == ("__debug__":Str))=false:=by decide):wpAny (mX X) X.A (eval (.Name x pos) X.env) Q E s:=by
 obtain⟨mb,h1,h2⟩:=I.mod.blt;exact Calls.Name_function_global I.ok.kind hg (Calls.loadGlobal_builtin (by rw[I.ok.glob];exact I.mod.glob.keeps I.bk) hm (by rw[I.ok.blt];exact h1.keeps I.bk) ((h2 x hn).trans hv) h) hd
def RV{x:Str}{v:V}{u:ai}{pos:Pos}(hg:Gl X x)(hm:X.mg x=none)(hv:bootBuiltins x=some u)(r:RelV v u)(hn:x≠"__name__":=by decide)(hd:(x == ("__debug__":Str))=false:=by decide):PE X (.Name x pos) (tC v):=
 λ_ _ _ H _ I h=>qD I hg hm hv ⟨v,H,I,r,h⟩ hn hd
variable{a b:Expr}{ta tb:TE}{pos:Pos}
variable{tA DF:TT}{rest:List Expr}
def HL(t u:TT):TT:=λZ H Q=>t Z H λc H1=>if c=true then u Z H1 Q else Q false H1
def ZU(t u:TT):TT:=λZ H Q=>t Z H λc H1=>if c=true then Q true H1 else u Z H1 Q
def HU(t:TT):TT:=λZ H Q=>t Z H λc H1=>Q (!c) H1
def RX(ha:PT X a tA):PW X (.BoolOp .And [a] pos) tA:=by
 intro wh ae s Z H Q I h;refine isTrue_and (bz (ha ae s Z H Q I h) λc s1 e=>?_)
 cases c with
 |true=>exact isTrue_and_nil e
 |false=>exact e
def Vc(ha:PT X a tA):PW X (.BoolOp .Or [a] pos) tA:=by
 intro wh ae s Z H Q I h;refine isTrue_or (bz (ha ae s Z H Q I h) λc s1 e=>?_)
 cases c with
 |false=>exact isTrue_or_nil e
 |true=>exact e
def Vd(ha:PT X a tA)(hb:PW X (.BoolOp .And (b::rest) pos) DF):PW X (.BoolOp .And (a::b::rest) pos) (HL tA DF):=by
 intro wh ae s Z H Q I h;refine isTrue_and (bz (ha ae s Z H _ I h) λc s1 hh=>?_)
 obtain⟨H1,I1,q1⟩:=hh;cases c with
 |true=>exact hb wh ae s1 Z H1 Q I1 q1
 |false=>exact⟨H1,I1,q1⟩
def Xk(ha:PT X a tA)(hb:PW X (.BoolOp .Or (b::rest) pos) DF):PW X (.BoolOp .Or (a::b::rest) pos) (ZU tA DF):=by
 intro wh ae s Z H Q I h;refine isTrue_or (bz (ha ae s Z H _ I h) λc s1 hh=>?_)
 obtain⟨H1,I1,q1⟩:=hh;cases c with
 |true=>exact⟨H1,I1,q1⟩
 |false=>exact hb wh ae s1 Z H1 Q I1 q1
def Ve(ha:PT X a tA):PT X (.UnaryOp .Not a pos) (HU tA):=by
 intro ae s Z H Q I h;exact isTrue_not (ha ae s Z H (λc H1=>Q (!c) H1) I h)
def A9(ta tb:TE):TE:=λZ H Q=>ta Z H λx H1=>∃c,x=.bl c/\if c=true then tb Z H1 Q else Q (.bl false) H1
def Be(ta:TE):TE:=λZ H Q=>ta Z H λx H1=>∃c,x=.bl c/\Q (.bl (!c)) H1
def vS{op}{t:TE}(h:PE X a t):PE X (.BoolOp op [a] pos) t:=λae s Z H Q I hw=>BoolOp_one (h ae s Z H Q I hw)
def Vf(ha:PE X a ta)(hb:PE X (.BoolOp .And (b::rest) pos) tb):PE X (.BoolOp .And (a::b::rest) pos) (A9 ta tb):=by
 intro ae s Z H Q I h;refine BoolOp_and (bz (ha ae s Z H _ I h) λv s1 hh=>?_)
 obtain⟨x,H1,I1,r1,q1⟩:=hh;obtain⟨c,rfl,q1⟩:=q1;cases r1;refine wpAny_truthy_bool ?_;cases c with
 |true=>exact hb ae s1 Z H1 Q I1 q1
 |false=>exact⟨.bl false,H1,I1,rfl,q1⟩
def Vg(ha:PE X a ta):PE X (.UnaryOp .Not a pos) (Be ta):=by
 intro ae s Z H Q I h;refine UnaryOp_ (bz (ha ae s Z H _ I h) λv s1 hh=>?_)
 obtain⟨x,H1,I1,r1,q1⟩:=hh;obtain⟨c,rfl,q1⟩:=q1;cases r1;exact not_of (wpAny_truthy_bool ⟨.bl (!c),H1,I1,rfl,q1⟩)
def ZT(t:TT)(ta tb:TE):TE:=λZ H Q=>t Z H λc H1=>if c=true then ta Z H1 Q else tb Z H1 Q
def Qp{c:Expr}(hc:PT X c tA)(ha:PE X a ta)(hb:PE X b tb):PE X (.IfExp c a b pos) (ZT tA ta tb):=by
 intro ae s Z H Q I h;refine wpAny_IfExp (bz (hc ae s Z H _ I h) λd s1 hh=>?_)
 obtain⟨H1,I1,q1⟩:=hh;cases d with
 |true=>exact ha ae s1 Z H1 Q I1 q1
 |false=>exact hb ae s1 Z H1 Q I1 q1
end
variable{x:Str}{u:ai}{ae:List (aj×Obj)}{Z:St}{H:Hp}{s:au}{c e o tg:Expr}{tc:TT}{i:Nat}{es:List Expr}{to ti te:TE}{pos':Pos}{op:Operator}{P:cL}{w:bX}{K:aH}
def cI(K:aH)(H:Hp)(a:aj)(xs:List V):Prop:=
 Rd H a (.lst xs)\/
  ∃(o:Obj) (aA:Array ai) (n:Nat),K.lookup a=some o/\o.cls=.type "list"/\o.dict=none/\o.data=.seq aA n/\aA.size<=sizeLine/\Vals xs aA.toList
def fy(K:aH)(H:Hp)(a:aj)(xs:List V):Prop:=
 Rd H a (.tup xs)\/
  ∃(o:Obj) (aA:Array ai) (n:Nat),K.lookup a=some o/\o.cls=.type "tuple"/\o.data=.seq aA n/\aA.size<=sizeLine/\Vals xs aA.toList
noncomputable def EC:ai->ah V
 |.none=>some .aR
 |.bool b=>some (.bl b)
 |.int i _=>some (.int i)
 |.str x _=>some (.str x)
 |.bytes b _=>some (.uR b)
 |.float b _=>some (.zX b)
 |.ref a=>some (.ref a)
 |.type n=>some (.ty n)
 |_=>none
def RelV.abs{x:V}(r:RelV x u):EC u=some x:=by
 cases x with
 |aR=>cases r;rfl
 |bl _=>cases r;rfl
 |int _=>obtain⟨t,rfl⟩:=r;rfl
 |str _=>obtain⟨t,rfl⟩:=r;rfl
 |uR _=>obtain⟨t,rfl⟩:=r;rfl
 |zX _=>obtain⟨t,rfl⟩:=r;rfl
 |ref _=>cases r;rfl
 |ty _=>cases r;rfl
theorem RelV.inj{x y:V}{u:ai}(r:RelV x u)(q:RelV y u):x=y:=Option.some.inj (r.abs.symm.trans q.abs)
theorem Vals.inj{xs ys:List V}{us:List ai}(h:Vals xs us)(h':Vals ys us):xs=ys:=by
 induction h generalizing ys with
 |nil=>cases h';rfl
 |cons r t ih=>
  cases h' with
  |cons r' t'=>rw[r.inj r',ih t']
section
variable{X:Cx}{ae:List (aj×Obj)}{Z:St}{H:Hp}{s:au}{a:aj}{xs ys:List V}
def Inv.list(I:Inv X ae Z H s)(h:cI X.K H a xs):∃aA:List ai,Vals xs aA/\PlainL s.heap a aA.toArray/\xs.length<=sizeLine:=by
 rcases h with h|⟨o,aA,n,hk,hc,hd,hs,hz,r⟩
 .obtain⟨z,aA,n,r,e⟩:=h.ok I.bL;exact⟨aA,r,⟨_,n,e,rfl,rfl,rfl⟩,z⟩
 .refine⟨aA.toList,r,⟨o,n,I.lG a o hk,hc,hd,by simpa using hs⟩,?_⟩
  have e:=r.length
  simp_all
def Inv.tuple(I:Inv X ae Z H s)(h:fy X.K H a xs):∃aA:List ai,Vals xs aA/\IsTup s.heap a aA.toArray/\xs.length<=sizeLine:=by
 rcases h with h|⟨o,aA,n,hk,hc,hs,hz,r⟩
 .obtain⟨z,aA,r,p⟩:=h.ok I.bL;exact⟨aA,r,p,z⟩
 .refine⟨aA.toList,r,⟨o,I.lG a o hk,hc,n,by simpa using hs⟩,?_⟩
  have e:=r.length;simp only[Bt] at e;lia
def Inv.iG(I:Inv X ae Z H s)(h:cI X.K H a xs)(h':cI X.K H a ys):xs=ys:=by
 obtain⟨aA,r,⟨o,n,e,_,_,d⟩,_⟩:=I.list h;obtain⟨its',r',⟨o',n',e',_,_,d'⟩,_⟩:=I.list h';rw[e] at e';cases e';rw[d] at d';injection d' with d1 _;have:aA=its':=by simpa using congrArg Array.toList d1
 subst this;exact r.inj r'
def Inv.jB(I:Inv X ae Z H s)(h:fy X.K H a xs)(h':fy X.K H a ys):xs=ys:=by
 obtain⟨aA,r,⟨o,e,_,n,d⟩,_⟩:=I.tuple h;obtain⟨its',r',⟨o',e',_,n',d'⟩,_⟩:=I.tuple h';rw[e] at e';cases e';rw[d] at d';injection d' with d1 _;have:aA=its':=by simpa using congrArg Array.toList d1
 subst this;exact r.inj r'
end
section
variable{X:Cx}{st:Stmt}{rest:List Stmt}{t u:TS}{e:Expr}{te:TE}{pos:Pos}
def Bd:TS:=λD Z H=>D.nx Z H
def HW(t u:TS):TS:=λD Z H=>t { D with nx:=u D} Z H
def rJ:ij X [] Bd:=λ_ _ Z H _ I h=>wpAny_execs_nil ⟨Z,H,I,h⟩
def Qq(h1:PS X st t)(h2:ij X rest u):ij X (st::rest) (HW t u):=by
 intro ae s Z H D I h;refine wpAny_execs_cons (bz (h1 ae s Z H { D with nx:=u D} I h) λf s1 q=>?_)
 cases f with
 |next=>
  obtain⟨Z',H',I',q⟩:=q;exact h2 ae s1 Z' H' D I' q
 |ret v=>exact q
 |brk=>exact q
 |cont=>exact q
def Inv.quiet(I:Inv X ae Z H s):interactive X.env=false:=by simp[interactive,I.ok.kind]
def Bc(te:TE):TS:=λD Z H=>te Z H λ_ H1=>D.nx Z H1
def RY(he:PE X e te)(hs:swapsWith e none pos.line X.env=pure false:=by rfl):PS X (.Expr e pos) (Bc te):=by
 intro ae s Z H D I h;exact wpAny_Expr_any (bz (he ae s Z H _ I h) λv s1 ⟨x,H1,I1,r1,q1⟩=>⟨Z,H1,I1,q1⟩) I.quiet hs
def HV(te:TE):TS:=λD Z H=>te Z H D.rt
def Vh(he:PE X e te):PS X (.Return (some e) pos) (HV te):=by
 intro ae s Z H D I h;exact wpAny_Return_some (bz (he ae s Z H _ I h) λv s1 ⟨x,H1,I1,r1,q1⟩=>⟨x,Z,H1,I1,r1,q1⟩)
def HR(c:TT)(t u:TS):TS:=λD Z H=>c Z H λb H1=>if b=true then t D Z H1 else u D Z H1
def Xl{a b:List Stmt}(hc:PT X c tc)(ha:ij X a t)(hb:ij X b u):PS X (.If c a b pos) (HR tc t u):=by
 intro ae s Z H D I h;refine wpAny_If (bz (hc ae s Z H _ I h) λd s1 hh=>?_)
 obtain⟨H1,I1,q1⟩:=hh;cases d with
 |true=>exact ha ae s1 Z H1 D I1 q1
 |false=>exact hb ae s1 Z H1 D I1 q1
end
abbrev TG:=V->St->Hp->(St->Hp->Prop)->Prop
abbrev pO:=List V->St->Hp->(St->Hp->Prop)->Prop
def PG(X:Cx)(target:Expr)(t:TG):Prop:=
 ∀(ae:List (aj×Obj)) (s:au) (Z:St) (H:Hp) (v:V) (u:ai) (Q:St->Hp->Prop),Inv X ae Z H s->RelV v u->t v Z H Q->
  wpAny (mX X) X.A (assign target X.env u) (λ_ s'=>∃Z' H',Inv X ae Z' H' s'/\Q Z' H') X.xe s
def yE(X:Cx)(ts:List Expr)(t:pO):Prop:=
 ∀(ae:List (aj×Obj)) (s:au) (Z:St) (H:Hp) (vs:List V) (us:List ai) (Q:St->Hp->Prop),Inv X ae Z H s->Vals vs us->t vs Z H Q->
  wpAny (mX X) X.A (assignInOrder ((assignEach ts X.env).map (·.2)) us) (λ_ s'=>∃Z' H',Inv X ae Z' H' s'/\Q Z' H') X.xe s
abbrev mH:=V->V->V->Hp->(Hp->Prop)->Prop
def qu(X:Cx)(t:mH):Prop:=
 ∀(ae:List (aj×Obj)) (s:au) (Z:St) (H:Hp) (o i v:V) (ov iv u:ai) (Q:Hp->Prop),Inv X ae Z H s->RelV o ov->RelV i iv->RelV v u->t o i v H Q->
  wpAny (mX X) X.A (setItem ov iv u) (λ_ s'=>∃H',Inv X ae Z H' s'/\Q H') X.xe s
abbrev wR:=V->V->Hp->VK->Prop
def sj(X:Cx)(op:Operator)(t:wR):Prop:=
 ∀(ae:List (aj×Obj)) (s:au) (Z:St) (H:Hp) (x y:V) (v u:ai) (Q:VK),Inv X ae Z H s->RelV x v->RelV y u->t x y H Q->
  wpAny (mX X) X.A (inplaceOp op v u) (EP X ae Z Q) X.xe s
section
variable{X:Cx}{pos:Pos}
def l5(i:Nat):TG:=λv Z H Q=>Q (Z.set i (some v)) H
def RZ(hN:X.N.Nodup)(hi:X.N[i]?=some x)(hx:Loc X.env.scope x)(hf:X.fn x=true\/X.env.scope.names.lookup x=some .local := by first|exact .inl rfl|exact .inr rfl|assumption):PG X (.Name x pos) (l5 i):=by
 intro ae s Z H v u Q I r h;exact wpAny_assign_Name (Er I hN hi hx r (λs' I'=>⟨_,H,I',h⟩) hf)
def z5:pO:=λvs Z H Q=>vs=[]/\Q Z H
def s9(t:TG)(u:pO):pO:=λvs Z H Q=>∃v r,vs=v::r/\t v Z H λZ' H'=>u r Z' H' Q
def rG:yE X [] z5:=by
 intro ae s Z H vs us Q I r h;obtain⟨e,h⟩:=h;subst e;cases r;exact assignInOrder_nil ⟨Z,H,I,h⟩
def o6{t:TG}{u:pO}(h1:PG X e t)(h2:yE X es u)
  (hs:(assignEach (e::es) X.env).map (·.2)=assign e X.env::(assignEach es X.env).map (·.2):=by rfl):yE X (e::es) (s9 t u):=by
 intro ae s Z H vs us Q I r h;obtain⟨v,vr,e1,h⟩:=h;subst e1;cases r with
 |cons r rr=>
  rw[hs];refine assignInOrder_cons (bz (h1 ae s Z H _ _ _ I r h) λ_ s1 hh=>?_)
  obtain⟨Z1,H1,I1,q1⟩:=hh;exact h2 ae s1 Z1 H1 _ _ Q I1 rr q1
def ve(K:aH)(n:Nat)(t:pO):TG:=λv Z H Q=>∃a xs,v=.ref a/\fy K H a xs/\xs.length=n/\t xs Z H Q
def Vi{k:Nat}{t:pO}{n:Nat}(hc:X.calm=true)(h:yE X es t)
  (hn:(assignEach es X.env).length=n:=by rfl) (lF:(assignEach es X.env).findIdx? (·.1)=none:=by rfl):PG X (.Tuple es k pos) (ve X.K n t):=by
 intro ae s Z H v u Q I r hw;refine kY λkz=>?_
 obtain⟨a,xs,e1,hq,hl,hw⟩:=hw;subst e1;cases r;obtain⟨aA,rv,ht,hz⟩:=I.tuple hq;refine kz ?_;refine assign_Tuple_tuple (I.ok.hd hc) ht (by simp[hn,<-hl,rv.length]) lF λh' hx=>?_
 have I1:Inv X ae Z H { s with heap:=h'}:=I.kept (t':=s.toks) λb o e=>hx b o (iP (cQ e)) e
 exact h ae _ Z H xs _ Q I1 (by simpa using rv) hw
def F7(to ti:TE)(t:mH):TG:=λv Z H Q=>to Z H λo H1=>ti Z H1 λi H2=>t o i v H2 λH3=>Q Z H3
def Vj{i:Expr}{t:mH}(ho:PE X o to)(hi:PE X i ti)(hs:qu X t)
  (ha:∀v,assign (.Subscript o i pos) X.env v=(do
   let ov <-holding [v] (eval o X.env)
   let iv <-holding [v,ov] (eval i X.env)
   standAt pos
   holding [v,ov,iv] (setItem ov iv v)
   release [v,ov,iv] []):=by intro _;rfl):PG X (.Subscript o i pos) (F7 to ti t):=by
 intro ae s Z H v u Q I r h;rw[ha];refine aE (jH (bz (ho ae s Z H _ I h) λov s1 hh=>?_))
 obtain⟨x,H1,I1,r1,q1⟩:=hh;refine aE (jH (bz (hi ae s1 Z H1 _ I1 q1) λiv s2 hh=>?_))
 obtain⟨y,H2,I2,r2,q2⟩:=hh;refine aE (wpAny_standAt (aE (jH (bz (hs ae s2 Z H2 x y v ov iv u _ I2 r1 r2 r q2) λ_ s3 hh=>?_))))
 obtain⟨H3,I3,q3⟩:=hh;exact wpAny_release ⟨Z,H3,I3,q3⟩
def A_(te:TE)(g:TG):TS:=λD Z H=>te Z H λx H1=>g x Z H1 D.nx
def L5{g:TG}(he:PE X e te)(hg:PG X tg g)(hs:swapsWithSole [tg] e pos.line X.env=pure false:=by rfl)(hw:swappedStores [tg] e X.env=pure none:=by rfl)
  (h1:(assignEach [tg] X.env).map (·.2)=[assign tg X.env]:=by rfl):PS X (.Assign [tg] e pos) (A_ te g):=by
 intro ae s Z H D I h;refine wpAny_Assign_stores (bz (he ae s Z H _ I h) λv s1 hh=>?_) hs hw
 obtain⟨x,H1,I1,r1,q1⟩:=hh;rw[h1];exact bz (hg ae s1 Z H1 x v _ I1 r1 q1) λ_ s2 q=>q
def Vk(hN:X.N.Nodup)(hi:X.N[i]?=some x)(hx:Loc X.env.scope x)(he:PE X e te)(hs:swapsWith e (some (.Name x pos')) pos.line X.env=pure false:=by rfl)(hf:X.fn x=true\/X.env.scope.names.lookup x=some .local := by first|exact .inl rfl|exact .inr rfl|assumption):
  PS X (.Assign [.Name x pos'] e pos) (A_ te (l5 i)):=by
 intro ae s Z H D I h;refine wpAny_Assign_Name (bz (he ae s Z H _ I h) λv s1 hh=>?_) hs
 obtain⟨y,H1,I1,r1,q1⟩:=hh;exact Er I1 hN hi hx r1 (λs2 I2=>⟨_,H1,I2,q1⟩) hf
def HM(i:Nat)(te:TE)(ti:wR):TS:=λD Z H=>∃x,Z[i]?=some (some x)/\te Z H λy H1=>ti x y H1 λz H2=>D.nx (Z.set i (some z)) H2
def Vl{ti:wR}(hN:X.N.Nodup)(hi:X.N[i]?=some x)(hx:Loc X.env.scope x)(he:PE X e te)(ho:sj X op ti)(hf:X.fn x=true\/X.env.scope.names.lookup x=some .local := by first|exact .inl rfl|exact .inr rfl|assumption):
  PS X (.AugAssign (.Name x pos') op e pos) (HM i te ti):=by
 intro ae s Z H D I h;obtain⟨v,e1,h⟩:=h;obtain⟨m,hn,hl⟩:=I.loc;have ZZ:BL X.env.scope x:=by rcases hx with k|k;exact .inl k;exact .inr (.inl k)
 obtain⟨u,r,l⟩:=hl i x v hi e1 ZZ;refine wpAny_AugAssign_Name ?_;have go:wpAny (mX X) X.A (eval e X.env) (λw s₂=>wpAny (mX X) X.A (inplaceOp op u w) (λr s₃=>wpAny (mX X) X.A (storeName X.env x r) (λ_=>SP X ae D .next) X.xe s₃) X.xe s₂) X.xe s:=by
  refine bz (he ae s Z H _ I h) λw s1 hh=>?_
  obtain⟨y,H1,I1,r1,q1⟩:=hh;refine bz (ho ae s1 Z H1 v y u w _ I1 r r1 q1) λz s2 hh=>?_
  obtain⟨zv,H2,I2,r2,q2⟩:=hh;exact Er I2 hN hi hx r2 (λs3 I3=>⟨_,H2,I3,q2⟩) hf
 rcases l with⟨hk,hm⟩|⟨hk,c,hc,jv⟩
 .exact wpAny_loadName_local I.ok.kind hk hn hm go
 .rcases hk with hk|hk
  .exact wpAny_loadName_cell I.ok.kind hk hc jv go
  .rcases hx with k|k
   .have:X.env.scope.names.lookup x=some .free:=hk;rw[k] at this;cases this
   .have:X.env.scope.names.lookup x=some .free:=hk;rw[k] at this;cases this
def A'(to ti te:TE)(rP:V->V->Hp->VK->Prop)(DH:wR)(rT:mH):TS:=λD Z H=>to Z H λo H1=>ti Z H1 λi H2=>rP o i H2 λx H3=>te Z H3 λy H4=>DH x y H4 λz H5=>rT o i z H5 λH6=>D.nx Z H6
def yD(X:Cx)(t:V->V->Hp->VK->Prop):Prop:=
 ∀(ae:List (aj×Obj)) (s:au) (Z:St) (H:Hp) (o i:V) (ov iv:ai) (Q:VK),Inv X ae Z H s->RelV o ov->RelV i iv->t o i H Q->
  wpAny (mX X) X.A (getItem ov iv) (EP X ae Z Q) X.xe s
def R0{i:Expr}{rP:V->V->Hp->VK->Prop}{DH:wR}{rT:mH}{iO:Pos}(ho:PE X o to)(hi:PE X i ti)(hg:yD X rP)(he:PE X e te)(hp:sj X op DH)(hs:qu X rT)
  (ha:∀ov iv new,augStore i ov iv new=(do holding [new,ov,iv] (setItem ov iv new);release [new,ov,iv] [];pure .next):=by intros;rfl):PS X (.AugAssign (.Subscript o i iO) op e pos) (A' to ti te rP DH rT):=by
 intro ae s Z H D I h;refine wpAny_AugAssign_SubscriptAny (bz (ho ae s Z H _ I h) λov s1 hh=>?_) ha
 obtain⟨x1,H1,I1,r1,q1⟩:=hh;refine bz (hi ae s1 Z H1 _ I1 q1) λiv s2 hh=>?_
 obtain⟨x2,H2,I2,r2,q2⟩:=hh;refine bz (hg ae s2 Z H2 x1 x2 ov iv _ I2 r1 r2 q2) λold s3 hh=>?_
 obtain⟨x3,H3,I3,r3,q3⟩:=hh;refine bz (he ae s3 Z H3 _ I3 q3) λv s4 hh=>?_
 obtain⟨x4,H4,I4,r4,q4⟩:=hh;refine bz (hp ae s4 Z H4 x3 x4 old v _ I4 r3 r4 q4) λnew s5 hh=>?_
 obtain⟨x5,H5,I5,r5,q5⟩:=hh;exact bz (hs ae s5 Z H5 x1 x2 x5 ov iv new _ I5 r1 r2 r5 q5) λ_ s6 ⟨H6,I6,q6⟩=>⟨Z,H6,I6,q6⟩
def x9(f:Int->Int->Int):wR:=λx y H Q=>∃i j,x=.int i/\y=.int j/\Q (.int (f i j)) H
def vy:sj X .Add (x9 λi j=>i+j):=by
 intro ae s Z H x y v u Q I r1 r2 h;obtain⟨i,j,e1,e2,q⟩:=h;subst e1;subst e2;obtain⟨t,rfl⟩:=r1;obtain⟨t',rfl⟩:=r2;exact iadd_int ⟨.int _,H,I.tok _,⟨_,rfl⟩,q⟩
def vA:sj X .Sub (x9 λi j=>i - j):=by
 intro ae s Z H x y v u Q I r1 r2 h;obtain⟨i,j,e1,e2,q⟩:=h;subst e1;subst e2;obtain⟨t,rfl⟩:=r1;obtain⟨t',rfl⟩:=r2;exact isub_int ⟨.int _,H,I.tok _,⟨_,rfl⟩,q⟩
def Vm(c:TT)(tb:TS):TS:=λD Z H=>∃W:Nat->St->Hp->Prop,(∃m,W m Z H)/\∀m Z H,W m Z H->
 c Z H λb H1=>if b=true then ∃N:St->Hp->Prop,(∀Z' H',N Z' H'->∃m',m'<m/\W m' Z' H')/\tb { D with nx:=N,ct:=N,bk:=D.nx} Z H1 else D.nx Z H1
def Qr{body:List Stmt}{tb:TS}(hp:PassesOwn (mX X) X.A X.env X.xe)(hc:PT X c tc)(hb:ij X body tb):PS X (.While c body [] pos) (Vm tc tb):=by
 intro ae s Z H D I h;obtain⟨W,⟨m0,w0⟩,turn⟩:=h;refine wpAny_While (codeAny_whileLoop (λn s'=>∃Z' H',Inv X ae Z' H' s'/\W n Z' H') ?_ m0 ⟨Z,H,I,w0⟩)
 rintro n s1 ⟨Z1,H1,I1,w1⟩;refine wpAny_passesOwn hp (bz (hc ae s1 Z1 H1 _ I1 (turn n Z1 H1 w1)) λb s2 hh=>?_)
 obtain⟨H2,I2,q2⟩:=hh;cases b with
 |true=>
  obtain⟨N,hN,q2⟩:=q2;rw[aU rfl];refine wpAny_passesOwn hp (bz (hb ae s2 Z1 H2 _ I2 q2) λf s3 q3=>?_)
  cases f with
  |next=>
   obtain⟨Z3,H3,I3,n3⟩:=q3;obtain⟨m',hm,w3⟩:=hN Z3 H3 n3;exact⟨m',hm,Z3,H3,I3,w3⟩
  |cont=>
   obtain⟨Z3,H3,I3,n3⟩:=q3;obtain⟨m',hm,w3⟩:=hN Z3 H3 n3;exact⟨m',hm,Z3,H3,I3,w3⟩
  |brk=>exact q3
  |ret v=>exact q3
 |false=>
  rw[aO qi];exact wpAny_execs_nil ⟨Z1,H2,I2,q2⟩
end
set_option genInjectivity false in
structure It where
 go:Nat->Hp->Prop
 pJ:Nat->Hp->V->Hp->Prop
 stop:Nat->Hp->Prop
def gH(X:Cx)(ae:List (aj×Obj))(H:Hp)(b:aj):Prop:=
 H b=none/\b≠X.env.locals/\b∉X.fs/\(b∈X.ex\/X.s₀.heap.objs.size<=b)/\(∀x c,X.env.cells.lookup x=some c->c≠b)/\∀p∈X.pn++ae,p.1≠b
def Inv.lB{X:Cx}{H':Hp}{b:aj}(I:Inv X ae Z H s)(hb:s.heap.objs.size<=b)(hn:H' b=none):gH X ae H' b:=by
 refine⟨hn,Bu (eO I.lt hb),I.vK hb,.inr (iQ I.sz hb),λx c e z=>?_,λp hp z=>?_⟩
 .obtain⟨v,q⟩:=I.cell x c e;exact bG (eO q.lt (by rw[z];exact hb)) (jl _)
 .exact bG (eO (cQ (I.pin p hp).1) (by rw[z];exact hb)) (jl _)
structure Turn (P:cL) (w:bX) (K:aH) (tg:Expr) (J:It) (fp:List aj) (it:aj) (tn:Nat->bJ->Prop):Prop where
 mem:it∈fp
 obj:∀i h,tn i h->∀b∈fp,∃o,h.get? b=some o/\∀v,o.data≠.cell v
 keep:∀i h h',tn i h->(∀b∈fp,∀o,h.get? b=some o->h'.get? b=some o)->tn i h'
 item:∀(X:Cx),X.prog=P->X.w=w->X.K=K->X.calm=true->∀(i:Nat) (ae:List (aj×Obj)) (s:au) (Z:St) (H:Hp) (E:ai->au->Prop),Inv X ae Z H s->(∀b∈fp,gH X ae H b)->tn i s.heap->J.go i H->
  wpAny (model P w) X.A (pyNext (.ref it)) (λr s1=>∃u,r=some u/\ wpAny (model P w) X.A (letOwnedTupleGo tg (.ref it) u) (λ_ s2=>∃x H',Inv X ae Z H' s2/\RelV x u/\J.pJ i H x H'/\tn (i+1) s2.heap/\∀b∈fp,H' b=none) E s1) E s
 done:∀(X:Cx),X.prog=P->X.w=w->X.K=K->X.calm=true->∀(i:Nat) (ae:List (aj×Obj)) (s:au) (Z:St) (H:Hp) (E:ai->au->Prop),Inv X ae Z H s->(∀b∈fp,gH X ae H b)->tn i s.heap->J.stop i H->
  wpAny (model P w) X.A (pyNext (.ref it)) (λr s1=>r=none/\Inv X ae Z H s1) E s
 self:∀(A:cy) (i:Nat) (s:au) (Q:ai->au->Prop) (E:ai->au->Prop),tn i s.heap->Q (.ref it) s->wpAny (model P w) A (pyIter (.ref it)) Q E s
abbrev TI:=St->Hp->(It->Hp->Prop)->Prop
def D0(X:Cx)(ae:List (aj×Obj))(Z:St)(tg:Expr)(R:It->Hp->Prop)(Dw:ai)(s2:au):Prop:=
 ∃(it:aj) (fp:List aj) (tn:Nat->bJ->Prop) (J:It) (H':Hp),Dw=.ref it/\Inv X ae Z H' s2/\Turn X.prog X.w X.K tg J fp it tn/\tn 0 s2.heap/\(∀b∈fp,gH X ae H' b)/\R J H'
def PI(X:Cx)(tg iter:Expr)(wi:TI):Prop:=
 ∀(ae:List (aj×Obj)) (s:au) (Z:St) (H:Hp) (R:It->Hp->Prop),Inv X ae Z H s->wi Z H R->
  wpAny (mX X) X.A (eval iter X.env) (λv s1=>wpAny (mX X) X.A (pyIter v) (D0 X ae Z tg R) X.xe s1) X.xe s
def xJ{M:Model}{A:cy}{E:ai->au->Prop}{it:aj}{o:Obj}{n:String}{vs:Array ai}{Q:Unit->au->Prop}(ho:s.heap.get? it=some o)(hc:o.cls=.type n)(hd:o.data=.fields vs)
  (hn:["enumerate","zip","dict_itemiterator","dict_reverseitemiterator","odict_iterator","itertools.zip_longest","itertools.pairwise"].contains n=false) (hQ:Q () s):wpAny M A (letOwnedTupleGo tg (.ref it) u) Q E s:=by
 unfold letOwnedTupleGo;cases tg <;> first
  |exact a_ hQ
  |(cases u <;> first
    |exact a_ hQ
    |(refine aE (wpAny_load ho ?_)
      rw[hc,hd];show wpAny M A (if(["enumerate","zip","dict_itemiterator","dict_reverseitemiterator","odict_iterator","itertools.zip_longest","itertools.pairwise"].contains n&&vs[0]? == some (rawInt _))=true then _ else _) Q E s
      rw[aO (by intro h;rw[hn,Bool.false_and] at h;cases h)]
      exact a_ hQ))
def DX(K:aH)(a:aj):It:=
 ⟨λi H=>∃xs x,cI K H a xs/\xs[i]?=some x,λi H x H'=>H'=H/\∀xs,cI K H a xs->xs[i]?=some x,λi H=>∃xs,cI K H a xs/\xs.length<=i⟩
def DY(K:aH)(a:aj):It:=
 ⟨λi H=>∃xs x,fy K H a xs/\xs[i]?=some x,λi H x H'=>H'=H/\∀xs,fy K H a xs->xs[i]?=some x,λi H=>∃xs,fy K H a xs/\xs.length<=i⟩
def yA(lo:Int)(n:Nat):It:=⟨λi _=>i<n,λi H x H'=>H'=H/\x=.int (lo+i),λi _=>n<=i⟩
def O_(a it:aj):Turn P w K tg (DX K a) [it] it (λi h=>h.IsListIter it a i) where
 mem:=by simp
 obj:=λi h st b hb=>by
  have e:b=it:=by simpa using hb
  subst e;obtain⟨o,e,c,d⟩:=st;exact⟨o,e,λv z=>by rw[d] at z;cases z⟩
 keep:=λi h h' st k=>st.at λo e=>k it (by simp) o e
 item:=by
  intro X hP hw hK hc i ae s Z H E I hf st hg;subst hP hw hK;refine kY λkz=>?_
  obtain⟨xs,x,hq,hx⟩:=hg;obtain⟨aA,rv,p,hz⟩:=I.list hq;obtain⟨u,hu,ru⟩:=rv.get hx;obtain⟨f0,f1,f2,f3,f4,f5⟩:=hf it (by simp)
  refine kz ?_;refine wpAny_pyNext_list_item st p.isList (x:=u) (by simpa using hu) λh' kW sb=>?_
  have I1:Inv X ae Z H { s with heap:=h'}:=I.turned (t':=s.toks) (λb o hb e=>(sb.2 b hb).trans e) f0 f1 f3 f4 f5
  obtain⟨o,e,c,d⟩:=id kW;exact⟨u,rfl,xJ (s:={ s with heap:=h'}) e c d (by decide) ⟨x,H,I1,ru,⟨rfl,λys hy=>by rw[I.iG hy hq];exact hx⟩,kW,λb hb=>(hf b hb).1⟩⟩
 done:=by
  intro X hP hw hK hc i ae s Z H E I hf st hg;subst hP hw hK;refine kY λkz=>?_
  obtain⟨xs,hq,hx⟩:=hg;obtain⟨aA,rv,p,hz⟩:=I.list hq;obtain⟨f0,f1,f2,f3,f4,f5⟩:=hf it (by simp)
  have hl:=rv.length;refine kz ?_;exact wpAny_pyNext_list_end (I.ok.hd hc) st p.isList (by simp;lia) λh' eb=>⟨rfl,I.turned (t':=s.toks) (λb o hb e=>eb b o hb e) f0 f1 f3 f4 f5⟩
 self:=λ_ _ _ _ _ st h=>wpAny_pyIter_listiter st h
def OR(a it:aj):Turn P w K tg (DY K a) [it] it (λi h=>h.IsTupleIter it a i) where
 mem:=by simp
 obj:=λi h st b hb=>by
  have e:b=it:=by simpa using hb
  subst e;obtain⟨o,e,c,d⟩:=st;exact⟨o,e,λv z=>by rw[d] at z;cases z⟩
 keep:=λi h h' st k=>st.at λo e=>k it (by simp) o e
 item:=by
  intro X hP hw hK hc i ae s Z H E I hf st hg;subst hP hw hK;refine kY λkz=>?_
  obtain⟨xs,x,hq,hx⟩:=hg;obtain⟨aA,rv,p,hz⟩:=I.tuple hq;obtain⟨u,hu,ru⟩:=rv.get hx;obtain⟨f0,f1,f2,f3,f4,f5⟩:=hf it (by simp)
  refine kz ?_;refine wpAny_pyNext_tuple_item st (show s.heap.IsTuple a aA.toArray from p) (x:=u) (by simpa using hu) λh' kW sb=>?_
  have I1:Inv X ae Z H { s with heap:=h'}:=I.turned (t':=s.toks) (λb o hb e=>(sb.2 b hb).trans e) f0 f1 f3 f4 f5
  obtain⟨o,e,c,d⟩:=id kW;exact⟨u,rfl,xJ (s:={ s with heap:=h'}) e c d (by decide) ⟨x,H,I1,ru,⟨rfl,λys hy=>by rw[I.jB hy hq];exact hx⟩,kW,λb hb=>(hf b hb).1⟩⟩
 done:=by
  intro X hP hw hK hc i ae s Z H E I hf st hg;subst hP hw hK;refine kY λkz=>?_
  obtain⟨xs,hq,hx⟩:=hg;obtain⟨aA,rv,p,hz⟩:=I.tuple hq;obtain⟨f0,f1,f2,f3,f4,f5⟩:=hf it (by simp)
  have hl:=rv.length;refine kz ?_;exact wpAny_pyNext_tuple_end (I.ok.hd hc) st (show s.heap.IsTuple a aA.toArray from p) (by simp;lia) λh' eb=>⟨rfl,I.turned (t':=s.toks) (λb o hb e=>eb b o hb e) f0 f1 f3 f4 f5⟩
 self:=λ_ _ _ _ _ st h=>wpAny_pyIter_tupleiter st h
def OS(it:aj)(lo:Int)(n:Nat):Turn P w K tg (yA lo n) [it] it (λi h=>IsRangeIter h it (lo+(i:Nat)*1) ((n:Int) - (i:Nat)) 1) where
 mem:=by simp
 obj:=λi h st b hb=>by
  have e:b=it:=by simpa using hb
  subst e;exact⟨_,st,λv z=>by
   have z':Data.fields _=Data.cell v:=z;cases z'⟩
 keep:=λi h h' st k=>k it (by simp) _ st
 item:=by
  intro X hP hw hK hc i ae s Z H E I hf st hg;subst hP hw hK;obtain⟨f0,f1,f2,f3,f4,f5⟩:=hf it (by simp)
  have W:=Walks.range (prog:=X.prog) (w:=X.w) (I.ok.hd hc) it lo 1 n;refine W.item i s _ _ hg st λv h' tk hv kW kk=>?_
  obtain⟨t,rfl⟩:=hv;have I1:Inv X ae Z H { s with heap:=h',toks:=tk}:=I.turned (λb o hb e=>kk b o (by simpa using hb) e) f0 f1 f3 f4 f5
  refine⟨_,rfl,xJ (s:={ s with heap:=h',toks:=tk}) (n:="range_iterator") kW rfl rfl (by decide) ⟨.int (lo+i),H,I1,⟨t,?_⟩,⟨rfl,rfl⟩,kW,λb hb=>(hf b hb).1⟩⟩
  rw[Int.mul_one]
 done:=by
  intro X hP hw hK hc i ae s Z H E I hf st hg;subst hP hw hK;obtain⟨f0,f1,f2,f3,f4,f5⟩:=hf it (by simp)
  exact wpAny_pyNext_range_end (I.ok.hd hc) st (by have:n<=i:=hg;lia) λh' eb=>⟨rfl,I.turned (t':=s.toks) (λb o hb e=>eb b o hb e) f0 f1 f3 f4 f5⟩
 self:=λ_ _ _ _ _ st h=>wpAny_pyIter_rangeiter st h
section
variable{X:Cx}{tg:Expr}
def tG(K:aH)(tl:TE):TI:=λZ H R=>tl Z H λx H1=>∃a,x=.ref a/\(∃xs,cI K H1 a xs)/\R (DX K a) H1
def Av(K:aH)(tl:TE):TI:=λZ H R=>tl Z H λx H1=>∃a,x=.ref a/\(∃xs,fy K H1 a xs)/\R (DY K a) H1
def R3{l:Expr}{tl:TE}(hl:PE X l tl):PI X tg l (tG X.K tl):=by
 intro ae s Z H R I h;refine bz (hl ae s Z H _ I h) λv s1 hh=>?_
 obtain⟨x,H1,I1,r1,q1⟩:=hh;obtain⟨a,e,⟨xs,hq⟩,q⟩:=q1;subst e;cases r1;obtain⟨aA,rv,p,hz⟩:=I1.list hq;refine wpAny_pyIter_list p.isList ?_;refine⟨s1.heap.objs.size,[s1.heap.objs.size],_,_,H1,rfl,I1.kept (t':=s1.toks) λb o e=>dU _ e,O_ a _,⟨_,jD _ rfl,rfl,rfl⟩,λb hb=>?_,q⟩
 have e:b=s1.heap.objs.size:=by simpa using hb
 subst e;exact I1.lB (bC _) (I1.bL.fresh (bC _))
def Vn{l:Expr}{tl:TE}(hl:PE X l tl):PI X tg l (Av X.K tl):=by
 intro ae s Z H R I h;refine bz (hl ae s Z H _ I h) λv s1 hh=>?_
 obtain⟨x,H1,I1,r1,q1⟩:=hh;obtain⟨a,e,⟨xs,hq⟩,q⟩:=q1;subst e;cases r1;obtain⟨aA,rv,p,hz⟩:=I1.tuple hq;refine wpAny_pyIter_tuple (show s1.heap.IsTuple a aA.toArray from p) ?_;refine⟨s1.heap.objs.size,[s1.heap.objs.size],_,_,H1,rfl,I1.kept (t':=s1.toks) λb o e=>dU _ e,OR a _,⟨_,jD _ rfl,rfl,rfl⟩,λb hb=>?_,q⟩
 have e:b=s1.heap.objs.size:=by simpa using hb
 subst e;exact I1.lB (bC _) (I1.bL.fresh (bC _))
def J0{ae:List (aj×Obj)}{Z:St}{H:Hp}{s:au}{R:It->Hp->Prop}{E:ai->au->Prop}{lo hi:Int}{t u v:Tok}{tk:Nat}(I:Inv X ae Z H s)(h1:-(2^62)<=lo)(h2:lo<2^62)(h3:-(2^62)<=hi)(h4:hi<2^62)
  (q:R (yA lo (hi - lo).toNat) H):wpAny (mX X) X.A (pyIter (.ref s.heap.objs.size)) (D0 X ae Z tg R) E { s with heap:=s.heap.push { cls:=.type "range",data:=.fields #[.int lo t,.int hi u,.int 1 v]},toks:=tk}:=by
 refine wpAny_pyIter_range (IsRange.new ..) (small_one h1 h2 h3 h4) ?_;have I1:Inv X ae Z H { s with heap:=s.heap.push { cls:=.type "range",data:=.fields #[.int lo t,.int hi u,.int 1 v]},toks:=tk}:=I.kept λb o e=>dU _ e
 refine⟨(s.heap.push { cls:=.type "range",data:=.fields #[.int lo t,.int hi u,.int 1 v]}).objs.size,[(s.heap.push { cls:=.type "range",data:=.fields #[.int lo t,.int hi u,.int 1 v]}).objs.size],_,_,H,rfl,I1.kept (t':=tk) λb o e=>dU _ e,OS _ lo (hi - lo).toNat,?_,λb hb=>?_,q⟩
 .have e1:lo+((0:Nat):Int)*1=lo:=by simp
  have e2:(((hi - lo).toNat:Nat):Int) - ((0:Nat):Int)=Builtin.Range.rangeSize lo hi 1:=by rw[rangeSize_one];split <;> lia
  show IsRangeIter _ _ (lo+((0:Nat):Int)*1) ((((hi - lo).toNat:Nat):Int) - ((0:Nat):Int)) 1;rw[e1,e2];exact jD _ rfl
 .have e:b=(s.heap.push { cls:=.type "range",data:=.fields #[.int lo t,.int hi u,.int 1 v]}).objs.size:=by simpa using hb
  subst e;exact I1.lB (bC _) (I1.bL.fresh (bC _))
def tH(ta:TA):TI:=λZ H R=>ta Z H λvs H1=>∃j:Int,vs=[.int j] /\ -(2^62)<=j/\j<2^62/\R (yA 0 j.toNat) H1
def tI(ta:TA):TI:=λZ H R=>ta Z H λvs H1=>∃i j:Int,vs=[.int i,.int j]/\(-(2^62)<=i/\i<2^62 /\ -(2^62)<=j/\j<2^62)/\R (yA i (j - i).toNat) H1
def O'{a:Expr}{ta:TA}{p pos:Pos}(hg:Gl X "range")(hm:X.mg "range"=none)(ha:PA X [a] ta)(hs:starEach [a] X.env=[(false,eval a X.env)]:=by rfl):PI X tg (.Call (.Name "range" p) [a] [] pos) (tH ta):=by
 intro ae s Z H R I h;refine Call_ (qD I hg hm boot_range (PyProof.Rows.callWith_type1 (bz (ha pos ae s Z H _ I h) λus s1 hh=>?_) hs rfl))
 obtain⟨vs,H1,I1,r1,q1⟩:=hh;obtain⟨j,e,q1,q2,q⟩:=q1;subst e;cases r1 with
 |cons r rr=>
  cases rr;obtain⟨t,rfl⟩:=r;exact call_range_1 (J0 I1 (by lia) (by lia) q1 q2 (by simpa using q))
def Pa{a b:Expr}{ta:TA}{p pos:Pos}(hg:Gl X "range")(hm:X.mg "range"=none)(ha:PA X [a,b] ta)(hs:starEach [a,b] X.env=[(false,eval a X.env),(false,eval b X.env)]:=by rfl)(p_:starEach [b] X.env=[(false,eval b X.env)]:=by rfl):
  PI X tg (.Call (.Name "range" p) [a,b] [] pos) (tI ta):=by
 intro ae s Z H R I h;refine Call_ (qD I hg hm boot_range (PyProof.Rows.callWith_type1 (bz (ha pos ae s Z H _ I h) λus s1 ⟨vs,H1,I1,r1,q1⟩=>?_) (by rw[hs,p_]) (by rw[p_];rfl)))
 obtain⟨i,j,e,⟨q1,q2,q3,q4⟩,q⟩:=q1;subst e;cases r1 with
 |cons r rr=>
  cases rr with
  |cons r' rr=>
   cases rr;obtain⟨t,rfl⟩:=r;obtain⟨t',rfl⟩:=r';exact call_range_2 (J0 I1 q1 q2 q3 q4 q)
def HQ(wi:TI)(g:TG)(tb:TS):TS:=λD Z H=>wi Z H λJ H1=>∃W:Nat->Nat->St->Hp->Prop,(∃m,W 0 m Z H1)/\∀i m Z H,W i m Z H->
 (J.stop i H/\D.nx Z H)\/(J.go i H/\∃N:St->Hp->Prop,(∀Z' H',N Z' H'->∃m',m'<m/\W (i+1) m' Z' H')/\∀x H',J.pJ i H x H'->g x Z H' λZ2 H2=>tb { D with nx:=N,ct:=N,bk:=D.nx} Z2 H2)
noncomputable def zo(fp:List aj)(h:bJ):List (aj×Obj):=fp.filterMap λb=>(h.get? b).map λo=>(b,o)
def BZ{fp:List aj}{h:bJ}{b:aj}{o:Obj}(hb:b∈fp)(e:h.get? b=some o):(b,o)∈zo fp h:=wC.mpr ⟨b,hb,by rw[e];rfl⟩
def Pb{fp:List aj}{h:bJ}{p:aj×Obj}(hp:p∈zo fp h):p.1∈fp/\h.get? p.1=some p.2:=by
 obtain⟨b,hb,e⟩:=wC.mp hp;cases q:h.get? b with
 |none=>rw[q] at e;cases e
 |some o=>
  rw[q] at e;have e':(b,o)=p:=Option.some.inj e;subst e';exact⟨hb,q⟩
def Inv.pinned{ae:List (aj×Obj)}{Z:St}{H:Hp}{s:au}{fp:List aj}(I:Inv X ae Z H s)(hf:∀b∈fp,gH X ae H b)(ho:∀b∈fp,∃o,s.heap.get? b=some o/\∀v,o.data≠.cell v):Inv X (ae++zo fp s.heap) Z H s:=
 I.ib λp hp=>(dD.mp hp).elim (λz=>I.pin p (m7 _ z)) λz=>by
  obtain⟨hb,e⟩:=Pb z;obtain⟨f0,f1,f2,_⟩:=hf p.1 hb;obtain⟨o,e',d⟩:=ho p.1 hb;rw[e] at e';cases e';exact⟨e,f0,f1,f2,d⟩
def Inv.d7{ae pl:List (aj×Obj)}{Z:St}{H:Hp}{s:au}(I:Inv X (ae++pl) Z H s):Inv X ae Z H s:=I.ib λp hp=>I.pin p (m7 _ (t_ _ hp))
def L6{iter:Expr}{body:List Stmt}{wi:TI}{g:TG}{tb:TS}{pos:Pos}(hp:PassesOwn (mX X) X.A X.env X.xe)(hc:X.calm=true)(hi:PI X tg iter wi)(hg:PG X tg g)(hb:ij X body tb)
  (hs:∀x,foldedSetIterable iter X.env x=pure x:=by intro _;rfl):PS X (.For tg iter body [] pos) (HQ wi g tb):=by
 intro ae s Z H D I h;refine wpAny_For (bz (hi ae s Z H _ I h) λv s1 h1=>bz h1 λDw s2 h2=>?_) hs
 refine kY λkz=>?_
 obtain⟨it,fp,tn,J,H2,e,I2,T,nt,f2,W,⟨m0,w0⟩,turn⟩:=h2;subst e;refine kz ?_;have lP:∀{H':Hp},(∀b∈fp,H' b=none)->∀b∈fp,gH X ae H' b:=λhn b hb=>⟨hn b hb,(f2 b hb).2⟩
 refine codeAny_forLoop_any (λn s'=>∃i Z' H',Inv X ae Z' H' s'/\tn i s'.heap/\(∀b∈fp,H' b=none)/\W i n Z' H') ?_ m0 ⟨0,Z,H2,I2,nt,λb hb=>(f2 b hb).1,w0⟩
 rintro n s3 ⟨i,Z3,H3,I3,Oa,Nv,w3⟩;rcases turn i n Z3 H3 w3 with⟨stop,qn⟩|⟨go,N,hN,step⟩
 .refine wpAny_passesOwn hp (bz (T.done X rfl rfl rfl hc i ae s3 Z3 H3 X.xe I3 (lP Nv) Oa stop) λr s4 ⟨hr,I4⟩=>?_)
  subst hr;exact wpAny_execs_nil ⟨Z3,H3,I4,qn⟩
 .refine wpAny_passesOwn hp (bz (T.item X rfl rfl rfl hc i ae s3 Z3 H3 X.xe I3 (lP Nv) Oa go) λr s4 ⟨u,hr,h4⟩=>?_)
  subst hr;refine wpAny_passesOwn hp (bz h4 λ_ s5 hh=>?_)
  refine kY λkz=>?_
  obtain⟨x,H5,I5,r5,y5,wk,FZ⟩:=hh;have DV:=I5.pinned (lP FZ) (T.obj _ _ wk);refine kz ?_;refine wpAny_passesOwn hp (bz (hg _ s5 Z3 H5 x u _ DV r5 (step x H5 y5)) λ_ s6 hh=>?_)
  obtain⟨Z6,H6,I6,q6⟩:=hh;refine wpAny_passesOwn hp (bz (hb _ s6 Z6 H6 _ I6 q6) λf s7 q7=>?_)
  have again:∀{Z7:St} {H7:Hp},Inv X (ae++zo fp s5.heap) Z7 H7 s7->N Z7 H7->∃m,m<n/\∃i Z' H',Inv X ae Z' H' s7/\tn i s7.heap/\(∀b∈fp,H' b=none)/\W i m Z' H':=λ{Z7 H7} I7 n7=>by
   obtain⟨m',hm,w7⟩:=hN Z7 H7 n7;refine⟨m',hm,i+1,Z7,H7,I7.d7,T.keep _ _ _ wk λb hb o e=>(I7.pin (b,o) (m7 _ (m7 _ (BZ hb e)))).1,λb hb=>?_,w7⟩
   obtain⟨o,e,d⟩:=T.obj _ _ wk b hb;exact(I7.pin (b,o) (m7 _ (m7 _ (BZ hb e)))).2.1
  cases f with
  |next=>obtain⟨Z7,H7,I7,n7⟩:=q7;exact again I7 n7
  |cont=>obtain⟨Z7,H7,I7,n7⟩:=q7;exact again I7 n7
  |brk=>obtain⟨Z7,H7,I7,q7⟩:=q7;exact⟨Z7,H7,I7.d7,q7⟩
  |ret v=>obtain⟨x7,Z7,H7,I7,r7,q7⟩:=q7;exact⟨x7,Z7,H7,I7.d7,r7,q7⟩
end
variable{ae:List (aj×Obj)}{s:au}{Z:St}{H:Hp}{f:ai->ai->Sem ai}{op:CmpOp}{g:Int->Int->Int}{x:V}{us:List ai}
abbrev R2:=V->V->Hp->VK->Prop
variable{r r':R2}
def dh(X:Cx)(f:ai->ai->Sem ai)(r:R2):Prop:=
 ∀(ae:List (aj×Obj)) (s:au) (Z:St) (H:Hp) (x y:V) (v u:ai) (Q:VK),Inv X ae Z H s->RelV x v->RelV y u->r x y H Q->
  wpAny (mX X) X.A (f v u) (EP X ae Z Q) X.xe s
def BK(X:Cx)(f:ai->Sem ai)(r:V->Hp->VK->Prop):Prop:=
 ∀(ae:List (aj×Obj)) (s:au) (Z:St) (H:Hp) (x:V) (v:ai) (Q:VK),Inv X ae Z H s->RelV x v->r x H Q->
  wpAny (mX X) X.A (f v) (EP X ae Z Q) X.xe s
def bD(X:Cx)(f:ai)(r:List V->Hp->VK->Prop):Prop:=
 ∀(ae:List (aj×Obj)) (s:au) (Z:St) (H:Hp) (xs:List V) (us:List ai) (Q:VK),Inv X ae Z H s->Vals xs us->r xs H Q->
  wpAny (mX X) X.A (call f us) (EP X ae Z Q) X.xe s
def D6(X:Cx)(r:V->Hp->(Bool->Hp->Prop)->Prop):Prop:=
 ∀(ae:List (aj×Obj)) (s:au) (Z:St) (H:Hp) (x:V) (v:ai) (Q:Bool->Hp->Prop),Inv X ae Z H s->RelV x v->r x H Q->
  wpAny (mX X) X.A (truthy v) (TP X ae Z Q) X.xe s
def DG(r:R2)(ta tb:TE):TE:=λZ H Q=>ta Z H λx H1=>tb Z H1 λy H2=>r x y H2 Q
def ZW(r:V->Hp->VK->Prop)(ta:TE):TE:=λZ H Q=>ta Z H λx H1=>r x H1 Q
def rI(C:Int->Int->Prop)(g:Int->Int->V):R2:=λx y H Q=>∃i j,x=.int i/\y=.int j/\C i j/\Q (g i j) H
def mW(g:Int->Int->V):R2:=λx y H Q=>∃i j,x=.int i/\y=.int j/\Q (g i j) H
def rU(g:Int->V):V->Hp->VK->Prop:=λx H Q=>∃i,x=.int i/\Q (g i) H
section
variable{X:Cx}{a b c:Expr}{ta tb tc:TE}{pos:Pos}
def uP(ha:PE X a ta)(hb:PE X b tb){R:V->V->Hp->Prop}(I:Inv X ae Z H s)
  (h:ta Z H λx H1=>tb Z H1 λy H2=>R x y H2) {Q:ai->au->Prop} 
  (hf:∀v u s2 x y H2,Inv X ae Z H2 s2->RelV x v->RelV y u->R x y H2->wpAny (mX X) X.A (f v u) Q X.xe s2) :
  wpAny (mX X) X.A (eval a X.env) (λv s₁=>wpAny (mX X) X.A (eval b X.env) (λu s₂=>wpAny (mX X) X.A (f v u) Q X.xe s₂) X.xe s₁) X.xe s:=by
 refine bz (ha ae s Z H _ I h) λv s1 hh=>?_
 obtain⟨x,H1,I1,r1,q1⟩:=hh;refine bz (hb ae s1 Z H1 _ I1 q1) λu s2 hh=>?_
 obtain⟨y,H2,I2,r2,q2⟩:=hh;exact hf v u s2 x y H2 I2 r1 r2 q2
def Xm{op:Operator}(ho:dh X (binaryOp op) r)(ha:PE X a ta)(hb:PE X b tb):PE X (.BinOp a op b pos) (DG r ta tb):=by
 intro ae s Z H Q I h;exact wpAny_BinOp (uP ha hb I h λv u s2 x y H2 I2 rx ry q=>ho ae s2 Z H2 x y v u Q I2 rx ry q)
def Xn{op:UnaryOp}{r:V->Hp->VK->Prop}(ho:BK X (unaryOp op) r)(ha:PE X a ta):PE X (.UnaryOp op a pos) (ZW r ta):=by
 intro ae s Z H Q I h;exact UnaryOp_ (bz (ha ae s Z H _ I h) λv s1 ⟨x,H1,I1,r1,q1⟩=>ho ae s1 Z H1 x v Q I1 r1 q1)
def Hq{C:Int->Int->Prop}
  (rule:∀(i j:Int) (t u:Tok) (s:au) (Q:ai->au->Prop) (E:ai->au->Prop),C i j->Q (.int (g i j) s.toks) { s with toks:=s.toks+1}->wpAny (mX X) X.A (f (.int i t) (.int j u)) Q E s) :
  dh X f (rI C λi j=>.int (g i j)):=by
 intro ae s Z H x y v u Q I rx ry h;obtain⟨i,j,rfl,rfl,hc,q⟩:=h;obtain⟨t,rfl⟩:=rx;obtain⟨t',rfl⟩:=ry;exact rule i j t t' s _ _ hc ⟨.int (g i j),H,I.tok _,⟨_,rfl⟩,q⟩
def AQ
  (rule:∀(i j:Int) (t u:Tok) (s:au) (Q:ai->au->Prop) (E:ai->au->Prop),Q (.int (g i j) s.toks) { s with toks:=s.toks+1}->wpAny (mX X) X.A (f (.int i t) (.int j u)) Q E s) :
  dh X f (mW λi j=>.int (g i j)):=by
 intro ae s Z H x y v u Q I rx ry h;obtain⟨i,j,rfl,rfl,q⟩:=h;obtain⟨t,rfl⟩:=rx;obtain⟨t',rfl⟩:=ry;exact rule i j t t' s _ _ ⟨.int (g i j),H,I.tok _,⟨_,rfl⟩,q⟩
def AO{g:Int->Int->Bool}
  (rule:∀(i j:Int) (t u:Tok) (s:au) (Q:ai->au->Prop) (E:ai->au->Prop),Q (.bool (g i j)) s->wpAny (mX X) X.A (f (.int i t) (.int j u)) Q E s) :
  dh X f (mW λi j=>.bl (g i j)):=by
 intro ae s Z H x y v u Q I rx ry h;obtain⟨i,j,rfl,rfl,q⟩:=h;obtain⟨t,rfl⟩:=rx;obtain⟨t',rfl⟩:=ry;exact rule i j t t' s _ _ ⟨.bl (g i j),H,I,rfl,q⟩
def ud(i j:Int):Prop:=0<j/\j<1073741824
def qo(i j:Int):Prop:=(-(2^64)<i/\i<2^64)\/(-(2^64)<j/\j<2^64)
def qo.ok{i j:Int}(h:qo i j):IntMulOk i j:=by
 rcases h with⟨h1,h2⟩|⟨h1,h2⟩
 .exact .of_left (intBits_le_64 h1 h2)
 .exact .of_right (intBits_le_64 h1 h2)
def vO:dh X (binaryOp .Add) (mW λi j=>.int (i+j)):=AQ λ_ _ _ _ _ _ _ q=>add_int q
def Vo:dh X (binaryOp .Sub) (mW λi j=>.int (i - j)):=AQ λ_ _ _ _ _ _ _ q=>sub_int q
def vQ:dh X (binaryOp .Mult) (rI qo λi j=>.int (i*j)):=Hq λ_ _ _ _ _ _ _ hc q=>mul_int q hc.ok
def R4:dh X (binaryOp .FloorDiv) (rI ud λi j=>.int (i / j)):=Hq λi j _ _ _ _ _ hc q=>by
 have h1:(0:Int)<j:=hc.1;have h2:j<1073741824:=hc.2;exact floordiv_int (by lia) (by rw[Int.fdiv_eq_ediv_of_nonneg i (by lia)];exact q) (.inl (PyProof.noPylong_small (by lia)))
def Vp:dh X (binaryOp .Mod) (rI (λ_ j=>0<j) λi j=>.int (i%j)):=Hq λi j _ _ _ _ _ hc q=>by
 have h1:(0:Int)<j:=hc;exact mod_int' (by lia) (by rw[Int.fmod_eq_emod_of_nonneg i (by lia)];exact q)
def ZY{f:ai->Sem ai}{g:Int->Int}
  (rule:∀(i:Int) (t:Tok) (s:au) (Q:ai->au->Prop) (E:ai->au->Prop),Q (.int (g i) s.toks) { s with toks:=s.toks+1}->wpAny (mX X) X.A (f (.int i t)) Q E s) :
  BK X f (rU λi=>.int (g i)):=by
 intro ae s Z H x v Q I rx h;obtain⟨i,rfl,q⟩:=h;obtain⟨t,rfl⟩:=rx;exact rule i t s _ _ ⟨.int (g i),H,I.tok _,⟨_,rfl⟩,q⟩
def Vq:BK X (unaryOp .USub) (rU λi=>.int (-i)):=ZY λ_ _ _ _ _ q=>neg_int q
def qE{Q:VK}{k k':Bool}(I:Inv X ae Z H s)(q:Q (.bl k) H)(e:k=k'):EP X ae Z Q (.bool k') s:=by
 subst e;exact⟨.bl k,H,I,rfl,q⟩
def tQ:dh X (compareOp .Lt) (mW λi j=>.bl (decide (i<j))):=AO λ_ _ _ _ _ _ _ q=>lt_int q
def Xo:dh X (compareOp .Gt) (mW λi j=>.bl (decide (j<i))):=AO λ_ _ _ _ _ _ _ q=>gt_int q
def Pc:dh X (compareOp .In) (λx y H Q=>∃i j,x=.str i/\y=.str j/\Q (.bl (!(Builtin.Str.occurrences j i 0 j.length 1).isEmpty)) H):=by
 intro ae s Z H x y v u Q I rx ry h;obtain⟨i,j,rfl,rfl,q⟩:=h;obtain⟨t,rfl⟩:=rx;obtain⟨t',rfl⟩:=ry;exact in_str (qE I q rfl)
def vP:dh X (compareOp .Is) (λx y H Q=>y=.aR/\Q (.bl (decide (x=.aR))) H):=by
 intro ae s Z H x y v u Q I rx ry h;obtain⟨rfl,q⟩:=h;cases ry;refine is_none_gen (qE I q ?_);cases x <;> first
  |(cases rx;rfl)
  |(obtain⟨t,rfl⟩:=rx;rfl)
def rD:dh X (compareOp .IsNot) (λx y H Q=>y=.aR/\Q (.bl (!decide (x=.aR))) H):=by
 intro ae s Z H x y v u Q I rx ry h;obtain⟨rfl,q⟩:=h;cases ry;refine isnot_none_gen (qE I q ?_);cases x <;> first
  |(cases rx;rfl)
  |(obtain⟨t,rfl⟩:=rx;rfl)
def OI:dh X (compareOp .NotIn) (λx y H Q=>∃i j,x=.str i/\y=.str j/\Q (.bl (!(!(Builtin.Str.occurrences j i 0 j.length 1).isEmpty))) H):=by
 intro ae s Z H x y v u Q I rx ry h;obtain⟨i,j,rfl,rfl,q⟩:=h;obtain⟨t,rfl⟩:=rx;obtain⟨t',rfl⟩:=ry;exact notIn_str (qE I q rfl)
def dh.or(h:dh X f r)(h':dh X f r'):dh X f (λx y H Q=>r x y H Q\/r' x y H Q):=by
 intro ae s Z H x y v u Q I rx ry q;rcases q with q|q
 .exact h ae s Z H x y v u Q I rx ry q
 .exact h' ae s Z H x y v u Q I rx ry q
def Kz(ho:dh X (compareOp op) r)(ha:PE X a ta)(hb:PE X b tb)(hm:behindInMarks op b=false):PE X (.Compare a [op] [b] pos) (DG r ta tb):=by
 intro ae s Z H Q I h;exact wpAny_Compare1 (uP ha hb I h λv u s2 x y H2 I2 rx ry q=>ho ae s2 Z H2 x y v u Q I2 rx ry q) hm
def pA(t:TE):TT:=λZ H Q=>t Z H λx H'=>∃k,x=.bl k/\Q k H'
def R5(ho:dh X (compareOp op) r)(ha:PE X a ta)(hb:PE X b tb)(hm:behindInMarks op b=false):PT X (.Compare a [op] [b] pos) (pA (DG r ta tb)):=by
 intro ae s Z H Q I h;refine wpAny_isTrue_Compare1 (bz (ha ae s Z H _ I h) λv s1 h1=>?_) hm
 obtain⟨x,H1,I1,r1,q1⟩:=h1;refine bz (hb ae s1 Z H1 _ I1 q1) λu s2 h2=>?_
 obtain⟨y,H2,I2,r2,q2⟩:=h2;refine bz (ho ae s2 Z H2 x y v u _ I2 r1 r2 q2) λc s3 h3=>?_
 obtain⟨z,H3,I3,r3,k,rfl,q3⟩:=h3;cases r3;exact wpAny_truthy_bool ⟨H3,I3,q3⟩
def L7(r r':R2)(ta tb tc:TE):TE:=λZ H Q=>ta Z H λx H1=>tb Z H1 λy H2=>r x y H2 λz H3=>∃k,z=.bl k/\
 (if k=true then tc Z H3 λw' H4=>r' y w' H4 Q else Q (.bl false) H3)
def Qs{vL:CmpOp}(ho:dh X (compareOp op) r)(tm:dh X (compareOp vL) r')(ha:PE X a ta)(hb:PE X b tb)(hc:PE X c tc)
  (hm:lastMarks [op,vL] [b,c]=false:=by with_unfolding_all rfl):PT X (.Compare a [op,vL] [b,c] pos) (pA (L7 r r' ta tb tc)):=by
 intro ae s Z H Q I h;refine isTrue_chain (bz (ha ae s Z H _ I h) λv s1 h1=>?_) hm
 obtain⟨x,H1,I1,r1,q1⟩:=h1;refine test_link (bz (hb ae s1 Z H1 _ I1 q1) λu s2 h2=>?_)
 obtain⟨y,H2,I2,r2,q2⟩:=h2;refine bz (ho ae s2 Z H2 x y v u _ I2 r1 r2 q2) λd s3 h3=>?_
 obtain⟨z,H3,I3,r3,k,rfl,q3⟩:=h3;cases r3;refine wpAny_truthy_bool ?_;cases k with
 |false=>
  obtain⟨k',e',q'⟩:=q3;cases e';exact ite_ff ⟨H3,I3,q'⟩
 |true=>
  refine ite_tt (test_last (bz (hc ae s3 Z H3 _ I3 q3) λw' s4 h4=>?_))
  obtain⟨z',H4,I4,r4,q4⟩:=h4;refine bz (tm ae s4 Z H4 y z' u w' _ I4 r2 r4 q4) λd' s5 h5=>?_
  obtain⟨z2,H5,I5,r5,k2,rfl,q5⟩:=h5;cases r5;exact wpAny_truthy_bool ⟨H5,I5,q5⟩
def uj(K:aH)(x:V)(H:Hp)(k:Bool):Prop:=
 match x with
 |.aR=>k=false
 |.bl b=>k=b
 |.int i=>k=(i != 0)
 |.str y=>y.length<=sizeLine/\k=((y.length:Int) != 0)
 |.uR y=>y.size<=sizeLine/\k=((y.size:Int) != 0)
 |.ref p=>(∃xs,cI K H p xs/\k = !xs.isEmpty)\/(∃xs,fy K H p xs/\k = !xs.isEmpty)\/∃kvs,H p=some (.dK kvs)/\k = !kvs.isEmpty
 |_=>False
def OT{κ:Type}{kvs:List (κ×V)}{vs:List (κ×ai)}(r:KV kvs vs):(!vs.isEmpty) = !kvs.isEmpty:=by
 cases r <;> rfl
def Jf{xs:List V}{aA:List ai}(r:Vals xs aA):(!aA.toArray.isEmpty) = !xs.isEmpty:=by
 cases r <;> simp
def uH:(sizeLine:Nat)<2^63:=by rw[sizeLine_eq];decide
def Vr:D6 X (λx H Q=>∃k,uj X.K x H k/\Q k H):=by
 intro ae s Z H x v Q I rx h;obtain⟨k,e,q⟩:=h;have hl:=uH;have hs:sizeLine=16777216:=sizeLine_eq;cases x with
 |aR=>
  cases rx;have e':k=false:=e;subst e';exact truthy_none ⟨H,I,q⟩
 |bl b=>
  cases rx;have e':k=b:=e;subst e';exact wpAny_truthy_bool ⟨H,I,q⟩
 |int i=>
  obtain⟨t,rfl⟩:=rx;have e':k=(i != 0):=e;subst e';exact PySem.P.truthy_int ⟨H,I,q⟩
 |str y=>
  obtain⟨t,rfl⟩:=rx;obtain⟨hy,e'⟩:y.length<=sizeLine/\k=((y.length:Int) != 0):=e;subst e';exact PySem.P.truthy_str (by lia) ⟨H,I.tok _,q⟩
 |uR y=>
  obtain⟨t,rfl⟩:=rx;obtain⟨hy,e'⟩:y.size<=sizeLine/\k=((y.size:Int) != 0):=e;subst e';exact PySem.W.truthy_bytes (by lia) ⟨H,I.tok _,q⟩
 |ref p=>
  cases rx;have e':(∃xs,cI X.K H p xs/\k = !xs.isEmpty)\/(∃xs,fy X.K H p xs/\k = !xs.isEmpty)\/∃kvs,H p=some (.dK kvs)/\k = !kvs.isEmpty:=e;rcases e' with⟨xs,hx,e'⟩|⟨xs,hx,e'⟩|⟨kvs,hx,e'⟩
  .subst e';obtain⟨aA,r,pl,hz⟩:=I.list hx;have hlen:=r.length;exact wpAny_truthy_list pl.isList (by simp only[dq];lia) ⟨H,I.tok _,by rw[Jf r];exact q⟩
  .subst e';obtain⟨aA,r,pl,hz⟩:=I.tuple hx;have hlen:=r.length;exact truthy_tuple pl (by simp only[dq];lia) ⟨H,I.tok _,by rw[Jf r];exact q⟩
  .subst e';obtain⟨hz,hS,vs,r,m⟩:kvs.length<=sizeLine/\(p == sysModules)=false/\∃vs,KV kvs vs/\s.heap.DictOf (EH X.prog X.w) p vs:=I.bL p _ hx;have hlen:kvs.length=vs.length:=Paired.length r;exact wpAny_truthy_dict hS m (by lia) ⟨H,I.tok _,by rw[OT r];exact q⟩
 |_=>exact(show False from e).elim
def Qt(ha:PE X a ta)(he:∀whole,isTrue a X.env whole=(do let v <-whole;standAt a.pos;holding [v] (truthy v))):
  PT X a (λZ H Q=>ta Z H λx H'=>∃k,uj X.K x H' k/\Q k H'):=by
 intro ae s Z H Q I h;exact isTrue_plain (bz (ha ae s Z H _ I h) λv s1 ⟨x,H1,I1,r1,q1⟩=>Vr ae s1 Z H1 x v Q I1 r1 q1) (he _)
def lJ:dh X (binaryOp .Add) (λx y H Q=>∃i j,x=.str i/\y=.str j/\i.length+j.length<=sizeLine/\Q (.str (i++j)) H):=by
 intro ae s Z H x y v u Q I rx ry h;obtain⟨i,j,rfl,rfl,hz,q⟩:=h;obtain⟨t,rfl⟩:=rx;obtain⟨t',rfl⟩:=ry;exact add_str (λt' tk=>⟨.str (i++j),H,I.tok _,⟨_,rfl⟩,q⟩) hz
def vals1(r:Vals [x] us):∃u,us=[u]/\RelV x u:=by
 cases r with
 |cons r1 r2=>cases r2;exact⟨_,rfl,r1⟩
def vals2{y:V}(r:Vals [x,y] us):∃u w',us=[u,w']/\RelV x u/\RelV y w':=by
 cases r with
 |cons r1 r2=>
  cases r2 with
  |cons r3 r4=>cases r4;exact⟨_,_,rfl,r1,r3⟩
def Pd:bD X (.type "int") (λxs H Q=>(∃i,xs=[.int i]/\Q (.int i) H)\/∃k,xs=[.bl k]/\Q (.int (if k then 1 else 0)) H):=by
 intro ae s Z H xs us Q I r h;rcases h with⟨i,rfl,q⟩|⟨k,rfl,q⟩
 .obtain⟨u,rfl,t,rfl⟩:=vals1 r;exact call_int_int ⟨.int i,H,I,⟨_,rfl⟩,q⟩
 .obtain⟨u,rfl,r1⟩:=vals1 r;cases r1;exact call_int_bool ⟨.int (if k then 1 else 0),H,I.tok _,⟨_,rfl⟩,q⟩
end
def kq.some_of{v:V}{o:ah ai}(r:kq (some v) o):∃u,o=some u/\RelV v u:=by
 cases o with
 |none=>exact(show False from r).elim
 |some u=>exact⟨u,rfl,r⟩
structure Oh (K:aH) (C:aj):Prop where
 pg:PySem.W.plainGet K C Str.empty=true
 hd:PySem.W.hasDictIn K C=true
 po:PySem.W.plainOver K C=true
 sa:PySem.W.findIn K (.ref C) "__setattr__"=some (some (.builtin "object.__setattr__"))
def Vs(K:aH)(C:aj)(f:Str):Prop:=PySem.W.findIn K (.ref C) f=some none
variable{k:Nat}{A:cy}{Q:VK}{K:aH}{ps N:List Str}{H:Hp}{s:au}{us:List ai}{vs:List V}{P:cL}{w:bX}{mg:Str->ah ai}{base:bJ}{qual:Str}{scope:Scope}{f:aj}
structure cN (k:Nat) (A:cy):Prop where
 hd:A.handled=none
 dp:A.depth+3*k+5<recursionLimit
 un:A.units+16*k+200<cLine
def cN.mono{j:Nat}(r:cN k A)(h:j<=k):cN j A:=⟨r.hd,by have:=r.dp;lia,by have:=r.un;lia⟩
def cN.deeper{k:Nat}{A:cy}(r:cN (k+1) A)(env:Env):cN k (A.deeper env):=
 ⟨r.hd,by have:=r.dp;show A.depth+1+3*k+5<_;lia,by have:=r.un;show A.units+3+16*k+200<_;lia⟩
def cN.depth{k:Nat}{A:cy}(r:cN k A):A.depth<recursionLimit:=by have:=r.dp;lia
def cN.units{k:Nat}{A:cy}(r:cN k A):A.units+64<cLine:=by have:=r.un;lia
def wm:TA:=λ_ H Q=>Q [] H
def pw(ta:TE)(tr:TA):TA:=λZ H Q=>ta Z H λx H1=>tr Z H1 λxs H2=>Q (x::xs) H2
section
variable{X:Cx}{e:Expr}{es:List Expr}{te:TE}{t:TA}{pos:Pos}
def jZ:PA X [] wm:=λ_ _ _ _ H Q I h=>Calls.spliced_nil ⟨[],H,I,.nil,h⟩
def Cv(ha:PE X e te)(hr:PA X es t)(hs:starEach (e::es) X.env=(false,eval e X.env)::starEach es X.env:=by rfl):PA X (e::es) (pw te t):=by
 intro pos ae s Z H Q I h;rw[hs];show wpAny _ _ (spliced ((false,eval e X.env)::backTo pos (starEach es X.env))) _ _ s;refine Calls.spliced_cons (bz (ha ae s Z H _ I h) λu s1 hh=>?_)
 obtain⟨x,H1,I1,r1,q1⟩:=hh;exact bz (hr pos ae s1 Z H1 _ I1 q1) λus s2 ⟨xs,H2,I2,r2,q2⟩=>⟨x::xs,H2,I2,.cons r1 r2,q2⟩
def HX(t:TA):TE:=λZ H Q=>t Z H λxs H1=>xs.length<=sizeLine/\∀p,H1 p=none->Q (.ref p) (upd H1 p (.tup xs))
def HS(t:TA):TE:=λZ H Q=>t Z H λxs H1=>xs.length<=sizeLine/\∀p,H1 p=none->Q (.ref p) (upd H1 p (.lst xs))
def Vt{x1}(h:PA X es t):PE X (.Tuple es x1 pos) (HX t):=by
 intro ae s Z H Q I hq;refine wpAny_Tuple_spliced (bz (h pos ae s Z H _ I hq) λus s1 ⟨xs,H1,I1,r,z,q⟩=>⟨by rw[<-r.length];exact z,?_⟩)
 have hf:H1 s1.heap.objs.size=none:=I1.bL.fresh (bC _);refine⟨.ref s1.heap.objs.size,upd H1 s1.heap.objs.size (.tup xs),I1.laid (t':=s1.toks) (λb u e=>dU _ e) (bC _) ?_,rfl,q _ hf⟩
 exact⟨z,us,r,⟨_,jD _ rfl,rfl,_,rfl⟩⟩
def Vu(h:PA X es t):PE X (.List es pos) (HS t):=by
 intro ae s Z H Q I hq;refine wpAny_List_spliced (bz (h pos ae s Z H _ I hq) λus s1 ⟨xs,H1,I1,r,z,q⟩=>⟨by rw[<-r.length];exact z,?_⟩)
 have hf:H1 s1.heap.objs.size=none:=I1.bL.fresh (bC _);refine⟨.ref s1.heap.objs.size,upd H1 s1.heap.objs.size (.lst xs),I1.laid (t':=s1.toks) (λb u e=>dU _ e) (bC _) ?_,rfl,q _ hf⟩
 exact⟨z,us,0,r,jD _ rfl⟩
end
abbrev Sp:=List V->Hp->VK->XK->Prop
abbrev pL:=List Env->Hp->au->XK->ai->au->Prop
variable{CX:pL}
structure qp (P:cL) (w:bX) (K:aH) (mg:Str->ah ai) (base:bJ) (A:cy) (outer:List Env) (s:au) (H:Hp):Prop where
 frames:A.frames=some outer
 mod:Mod K mg base
 bs:∀b o,base.get? b=some o->s.heap.get? b=some o/\H b=none
 xN:base.objs.size<=s.heap.objs.size
 jS:s.heap.FunFrames base outer
 Dd:∀b∈i9 outer,H b=none
 bL:gu P w H s.heap
 bare:AllBare s.gens
def CE(outer:List Env)(P:cL)(w:bX)(H:Hp)(s:au)(Q:VK)(u:ai)(s':au):Prop:=
 ∃v H',s'.os=s.os/\AllBare s'.gens/\Un (i9 outer) [] H H' s.heap s'.heap/\gu P w H' s'.heap/\RelV v u/\Q v H'
def CR(CX:pL)(outer:List Env)(P:cL)(w:bX)(H:Hp)(s:au)(Q:VK)(E:XK)(r:Result)(s':au):Prop:=
 match r with
 |.ok (.ret u)=>CE outer P w H s Q u s'
 |.ok _=>False
 |.error e=>CX outer H s E e s'
structure eV (P:cL) (w:bX) (K:aH) (mg:Str->ah ai) (base:bJ) (CX:pL) (k:Nat) (f:aj) (fd:jF) (ps:List Str) (sp:Sp):Prop where
 len:∀vs H Q E,sp vs H Q E->vs.length=ps.length
 run:∀(A:cy) (outer:List Env) (s:au) (H:Hp) (args:Args) (us:List ai) (vs:List V) (Q:VK) (E:XK),cN k A->qp P w K mg base A outer s H->BindsTo s fd args (ps.zip us)->Vals vs us->sp vs H Q E->
  codeAny (model P w) A (.call (.ref f) args) (CR CX outer P w H s Q E) s
section
variable{X:Cx}{ae:List (aj×Obj)}{Z:St}{H:Hp}{s s':au}
def Inv.FQ(I:Inv X ae Z H s):qp X.prog X.w X.K X.mg X.base X.A X.stack s H:=
 ⟨I.ok.frames,I.ok.mod,I.bs,iQ I.ok.xN I.sz,I.stack,I.j9,I.bL,I.bare⟩
def Inv.after{u:ai}(I:Inv X ae Z H s)(h:CE X.stack X.prog X.w H s Q u s'):EP X ae Z Q u s':=by
 obtain⟨v,H',os,bare,un,bL,r,q⟩:=h;obtain⟨hh,g,d,t,Zy⟩:=s';obtain rfl:Zy=s.os:=os;exact⟨v,H',I.call (h':=hh) (g':=g) (d':=d) (t':=t) (ch:=[]) un bL bare (λb z=>bG z (by simp)),r,q⟩
end
def Bb(sp:Sp)(sY:List V)(E:St->XK)(t:TA):TE:=λZ H Q=>t Z H λvs H1=>sp (vs++sY) H1 Q (E Z)
def Binds(K:aH)(fd:jF)(ps:List Str)(ds:List ai):Prop:=
 ∀(s:au) (us:List ai),K.In s.heap->(us++ds).length=ps.length->BindsTo s fd ⟨us,[]⟩ (ps.zip (us++ds))
def Binds.all{fd:jF}(h:∀us:List ai,us.length=ps.length->bindArgs fd ⟨us,[]⟩=pure (ps.zip us)):Binds K fd ps []:=λs us _ hl=>by
 rw[lQ] at hl ⊢;exact .of_eq (h us hl)
def E_(CX:pL)(X:Cx)(E:St->XK):Prop:=∀(ae:List (aj×Obj)) (Z:St) (H:Hp) (s:au) (e:ai) (s':au),Inv X ae Z H s->CX X.stack H s (E Z) e s'->X.xe e s'
section
variable{X:Cx}{CX:pL}{k:Nat}{f C:aj}{fd:jF}{ps:List Str}{sp:Sp}{sY:List V}{ds:List ai}{E:St->XK}{x m:Str}{p pos apos:Pos}{e o:Expr}{es:List Expr}{ta:TE}{t:TA}
def Vv{ae:List (aj×Obj)}{Z:St}(F:eV X.prog X.w X.K X.mg X.base CX k f fd ps sp)(hr:cN k X.A)(hb:Binds X.K fd ps ds)(hd:Vals sY ds)(hx:E_ CX X E)
  (I:Inv X ae Z H s) (r:Vals vs us) (h:sp (vs++sY) H Q (E Z)):wpAny (mX X) X.A (call (.ref f) us) (EP X ae Z Q) X.xe s:=by
 have r2:Vals (vs++sY) (us++ds):=r.append hd;have hl:(us++ds).length=ps.length:=by rw[<-r2.length];exact F.len _ _ _ _ h
 refine wpAny_call (codeAny_mono (F.run X.A X.stack s H ⟨us,[]⟩ (us++ds) (vs++sY) Q (E Z) hr I.FQ (hb s us I.lG hl) r2 h) λr s' hq=>?_)
 cases r with
 |error e=>exact hx ae Z H s e s' I hq
 |ok fl=>
  cases fl with
  |ret u=>exact I.after hq
  |next=>exact False.elim hq
  |brk=>exact False.elim hq
  |cont=>exact False.elim hq
def R6(F:eV X.prog X.w X.K X.mg X.base CX k f fd ps sp)(hr:cN k X.A)(hg:Gl X x)(hm:X.mg x=some (.ref f))(hk:PySem.W.keepIn X.K (.ref f)=true)(hb:Binds X.K fd ps ds)(hd:Vals sY ds)(hx:E_ CX X E)
  (ha:PA X (e::es) t) (lE:(x == ("__debug__":Str))=false:=by decide) (he:starEach (e::es) X.env=(false,eval e X.env)::starEach es X.env:=by rfl) (g8:(backTo pos (starEach es X.env)).any (·.1)=false:=by rfl) :
  PE X (.Call (.Name x p) (e::es) [] pos) (Bb sp sY E t):=by
 intro ae s Z H Q I h;refine wpAny_Call_Name_kw (EI I hg hm ?_ lE);refine PySem.W.callWith_K (h₀:=X.base) I.ok.mod.Dx hk (bz (ha pos ae s Z H _ I h) λus s1 ⟨vs,H1,I1,r,q⟩=>⟨I1.lG,?_⟩) he g8
 exact Vv F hr hb hd hx I1 r q
end
structure fG (N P:List Str) (sc:Scope):Prop where
 kind:sc.kind=.function
 co:sc.isCoroutine=false
 gen:sc.isGenerator=false
 nd:N.Nodup
 pre:N.take P.length=P
 par:∀x∈P,sc.names.lookup x=some .local \/ sc.names.lookup x=some .cell
 vJ:∀y∈sc.names,y.2≠.free
theorem Ju{kindOf:Str->ah lR}{x:Str}:∀{binds:List (Str×ai)} {m:Str->ah ai},(∀v,(x,v)∉binds)->bindL kindOf binds m x=m x
 |[],_,_=>rfl
 |(n,v)::r,m,h=>by
  unfold bindL;rw[Ju λw hw=>h w (mD _ hw)]
  split
  .have:x≠n:=by rintro rfl;exact h v pD
   simp[this]
  .rfl
theorem Jv{kindOf:Str->ah lR}{x:Str}:∀{binds:List (Str×ai)} {m:Str->ah ai},(∀v,(x,v)∉binds)->bindC kindOf binds m x=m x
 |[],_,_=>rfl
 |(n,v)::r,m,h=>by
  unfold bindC;rw[Jv λw hw=>h w (mD _ hw)]
  split
  .rfl
  .have:x≠n:=by rintro rfl;exact h v pD
   simp[this]
theorem Jw{kindOf:Str->ah lR}{x:Str}{v:ai}:∀{P:List Str} {vs:List ai} {i:Nat} {m:Str->ah ai},P.Nodup->P[i]?=some x->vs[i]?=some v->kindOf x=some .local ->
  bindL kindOf (P.zip vs) m x=some v
 |[],_,_,_,_,h,_,_=>by simp at h
 |_::_,[],_,_,_,_,h,_=>by simp at h
 |p::P,w::vs,0,m,nd,h1,h2,hk=>by
  simp at h1 h2;subst h1;subst h2;show bindL kindOf ((p,w)::P.zip vs) m p=_;unfold bindL;rw[Ju λv hv=>(gA.mp nd).1 (List.of_mem_zip hv).1,aU hk]
  simp
 |p::P,w::vs,i+1,m,nd,h1,h2,hk=>by
  show bindL kindOf ((p,w)::P.zip vs) m x=_;unfold bindL;exact Jw (i:=i) (gA.mp nd).2 (by simpa using h1) (by simpa using h2) hk
theorem Jx{kindOf:Str->ah lR}{x:Str}{v:ai}:∀{P:List Str} {vs:List ai} {i:Nat} {m:Str->ah ai},P.Nodup->P[i]?=some x->vs[i]?=some v->kindOf x≠some .local ->
  bindC kindOf (P.zip vs) m x=some v
 |[],_,_,_,_,h,_,_=>by simp at h
 |_::_,[],_,_,_,_,h,_=>by simp at h
 |p::P,w::vs,0,m,nd,h1,h2,hk=>by
  simp at h1 h2;subst h1;subst h2;show bindC kindOf ((p,w)::P.zip vs) m p=_;unfold bindC;rw[Jv λv hv=>(gA.mp nd).1 (List.of_mem_zip hv).1,aO hk]
  simp
 |p::P,w::vs,i+1,m,nd,h1,h2,hk=>by
  show bindC kindOf ((p,w)::P.zip vs) m x=_;unfold bindC;exact Jx (i:=i) (gA.mp nd).2 (by simpa using h1) (by simpa using h2) hk
noncomputable def start(N:List Str)(vs:List V):St:=vs.map some++List.replicate (N.length - vs.length) none
noncomputable def jO(CX:pL)(P:cL)(w:bX)(K:aH)(mg:Str->ah ai)(base:bJ)(N:List Str)(qual:Str)(scope:Scope)(f:aj)(cd:ai)(A:cy)(outer:List Env)(s:au)(H:Hp)(E:XK):Cx where
 prog:=P
 w:=w
 K:=K
 mg:=mg
 base:=base
 A:=A.deeper (envOfC qual scope s.heap.objs.size f cd)
 N:=N
 s₀:=s
 H₀:=H
 env:=envOfC qual scope s.heap.objs.size f cd
 outer:=outer
 stack:=envOfC qual scope s.heap.objs.size f cd::outer
 ex:=[]
 calm:=true
 fn:=λ_=>true
 pn:=[]
 xe:=λe s'=>wpAny (model P w) (A.deeper (envOfC qual scope s.heap.objs.size f cd)) (leaving (envOfC qual scope s.heap.objs.size f cd) e) (λ_ pj=>CX outer H s E e pj) (λe' pj=>CX outer H s E e' pj) s'
def J3{sc:Scope}{n:Nat}{x:Str}(h:sc.names.lookup x=some .cell):∃c,(cellsFrom n sc.names []).lookup x=some c:=by
 have q:=PySem.W.cellsFrom_some sc.names n [] (.inl h);exact Option.isSome_iff_exists.mp q
def Pe{cd:ai}{outer:List Env}{s1:au}{E:XK}
  (S:fG N ps scope) (hd:A.handled=none) (e0:qp P w K mg base A outer s H) (hl:vs.length=ps.length) (r:Vals vs us)
  (x:InCallC s s.heap.objs.size (bindL (envOfC qual scope s.heap.objs.size f cd).kindOf (ps.zip us) λ_=>none) (cellsFrom (s.heap.objs.size+1) scope.names []) (bindC (envOfC qual scope s.heap.objs.size f cd).kindOf (ps.zip us) λ_=>none) s1) :
  Inv (jO CX P w K mg base N qual scope f cd A outer s H E) [] (start N vs) H s1:=by
 have g8:ps.length<=N.length:=by have:=congrArg List.length S.pre;rw[r6] at this;lia
 obtain⟨h1,tk,rfl,hk⟩:=x.done;have AK:∀b:aj,b∉(jO CX P w K mg base N qual scope f cd A outer s H E).ex:=λb z=>bG (show b∈([]:List aj) from z) (by simp)
 refine⟨⟨e0.mod,S.kind,rfl,rfl,bC _,λy z c h1 h2=>?_,λy hy=>?_,λy c _ h=>?_,λ_=>hd,Around.frames_deeper e0.frames,.inr ⟨rfl,rfl⟩,λb z=>bG z (AK b),e0.bs,e0.xN,λb _ _=>AK b,λb z=>bG z (AK b),e0.jS,e0.Dd⟩,rfl,e0.bare,Un.kept hk,⟨_,x.toInCall.ns,λi y v h1 h2 h3=>?_⟩,λy c h=>⟨_,x.cell y c h⟩,e0.bL.fresh (bC _),λy c h=>?_,λp hp=>bG (show p∈([]:List (aj×Obj)) from hp) (by simp),e0.bL.kept hk,?_⟩
 .exact name_of_addr x.apart (PySem.mem_of_lookup h1) (PySem.mem_of_lookup h2)
 .have hy:scope.names.lookup y=some .cell\/scope.names.lookup y=some .free:=hy;rcases hy with hy|hy
  .exact J3 hy
  .exact bG rfl (S.vJ _ (PySem.mem_of_lookup hy))
 .exact Br (x.above y c (PySem.mem_of_lookup h))
 .have hi:i<vs.length:=by
   unfold start at h2;by_cases hi:i<vs.length
   .exact hi
   .rw[gE (by simpa using hi)] at h2
    rw[Iu] at h2;split at h2 <;> cases h2
  have ha:vs[i]?=some v:=by
   unfold start at h2;rw[gj (by simpa using hi),gn] at h2
   cases e:vs[i]? with
   |none=>rw[e] at h2;cases h2
   |some a=>rw[e] at h2;cases h2;rfl
  obtain⟨u,hu,rv⟩:=r.get ha;have hp:ps[i]?=some y:=by
   rw[<-S.pre,DP (by lia)];exact h1
  have NQ:ps.Nodup:=by rw[<-S.pre];exact S.nd.sublist (List.take_sublist _ _)
  refine⟨u,rv,?_⟩;rcases S.par y (kg hp) with k|k
  .exact .inl ⟨k,Jw NQ hp hu k⟩
  .obtain⟨c,e⟩:=J3 (n:=s.heap.objs.size+1) k;refine .inr ⟨.inl k,c,e,?_⟩;have q:=x.cell y c e;rw[Jx NQ hp hu (by show scope.names.lookup y≠_;rw[k];decide)] at q
   exact q
 .exact e0.bL.fresh (Br (x.above y c (PySem.mem_of_lookup h)))
 .unfold start;show _=N.length
  simp_all
def Xp{name:Str}{params:Arguments}{body:List Stmt}{dV kV doc pm eF ct oc:ai}{an od:ah aj}
  {mf:Array (ah ai)}  {sp:Sp} (lk:K.lookup f=some ⟨oc,od,.func (PySem.W.fnOf name qual params body scope dV kV doc pm an eF ct),mf⟩) (oz:PySem.W.codeIn K eF qual=true) (S:fG N ps scope)
  (len:∀vs H Q E,sp vs H Q E->vs.length=ps.length)
  (ou:∀(A:cy) (outer:List Env) (s:au) (H:Hp) (vs:List V) (Q:VK) (E:XK),cN k (A.deeper (envOfC qual scope s.heap.objs.size f eF))->sp vs H Q E-> ∃t,ij (jO CX P w K mg base N qual scope f eF A outer s H E) body t/\t { nx:=λ_ H'=>Q .aR H',rt:=Q} (start N vs) H) :
  eV P w K mg base CX (k+1) f (PySem.W.fnOf name qual params body scope dV kV doc pm an eF ct) ps sp:=by
 refine⟨len,λA outer s H args us vs Q E hr e0 hb r tu=>?_⟩
 have hl:=len _ _ _ _ tu;have KX:K.In s.heap:=e0.mod.Dx.keeps λb o e=>(e0.bs b o e).1
 have lim:s.heap.NoLimit:=e0.mod.nolimit.keeps λb o e=>(e0.bs b o e).1
 have Ah:∀y∈ps.zip us,scope.names.lookup y.1=some .local \/ (scope.names.lookup y.1=some .cell/\((cellsFrom (s.heap.objs.size+1) scope.names []).lookup y.1).isSome=true):=λ⟨n,v⟩ hy=>by
  rcases S.par n (List.of_mem_zip hy).1 with q|q
  .exact .inl q
  .exact .inr ⟨q,PySem.W.cellsFrom_some _ _ _ (.inl q)⟩
 refine codeAny_call_function hr.depth (KX _ _ lk) rfl S.co S.gen rfl (PySem.W.codeRec_of KX oz) (hb _ _ _ _ ?_);refine wpAny_newFunctionEnv_cells S.kind Ah λenv he s1 x=>?_
 subst he;refine⟨lim.keeps x.toInCall.keep,codeAny_func ?_⟩;obtain⟨t,ht,hq⟩:=ou A outer s H vs Q E (hr.deeper _) tu;have I:Inv (jO CX P w K mg base N qual scope f eF A outer s H E) [] (start N vs) H s1:=Pe S hr.hd e0 hl r x;refine wpAny_mono (ht [] s1 (start N vs) H _ I hq) (λfl s' hs=>?_) λe s' hs=>hs
 have fin:∀{Z':St} {H':Hp} {v:V} {u:ai},Inv (jO CX P w K mg base N qual scope f eF A outer s H E) [] Z' H' s'->RelV v u->Q v H'->CE outer P w H s Q u s':=
  λ{Z' H' v u} J rv q=>⟨v,H',J.os,J.bare,J.base,J.bL,rv,q⟩
 cases fl with
 |ret u=>
  obtain⟨v,Z',H',J,rv,q⟩:=hs;exact fin J rv q
 |next=>
  obtain⟨Z',H',J,q⟩:=hs;exact fin (v:=V.aR) (u:=Value.none) J rfl q
 |brk=>
  obtain⟨_,_,_,q⟩:=hs;exact False.elim q
 |cont=>
  obtain⟨_,_,_,q⟩:=hs;exact False.elim q
section
variable{X:Cx}{x:Str}{p pos:Pos}{e:Expr}{es:List Expr}{t:TA}{id T:String}{r:List V->Hp->VK->Prop}
def HP(r:List V->Hp->VK->Prop)(t:TA):TE:=λZ H Q=>t Z H λvs H1=>r vs H1 Q
def Qu(hc:bD X (.builtin id) r)(hg:Gl X x)(hm:X.mg x=none)(hv:bootBuiltins x=some (.builtin id))(ha:PA X (e::es) t)(hn:x≠"__name__":=by decide)(lE:(x == ("__debug__":Str))=false:=by decide)
  (he:starEach (e::es) X.env=(false,eval e X.env)::starEach es X.env:=by rfl) (g8:(backTo pos (starEach es X.env)).any (·.1)=false:=by rfl):PE X (.Call (.Name x p) (e::es) [] pos) (HP r t):=by
 intro ae s Z H Q I h;refine wpAny_Call_Name_kw (qD I hg hm hv ?_ hn lE);exact PyProof.Rows.callWith_builtin1 (bz (ha pos ae s Z H _ I h) λus s1 ⟨vs,H1,I1,r1,q1⟩=>hc ae s1 Z H1 vs us Q I1 r1 q1) he g8
def Pf(hc:bD X (.type T) r)(hg:Gl X x)(hm:X.mg x=none)(hv:bootBuiltins x=some (.type T))(ha:PA X (e::es) t)(hn:x≠"__name__":=by decide)(lE:(x == ("__debug__":Str))=false:=by decide)
  (he:starEach (e::es) X.env=(false,eval e X.env)::starEach es X.env:=by rfl) (g8:(backTo pos (starEach es X.env)).any (·.1)=false:=by rfl):PE X (.Call (.Name x p) (e::es) [] pos) (HP r t):=by
 intro ae s Z H Q I h;refine wpAny_Call_Name_kw (qD I hg hm hv ?_ hn lE);exact PyProof.Rows.callWith_type1 (bz (ha pos ae s Z H _ I h) λus s1 ⟨vs,H1,I1,r1,q1⟩=>hc ae s1 Z H1 vs us Q I1 r1 q1) he g8
end
end L2
namespace HT
open PySem PyProof.Rows
section
open PySem.SeqAt
open PySem.AutoSeq1 (wpAny_loadPart')
open PySem.MeetsSeq PySem.MeetsSeq2 PySem.MeetsSeq3
end
variable{t sl:aj}{Q:ai->au->Prop}{vl vu:ai}{lo hi:ah Int}
section
variable{prog:cL}{w:bX}{A:cy}{E:ai->au->Prop}{s:au}
def qO{b:aj}{vs ws:List ai}(ht:IsTup s.heap t vs.toArray)(hb:IsTup s.heap b ws.toArray)(hv:vs≠[])
  (h1:ws=[]->Q (.ref t) s) (h2:ws≠[]->Q (.ref s.heap.objs.size) { s with heap:=s.heap.push { cls:=.type "tuple",data:=.seq (vs++ws).toArray}})
  (hsz:vs.length+ws.length<=sizeLine):wpAny (model prog w) A (binaryOp .Add (.ref t) (.ref b)) Q E s:=by
 obtain⟨⟨cls,dd,data,sl⟩,ho,hc,n,hd⟩:=id ht;obtain⟨⟨Fz,C_,data2,DE⟩,vk,Ab,n2,hd2⟩:=id hb;simp only at hc hd Ab hd2;subst hc hd Ab hd2;have e:vs.toArray++ws.toArray=(vs++ws).toArray:=by simp
 by_cases hw:ws=[]
 .exact concat_meets ⟨_,ho,rfl⟩ ⟨_,vk,rfl⟩ noFill_tuple_add seq_tuple_add PySem.F.slot_tuple_add PySem.F.entry_tuple_add (PySem.F.args_tuple_add_2 _ _)
   (tuple_addW1 t b vs.toArray ws.toArray n n2 dd C_ sl DE (by simpa using hv) (by simp[hw])) ⟨ho,vk,h1 hw⟩
 .refine concat_meets ⟨_,ho,rfl⟩ ⟨_,vk,rfl⟩ noFill_tuple_add seq_tuple_add PySem.F.slot_tuple_add PySem.F.entry_tuple_add (PySem.F.args_tuple_add_2 _ _)
   (tuple_addW2 t b vs.toArray ws.toArray n n2 dd C_ sl DE (by simpa using hv) (by simpa using hw) (by rw[dq,dq];exact hsz)) ⟨ho,vk,?_⟩
  rw[e];exact h2 hw
def bW(n d:Nat):ah Int->Nat
 |none=>d
 |some v=>if v<0 then(v+(n:Int)).toNat else min v.toNat n
def Vw(n d:Nat)(hd:d<=n)(o:ah Int):bW n d o<=n:=by
 cases o with
 |none=>exact hd
 |some v=>
  show(if v<0 then(v+(n:Int)).toNat else min v.toNat n)<=n
  by_cases hv:v<0
  .rw[aU hv];lia
  .rw[aO hv];exact Nat.min_le_right _ _
def KA(v:Int)(n d:Nat):(if v<0 then max (v+(n:Int)) 0 else min v (n:Int))=((bW n d (some v):Nat):Int):=by
 show(if v<0 then max (v+(n:Int)) 0 else min v (n:Int))=(((if v<0 then(v+(n:Int)).toNat else min v.toNat n):Nat):Int)
 by_cases hv:v<0
 .simp only[aU hv];lia
 .simp only[aO hv];lia
def OU(lo hi:ah Int)(n:Nat):Builtin.Slice.sliceAdjust lo hi 1 (n:Int)=(((bW n 0 lo:Nat):Int),((bW n n hi:Nat):Int)):=by
 have h1:¬((1:Int)<0):=by lia
 unfold Builtin.Slice.sliceAdjust;simp only[h1,iY];refine Prod.ext ?_ ?_
 .cases lo with
  |none=>rfl
  |some v=>exact KA v n 0
 .cases hi with
  |none=>rfl
  |some v=>exact KA v n n
def OV(i j:Nat):Builtin.Slice.slicePlaces (i:Int) (j:Int) 1=j - i:=by
 unfold Builtin.Slice.slicePlaces;have h1:(1:Int) > 0:=by lia
 simp only[h1,wN,Int.ediv_one];split <;> lia
def Jg{v:ai}{o:ah Int}{Q:ah Int->au->Prop}(p:IsPart v o)(h:Q o s):wpAny (model prog w) A (Builtin.Slice.slicePartIndex v) Q E s:=by
 cases p with
 |none=>exact slicePart_none h
 |int i t=>exact slicePart_int h
def Ot{n:Nat}{Q:Int×Int×Nat->au->Prop}(hs:s.heap.IsSliceOf sl vl vu .none)(pl:IsPart vl lo)(pu:IsPart vu hi)
  (h:Q (((bW n 0 lo:Nat):Int),1,bW n n hi - bW n 0 lo) s):wpAny (model prog w) A (Builtin.Slice.sliceApplied (.ref sl) (pure (n:Int))) Q E s:=by
 obtain⟨os,Al,NB,Dk⟩:=id hs;unfold Builtin.Slice.sliceApplied Builtin.Slice.sliceFields;refine aE (aE (wpAny_field Al Dk (x:=vl) rfl (aE (wpAny_field Al Dk (x:=vu) rfl (aE (wpAny_field Al Dk (x:=.none) rfl (a_ ?_)))))));refine aE (slicePart_none ?_);show wpAny _ _ (if((1:Int) == 0)=true then _ else _) _ _ s
 rw[aO (by decide)]
 refine aE (Jg pl (aE (Jg pu (aE (a_ ?_)))));show wpAny _ _ (match Builtin.Slice.sliceAdjust lo hi 1 (n:Int) with|(lo,hi)=>pure (lo,(1:Int),Builtin.Slice.slicePlaces lo hi 1)) _ _ s
 rw[OU lo hi n];show wpAny _ _ (pure (((bW n 0 lo:Nat):Int),(1:Int),Builtin.Slice.slicePlaces ((bW n 0 lo:Nat):Int) ((bW n n hi:Nat):Int) 1)) _ _ s;rw[OV];exact a_ h
def Qv(xs:Array ai)(i k:Nat):((List.range k).filterMap λ(m:Nat)=>xs[((i:Int)+(m:Int)*1).toNat]?).toArray=((xs.toList.drop i).take k).toArray:=by
 have e:(λ(m:Nat)=>xs[((i:Int)+(m:Int)*1).toNat]?)=λm=>xs[i+m]?:=by
  funext m;have:((i:Int)+(m:Int)*1).toNat=i+m:=by lia
  rw[this]
 rw[e];have:=pick_run xs i k;rw[List.filterMap_map] at this;have e2:((λx=>xs[x]?)∘λx=>i+x)=λm=>xs[i+m]?:=rfl
 rw[e2] at this;rw[this]
def fM{items:Array ai}(ht:IsTup s.heap t items)(hs:s.heap.IsSliceOf sl vl vu .none)(pl:IsPart vl lo)(pu:IsPart vu hi)
  (hw:¬(bW items.size 0 lo=0/\bW items.size items.size hi=items.size))
  (h:Q (.ref s.heap.objs.size) { s with heap:=s.heap.push { cls:=.type "tuple",data:=.seq ((items.toList.drop (bW items.size 0 lo)).take (bW items.size items.size hi - bW items.size 0 lo)).toArray}})
  (hsz:items.size<=sizeLine):wpAny (model prog w) A (getItem (.ref t) (.ref sl)) Q E s:=by
 have An:sizeOk (.seq ((items.toList.drop (bW items.size 0 lo)).take (bW items.size items.size hi - bW items.size 0 lo)).toArray):=by
  show((items.toList.drop (bW items.size 0 lo)).take (bW items.size items.size hi - bW items.size 0 lo)).toArray.size<=sizeLine;rw[dq,r6,wD,Bt];lia
 have hj:bW items.size items.size hi<=items.size:=Vw _ _ (bC _) hi;obtain⟨os,Al,NB,Dk⟩:=id hs;have YG:s.TypeIs (.ref sl) "slice":=⟨os,Al,NB⟩;unfold getItem;try with_reducible refine jH ?_
 skip;refine aE (wpAny_sequenceKey ht.typeIs (by decide) ?_)
 refine aE (wpAny_callSpecial?_slot (name:=Str.ofString "__getitem__") ht.typeIs PyProof.Rows.slot_tuple_getitem (wpAny_call_entry PyProof.Rows.slot_tuple_getitem ht.typeIs entry_tuple_getitem ?_ (args_tuple_getitem _ _)))
 show wpAny _ _ (Builtin.Tuple.tupleItemsOf (.ref t) >>= _) _ _ s;refine aE (tupleItemsOf_ ht ?_);refine aE (wpAny_typeOf YG ?_);rw[aU (by decide)]
 refine aE (Ot hs pl pu ?_);have p9:¬((((bW items.size 0 lo:Nat):Int) == 0&&(1:Int) == 1&&(bW items.size items.size hi - bW items.size 0 lo) == items.size)=true):=by
  lia
 show wpAny _ _ (if(((bW items.size 0 lo:Nat):Int) == 0&&(1:Int) == 1&&(bW items.size items.size hi - bW items.size 0 lo) == items.size)=true then _ else _) _ _ s
 rw[aO p9,Qv];exact aE (m:=Builtin.Tuple.tupleExact _) (wpAny_newObj_type (a_ ⟨_,rfl,a_ h⟩) An)
end
end HT
namespace L2
open PySem PySem.Spec PyProof.Rows
variable{r:V->ah Int->ah Int->Hp->VK->Prop}
abbrev TO:=St->Hp->(ah Int->Hp->Prop)->Prop
def PO(X:Cx)(e:ah Expr)(t:TO):Prop:=
 ∀(ae:List (aj×Obj)) (s:au) (Z:St) (H:Hp) (Q:ah Int->Hp->Prop),Inv X ae Z H s->t Z H Q->
  wpAny (mX X) X.A (evalPart e X.env) (λu s'=>∃o H',Inv X ae Z H' s'/\IsPart u o/\Q o H') X.xe s
def R7:TO:=λ_ H Q=>Q none H
def Bf(t:TE):TO:=λZ H Q=>t Z H λx H1=>∃i,x=.int i/\Q (some i) H1
section
variable{X:Cx}{e:Expr}{te:TE}{lo hi:ah Expr}{tl th:TO}{pos p2:Pos}
def R8:PO X none R7:=by
 intro ae s Z H Q I h;rw[evalPart_none];exact a_ ⟨none,H,I,.none,h⟩
def R9(h:PE X e te):PO X (some e) (Bf te):=by
 intro ae s Z H Q I hw;rw[evalPart_some];refine bz (h ae s Z H _ I hw) λu s1 hh=>?_
 obtain⟨x,H1,I1,r1,q1⟩:=hh;obtain⟨i,rfl,q⟩:=q1;obtain⟨t,rfl⟩:=r1;exact⟨some i,H1,I1,.int i t,q⟩
def nI(X:Cx)(r:V->ah Int->ah Int->Hp->VK->Prop):Prop:=
 ∀(ae:List (aj×Obj)) (s:au) (Z:St) (H:Hp) (x:V) (v vl vu:ai) (lo hi:ah Int) (sl:aj) (Q:VK),Inv X ae Z H s->RelV x v->s.heap.IsSliceOf sl vl vu .none->IsPart vl lo->IsPart vu hi->r x lo hi H Q->
  ∃T id,typeLookup (.type T) "__getitem__"=pure (some (.builtin id))/\s.TypeIs v T/\wpAny (mX X) X.A (getItem v (.ref sl)) (EP X ae Z Q) X.xe s
def nI.or{r':V->ah Int->ah Int->Hp->VK->Prop}(h:nI X r)(h':nI X r'):nI X (λx lo hi H Q=>r x lo hi H Q\/r' x lo hi H Q):=by
 intro ae s Z H x v vl vu lo hi sl Q I rx hs pl pu q;rcases q with q|q
 .exact h ae s Z H x v vl vu lo hi sl Q I rx hs pl pu q
 .exact h' ae s Z H x v vl vu lo hi sl Q I rx hs pl pu q
def ZV(r:V->ah Int->ah Int->Hp->VK->Prop)(te:TE)(tl th:TO):TE:=λZ H Q=>te Z H λx H1=>tl Z H1 λl H2=>th Z H2 λu H3=>r x l u H3 Q
def Qw(hr:nI X r)(he:PE X e te)(hl:PO X lo tl)(hu:PO X hi th):PE X (.Subscript e (.Slice lo hi none p2) pos) (ZV r te tl th):=by
 intro ae s Z H Q I h;refine Subscript_ (bz (he ae s Z H _ I h) λv s1 hh=>?_)
 obtain⟨x,H1,I1,r1,q1⟩:=hh;refine wpAny_Slice (bz (hl ae s1 Z H1 _ I1 q1) λvl s2 ⟨l,H2,I2,pl,q2⟩=>bz (hu ae s2 Z H2 _ I2 q2) λvu s3 ⟨u,H3,I3,pu,q3⟩=>?_)
 rw[evalPart_none];refine a_ ?_;have I4:Inv X ae Z H3 { s3 with heap:=s3.heap.push { cls:=.type "slice",data:=.fields #[vl,vu,.none]}}:=I3.kept (t':=s3.toks) λb ob q=>dU _ q
 obtain⟨T,id,hT,ht,hg⟩:=hr ae { s3 with heap:=s3.heap.push { cls:=.type "slice",data:=.fields #[vl,vu,.none]}} Z H3 x v vl vu l u s3.heap.objs.size Q I4 r1 (Heap.IsSliceOf.new ..) pl pu q3;show wpAny (mX X) X.A (subscriptTail e (.Slice lo hi none p2) v (.ref s3.heap.objs.size)) (EP X ae Z Q) X.xe { s3 with heap:=s3.heap.push { cls:=.type "slice",data:=.fields #[vl,vu,.none]}};exact tail_any (ops:=[.ref s3.heap.objs.size,v]) ht hT hg (by with_unfolding_all rfl)
noncomputable def kA(xs:List V)(lo hi:ah Int):List V:=(xs.drop (HT.bW xs.length 0 lo)).take (HT.bW xs.length xs.length hi - HT.bW xs.length 0 lo)
def IY(xs:List V)(lo hi:ah Int):(kA xs lo hi).length<=xs.length:=by
 unfold kA;rw[r6,wD];lia
def wb(K:aH):V->ah Int->ah Int->Hp->VK->Prop:=λx lo hi H Q=>∃a xs,x=.ref a/\fy K H a xs/\
 ¬(HT.bW xs.length 0 lo=0/\HT.bW xs.length xs.length hi=xs.length)/\∀p,H p=none->Q (.ref p) (upd H p (.tup (kA xs lo hi)))
def Vx:nI X (wb X.K):=by
 intro ae s Z H x v vl vu lo hi sl Q I rx hs pl pu h;obtain⟨a,xs,rfl,hx,hw,q⟩:=h;cases rx;obtain⟨aA,r,ht,hz⟩:=I.tuple hx;have hlen:aA.toArray.size=xs.length:=by rw[dq];exact r.length.symm
 refine⟨"tuple",_,PyProof.Rows.slot_tuple_getitem.lookup,ht.typeIs,?_⟩;refine HT.fM ht hs pl pu (by rw[hlen];exact hw) ?_ (by rw[hlen];exact hz)
 rw[hlen];refine⟨.ref s.heap.objs.size,_,I.laid (t':=s.toks) (o:=.tup (kA xs lo hi)) (λb ob q=>dU _ q) (bC _) ?_,rfl,q _ (I.bL.fresh (bC _))⟩
 exact⟨iQ (IY xs lo hi) hz,_,(r.drop (HT.bW xs.length 0 lo)).take (HT.bW xs.length xs.length hi - HT.bW xs.length 0 lo),IsTup.new _ _⟩
def tW(K:aH):R2:=λx y H Q=>∃a b xs ys,x=.ref a/\y=.ref b/\fy K H a xs/\fy K H b ys/\xs≠[]/\xs.length+ys.length<=sizeLine/\
 (ys=[]->Q (.ref a) H)/\(ys≠[]->∀p,H p=none->Q (.ref p) (upd H p (.tup (xs++ys))))
def Vals.jX{xs:List V}{us:List ai}(r:Vals xs us):us=[]↔xs=[]:=by
 cases r with
 |nil=>simp
 |cons _ _=>simp
def R_:dh X (binaryOp .Add) (tW X.K):=by
 intro ae s Z H x y v u Q I rx ry h;obtain⟨a,b,xs,ys,rfl,rfl,ha,hb,hx,hz,q1,q2⟩:=h;cases rx;cases ry;obtain⟨aA,r1,p1,_⟩:=I.tuple ha;obtain⟨g9,r2,p2,_⟩:=I.tuple hb;refine HT.qO p1 p2 (λz=>hx (r1.jX.mp z)) (λz=>⟨.ref a,H,I,rfl,q1 (r2.jX.mp z)⟩) (λz=>?_) (by rw[<-r1.length,<-r2.length];exact hz)
 refine⟨.ref s.heap.objs.size,_,I.laid (t':=s.toks) (o:=.tup (xs++ys)) (λb ob q=>dU _ q) (bC _) ?_,rfl,q2 (λw=>z (r2.jX.mpr w)) _ (I.bL.fresh (bC _))⟩
 exact⟨by rw[b_];exact hz,_,r1.append r2,IsTup.new _ _⟩
end
variable{n j:Nat}{i:Int}{r:R2}{ae:List (aj×Obj)}{Z:St}{H:Hp}{s:au}
noncomputable def qb(n:Nat)(i:Int):ah Nat:=if 0<=i then(if i<n then some i.toNat else none) else if -(n:Int)<=i then some (i+n).toNat else none
def cB{α:Type}(xs:List α)(i:Int):ah α:=(qb xs.length i).bind λj=>xs[j]?
def KC(h:qb n i=some j):seqIndex? i n=some j/\j<n /\ -(n:Int)<=i/\i<n:=by
 unfold qb at h;by_cases h0:0<=i
 .rw[aU h0] at h;by_cases h1:i<n
  .rw[aU h1] at h;have e:i.toNat=j:=Option.some.inj h;exact⟨by rw[seqIndex_of h0 h1,e],by lia,by lia,h1⟩
  .rw[aO h1] at h;cases h
 .rw[aO h0] at h;by_cases h1:-(n:Int)<=i
  .rw[aU h1] at h;have e:(i+n).toNat=j:=Option.some.inj h;exact⟨by rw[seqIndex_neg (by lia) h1,e],by lia,h1,by lia⟩
  .rw[aO h1] at h;cases h
def EJ{α:Type}{xs:List α}{v:α}(h:cB xs i=some v):∃j,seqIndex? i xs.length=some j/\xs[j]?=some v/\j<xs.length /\ -(xs.length:Int)<=i/\i<xs.length:=by
 unfold cB at h;cases e:qb xs.length i with
 |none=>rw[e] at h;cases h
 |some j=>
  rw[e] at h;obtain⟨h1,h2,h3,h4⟩:=KC e;exact⟨j,h1,h,h2,h3,h4⟩
def kO{α:Type}{xs:List α}{v:α}(h:xs[j]?=some v):cB xs (j:Int)=some v:=by
 have hj:j<xs.length:=(cK.mp h).1;have e:qb xs.length (j:Int)=some j:=by
  unfold qb;rw[aU (by lia),aU (by lia)];simp
 unfold cB;rw[e];exact h
def EK(b:Expr):Prop:=∀o i,subscripted b false o i=operate [o,i] (getItem o i)
def mG(X:Cx)(r:R2):Prop:=
 ∀(value slice:Expr) (ae:List (aj×Obj)) (s:au) (Z:St) (H:Hp) (x y:V) (v u:ai) (Q:VK),Inv X ae Z H s->RelV x v->RelV y u->r x y H Q->
  subscripted slice false v u=operate [v,u] (getItem v u)->wpAny (mX X) X.A (subscriptTail value slice v u) (EP X ae Z Q) X.xe s
def BJ(X:Cx)(id:String)(r:V->List V->Hp->VK->Prop):Prop:=
 ∀(ae:List (aj×Obj)) (s:au) (Z:St) (H:Hp) (x:V) (xs:List V) (v:ai) (us:List ai) (Q:VK),Inv X ae Z H s->RelV x v->Vals xs us->r x xs H Q->
  wpAny (mX X) X.A (call (.builtin id) (v::us)) (EP X ae Z Q) X.xe s
section
variable{X:Cx}{a b:Expr}{ta tb:TE}{pos:Pos}
def mG.or{r':R2}(h:mG X r)(h':mG X r'):mG X (λx y H Q=>r x y H Q\/r' x y H Q):=by
 intro value slice ae s Z H x y v u Q I rx ry q hs;rcases q with q|q
 .exact h value slice ae s Z H x y v u Q I rx ry q hs
 .exact h' value slice ae s Z H x y v u Q I rx ry q hs
def Xq(hr:mG X r)(ha:PE X a ta)(hb:PE X b tb)(hs:EK b):PE X (.Subscript a b pos) (DG r ta tb):=by
 intro ae s Z H Q I h;exact Subscript_ (uP ha hb I h λv u s2 x y H2 I2 rx ry q=>hr a b ae s2 Z H2 x y v u Q I2 rx ry q (hs _ _))
def v9(K:aH):R2:=λx y H Q=>∃p xs i v,x=.ref p/\y=.int i/\cI K H p xs/\cB xs i=some v/\Q v H
def v_(K:aH):R2:=λx y H Q=>∃p xs i v,x=.ref p/\y=.int i/\fy K H p xs/\cB xs i=some v/\Q v H
def AZ:R2:=λx y H Q=>∃z i c,x=.str z/\y=.int i/\z.length<=sizeLine/\cB z.cps.toList i=some c/\Q (.str ⟨#[c]⟩) H
def Sa:mG X (v9 X.K):=by
 intro value slice ae s Z H x y v u Q I rx ry h hs;refine kY λkz=>?_
 obtain⟨p,xs,i,z,rfl,rfl,hq,he,q⟩:=h;cases rx;obtain⟨t,rfl⟩:=ry;obtain⟨aA,r,pl,hz⟩:=I.list hq;obtain⟨j,h1,h2,h3,h4,h5⟩:=EJ he;obtain⟨w,ew,ph⟩:=r.get h2;have hl:=r.length;have hn:=uH;have fin:EP X ae Z Q w s:=⟨z,H,I,ph,q⟩;refine kz ?_;by_cases h0:0<=i
 .have hj:i.toNat=j:=by
   rw[seqIndex_of h0 h5] at h1;exact Option.some.inj h1
  exact item_listR pl.isList h0 (by lia) (by rw[hj];simpa using ew) fin hs
 .have hj:(i+(aA.toArray.size:Int)).toNat=j:=by
   rw[seqIndex_neg (by lia) h4] at h1
   rw[dq,<-hl];exact Option.some.inj h1
  exact subscriptTail_builtinR (x:=w) pl.isList.typeIs slot_list_getitem.lookup
   (wpAny_getItem_list_neg (Q:=λr s'=>r=w/\EP X ae Z Q r s') pl.isList (by lia) (by rw[dq] <;> lia) (by lia) (by rw[hj];simpa using ew) ⟨rfl,fin⟩) hs
def Vy:mG X (v_ X.K):=by
 intro value slice ae s Z H x y v u Q I rx ry h hs;obtain⟨p,xs,i,z,rfl,rfl,hq,he,q⟩:=h;cases rx;obtain⟨t,rfl⟩:=ry;obtain⟨aA,r,pl,hz⟩:=I.tuple hq;obtain⟨j,h1,h2,h3,h4,h5⟩:=EJ he;obtain⟨w,ew,ph⟩:=r.get h2;have hl:=r.length;have hn:=uH;have fin:EP X ae Z Q w s:=⟨z,H,I,ph,q⟩;exact subscriptTail_builtinR (x:=w) pl.typeIs slot_tuple_getitem.lookup
  (getItem_tuple (j:=j) (Q:=λr s'=>r=w/\EP X ae Z Q r s') pl (by lia) (by lia) (by rw[dq,<-hl];exact h1) (by simpa using ew) ⟨rfl,fin⟩) hs
def vC:mG X AZ:=by
 intro value slice ae s Z H x y v u Q I rx ry h hs;obtain⟨z,i,c,rfl,rfl,hz,he,q⟩:=h;obtain⟨t,rfl⟩:=rx;obtain⟨t',rfl⟩:=ry;obtain⟨j,h1,h2,h3,h4,h5⟩:=EJ he;have hl:z.cps.toList.length=z.length:=by simp[Str.length]
 rw[hl] at h1 h4 h5;have hn:=uH;exact tail_any (typeIs_str s z t) slot_str_getitem.lookup (getItem_str (c:=c) (by
  lia) (by rw[h1];simpa using h2) ⟨.str ⟨#[c]⟩,H,I.tok _,⟨_,rfl⟩,q⟩) hs
def OW(aA:List ai)(n j:Nat)(u:ai):Obj.mapSeq (·.setIfInBounds j u) { cls:=.type "list",data:=.seq aA.toArray n}={ cls:=.type "list",data:=.seq (aA.set j u).toArray n}:=by
 simp[Obj.mapSeq]
def Inv.lst{ae:List (aj×Obj)}{Z:St}{H:Hp}{s:au}{p:aj}{xs:List V}(I:Inv X ae Z H s)(h:H p=some (.lst xs)):
  ∃(aA:List ai) (n:Nat),Vals xs aA/\s.heap.get? p=some { cls:=.type "list",data:=.seq aA.toArray n}/\xs.length<=sizeLine:=by
 obtain⟨z,aA,n,r,e⟩:=I.bL p _ h;exact⟨aA,n,r,e,z⟩
def Inv.vG{p:aj}{xs ys:List V}{aA its':List ai}{n':Nat}{f:Obj->Obj}(I:Inv X ae Z H s)(h:H p=some (.lst xs))
  (ho:s.heap.get? p=some { cls:=.type "list",data:=.seq aA.toArray n}) (hf:f { cls:=.type "list",data:=.seq aA.toArray n}={ cls:=.type "list",data:=.seq its'.toArray n'}) (r:Vals ys its') (hz:ys.length<=sizeLine) (t:Nat) :
  Inv X ae Z (upd H p (.lst ys)) { s with heap:=s.heap.update p f,toks:=t}:=by
 have e:(s.heap.update p f).get? p=some { cls:=.type "list",data:=.seq its'.toArray n'}:=by
  rw[nu f ho (by rw[hf] <;> rfl),hf]
 refine I.write (x:=p) (e:=p) (by rw[h];trivial) (.inl rfl) (λb u hb q=>(ny _ _ (Ne.symm hb)).trans q) ⟨_,e⟩ ?_
 exact⟨hz,its',n',r,e⟩
def t5:V->V->V->Hp->(Hp->Prop)->Prop:=λo i v H Q=>∃p xs k j,o=.ref p/\i=.int k/\H p=some (.lst xs)/\qb xs.length k=some j/\Q (upd H p (.lst (xs.set j v)))
def Qx:qu X t5:=by
 intro ae s Z H o i v ov iv u Q I ro ri rv h;refine kY λkz=>?_
 obtain⟨p,xs,k,j,rfl,rfl,hp,hj,q⟩:=h;cases ro;obtain⟨t,rfl⟩:=ri;obtain⟨aA,n,r,ho,hz⟩:=I.lst hp;obtain⟨h1,h2,h3,h4⟩:=KC hj;have hl:=r.length;have hn:=uH;have I':Inv X ae Z (upd H p (.lst (xs.set j v))) { s with heap:=s.heap.update p (Obj.mapSeq (·.setIfInBounds j u))}:=
  I.vG hp ho (OW aA n j u) (r.set rv j) (by rw[mE];exact hz) s.toks
 refine kz ?_;by_cases h0:0<=k
 .have hk:k.toNat=j:=by
   rw[seqIndex_of h0 h4] at h1;exact Option.some.inj h1
  exact PySem.W.ki_setAt ho h0 (by lia) (by rw[dq,<-hl];exact h4) (by rw[hk];exact⟨_,I',q⟩)
 .have hk:(k+(aA.toArray.size:Int)).toNat=j:=by
   rw[seqIndex_neg (by lia) h3] at h1
   rw[dq,<-hl];exact Option.some.inj h1
  exact PySem.W.ki_setBack ho (by lia) (by rw[dq,<-hl];exact h3) (by lia) (by rw[hk];exact⟨_,I',q⟩)
def OJ(lo hi:ah Int)(n:Nat):(sliceBounds lo hi none n).1=((HT.bW n 0 lo:Nat):Int)/\(sliceBounds lo hi none n).2.1=((HT.bW n n hi:Nat):Int)/\(sliceBounds lo hi none n).2.2=1:=by
 refine⟨?_,?_,rfl⟩
 .cases lo with
  |none=>simp[sliceBounds,HT.bW]
  |some i=>
   simp only[sliceBounds,HT.bW,Option.getD_none,show(1:Int) > 0 by decide,wN]
   by_cases h:i<0
   .simp only[h,wN] <;> lia
   .simp only[h,iY] <;> lia
 .cases hi with
  |none=>simp[sliceBounds,HT.bW]
  |some i=>
   simp only[sliceBounds,HT.bW,Option.getD_none,show(1:Int) > 0 by decide,wN]
   by_cases h:i<0
   .simp only[h,wN] <;> lia
   .simp only[h,iY] <;> lia
def Ow(aA:List ai)(lo hi:ah Int):slicePick aA.toArray lo hi none=((aA.drop (HT.bW aA.length 0 lo)).take (HT.bW aA.length aA.length hi - HT.bW aA.length 0 lo)).toArray:=by
 obtain⟨h1,h2,h3⟩:=OJ lo hi aA.toArray.size;unfold slicePick;rw[h1,h2,h3];simp only[sliceRange_one,pick_run,dq] <;> rfl
def wa(K:aH):V->ah Int->ah Int->Hp->VK->Prop:=λx lo hi H Q=>∃a xs,x=.ref a/\cI K H a xs/\∀p,H p=none->Q (.ref p) (upd H p (.lst (kA xs lo hi)))
def Sb:nI X (wa X.K):=by
 intro ae s Z H x v vl vu lo hi sl Q I rx hs pl pu h;obtain⟨a,xs,rfl,hx,q⟩:=h;cases rx;obtain⟨aA,r,ht,hz⟩:=I.list hx;have hlen:=r.length;refine⟨"list",_,slot_list_getitem.lookup,ht.isList.typeIs,?_⟩;refine wpAny_getItem_list_slice ht.isList hs pl pu .none (by simp) ?_ (by rw[dq] <;> lia)
 rw[Ow,<-hlen];refine⟨.ref s.heap.objs.size,_,I.laid (t':=s.toks) (o:=.lst (kA xs lo hi)) (λb ob q=>dU _ q) (bC _) ?_,rfl,q _ (I.bL.fresh (bC _))⟩
 exact⟨iQ (IY xs lo hi) hz,_,0,(r.drop (HT.bW xs.length 0 lo)).take (HT.bW xs.length xs.length hi - HT.bW xs.length 0 lo),jD _ rfl⟩
def OK:bD X (.builtin "len") (λxs H Q=>∃p ys,xs=[.ref p]/\(cI X.K H p ys\/fy X.K H p ys)/\Q (.int ys.length) H):=by
 intro ae s Z H xs us Q I r h;obtain⟨p,ys,rfl,hq,q⟩:=h;obtain⟨u,rfl,rx⟩:=vals1 r;cases rx;have hn:=uH;rcases hq with hq|hq
 .obtain⟨aA,r',pl,hz⟩:=I.list hq;have hlen:=r'.length;exact Calls.call_len_list pl.isList (by simp only[dq] <;> lia) ⟨.int ys.length,H,I.tok _,⟨s.toks+1,by rw[dq,hlen]⟩,q⟩
 .obtain⟨aA,r',pl,hz⟩:=I.tuple hq;have hlen:=r'.length;exact len_tuple pl (by simp only[dq] <;> lia) ⟨.int ys.length,H,I.tok _,⟨s.toks+1,by rw[dq,hlen]⟩,q⟩
def jN:bD X (.builtin "len") (λxs H Q=>∃z,xs=[.str z]/\z.length<=sizeLine/\Q (.int z.length) H):=by
 intro ae s Z H xs us Q I r h;obtain⟨z,rfl,hz,q⟩:=h;obtain⟨u,rfl,t,rfl⟩:=vals1 r;have hn:=uH;exact len_str (by lia) ⟨.int z.length,H,I.tok _,⟨_,rfl⟩,q⟩
def bD.or{f:ai}{r r':List V->Hp->VK->Prop}(h:bD X f r)(h':bD X f r'):bD X f (λxs H Q=>r xs H Q\/r' xs H Q):=by
 intro ae s Z H xs us Q I rs q;rcases q with q|q
 .exact h ae s Z H xs us Q I rs q
 .exact h' ae s Z H xs us Q I rs q
def OL:bD X (.type "list") (λxs H Q=>∃p ys,xs=[.ref p]/\(cI X.K H p ys\/fy X.K H p ys)/\∀l,H l=none->Q (.ref l) (upd H l (.lst ys))):=by
 intro ae s Z H xs us Q I r h;obtain⟨p,ys,rfl,hq,q⟩:=h;obtain⟨u,rfl,rx⟩:=vals1 r;cases rx;have fin:∀(aA:List ai),Vals ys aA->ys.length<=sizeLine->∀(h':bJ) (c':Nat),(∀b o',s.heap.get? b=some o'->h'.get? b=some o')->
   h'.get? s.heap.objs.size=some { cls:=.type "list",dict:=none,data:=.seq aA.toArray c',slots:=#[]}->EP X ae Z Q (.ref s.heap.objs.size) { s with heap:=h'}:=λaA r' hz h' c' kp e=>
  ⟨.ref s.heap.objs.size,_,I.laid (t':=s.toks) kp (bC _) (show cu X.prog X.w _ h' _ (.lst ys) from⟨hz,aA,c',r',e⟩),rfl,q _ (I.bL.fresh (bC _))⟩
 rcases hq with hq|hq
 .obtain⟨aA,r',pl,hz⟩:=I.list hq;have hlen:=r'.length;obtain⟨o,ho,hc,n,hd⟩:=pl.isList;exact call_list_seq p (.inl rfl) ho hc hd (λh' c' kp e=>fin aA r' hz h' c' kp e) (by simp only[dq] <;> lia)
 .obtain⟨aA,r',pl,hz⟩:=I.tuple hq;have hlen:=r'.length;obtain⟨o,ho,hc,n,hd⟩:=pl;exact call_list_seq p (.inr rfl) ho hc hd (λh' c' kp e=>fin aA r' hz h' c' kp e) (by simp only[dq] <;> lia)
def Bl(K:aH)(T:String)(x:V)(H:Hp):Prop:=match x with
 |.str _=>T="str"
 |.int _=>T="int"
 |.ref p=>(T="list"/\∃xs,cI K H p xs)\/(T="tuple"/\∃o,K.lookup p=some o/\o.cls=.type "tuple"/\o.dict=none)\/
   (T="dict"/\((∃kvs,H p=some (.dK kvs))\/(∃kvs,H p=some (.dT kvs))\/∃es ep,H p=some (.dG es ep)))\/(T="set"/\∃S n,H p=some (.set S n))
 |_=>False
def L8{T:String}{x:V}{v:ai}(I:Inv X ae Z H s)(r:RelV x v)(ty:Bl X.K T x H):
  s.TypeIs v T/\∀a,v=.ref a->∃ob,s.heap.get? a=some ob/\ob.dict=none:=by
 cases x with
 |str z=>
  obtain⟨t,rfl⟩:=r;cases(show T="str" from ty);exact⟨typeIs_str s z t,λ_ e=>nomatch e⟩
 |int i=>
  obtain⟨t,rfl⟩:=r;cases(show T="int" from ty);exact⟨typeIs_int s i t,λ_ e=>nomatch e⟩
 |ref p=>
  cases r;rcases ty with⟨rfl,xs,hq⟩|⟨rfl,o,hk,hc,hd⟩|⟨rfl,hk⟩|⟨rfl,S,n,hk⟩
  .obtain⟨aA,_,pl,_⟩:=I.list hq;refine⟨pl.isList.typeIs,λa e=>?_⟩
   cases e;obtain⟨o,n,e,c,hd,_⟩:=pl;exact⟨o,e,hd⟩
  .refine⟨⟨o,I.lG p o hk,hc⟩,λa e=>?_⟩
   cases e;exact⟨o,I.lG _ o hk,hd⟩
  .have z:∃o,s.heap.get? p=some o/\o.ExactDict:=by
    rcases hk with⟨kvs,hk⟩|⟨kvs,hk⟩|⟨es,ep,hk⟩
    .obtain⟨_,_,_,_,o,_,_,e,ex,_⟩:=I.bL p _ hk;exact⟨o,e,ex⟩
    .obtain⟨_,_,_,_,o,_,_,e,ex,_⟩:=I.bL p _ hk;exact⟨o,e,ex⟩
    .obtain⟨_,_,o,_,e,ex,_⟩:=I.bL p _ hk;exact⟨o,e,ex⟩
   obtain⟨o,e,ex⟩:=z;refine⟨⟨o,e,ex.1⟩,λa e2=>?_⟩
   cases e2;exact⟨o,e,ex.2.1⟩
  .obtain⟨o,_,_,_,e,ex,_⟩:=I.bL p _ hk;refine⟨⟨o,e,ex.1⟩,λa e2=>?_⟩
   cases e2;exact⟨o,e,ex.2.1⟩
 |_=>exact False.elim ty
def Ba(K:aH)(T:String)(r:V->List V->Hp->VK->Prop)(to:TE):TE:=λZ H Q=>to Z H λx H1=>Bl K T x H1/\r x [] H1 Q
def HN(K:aH)(T:String)(r:V->List V->Hp->VK->Prop)(to:TE)(t:TA):TE:=λZ H Q=>to Z H λx H1=>Bl K T x H1/\t Z H1 λxs H2=>r x xs H2 Q
variable{o e:Expr}{es:List Expr}{to:TE}{t:TA}{name:Str}{apos cO:Pos}{T id:String}{r:V->List V->Hp->VK->Prop}
def Vz(pa:PlainAttrs T)(slot:Slot T name id)(oJ:typeOf (.builtin id)=pure (.type "method_descriptor"))(hm:BJ X id r)(ho:PE X o to)
  (fQ:attributeBase o name X.env (eval o X.env)=eval o X.env:=by rfl) (fR:(apos.endLine == cO.line)=true:=by rfl):PE X (.Call (.Attribute o name apos) [] [] cO) (Ba X.K T r to):=by
 intro ae s Z H Q I h;refine wpAny_Call_method0_late fQ fR (bz (ho ae s Z H _ I h) λv s1 hh=>?_)
 obtain⟨x,H1,I1,r1,ty,q1⟩:=hh;obtain⟨h1,h2⟩:=L8 I1 r1 ty;exact⟨T,id,pa,slot,oJ,h1,h2,Calls.callWith_builtin rfl (PySem.evalArgs_none (hm ae s1 Z H1 x [] v [] Q I1 r1 .nil q1))⟩
def MW(pa:PlainAttrs T)(slot:Slot T name id)(oJ:typeOf (.builtin id)=pure (.type "method_descriptor"))(hm:BJ X id r)(ho:PE X o to)(ha:PA X (e::es) t)
  (fQ:attributeBase o name X.env (eval o X.env)=eval o X.env:=by rfl)
  (oA:((backTo cO (starEach (e::es) X.env)).all (λx => !x.1)&&(backToKw cO (keywordEach [] X.env)).all (λx=>x.1.isSome) && decide ((e::es).length+([]:List Keyword).length+(if([]:List Keyword).isEmpty then 0 else 1)<30))=true:=by rfl)
  (fR:(apos.endLine == cO.line)=true:=by rfl) (hs:starEach (e::es) X.env=(false,eval e X.env)::starEach es X.env:=by rfl) (iC:(backTo cO (starEach es X.env)).any (·.1)=false:=by rfl) :
  PE X (.Call (.Attribute o name apos) (e::es) [] cO) (HN X.K T r to t):=by
 intro ae s Z H Q I h;refine wpAny_Call_method_late fQ oA fR rfl (bz (ho ae s Z H _ I h) λv s1 hh=>?_)
 obtain⟨x,H1,I1,r1,ty,q1⟩:=hh;obtain⟨h1,h2⟩:=L8 I1 r1 ty;refine⟨T,id,pa,slot,oJ,h1,h2,?_⟩;have hA:=ha cO ae s1 Z H1 _ I1 q1;rw[hs] at hA ⊢;refine Calls.callWith_builtin (by show(false || (backTo cO (starEach es X.env)).any (·.1))=false;rw[iC] <;> rfl) (Calls.evalArgs_plain ?_)
 exact bz hA λus s2 ⟨vs,H2,I2,r2,q2⟩=>hm ae s2 Z H2 x vs v us Q I2 r1 r2 q2
end
variable{x:V}{us aA:List ai}{t':Nat}
def BI(X:Cx)(id:String)(r:V->List V->Hp->VK->Prop):Prop:=
 ∀(ae:List (aj×Obj)) (s:au) (Z:St) (H:Hp) (x:V) (xs:List V) (v:ai) (us:List ai) (Q:VK),Inv X ae Z H s->RelV x v->Vals xs us->r x xs H Q->
  wpAny (mX X) X.A (call (.builtin id) (v::us)) (EP X ae Z Q) X.xe s
def Vals.one(h:Vals [x] us):∃u,us=[u]/\RelV x u:=by
 cases h with
 |cons r t=>
  cases t;exact⟨_,rfl,r⟩
def Vals.two{y:V}(h:Vals [x,y] us):∃u v,us=[u,v]/\RelV x u/\RelV y v:=by
 cases h with
 |cons r t=>
  obtain⟨v,rfl,q⟩:=Vals.one t;exact⟨_,_,rfl,r,q⟩
theorem Vals.zero:∀{us:List ai},Vals [] us->us=[]
 |_,.nil=>rfl
section
variable{X:Cx}{ae:List (aj×Obj)}{Z:St}{H:Hp}{s:au}{l b:aj}{xs ys zs:List V}
def Inv.vE{its':List ai}{n:Nat}{f:Array ai->Array ai}(I:Inv X ae Z H s)(hH:H l=some (.lst xs))
  (e:s.heap.get? l=some { cls:=.type "list",data:=.seq aA.toArray n}) (hf:f aA.toArray=its'.toArray) (hv:Vals ys its') (hz:ys.length<=sizeLine) :
  Inv X ae Z (upd H l (.lst ys)) { s with heap:=s.heap.update l (Obj.mapSeq f),toks:=t'}:=by
 have q:=PySem.IsL.update e f;rw[hf] at q;refine I.write (x:=l) (e:=l) (by rw[hH];exact trivial) (.inl rfl) (λb' u hb hu=>(ny s.heap (Obj.mapSeq f) (Ne.symm hb)).trans hu) ⟨_,q⟩ ?_
 exact⟨hz,its',_,hv,q⟩
def Inv.G7(I:Inv X ae Z H s)(hv:Vals ys aA)(hz:ys.length<=sizeLine):
  Inv X ae Z (upd H s.heap.objs.size (.lst ys)) { s with heap:=s.heap.push { cls:=.type "list",data:=.seq aA.toArray},toks:=t'}:=
 I.laid (λ_ _ q=>dU _ q) (bC _) ⟨hz,aA,0,hv,jD _ rfl⟩
theorem Inv.fresh(I:Inv X ae Z H s):H s.heap.objs.size=none:=I.bL.fresh (bC _)
def Inv.vF(I:Inv X ae Z H s)(hH:H l=some (.lst xs)):xs.length<=sizeLine/\∃(aA:List ai) (n:Nat),Vals xs aA/\xs.length=aA.length/\s.heap.get? l=some { cls:=.type "list",data:=.seq aA.toArray n}:=by
 obtain⟨z,aA,n,r,e⟩:=I.bL l _ hH;exact⟨z,aA,n,r,r.length,e⟩
end
section
variable{X:Cx}
def KD:V->List V->Hp->VK->Prop:=λx vs H Q=>∃l xs y,x=.ref l/\vs=[y]/\H l=some (.lst xs)/\xs.length<sizeLine/\Q .aR (upd H l (.lst (xs++[y])))
theorem Pg:BI X "list.append" KD:=by
 intro ae s Z H x vs v us Q I rx rv h;obtain⟨l,xs,y,rfl,rfl,hH,hz,q⟩:=h;cases rx;obtain⟨u,rfl,ru⟩:=rv.one;obtain⟨z,aA,n,r,hl,e⟩:=I.vF hH;refine call_meets F.slot_list_append ⟨_,e,rfl⟩ F.entry_list_append (F.args_list_append_2 _ _) (PySem.list_append l aA.toArray n u (by rw[dq];lia)) ⟨e,?_⟩
 refine⟨.aR,_,I.vE (its':=aA++[u]) hH e (by simp) (r.append (.cons ru .nil)) ?_,rfl,q⟩
 rw[b_,iW];lia
def L9:V->List V->Hp->VK->Prop:=λx vs H Q=>∃l xs,x=.ref l/\vs=[]/\H l=some (.lst xs)/\Q .aR (upd H l (.lst []))
theorem Qy:BI X "list.clear" L9:=by
 intro ae s Z H x vs v us Q I rx rv h;obtain⟨l,xs,rfl,rfl,hH,q⟩:=h;cases rx;have Zc:=rv.zero;subst Zc;obtain⟨z,aA,n,r,hl,e⟩:=I.vF hH;refine call_meets F.slot_list_clear ⟨_,e,rfl⟩ F.entry_list_clear (F.args_list_clear_1 _) (AutoSeq1.list_clear_list_0 l aA.toArray n (by rw[dq];lia)) ⟨e,?_⟩
 exact⟨.aR,_,I.vE (its':=[]) (ys:=[]) hH e rfl .nil (k7 _),rfl,q⟩
end
section
variable{κ:Type}[DecidableEq κ]
def kq.mS{o:ah V}{u:ah ai}(r:kq o u):o.isSome=u.isSome:=by
 cases o with
 |none=>cases u with
  |none=>rfl
  |some _=>exact(show False from r).elim
 |some _=>cases u with
  |none=>exact(show False from r).elim
  |some _=>rfl
end
variable{X:Cx}
section
variable{X:Cx}{ae:List (aj×Obj)}{Z:St}{H:Hp}{s:au}{a:aj}{y v:V}{u r:ai}{o:ah V}{A:cy}{E:ai->au->Prop}
def Inv.big(I:Inv X ae Z H s):sysModules<s.heap.objs.size:=by
 have h:mainGlobals<s.heap.objs.size:=(I.mod.glob.keeps I.bk).lt;exact Nat.lt_trans (by decide) h
def KG{h':bJ}{t':Nat}{ob:HO}(I:Inv X ae Z H s)(mu:yC (H a))(hs:Heap.SameBut a s.heap h')(he:∃q,h'.get? a=some q)(new:cu X.prog X.w (upd H a ob) h' a ob):
  Inv X ae Z (upd H a ob) { s with heap:=h',toks:=t'}:=
 I.write (x:=a) (e:=a) mu (.inl rfl) (λb q hb z=>(hs.2 b hb).trans z) he new
end
def CJ:List (TE×TE)->St->Hp->(List (V×V)->Hp->Prop)->Prop
 |[],_,H,Q=>Q [] H
 |(tk,tv)::r,Z,H,Q=>tk Z H λx H1=>tv Z H1 λy H2=>CJ r Z H2 λps H3=>Q ((x,y)::ps) H3
abbrev VV:List (V×V)->List (ai×ai)->Prop:=Paired λp q=>RelV p.1 q.1/\RelV p.2 q.2
def sk(X:Cx)(pos:Pos)(keys:List (ah Expr))(values:List Expr)(rS:List (TE×TE)):Prop:=
 ∀(ae:List (aj×Obj)) (s:au) (Z:St) (H:Hp) (Q:List (V×V)->Hp->Prop),Inv X ae Z H s->CJ rS Z H Q->
  wpAny (mX X) X.A (evalPairs (pairTrees keys values X.env pos)) (λvs s'=>∃ps H',Inv X ae Z H' s'/\VV ps vs/\Q ps H') X.xe s
def rH{pos:Pos}:sk X pos [] [] []:=λae s Z H Q I h=>pairTrees_nil_walk ⟨[],H,I,.nil,h⟩
def Qz{pos:Pos}{k v:Expr}{ks:List (ah Expr)}{vs:List Expr}{tk tv:TE}{rS:List (TE×TE)}(hk:PE X k tk)(hv:PE X v tv)(hr:sk X pos ks vs rS):
  sk X pos (some k::ks) (v::vs) ((tk,tv)::rS):=λae s Z H Q I h=>
 pairTrees_cons_walk (bz (hk ae s Z H _ I h) λu s1 ⟨x,H1,I1,rx,q1⟩=>bz (hv ae s1 Z H1 _ I1 q1) λw2 s2 ⟨y,H2,I2,ry,q2⟩=> bz (hr ae s2 Z H2 _ I2 q2) λws s3 ⟨ps,H3,I3,rel,q3⟩=>⟨(x,y)::ps,H3,I3,.cons ⟨rx,ry⟩ rel,q3⟩)
end L2
namespace IP
open PySem PySem.W PySem.Calls PyProof.Rows
variable{P:Params}{h:bJ}{l:OpenLaw}{n:Nat}
def Ou:∀(ns:List Int) (vs:List ai),WellAll P h vs (ns.map WData.int)->IntsAre vs ns:=by
 intro ns
 induction ns with
 |nil=>
  intro vs w;rw[Bv] at w;cases w;exact .nil
 |cons n ns ih=>
  intro vs w;rw[c_] at w;cases w with
  |cons a b=>
   cases a;exact .cons _ _ (ih _ b)
def Ph(hn:l.most=some n){args:List WData}{vals:List ai}
  (qZ:l.row.toRowW.claim.pre args=true) (Du:WellAll P h vals args) :
  ∃a vs ns,vals=[Value.ref a]/\args=[WData.list (ns.map WData.int)]/\h.get? a=some { cls:=.type "list",data:=.seq vs.toArray}/\IntsAre vs ns/\ns.length<=n:=by
 have Y':WShape.hasAll [] args [.list .int]=true:=(pre_splitW qZ).1;have hc:l.pre.holds [] { args:=args}=true:=(pre_splitW qZ).2;obtain⟨d,r,rfl,h1,h2⟩:=hasAllW_cons Y';obtain rfl:=hasAllW_nil h2;obtain⟨xs,rfl,h3⟩:=hasW_list h1;obtain⟨ns,rfl⟩:=items_int h3;have hlen:ns.length<=n:=by
  unfold OpenLaw.pre at hc;have h4:(WTm.not (.lt (.lit (.int (n:Int))) (.len (.arg 0)))).holds [] { args:=[.list (ns.map .int)]}=true:=by
   have h4:=(holds_andW hc).1;rw[hn] at h4;exact h4
  have h5:=condW_of h4 (w_not (w_lt w_lit (w_len_list (w_arg rfl))))
  simp_all
 cases Du with
 |cons w1 w2=>
  cases w2;cases w1 with
  |list ho gZ=>exact⟨_,_,ns,rfl,rfl,ho,Ou ns _ gZ,hlen⟩
def Pj(l:OpenLaw)(args:List WData):l.row.toRowW.claim.post args (.bool true) args=true:=
 postW_of (r:=l.row.toRowW) (X:=(true == true))
  (show WShape.has [] (.bool true) .bool=true by first|rfl|decide|simp[WShape.has,WShape.arms,WShape.armsAll])
  (show(WTm.eq .res (.lit (.bool true))).value [] { args:=args,res:=some (.bool true),after:=args}=some (.bool (true == true)) from w_eq_bool (w_res rfl) w_lit) rfl
def kr{q:cL}{loose:List Str}{XP:(Str->ah ai)->bJ->Prop}{YP:bX->bJ->Prop}{d:DefRec}
  (hn:l.most=some n) (Ae:d.params.defaults=[])
  (call:∀(w:bX) (s₀ s₁:au) (mg mb:Str->ah ai) (fa:aj) (o:Obj) (pm cd doc:ai) (a:aj) (vs:List ai) (ns:List Int),Ground q loose [] XP w s₀ mg mb s₁.heap->YP w s₁.heap-> s₁.heap.get? fa=some o->o.data=.func (docDef d.name d.params d.body d.scope pm cd doc)->s₁.heap.CodeRec cd d.name->mg d.name=some (.ref fa)-> s₁.heap.get? a=some { cls:=.type "list",data:=.seq vs.toArray}->IntsAre vs ns->ns.length<=n->s₁.gens=#[]-> codeAny (model l.prog w) callerA (.call (.ref fa) ⟨[.ref a],[]⟩) (λr s'=>r=.ok (.ret (.bool true))/\OldK s₁.heap s'.heap/\s'.os=s₁.os/\AllBare s'.gens) s₁) :
  WalkO q loose XP YP l.row.toRowW d [] (λf vs=>PySem.call f vs):=by
 intro w s₀ s₁ mg mb G Y fa o pm cd doc dV kV ho hd oz hD hmg hg args vals as qZ hlay hrd Du hlo;obtain rfl:dV=.none:=Dflts.none hD Ae;obtain rfl:kV=.none:=Dflts.noKw hD;obtain⟨a,vs,ns,rfl,rfl,vm,hints,hlen⟩:=Ph hn qZ Du;refine enter_call (codeAny_mono (call w s₀ s₁ mg mb fa o pm cd doc a vs ns G Y ho (fd_plain hd) oz hmg vm hints hlen hg) λr s' hq=>?_)
 obtain⟨rfl,h2,h3,h4⟩:=hq;exact⟨.inl ⟨.bool true,.bool true,[],rfl,λ_=>rfl,.bool true,Pj l _,λ_=>⟨List.Pairwise.nil,λ_ hm=>(nomatch hm)⟩⟩,h2,h3,h4⟩
end IP
namespace L2
open PySem PySem.Spec PyProof.Rows
theorem Jy:∀{vs:List ai} {ns:List Int},IntsAre vs ns->Vals (ns.map V.int) vs
 |_,_,.nil=>.nil
 |_,_,.cons n t h=>.cons ⟨t,rfl⟩ (Jy h)
def uf(H:Hp):Prop:=∀b,H b=none\/∃o xs,H b=some (.Y o (.lst xs))
def QA{P:cL}{w:bX}{K:aH}{mg mb:Str->ah ai}{CX:pL}{k:Nat}{fa a:aj}{fd:jF}{x:Str}{sp:Sp}{s₁:au}{vs:List ai}{ns:List Int}
  (KX:K.In s₁.heap) (NJ:s₁.heap.Ns mainGlobals mg) (hb:s₁.heap.Ns builtinsNs mb) (YL:∀x:Str,x≠"__name__"->mb x=bootBuiltins x) (Gz:s₁.heap.NoLimit) (hg:s₁.gens=#[])
  (ha:s₁.heap.get? a=some { cls:=.type "list",data:=.seq vs.toArray}) (hi:IntsAre vs ns) (hl:ns.length<=sizeLine) (hr:cN k callerA)
  (F:∀base:bJ,K.In base->base.Ns mainGlobals mg->eV P w K mg base CX k fa fd [x] sp) (Aa:∀(s:au) (u:ai),BindsTo s fd ⟨[u],[]⟩ [(x,u)])
  (tu:∀H:Hp,uf H->cI K H a (ns.map V.int)->sp [.ref a] H (λv _=>v=.bl true) λ_ _ _=>False)
  (F_:∀H e s',CX [] H s₁ (λ_ _ _=>False) e s'->False) :
  codeAny (model P w) callerA (.call (.ref fa) ⟨[.ref a],[]⟩) (λr s'=>r=.ok (.ret (.bool true))/\OldK s₁.heap s'.heap/\s'.os=s₁.os/\AllBare s'.gens) s₁:=by
 have rv:=Jy hi;have G6:=hi.length;have core:∀H:Hp,uf H->cI K H a (ns.map V.int)->gu P w H s₁.heap->(∀b,H b≠none->b=a)->(H a≠none->K.lookup a=none)->
   codeAny (model P w) callerA (.call (.ref fa) ⟨[.ref a],[]⟩) (λr s'=>r=.ok (.ret (.bool true))/\OldK s₁.heap s'.heap/\s'.os=s₁.os/\AllBare s'.gens) s₁:=by
  intro H hO hS bL hA hK;have l4:∀{b:aj} {o:Obj},s₁.heap.get? b=some o->H b=none->(jT s₁.heap H).get? b=some o:=λe n=>Qo e n
  have AK:∀{b:aj} {o:Obj} {es:Array DictEntry} {ep:Nat},s₁.heap.get? b=some o->o.data=.dict es ep->H b=none:=λ{b o es ep} e d=>by
   grind
  have DB:∀{b:aj} {m:Str->ah ai},s₁.heap.Ns b m->(jT s₁.heap H).Ns b m:=λ{b m} ⟨o,es,ep,e,d,r⟩=>⟨o,es,ep,l4 e (AK e d),d,r⟩
  have Nw:K.In (jT s₁.heap H):=λb o e=>l4 (KX b o e) (by
   grind)
  have hM:Mod K mg (jT s₁.heap H):=⟨Nw,DB NJ,⟨mb,DB hb,YL⟩,let ⟨mc,h1,h2⟩:=Gz;⟨mc,DB h1,h2⟩⟩
  have e0:qp P w K mg (jT s₁.heap H) callerA [] s₁ H:=⟨rfl,hM,λb o e=>RU e,DQ (O9 _ _),trivial,λb hb=>bG (show b∈([]:List aj) from hb) (by simp),bL,.of_eq hg⟩
  refine codeAny_mono ((F _ Nw (DB NJ)).run callerA [] s₁ H ⟨[.ref a],[]⟩ [.ref a] [.ref a] _ _ hr e0 (Aa s₁ (.ref a)) (.cons rfl .nil) (tu H hO hS)) λr s' h=>?_
  cases r with
  |error e=>exact(F_ H e s' h).elim
  |ok fl=>
   cases fl with
   |next=>exact False.elim h
   |brk=>exact False.elim h
   |cont=>exact False.elim h
   |ret u=>
    obtain⟨v,H',os,bare,un,GI,r',q⟩:=h;have q':v=.bl true:=q;subst q';obtain rfl:u=Value.bool true:=r';refine⟨rfl,OldK.of_keep λb o e=>?_,os,bare⟩
    cases q:H b with
    |none=>exact un.keep b o e q (by intro z;exact bG (show b∈([]:List aj) from z) (by simp)) (by simp)
    |some u=>
     rcases hO b with z|⟨ob,xs,z⟩
     .rw[q] at z;cases z
     .have z2:=un.iA b ob _ z;obtain⟨e1,_⟩:=bL b _ z;obtain⟨e2,_⟩:=GI b _ z2
      lia
 cases hk:K.lookup a with
 |some o=>
  have e:=KX a o hk;rw[ha] at e;cases e;refine core (λ_=>none) (λ_=>.inl rfl) (.inr ⟨_,vs.toArray,_,hk,rfl,rfl,rfl,by rw[dq,G6];exact hl,by simpa using rv⟩) (λb u z=>by have z':(none:ah HO)=some u:=z;cases z') (λb z=>bG rfl z) λz=>bG rfl z
 |none=>
  refine core (λb=>if b=a then some (.Y { cls:=.type "list",data:=.seq vs.toArray} (.lst (ns.map V.int))) else none) (λb=>?_) (.inl (.inr ⟨{ cls:=.type "list",data:=.seq vs.toArray},aU rfl⟩)) (λb u z=>?_) (λb z=>?_) λ_=>hk
  .by_cases hb:b=a
   .exact .inr ⟨_,_,aU hb⟩
   .exact .inl (aO hb)
  .by_cases hb:b=a
   .have z':=(aU hb).symm.trans z;cases z';subst hb;exact⟨ha,by rw[aW];exact hl,vs,_,rv,ha⟩
   .have z':=(aO hb).symm.trans z;cases z'
  .by_cases hb:b=a
   .exact hb
   .exact bG (aO hb) z
def rY{l:PySem.W.OpenLaw}{n k:Nat}{q:cL}{loose:List Str}{XP:(Str->ah ai)->bJ->Prop}{YP:bX->bJ->Prop}{d:DefRec}{K:Params->aH}{CX:bX->pL}{sp:bX->Sp}{x:Str}
  (hn:l.most=some n) (Dt:n<=sizeLine) (Ae:d.params.defaults=[]) (hr:cN k callerA)
  (hY:∀(w:bX) (h:bJ),YP w h->(K w.params).In h)
  (F:∀(w:bX) (mg:Str->ah ai) (fa:aj) (h:bJ),(K w.params).In h->h.Ns mainGlobals mg->mg d.name=some (.ref fa)-> ∃fd:jF,(∀(s:au) (u:ai),BindsTo s fd ⟨[u],[]⟩ [(x,u)])/\ ∀base:bJ,(K w.params).In base->base.Ns mainGlobals mg->eV l.prog w (K w.params) mg base (CX w) k fa fd [x] (sp w))
  (tu:∀(w:bX) (H:Hp) (a:aj) (ns:List Int),ns.length<=n->uf H->cI (K w.params) H a (ns.map V.int)->sp w [.ref a] H (λv _=>v=.bl true) λ_ _ _=>False)
  (F_:∀(w:bX) (H:Hp) (s:au) (e:ai) (s':au),CX w [] H s (λ_ _ _=>False) e s'->False) :
  PySem.W.WalkO q loose XP YP l.row.toRowW d [] (λf vs=>PySem.call f vs):=by
 refine IP.kr hn Ae λw s₀ s₁ mg mb fa o pm cd doc a vs ns G Y ho hd oz hmg vm hints hlen hg=>?_
 have KX:=hY w _ Y;obtain⟨fd,hb,hF⟩:=F w mg fa _ KX G.T.g hmg;exact QA KX G.T.g G.T.b G.T.builtins G.T.nolimit hg vm hints (iQ hlen Dt) hr hF hb (λH hO hS=>tu w H a ns hlen hO hS) λH e s'=>F_ w H s₁ e s'
variable{x qual:Str}{f:aj}{H:Hp}
noncomputable def xp(s:Stmt):Arguments:=match s with
 |.FunctionDef _ a _ _ _ _ _ _ _ _=>a
 |_=>{ posonlyargs:=[],args:=[],vararg:=none,kwonlyargs:=[],kw_defaults:=[],kwarg:=none,defaults:=[]}
def uA(s:Stmt):List Stmt:=match s with
 |.FunctionDef _ _ b _ _ _ _ _ _ _=>b
 |_=>[]
noncomputable def mJ(s:Stmt):Scope:=match s with
 |.FunctionDef _ _ _ _ _ _ sc _ _ _=>sc
 |_=>{ kind:=.function,names:=[],isGenerator:=false,isCoroutine:=false}
structure sg (K:aH) (x qual:Str) (st:Stmt) (f:aj) (fd:jF):Prop where
 ex:∃(oc:ai) (od:ah aj) (kV doc pm:ai) (an:ah aj) (eF ct:ai) (mf:Array (ah ai)),
  fd=PySem.W.fnOf x qual (xp st) (uA st) (mJ st) .none kV doc pm an eF ct/\K.lookup f=some ⟨oc,od,.func fd,mf⟩/\PySem.W.codeIn K eF qual=true
 kp:PySem.W.keepIn K (.ref f)=true
section
variable{P:cL}{w:bX}{K:aH}{mg:Str->ah ai}{base:bJ}
def sg.binds{st:Stmt}{fd:jF}{ps:List Str}(F:sg K x qual st f fd)
  (h:∀(kV doc pm:ai) (an:ah aj) (eF ct:ai) (us:List ai),us.length=ps.length->bindArgs (PySem.W.fnOf x qual (xp st) (uA st) (mJ st) .none kV doc pm an eF ct) ⟨us,[]⟩=pure (ps.zip us)):Binds K fd ps []:=by
 obtain⟨oc,od,kV,doc,pm,an,eF,ct,mf,rfl,lk,oz⟩:=F.ex;exact .all (h kV doc pm an eF ct)
def fun_mk{st:Stmt}{oc:ai}{od an:ah aj}{mf:Array (ah ai)}{kV doc pm eF ct:ai}(l:K.lookup f=some ⟨oc,od,.func (PySem.W.fnOf x qual (xp st) (uA st) (mJ st) .none kV doc pm an eF ct),mf⟩)
  (c:PySem.W.codeIn K eF qual=true) (k:PySem.W.keepIn K (.ref f)=true):sg K x qual st f (PySem.W.fnOf x qual (xp st) (uA st) (mJ st) .none kV doc pm an eF ct):=⟨⟨oc,od,kV,doc,pm,an,eF,ct,mf,rfl,l,c⟩,k⟩
end
def oO{A B:Prop}(h:B):if false=true then A else B:=by
 rw[aO qi];exact h
def oP{A B:Prop}(h:A):if true=true then A else B:=by
 rw[aU rfl];exact h
def ay(H H':Hp):Prop:=∀b o,H b=some o->H' b=some o
def ay.refl(H:Hp):ay H H:=λ_ _ h=>h
def ay.trans{H1 H2:Hp}(a:ay H H1)(b:ay H1 H2):ay H H2:=λc o h=>b c o (a c o h)
def ay.free{H':Hp}(e:ay H H'){l:aj}(h:H' l=Option.none):H l=Option.none:=by
 cases q:H l with
 |none=>rfl
 |some o=>
  rw[e l o q] at h;cases h
end L2
set_option maxHeartbeats 4000000
namespace L2
open PySem PySem.Spec PyProof.Rows
variable{env:Env}{names:List (Str×lR)}{x:Str}{c:aj}{scope:Scope}{X:Cx}
noncomputable def iz(env:Env)(names:List (Str×lR)):List (Str×aj):=((names.filter λy=>y.2 == .free).reverse).map λy=>(y.1,(env.cells.lookup y.1).getD 0)
theorem IZ{g:Str->aj}{x:Str}:∀{l:List (Str×lR)},(∃k,(x,k)∈l)->(l.map λy=>(y.1,g y.1)).lookup x=some (g x)
 |[],h=>by obtain⟨k,h⟩:=h;cases h
 |(n,k)::r,h=>by
  show List.lookup x ((n,g n)::_)=_;cases hx:x == n with
  |true=>
   simp_all
  |false=>
   simp only[List.lookup_cons,hx];refine IZ (l:=r) ?_
   simp_all
theorem IU{g:Str->aj}{x:Str}{c:aj}:∀{l:List (Str×lR)},(l.map λy=>(y.1,g y.1)).lookup x=some c->c=g x/\∃k,(x,k)∈l
 |[],h=>by cases h
 |(n,k)::r,h=>by
  have h:List.lookup x ((n,g n)::(r.map λy=>(y.1,g y.1)))=some c:=h
  cases hx:x == n with
  |true=>
   simp_all
  |false=>
   simp only[List.lookup_cons,hx] at h;obtain⟨e,k',hk⟩:=IU h;exact⟨e,k',mD _ hk⟩
def J4(h:(x,NameKind.free)∈names)(hc:env.cells.lookup x=some c):(iz env names).lookup x=some c:=by
 have:=IZ (g:=λn=>(env.cells.lookup n).getD 0) (x:=x) (l:=(names.filter λy=>y.2 == .free).reverse) ⟨.free,by simp[h]⟩
 unfold iz;rw[this,hc];rfl
def EL(hf:∀y∈names,y.2=.free->∃c,env.cells.lookup y.1=some c)(h:(iz env names).lookup x=some c):env.cells.lookup x=some c:=by
 obtain⟨e,k,hk⟩:=IU (g:=λn=>(env.cells.lookup n).getD 0) h
 grind
theorem D_{env:Env}:∀(names:List (Str×lR)) (cs:List (Str×aj)),(∀y∈names,y.2=.free->∃c,env.cells.lookup y.1=some c)->
  (forIn names cs (λ(x:Str×lR) (r:List (Str×aj))=>if(x.2 == NameKind.free)=true then(do let a <-cellOf env x.1;pure (ForInStep.yield ((x.1,a)::r))) else(pure (ForInStep.yield r):Sem (ForInStep (List (Str×aj)))))) =
   pure (iz env names++cs)
 |[],cs,_=>by rw[List.forIn_nil];rfl
 |(n,k)::r,cs,h=>by
  rw[List.forIn_cons];cases hk:k == NameKind.free with
  |true=>
   obtain⟨c,hc⟩:=h (n,k) pD (by simpa using hk)
   have kQ:env.cells.lookup n=some c:=hc;have e:cellOf env n=pure c:=by unfold cellOf;rw[kQ]
   simp only[hk,wN,e,pure_bind];rw[D_ r _ λy hy=>h y (mD _ hy)]
   congr 1
   unfold iz
   simp_all
  |false=>
   simp only[hk,jE,iY,pure_bind];rw[D_ r _ λy hy=>h y (mD _ hy)]
   congr 1
   unfold iz;rw[yl];simp[hk]
def IT(h:∀y∈scope.names,y.2=.free->∃c,env.cells.lookup y.1=some c):closureFor scope env=pure (iz env scope.names):=by
 have:=D_ (env:=env) scope.names [] h;rw[lQ] at this;unfold closureFor;show(forIn scope.names [] _ >>= λr=>pure r)=_
 rw[bind_pure];exact this
theorem IV{env:Env}:∀{names:List (Str×lR)} {x:Str},names.lookup x=some .free->
  (names.map λ(n,k)=>if(k == NameKind.free&&env.scope.kind == .function&&env.kindOf n == some .cell) then(n,NameKind.cell) else(n,k)).lookup x=some .cell\/
  (names.map λ(n,k)=>if(k == NameKind.free&&env.scope.kind == .function&&env.kindOf n == some .cell) then(n,NameKind.cell) else(n,k)).lookup x=some .free
 |[],_,h=>by simp at h
 |(n,k)::r,x,h=>by
  have ih:=@IV env r x
  grind
theorem Ea{env:Env}:∀{names:List (Str×lR)} {x:Str} {q:lR},(q=.cell\/q=.free)->(∀y∈names,y.2≠.cell)->
  (names.map λ(n,k)=>if(k == NameKind.free&&env.scope.kind == .function&&env.kindOf n == some .cell) then(n,NameKind.cell) else(n,k)).lookup x=some q->(x,NameKind.free)∈names
 |[],_,_,_,_,h=>by simp at h
 |(n,k)::r,x,q,hq,hn,h=>by
  have ih:=@Ea env r x q hq λy hy=>hn y (mD _ hy)
  grind
def dH(X:Cx)(scope:Scope)(M:List Str)(C:aj)(s:au)(H:Hp)(fp:List aj):Cx:=
 {X with N:=M,s₀:=s,H₀:=H,env:=compEnvC scope (iz X.env scope.names) C X.env,outer:=X.stack,ex:=fp,fn:=λ_=>false,pn:=[],xe:=λ_ _=>False}
noncomputable def iy(k:Nat)(cF:List Nat)(Z:St):St:=List.replicate k none++cF.map λi=>(Z[i]?).join
def m8(X:Cx)(ifs:List Expr)(t:TT):Prop:=
 ∀(ae:List (aj×Obj)) (s:au) (Z:St) (H:Hp) (Q:Bool->Hp->Prop),Inv X ae Z H s->t Z H Q->
  wpAny (mX X) X.A (forIn ifs true λc r=>if r=true then do let ok <-isTrue c X.env (eval c X.env);pure (ForInStep.yield ok) else pure (ForInStep.yield r)) (TP X ae Z Q) X.xe s
def HZ:TT:=λ_ H Q=>Q true H
def Se:m8 X [] HZ:=λ_ _ Z H _ I h=>wpAny_tests_nil ⟨H,I,h⟩
def Sg{c:Expr}{t:TT}(hc:PT X c t):m8 X [c] t:=λae s Z H Q I h=>wpAny_tests_one (hc ae s Z H Q I h)
def Oq{prog:cL}{w:bX}{A:cy}{R:Result->au->Prop}{s:au}{elt target iter:Expr}{ifs:List Expr}{pos:Pos}{it bB:ai}(I:Nat->au->Prop)
  (turn:∀n s,I n s->wpAny (model prog w) A (pyNext it) (λr s₁=>match r with
   |none=>R (.ok .next) s₁
   |some v=>wpAny (model prog w) A (letOwnedTupleGo target it v) (λ_ s₀=>wpAny (model prog w) A (assign target env v) (λ_ s₂=>
     wpAny (model prog w) A (forIn ifs true λc r=>if r=true then do let ok <-isTrue c env (eval c env);pure (ForInStep.yield ok) else pure (ForInStep.yield r)) (λok s₃=>
      if ok=true then wpAny (model prog w) A (eval elt env) (λx s₄=>
       wpAny (model prog w) A (call (.builtin "list.append") [bB,x]) (λ_ s₅=>∃m,m<n/\I m s₅) (λ_ _=>False) s₄) (λ_ _=>False) s₃
      else ∃m,m<n/\I m s₃) (λ_ _=>False) s₂) (λ_ _=>False) s₀) (λ_ _=>False) s₁) (λ_ _=>False) s)
  (n:Nat) (h:I n s) :
  codeAny (model prog w) A (.compLoop (.ListComp elt [⟨target,iter,ifs,0⟩] scope pos) 0 it bB env) R s:=by
 refine codeAny_loop rfl I (λn s hI=>?_) n h
 show wpAny _ A ((compTurn (.ListComp elt [⟨target,iter,ifs,0⟩] scope pos) 0 it bB env).onRaise (λx=>do noteFrame x env;theTreesLotGoes x)) _ _ s
 refine wpAny_noted ?_;rw[compTurn_list];refine aE (wpAny_standAt (aE (wpAny_mono (turn n s hI) (λr s₁ h₁=>?_) λ_ _ h'=>h'.elim)))
 cases r with
 |none=>exact a_ h₁
 |some v=>
  refine aE (wpAny_mono h₁ (λ_ s₀ h₀=>?_) λ_ _ h'=>h'.elim)
  refine aE (wpAny_mono h₀ (λ_ s₂ h₂=>aE (wpAny_mono h₂ (λok s₃ h₃=>?_) λ_ _ h'=>h'.elim)) λ_ _ h'=>h'.elim)
  cases ok with
  |false=>exact a_ ⟨rfl,h₃⟩
  |true=>
   exact aE (aE (wpAny_mono h₃ (λx s₄ h₄=>aE (wpAny_mono h₄ (λ_ s₅ h₅=>a_ (a_ ⟨rfl,h₅⟩)) λ_ _ h'=>h'.elim)) λ_ _ h'=>h'.elim))
variable{H:Hp}{s:au}{fp:List aj}{wi:TI}
def Inv.Bj{X:Cx}{ae:List (aj×Obj)}{Z:St}{a:aj}{o:HO}(I:Inv X ae Z H s)(hn:H a=none)(hy:X.s₀.heap.objs.size<=a)(hL:a≠X.env.locals)(hC:∀x c,X.env.cells.lookup x=some c->c≠a)
  (hP:∀p∈X.pn++ae,p.1≠a) (new:cu X.prog X.w (upd H a o) s.heap a o):Inv X ae Z (upd H a o) s:=by
 refine⟨I.ok,I.os,I.bare,⟨I.base.keep,I.base.slot,λb ob e n hx=>?_,I.base.there,λb xs e=>?_,λb ob u e=>?_,λb ps e=>?_⟩,I.loc,I.cell,?_,λx c e=>?_,λp hp=>?_,λb u e=>?_,I.len⟩
 .rw[dj (iP (eO (cQ e) hy))];exact I.base.free b ob e n hx
 .have z:=I.base.jk b xs e;rw[dj (nM z hn)];exact z
 .have z:=I.base.iA b ob u e;rw[dj (nM z hn)];exact z
 .obtain⟨m,z⟩:=I.base.jj b ps e;exact⟨m,by rw[dj (nM z hn)];exact z⟩
 .rw[dj (Ne.symm hL)];exact I.free
 .rw[dj (hC x c e)];exact I.fK x c e
 .obtain⟨e,n,r⟩:=I.pin p hp;exact⟨e,by rw[dj (hP p hp)];exact n,r⟩
 .by_cases hb:b=a
  .grind [aN]
  .rw[dj hb] at e;exact(I.bL b u e).j8 (λc v _ q=>q) (λc q=>by rw[dj (nM q hn)];exact q) λc xs q=>by rw[dj (nM q hn)];exact q
def lU(J:It)(g:TG)(tt:TT)(te:TE)(τ₀:St)(H1:Hp)(Fin:List V->Hp->Prop):Prop:=
 ∃(n:Nat) (W:Nat->St->List V->Hp->Prop),W 0 τ₀ [] H1/\∀i τ bB H,i<=n->W i τ bB H->
  (J.stop i H/\Fin bB H)\/(i<n/\J.go i H/\∀x H',J.pJ i H x H'->g x τ H' λτ2 H2=>tt τ2 H2 λb H3=>if b=true then te τ2 H3 λv H4=>bB.length<sizeLine/\W (i+1) τ2 (bB++[v]) H4 else W (i+1) τ2 bB H3)
structure du (X:Cx) (scope:Scope) (M:List Str) (k:Nat) (cF:List Nat):Prop where
 kind:scope.kind=.function
 cell:∀y∈scope.names,y.2≠.cell
 free:∀y∈scope.names,y.2=.free->X.env.kindOf y.1=some .cell\/X.env.kindOf y.1=some .free
 names:∀y∈scope.names,y.2=.local -> scope.names.lookup y.1=some .local
 len:M.length=k+cF.length
 Fy:∀(j i:Nat) (x:Str),cF[j]?=some i->M[k+j]?=some x->X.N[i]?=some x/\scope.names.lookup x=some .free
section
variable{X:Cx}{ae:List (aj×Obj)}{Z:St}{tg elt iter:Expr}{ifs:List Expr}{scope:Scope}{pos:Pos}{M:List Str}{k:Nat}{cF:List Nat}{g:TG}{tt:TT}{te:TE}
def Inv.fP(I:Inv X ae Z H s)(ok:du X scope M k cF):∀y∈scope.names,y.2=.free->∃c,X.env.cells.lookup y.1=some c:=λy hy e=>I.ok.has y.1 (ok.free y hy e)
def Inv.block{s4:au}{C D:aj}{oD:Obj}{m:Str->ah ai}(I:Inv X ae Z H s)(ok:du X scope M k cF)(f2:∀b∈fp,gH X ae H b)(Dm:∀b∈fp,∃o,s.heap.get? b=some o/\∀v,o.data≠.cell v)
  (hC:s.heap.objs.size<=C) (z9:D≠C) (hD:s.heap.objs.size<=D) (old:∀b o,s.heap.get? b=some o->s4.heap.get? b=some o) (os:s4.os=s.os) (gens:s4.gens=s.gens)
  (ns:s4.heap.Ns C m) (Y3:s4.heap.get? D=some oD) (YM:∀v,oD.data≠.cell v):Inv (dH X scope M C s H fp) [(D,oD)] (iy k cF Z) H s4:=by
 have hf:=I.fP ok;have fr:∀a,s.heap.objs.size<=a->H a=none:=λa ha=>I.bL.fresh ha
 have Zv:∀b∈i9 X.stack,b<s.heap.objs.size:=λb hb=>by
  rcases y06.mp (I.iM b hb) with e|e
  .rw[e];exact I.lt
  .exact Nat.lt_of_not_le λz=>I.vK z e
 have cl:∀x c,(iz X.env scope.names).lookup x=some c->X.env.cells.lookup x=some c:=λx c e=>EL hf e
 refine⟨⟨I.ok.mod,ok.kind,I.ok.glob,I.ok.blt,hC,λx y c e1 e2=>I.ok.inj x y c (cl x c e1) (cl y c e2),λx hx=>?_,λx c e _=>?_,I.ok.hd,I.ok.frames,.inl rfl,λb hb=>?_,I.bs,iQ I.ok.xN I.sz,λb o e hb=>?_,λb hb z=>?_,I.stack,I.j9⟩,os,by rw[gens];exact I.bare,Un.kept old,⟨m,ns,λi x v h1 h2 h3=>?_⟩,λx c e=>?_,fr C hC,λx c e=>I.fK x c (cl x c e),λp hp=>?_,I.bL.kept old,?_⟩
 .have hx:(relabel scope X.env).names.lookup x=some .cell\/(relabel scope X.env).names.lookup x=some .free:=hx;have hm:(x,NameKind.free)∈scope.names:=by
   rcases hx with h|h
   .exact Ea (env:=X.env) (.inl rfl) ok.cell h
   .exact Ea (env:=X.env) (.inr rfl) ok.cell h
  obtain⟨c,hc⟩:=hf _ hm rfl;exact⟨c,J4 hm hc⟩
 .cases e
 .obtain⟨f0,f1,f2,f3,f4,f5⟩:=f2 b hb;obtain⟨ob,eb,_⟩:=Dm b hb;exact⟨iP (eO (cQ eb) hC),λx c e=>f4 x c (cl x c e)⟩
 .obtain⟨f0,f1,f2,f3,f4,f5⟩:=f2 b hb;rcases f3 with q|q
  .exact I.ok.vI b o e q
  .exact bG (eO (cQ e) (iQ I.ok.xN q)) (jl _)
 .obtain⟨f0,f1,f2,f3,f4,f5⟩:=f2 b hb;rcases y06.mp (I.iM b z) with q|q
  .exact f1 q
  .exact f2 q
 .unfold iy at h2;have hk:¬i<k:=λq=>by
   rw[gj (by simpa using q),Iu] at h2
   split at h2 <;> cases h2
  rw[gE (by simpa using hk),ym,gn] at h2
  cases e:cF[i - k]? with
  |none=>rw[e] at h2;cases h2
  |some j=>
   rw[e] at h2;have xR:(Z[j]?).join=some v:=Option.some.inj h2;have hj:Z[j]?=some (some v):=by
    cases q:Z[j]? with
    |none=>rw[q] at xR;cases xR
    |some z=>rw[q] at xR;simp at xR;rw[xR]
   have qY:k+(i - k)=i:=by lia
   obtain⟨hN,oB⟩:=ok.Fy (i - k) j x e (by rw[qY];exact h1)
   have hm:(x,NameKind.free)∈scope.names:=PySem.mem_of_lookup oB;have YV:=ok.free _ hm rfl;obtain⟨mX,hnX,YY⟩:=I.loc;obtain⟨u,ru,lk⟩:=YY j x v hN hj (by rcases YV with q|q;exact .inr (.inl q);exact .inr (.inr q))
   refine⟨u,ru,.inr ⟨IV (env:=X.env) oB,?_⟩⟩;rcases lk with⟨q,_⟩|⟨_,c,hc,jv⟩
   .lia
   .exact⟨c,J4 hm hc,jv.keeps old⟩
 .obtain⟨v,z⟩:=I.cell x c (cl x c e);exact⟨v,z.keeps old⟩
 .have e:p=(D,oD):=by simpa[dH] using hp
  subst e;exact⟨Y3,fr D hD,z9,λz=>bG (eO (Zv D z) hD) (jl _),YM⟩
 .unfold iy;rw[b_,ym,aW];exact ok.len.symm
def Jz{H2:Hp}{s2:au}{J:It}{it:aj}{tn:Nat->bJ->Prop}{RR:ai->aj->Result->au->Prop}{E:ai->au->Prop}{Fin:List V->Hp->Prop}(I2:Inv X ae Z H2 s2)(hc:X.calm=true)(ok:du X scope M k cF)
  (T:Turn X.prog X.w X.K tg J fp it tn) (nt:tn 0 s2.heap) (f2:∀b∈fp,gH X ae H2 b)
  (hg:∀C s H fp,PG (dH X scope M C s H fp) tg g) (ht:∀C s H fp,m8 (dH X scope M C s H fp) ifs tt) (he:∀C s H fp,PE (dH X scope M C s H fp) elt te)
  (hW:lU J g tt te (iy k cF Z) H2 Fin)
  (YA:∀D C s' H' bB,Inv X ae Z (upd H' D (.lst bB)) s'->gH X ae (upd H' D (.lst bB)) C->(∃m,s'.heap.Ns C m)->H' D=none->Fin bB H'->RR (.ref D) C (.ok .next) s') :
  wpAny (mX X) X.A (newList []) (λbB s₃=>wpAny (mX X) X.A (newFunctionEnv scope X.env.globals (iz X.env scope.names) [] X.env.qual none .none (some X.env)) (λzH s₄=> codeAny (mX X) X.A (.compStart (.ListComp elt [⟨tg,iter,ifs,0⟩] scope pos) 0 (.ref it) bB { zH with scope:=relabel scope X.env}) (RR bB zH.locals) s₄) E s₃) E s2:=by
 refine wpAny_newObj_type (wpAny_newFunctionEnv ok.cell (by intro y hy;simp at hy) (λh₁ hns₁ hsb₁=>?_) ok.kind)
 dsimp only at hns₁ hsb₁ ⊢;generalize Gb:s2.heap.push { cls:=.type "list",dict:=none,data:=.seq ([]:List ai).toArray}=H3 at hns₁ hsb₁ ⊢;have Ga:H3.objs.size=s2.heap.objs.size+1:=by rw[<-Gb,Heap.size_push]
 have z9:s2.heap.objs.size≠H3.objs.size:=by rw[Ga];exact iP (r9 _)
 have below:∀b,b<s2.heap.objs.size->b≠H3.objs.size/\b≠s2.heap.objs.size:=λb hb=>⟨by rw[Ga];exact iP (Bw hb),iP hb⟩
 have old:∀b o,s2.heap.get? b=some o->h₁.get? b=some o:=λb o e=>hsb₁.extBut b o (below b (cQ e)).1 (dU _ (Gb ▸ dU _ e))
 have qX:h₁.get? s2.heap.objs.size=some { cls:=.type "list",data:=.seq ([]:List ai).toArray 0}:=hsb₁.extBut _ _ z9 (dU _ (Gb ▸ jD _ rfl));have Dm:=T.obj 0 _ nt;have qW:s2.heap.objs.size<=H3.objs.size:=by rw[Ga];exact yo _
 obtain⟨N,W,w0,turn⟩:=hW;have N_:tn 0 h₁:=T.keep _ _ _ nt λb _ o e=>old b o e
 have loop:∀s₃:au,s₃={ s2 with heap:=h₁,toks:=s2.toks+([]:List (Str×ai)).length}->
   codeAny (mX X) X.A (.compLoop (.ListComp elt [⟨tg,iter,ifs,0⟩] scope pos) 0 (.ref it) (.ref s2.heap.objs.size) (compEnvC scope (iz X.env scope.names) H3.objs.size X.env))
    (RR (.ref s2.heap.objs.size) H3.objs.size) s₃:=by
  rintro s₃ rfl;have I3:Inv (dH X scope M H3.objs.size s2 H2 fp) [(s2.heap.objs.size,{ cls:=.type "list",data:=.seq ([]:List ai).toArray 0})] (iy k cF Z) H2 { s2 with heap:=h₁,toks:=s2.toks+([]:List (Str×ai)).length}:=
   I2.block ok f2 Dm qW z9 (bC _) old rfl rfl hns₁ qX (λv z=>by cases z)
  have FX:∀b∈fp,b≠H3.objs.size/\b≠s2.heap.objs.size:=λb hb=>let ⟨o,e,_⟩:=Dm b hb;below b (cQ e)
  have lP:∀{H':Hp} {oD:Obj},(∀b∈fp,H' b=none)->∀b∈fp,gH (dH X scope M H3.objs.size s2 H2 fp) [(s2.heap.objs.size,oD)] H' b:=λ{H' oD} hn b hb=>by
   obtain⟨f0,f1,f2,f3,f4,f5⟩:=f2 b hb;refine⟨hn b hb,(FX b hb).1,λz=>?_,.inl hb,λx c e=>f4 x c (EL (I2.fP ok) e),λp hp z=>?_⟩
   .rcases y06.mp (I2.iM b z) with q|q
    .exact f1 q
    .exact f2 q
   .have e:p=(s2.heap.objs.size,oD):=by simpa[dH] using hp
    subst e;exact(FX b hb).2 z.symm
  refine Oq (λn s'=>∃(i:Nat) (τ:St) (bB:List V) (us:List ai) (c:Nat) (H':Hp),Vals bB us/\bB.length<=sizeLine/\ Inv (dH X scope M H3.objs.size s2 H2 fp) [(s2.heap.objs.size,{ cls:=.type "list",data:=.seq us.toArray c})] τ H' s'/\tn i s'.heap/\(∀b∈fp,H' b=none)/\n=N - i/\i<=N/\W i τ bB H') ?_ N
   ⟨0,iy k cF Z,[],[],0,H2,.nil,k7 _,I3,N_,λb hb=>(f2 b hb).1,rfl,k7 _,w0⟩
  rintro n s3 ⟨i,τ,bB,us,c,H',rv,hlen,I,st,fr,rfl,YS,w⟩;have pinD:=(I.pin (s2.heap.objs.size,{ cls:=.type "list",data:=.seq us.toArray c}) (by simp[dH]))
  rcases turn i τ bB H' YS w with⟨stop,qn⟩|⟨x6,go,step⟩
  .refine bz (T.done (dH X scope M H3.objs.size s2 H2 fp) rfl rfl rfl hc i _ s3 τ H' (λ_ _=>False) I (lP fr) st stop) λr s4 ⟨hr,I4⟩=>?_
   subst hr;have o7:=(I4.pin (s2.heap.objs.size,{ cls:=.type "list",data:=.seq us.toArray c}) (by simp[dH]))
   have lD:∀b∈fp,(b∈X.ex\/X.s₀.heap.objs.size<=b)/\b≠X.env.locals/\(∀x c,X.env.cells.lookup x=some c->c≠b)/\∀p∈X.pn++ae,p.1≠b:=λb hb=>by
    obtain⟨f0,f1,f2,f3,f4,f5⟩:=f2 b hb;exact⟨f3,f1,f4,f5⟩
   have J1:Inv X ae Z H' s4:=I2.sT (ch:=fp) I4.os I4.base I4.bL I4.bare lD;have young:X.s₀.heap.objs.size<=s2.heap.objs.size:=I2.sz;have apart:∀a,s2.heap.objs.size<=a->a≠X.env.locals/\(∀x c,X.env.cells.lookup x=some c->c≠a)/\∀p∈X.pn++ae,p.1≠a:=λa ha=>
    ⟨Bu (eO I2.lt ha),λx c e z=>by
     obtain⟨v,q⟩:=I2.cell x c e;exact bG (eO q.lt (by rw[z];exact ha)) (jl _),λp hp z=>bG (eO (cQ (I2.pin p hp).1) (by rw[z];exact ha)) (jl _)⟩
   have aD:=apart _ (bC _);have aC:=apart _ qW;have J2:Inv X ae Z (upd H' s2.heap.objs.size (.lst bB)) s4:=J1.Bj o7.2.1 young aD.1 aD.2.1 aD.2.2 ⟨hlen,us,c,rv,o7.1⟩;obtain⟨m,hn,_⟩:=I4.loc;have Yv:H' H3.objs.size=none:=I4.free;refine YA _ _ s4 H' bB J2 ⟨?_,aC.1,I2.vK qW,.inr (iQ young qW),aC.2.1,aC.2.2⟩ ⟨m,hn⟩ o7.2.1 qn;rw[dj (Ne.symm z9)];exact Yv
  .refine bz (T.item (dH X scope M H3.objs.size s2 H2 fp) rfl rfl rfl hc i _ s3 τ H' (λ_ _=>False) I (lP fr) st go) λr s4 ⟨u,hr,h4⟩=>?_
   subst hr;refine bz h4 λ_ s5 hh=>?_
   obtain⟨x,H5,I5,r5,y5,wk,FZ⟩:=hh;have DV:=I5.pinned (lP FZ) (T.obj _ _ wk);refine bz (hg _ _ _ _ _ s5 τ H5 x u _ DV r5 (step x H5 y5)) λ_ s6 hh=>?_
   obtain⟨τ6,H6,I6,q6⟩:=hh;refine bz (ht _ _ _ _ _ s6 τ6 H6 _ I6 q6) λb s7 hh=>?_
   obtain⟨H7,I7,q7⟩:=hh;have oQ:∀{s':au} {τ':St} {Hn:Hp},Inv (dH X scope M H3.objs.size s2 H2 fp) ([(s2.heap.objs.size,{ cls:=.type "list",data:=.seq us.toArray c})]++zo fp s5.heap) τ' Hn s'->tn (i+1) s'.heap/\∀b∈fp,Hn b=none:=λ{s' τ' Hn} I'=>by
    refine⟨T.keep _ _ _ wk λb hb o e=>(I'.pin (b,o) (m7 _ (m7 _ (BZ hb e)))).1,λb hb=>?_⟩
    obtain⟨o,e,d⟩:=T.obj _ _ wk b hb;exact(I'.pin (b,o) (m7 _ (m7 _ (BZ hb e)))).2.1
   cases b with
   |false=>
    rw[aO qi] at q7;show ∃m,m<N - i/\_;obtain⟨ZQ,Yk⟩:=oQ I7;exact⟨N - (i+1),by lia,i+1,τ6,bB,us,c,H7,rv,hlen,I7.d7,ZQ,Yk,rfl,x6,q7⟩
   |true=>
    rw[aU rfl] at q7;show wpAny _ _ (eval elt _) _ _ s7;refine bz (he _ _ _ _ _ s7 τ6 H7 _ I7 q7) λv s8 hh=>?_
    obtain⟨y,H8,I8,r8,YW,w8⟩:=hh;obtain⟨ZR,Yl⟩:=oQ I8;have mh:=(I8.pin (s2.heap.objs.size,{ cls:=.type "list",data:=.seq us.toArray c}) (by simp[dH]))
    have Zb:=rv.length;refine append_at (hsz:=by show us.toArray.size<=sizeLine;rw[dq,<-Zb];exact hlen) mh.1 λh9 N9 e9=>?_
    have e9':h9.get? s2.heap.objs.size=some { cls:=.type "list",data:=.seq (us++[v]).toArray (c+1)}:=by rw[e9,List.push_toArray]
    have Om:=I8.d7;have Gd:s2.heap.objs.size≠(dH X scope M H3.objs.size s2 H2 fp).env.locals:=mh.2.2.1;have nx:∀(b:aj),H8 b≠none->b≠s2.heap.objs.size:=λb hb z=>hb (by rw[z];exact mh.2.1)
    refine⟨N - (i+1),by lia,i+1,τ6,bB++[y],us++[v],c+1,H8,rv.append (.cons r8 .nil),by rw[b_,iW];exact YW,?_,?_,Yl,rfl,x6,w8⟩
    .have I9:Inv (dH X scope M H3.objs.size s2 H2 fp) [] τ6 H8 s8:=Om.ib (λp hp=>bG hp (by simp))
     have Ol:Inv (dH X scope M H3.objs.size s2 H2 fp) [] τ6 H8 { s8 with heap:=h9}:=I9.turned (t':=s8.toks) (λb o hb e=>(N9.2 b hb).trans e) mh.2.1 Gd (.inr (bC _))
      (λx cc e z=>by
       obtain⟨v',q⟩:=I2.cell x cc (EL (I2.fP ok) e);exact bG (eO q.lt (by rw[z];exact bC _)) (jl _)) (λp hp=>bG hp (by simp[dH]))
     refine Ol.ib λp hp=>?_
     simp_all
    .exact T.keep _ _ _ ZR λb hb o e=>N9.extBut b o (FX b hb).2 e
 exact codeAny_compStart_list (loop _ rfl) (T.self _ 0 _ _ _ N_ (loop _ rfl))
def t8(wi:TI)(g:TG)(tt:TT)(te:TE)(k:Nat)(cF:List Nat):TE:=λZ H Q=>wi Z H λJ H1=>lU J g tt te (iy k cF Z) H1 λbB H'=>∀l,H' l=none->Q (.ref l) (upd H' l (.lst bB))
def Sh(hc:X.calm=true)(ok:du X scope M k cF)(hi:PI X tg iter wi)
  (hg:∀C s H fp,PG (dH X scope M C s H fp) tg g) (ht:∀C s H fp,m8 (dH X scope M C s H fp) ifs tt) (he:∀C s H fp,PE (dH X scope M C s H fp) elt te)
  (hs:∀x,foldedSetIterable iter X.env x=pure x:=by intro _;rfl):PE X (.ListComp elt [⟨tg,iter,ifs,0⟩] scope pos) (t8 wi g tt te k cF):=by
 intro ae s Z H Q I h;rw[eval_ListComp];refine wpAny_comprehension_free (use:=none) rfl hs (IT (I.fP ok)) ok.kind ok.names (bz (hi ae s Z H _ I h) λv s1 h1=>bz h1 λDw s2 h2=>?_)
 refine kY λkz=>?_
 obtain⟨it,fp,tn,J,H2,e,I2,T,nt,f2,hW⟩:=h2;subst e;refine kz ?_;refine Jz (RR:=λbB C=>compPost (mX X) X.A X.xe none (EP X ae Z Q) bB C) I2 hc ok T nt f2 hg ht he hW ?_
 intro D C s' H' bB I' fC ⟨m,hn⟩ hD hq;refine⟨m,hn,λh' sb=>?_⟩
 refine kY λkz=>?_
 obtain⟨f0,f1,f2,f3,f4,f5⟩:=fC;refine kz ?_;exact⟨.ref D,_,I'.turned (t':=s'.toks) (λb o hb e=>(sb.2 b hb).trans e) f0 f1 f3 f4 f5,rfl,hq D hD⟩
def A4(wi:TI)(g:TG)(tt:TT)(te:TE)(k:Nat)(cF:List Nat)(i:Nat):TS:=λD Z H=>t8 wi g tt te k cF Z H λv H'=>D.nx (Z.set i (some v)) H'
def Si{i:Nat}{x:Str}{px jh:Pos}(hc:X.calm=true)(ok:du X scope M k cF)(hN:X.N.Nodup)(qY:X.N[i]?=some x)(hx:Loc X.env.scope x)(hi:PI X tg iter wi)
  (hg:∀C s H fp,PG (dH X scope M C s H fp) tg g) (ht:∀C s H fp,m8 (dH X scope M C s H fp) ifs tt) (he:∀C s H fp,PE (dH X scope M C s H fp) elt te)
  (vt:swapsWith (.ListComp elt [⟨tg,iter,ifs,0⟩] scope pos) (some (.Name x px)) jh.line X.env=pure true)
  (hs:∀x,foldedSetIterable iter X.env x=pure x:=by intro _;rfl) (hf:X.fn x=true\/X.env.scope.names.lookup x=some .local := by first|exact .inl rfl|exact .inr rfl|assumption) :
  PS X (.Assign [.Name x px] (.ListComp elt [⟨tg,iter,ifs,0⟩] scope pos) jh) (A4 wi g tt te k cF i):=by
 intro ae s Z H D I h;rw[exec_Assign_Name_used _ _ _ _ vt];refine aE (wpAny_standAt (aE ?_));show wpAny _ X.A (do let _ <-comprehension (.ListComp elt [⟨tg,iter,ifs,0⟩] scope pos) scope X.env _ (newList []) false (eval iter X.env) (some (assign (.Name x px) X.env))) _ _ s
 refine aE (wpAny_mono (wpAny_comprehension_free (use:=some (assign (.Name x px) X.env)) (Q:=λ_ s'=>SP X ae D .next s') rfl hs (IT (I.fP ok)) ok.kind ok.names (bz (hi ae s Z H _ I h) λv s1 h1=>bz h1 λDw s2 h2=>?_)) (λ_ s' hq=>a_ (a_ hq)) λ_ _ e=>e)
 refine kY λkz=>?_
 obtain⟨it,fp,tn,J,H2,e,I2,T,nt,f2,hW⟩:=h2;subst e;refine kz ?_;refine Jz (RR:=λbB C=>compPost (mX X) X.A X.xe (some (assign (.Name x px) X.env)) (λ_ s'=>SP X ae D .next s') bB C) I2 hc ok T nt f2 hg ht he hW ?_
 intro D' C s' H' bB I' fC ⟨m,hn⟩ hD hq;refine kY λkz=>?_
 obtain⟨f0,f1,f2,f3,f4,f5⟩:=fC;refine kz ?_;show wpAny _ X.A (assign (.Name x px) X.env (.ref D')) _ _ _;refine wpAny_assign_Name (Js I' hN qY hx (v:=.ref D') rfl (λpj Oj hh=>?_) hf)
 obtain⟨a,sb,ha⟩:=hh;have Yu:C≠a:=by
  rcases ha with e|e
  .rw[e];exact f1
  .exact λz=>f4 _ _ e z.symm
 refine⟨m,hn.sameBut sb Yu,λh' ZN=>⟨_,_,Oj.turned (t':=pj.toks) (λb o hb e=>(ZN.2 b hb).trans e) f0 f1 f3 f4 f5,hq D' hD⟩⟩
end
variable{w:bX}{tg:Expr}{X:Cx}
noncomputable def ly(c:Nat):Str:=⟨#[c]⟩
def BH(x:Str):It:=⟨λi _=>i<x.cps.size,λi H v H'=>H'=H/\∃c,x.cps[i]?=some c/\v=.str (ly c),λi _=>x.cps.size<=i⟩
def QB{P:cL}{K:aH}(it:aj)(x:Str)(t:Tok)(ty:String)(oJ:ty="str_ascii_iterator"\/ty="str_iterator"):Turn P w K tg (BH x) [it] it (λi h=>h.IsStrIter it ty x t i) where
 mem:=by simp
 obj:=λi h st b hb=>by
  have e:b=it:=by simpa using hb
  subst e;obtain⟨o,e,c,d⟩:=st
  simp_all
 keep:=λi h h' st k=>by
  obtain⟨o,e,c,d⟩:=st;exact⟨o,k it (by simp) o e,c,d⟩
 item:=by
  intro X hP hw hK hc i ae s Z H E I hf st hg;subst hP hw hK;have hi:i<x.cps.size:=hg;obtain⟨f0,f1,f2,f3,f4,f5⟩:=hf it (by simp)
  have fin:∀h',h'.IsStrIter it ty x t (i+1)->Heap.SameBut it s.heap h'->∃u,some (Value.str ⟨#[x.cps[i]]⟩ s.toks)=some u/\
    wpAny (mX X) X.A (letOwnedTupleGo tg (.ref it) u) (λ_ s2=>∃y H',Inv X ae Z H' s2/\RelV y u/\(BH x).pJ i H y H'/\s2.heap.IsStrIter it ty x t (i+1)/\∀b∈[it],H' b=none) E { s with heap:=h',toks:=s.toks+1}:=λh' kW sb=>by
   have I1:Inv X ae Z H { s with heap:=h',toks:=s.toks+1}:=I.turned (λb o hb e=>(sb.2 b hb).trans e) f0 f1 f3 f4 f5
   obtain⟨o,e,c,d⟩:=id kW;refine⟨_,rfl,xJ (s:={ s with heap:=h',toks:=s.toks+1}) e c d (by rcases oJ with z|z <;> subst z <;> decide) ⟨.str (ly x.cps[i]),H,I1,⟨_,rfl⟩,⟨rfl,_,by simp[hi],rfl⟩,kW,λb hb=>(hf b hb).1⟩⟩
  rcases oJ with z|z
  .subst z;exact wpAny_pyNext_ascii_item st (c:=x.cps[i]) (by simp[hi]) fin
  .subst z;exact wpAny_pyNext_wide_item st (c:=x.cps[i]) (by simp[hi]) fin
 done:=by
  intro X hP hw hK hc i ae s Z H E I hf st hg;subst hP hw hK;have hi:x.cps.size<=i:=hg;obtain⟨f0,f1,f2,f3,f4,f5⟩:=hf it (by simp)
  rcases oJ with z|z
  .subst z;exact wpAny_pyNext_ascii_end (I.ok.hd hc) st (by simp;lia) λh' eb=>⟨rfl,I.turned (t':=s.toks) (λb o hb e=>eb b o hb e) f0 f1 f3 f4 f5⟩
  .subst z;exact wpAny_pyNext_wide_end (I.ok.hd hc) st (by simp;lia) λh' eb=>⟨rfl,I.turned (t':=s.toks) (λb o hb e=>eb b o hb e) f0 f1 f3 f4 f5⟩
 self:=λ_ _ _ _ _ st h=>by
  rcases oJ with z|z
  .subst z;exact wpAny_pyIter_striter_ascii st h
  .subst z;exact wpAny_pyIter_striter_wide st h
def As(tl:TE):TI:=λZ H R=>tl Z H λx H1=>∃z,x=.str z/\R (BH z) H1
def VA{l:Expr}{tl:TE}(hl:PE X l tl):PI X tg l (As tl):=by
 intro ae s Z H R I h;refine bz (hl ae s Z H _ I h) λv s1 hh=>?_
 obtain⟨x,H1,I1,r1,q1⟩:=hh;obtain⟨z,e,q⟩:=q1;subst e;obtain⟨t,rfl⟩:=r1;have key:∀ty:String,ty="str_ascii_iterator"\/ty="str_iterator"->D0 X ae Z tg R (.ref s1.heap.objs.size) { s1 with heap:=s1.heap.push { cls:=.type ty,data:=.fields #[.str z t,.int 0 0]}}:=λty oJ=>by
  refine⟨s1.heap.objs.size,[s1.heap.objs.size],_,_,H1,rfl,I1.kept (t':=s1.toks) λb o e=>dU _ e,QB _ z t ty oJ,⟨_,jD _ (by rcases oJ with e|e <;> subst e <;> rfl),rfl,rfl⟩,λb hb=>?_,q⟩
  have e:b=s1.heap.objs.size:=by simpa using hb
  subst e;exact I1.lB (bC _) (I1.bL.fresh (bC _))
 cases ha:z.cps.all (· < 128)
 .exact wpAny_pyIter_wide ha (key _ (.inr rfl))
 .exact wpAny_pyIter_ascii ha (key _ (.inl rfl))
noncomputable def dP(names outer:List (Str×lR))(N M:List Str)(k:Nat)(cF:List Nat):Bool:=
 names.all (λy=>y.2 != .cell)&&(names.all (λy=>y.2 != .free || (outer.lookup y.1 == some .cell || outer.lookup y.1 == some .free))&&(names.all (λy=>y.2 != .local || names.lookup y.1 == some .local) && (M.length == k+cF.length&&(List.range cF.length).all (λj=>match cF[j]?,M[k+j]? with|some i,some x=>N[i]? == some x&&names.lookup x == some .free|_,_=>true))))
def du.of{scope:Scope}{M:List Str}{k:Nat}{cF:List Nat}(outer:List (Str×lR))(N:List Str)(h:dP scope.names outer N M k cF=true)(ho:X.env.scope.names=outer:=by rfl)(hN:X.N=N:=by rfl)(hk:scope.kind=.function:=by rfl):du X scope M k cF:=by
 unfold dP at h;simp only[m6,gF,Bool.or_eq_true,bne_iff_ne,ne_eq,beq_iff_eq] at h;obtain⟨h1,h2,h3,h4,h5⟩:=h;refine⟨hk,h1,λy hy e=>?_,λy hy e=>?_,h4,λj i x e1 e2=>?_⟩
 .rcases h2 y hy with z|z
  .exact bG e z
  .show X.env.scope.names.lookup y.1=_\/X.env.scope.names.lookup y.1=_;rw[ho];exact z
 .rcases h3 y hy with z|z
  .exact bG e z
  .exact z
 .have hj:j<cF.length:=(cK.mp e1).1;have:=h5 j (k6.mpr hj);rw[e1,e2] at this;simp only[m6,beq_iff_eq] at this;rw[hN];exact this
section
variable{X:Cx}
def VB:dh X (compareOp .Is) (λx y H Q=>∃a b,x=.bl a/\y=.bl b/\Q (.bl (a == b)) H):=by
 intro ae s Z H x y v u Q I rx ry h;obtain⟨a,b,rfl,rfl,q⟩:=h;cases rx;cases ry;exact is_bool (qE I q rfl)
def Sj:dh X (compareOp .IsNot) (λx y H Q=>∃a b,x=.bl a/\y=.bl b/\Q (.bl (a != b)) H):=by
 intro ae s Z H x y v u Q I rx ry h;obtain⟨a,b,rfl,rfl,q⟩:=h;cases rx;cases ry;exact isnot_bool (qE I q rfl)
def zq(K:aH)(H:Hp):V->String->Prop
 |.aR,n=>n="NoneType"
 |.bl _,n=>n="bool"
 |.int _,n=>n="int"
 |.str _,n=>n="str"
 |.ref a,n=>(n="list"/\∃xs,cI K H a xs)\/(n="tuple"/\∃xs,fy K H a xs)
 |_,_=>False
noncomputable def mT(k T:String):Bool:=k == T || (k == "bool" && T == "int")
def QC:bD X (.builtin "isinstance") (λxs H Q=>∃x k T,xs=[x,.ty T]/\zq X.K H x k/\(T="int"\/T="str"\/T="bool"\/T="list"\/T="tuple")/\Q (.bl (mT k T)) H):=by
 intro ae s Z H xs us Q I r h;obtain⟨x,k,T,rfl,hk,hT,q⟩:=h;obtain⟨u,w',rfl,rx,ry⟩:=vals2 r;cases ry;have fin:∀b,b=mT k T->EP X ae Z Q (.bool b) s:=λb e=>qE I q e.symm
 have cP:∀b,b=mT k T->EP X ae Z Q (.bool b) { s with toks:=s.toks+1}:=λb e=>qE (I.tok _) q e.symm
 cases x with
 |aR=>
  cases rx;have hk:k="NoneType":=hk;subst hk;rcases hT with rfl|rfl|rfl|rfl|rfl
  .exact IsiPair.NoneType_int (cP _ (by decide))
  .exact IsiPair.NoneType_str (cP _ (by decide))
  .exact IsiPair.NoneType_bool (cP _ (by decide))
  .exact IsiPair.NoneType_list (cP _ (by decide))
  .exact IsiPair.NoneType_tuple (cP _ (by decide))
 |bl b=>
  cases rx;have hk:k="bool":=hk;subst hk;rcases hT with rfl|rfl|rfl|rfl|rfl
  .exact IsiPair.bool_int (fin _ (by decide))
  .exact IsiPair.bool_str (cP _ (by decide))
  .exact IsiPair.bool_bool (fin _ (by decide))
  .exact IsiPair.bool_list (cP _ (by decide))
  .exact IsiPair.bool_tuple (cP _ (by decide))
 |int i=>
  obtain⟨t,rfl⟩:=rx;have hk:k="int":=hk;subst hk;rcases hT with rfl|rfl|rfl|rfl|rfl
  .exact IsiPair.int_int (fin _ (by decide))
  .exact IsiPair.int_str (cP _ (by decide))
  .exact IsiPair.int_bool (cP _ (by decide))
  .exact IsiPair.int_list (cP _ (by decide))
  .exact IsiPair.int_tuple (cP _ (by decide))
 |str z=>
  obtain⟨t,rfl⟩:=rx;have hk:k="str":=hk;subst hk;rcases hT with rfl|rfl|rfl|rfl|rfl
  .exact IsiPair.str_int (cP _ (by decide))
  .exact IsiPair.str_str (fin _ (by decide))
  .exact IsiPair.str_bool (cP _ (by decide))
  .exact IsiPair.str_list (cP _ (by decide))
  .exact IsiPair.str_tuple (cP _ (by decide))
 |ref a=>
  cases rx;rcases hk with⟨hk,ys,hs⟩|⟨hk,ys,hs⟩
  .subst hk;obtain⟨aA,_,⟨o,n,e,hc,_⟩,_⟩:=I.list hs;rcases hT with rfl|rfl|rfl|rfl|rfl
   .exact IsiPair.list_int e hc (cP _ (by decide))
   .exact IsiPair.list_str e hc (cP _ (by decide))
   .exact IsiPair.list_bool e hc (cP _ (by decide))
   .exact IsiPair.list_list e hc (fin _ (by decide))
   .exact IsiPair.list_tuple e hc (cP _ (by decide))
  .subst hk;obtain⟨aA,_,⟨o,e,hc,_⟩,_⟩:=I.tuple hs;rcases hT with rfl|rfl|rfl|rfl|rfl
   .exact IsiPair.tuple_int e hc (cP _ (by decide))
   .exact IsiPair.tuple_str e hc (cP _ (by decide))
   .exact IsiPair.tuple_bool e hc (cP _ (by decide))
   .exact IsiPair.tuple_list e hc (cP _ (by decide))
   .exact IsiPair.tuple_tuple e hc (fin _ (by decide))
 |uR _=>exact False.elim hk
 |zX _=>exact False.elim hk
 |ty _=>exact False.elim hk
def Xx{x:Str}{n:String}{pos:Pos}(hg:Gl X x)(hm:X.mg x=none)(hv:bootBuiltins x=some (.type n))(hn:x≠"__name__":=by decide)(hd:(x == ("__debug__":Str))=false:=by decide):PE X (.Name x pos) (tC (.ty n)):=
 RV hg hm hv rfl hn hd
def I0{prog:cL}{A:cy}(aA:List ai)(bs:List Bool)(hv:Vals (bs.map V.bl) aA):TruthOf prog w A (λi v=>aA.toArray[i]?=some v) (λi=>bs.getD i false):=by
 intro i v s Q E hP hQ;have Nx:aA[i]?=some v:=by simpa using hP
 have hl:=hv.length;rw[aW] at hl;have hi:i<aA.length:=(cK.mp Nx).1;have hb:(bs.map V.bl)[i]?=some (.bl bs[i]):=by simp[show i<bs.length by lia]
 obtain⟨u,hu,ru⟩:=hv.get hb;rw[Nx] at hu;cases hu;cases ru;have e:bs.getD i false=bs[i]:=by simp[show i<bs.length by lia]
 have Ny:Q (bs.getD i false) s:=hQ;rw[e] at Ny;exact wpAny_truthy_bool Ny
def Pk(bs:List Bool):(List.range bs.length).all (λi=>bs.getD i false)=bs.all id:=by
 rw[qj,gF,gF];constructor
 .intro h b hb;obtain⟨i,hi,e⟩:=DR.mp hb
  simp_all
 .intro h i hi;have hi:=k6.mp hi;have:=h bs[i] (ua hi);simp[hi];exact this
def Pm(bs:List Bool):(List.range bs.length).any (λi=>bs.getD i false)=bs.any id:=by
 rw[qj,yp,yp];constructor
 .rintro⟨i,hi,h⟩;have hi:=k6.mp hi;simp[hi] at h;exact⟨bs[i],ua hi,h⟩
 .rintro⟨b,hb,h⟩;obtain⟨i,hi,e⟩:=DR.mp hb;refine⟨i,k6.mpr hi,?_⟩
  simp_all
def Pn(hc:X.calm=true):bD X (.builtin "all") (λxs H Q=>∃(a:aj) (bs:List Bool),xs=[.ref a]/\cI X.K H a (bs.map V.bl)/\Q (.bl (bs.all id)) H):=by
 intro ae s Z H xs us Q I r h;obtain⟨a,bs,rfl,hs,q⟩:=h;obtain⟨u,rfl,ru⟩:=vals1 r;cases ru;obtain⟨aA,rv,p,hz⟩:=I.list hs;have hl:=rv.length;rw[aW] at hl;refine call_all_walk (wpAny_pyIter_list p.isList ?_);have gw:a≠s.heap.objs.size:=by obtain⟨o,n,e,_⟩:=p;exact iP (cQ e)
 refine⟨s.heap.objs.size,_,_,aA.toArray.size,_,_,λi=>bs.getD i false,rfl,Walks.list (A:=X.A.in1) (show X.A.in1.handled=none from I.ok.hd hc) _ a gw aA.toArray,⟨⟨_,jD _ rfl,rfl,rfl⟩,?_⟩,I0 aA bs rv,λh' tk hk=>?_⟩
 .exact p.isList.at λo e=>dU _ e
 .have e1:aA.toArray.size=bs.length:=by rw[dq,<-hl]
  refine⟨.bl (bs.all id),H,I.kept (h':=h') (t':=tk) (λb o e=>hk b o (λz=>bG (eO (cQ e) (DQ (dW.mp z).symm)) (jl _)) (dU _ e)),?_,q⟩
  show Value.bool _=Value.bool _;rw[e1,Pk]
def Po(hc:X.calm=true):bD X (.builtin "any") (λxs H Q=>∃(a:aj) (bs:List Bool),xs=[.ref a]/\cI X.K H a (bs.map V.bl)/\Q (.bl (bs.any id)) H):=by
 intro ae s Z H xs us Q I r h;obtain⟨a,bs,rfl,hs,q⟩:=h;obtain⟨u,rfl,ru⟩:=vals1 r;cases ru;obtain⟨aA,rv,p,hz⟩:=I.list hs;have hl:=rv.length;rw[aW] at hl;refine call_any_walk (wpAny_pyIter_list p.isList ?_);have gw:a≠s.heap.objs.size:=by obtain⟨o,n,e,_⟩:=p;exact iP (cQ e)
 refine⟨s.heap.objs.size,_,_,aA.toArray.size,_,_,λi=>bs.getD i false,rfl,Walks.list (A:=X.A.in1) (show X.A.in1.handled=none from I.ok.hd hc) _ a gw aA.toArray,⟨⟨_,jD _ rfl,rfl,rfl⟩,?_⟩,I0 aA bs rv,λh' tk hk=>?_⟩
 .exact p.isList.at λo e=>dU _ e
 .have e1:aA.toArray.size=bs.length:=by rw[dq,<-hl]
  refine⟨.bl (bs.any id),H,I.kept (h':=h') (t':=tk) (λb o e=>hk b o (λz=>bG (eO (cQ e) (DQ (dW.mp z).symm)) (jl _)) (dU _ e)),?_,q⟩
  show Value.bool _=Value.bool _;rw[e1,Pm]
end
variable{H:Hp}{a:aj}{o:HO}
structure se (K:aH) (mg:Str->ah ai) (x:Str) (st:Stmt) (f:aj) (fd:jF) (ps:List Str):Prop where
 fn:sg K x x st f fd
 mg:mg x=some (.ref f)
 bd:Binds K fd ps []
def ay.put{H':Hp}(s:ay H H')(h:H' a=none):ay H (upd H' a o):=λb u e=>by
 have z:=s b u e;rw[dj (nM z h)];exact z
def pQ(h:H a=none):ay H (upd H a o):=(ay.refl H).put h
def QD{α:Type}{xs:List α}{k:Int}(d:α)(h0:0<=k)(hk:k<xs.length):cB xs k=some (xs.getD k.toNat d):=by
 have Gw:k.toNat<xs.length:=by lia
 have e:xs[k.toNat]?=some (xs.getD k.toNat d):=by simp[Gw]
 have z:=kO e
 rwa[show((k.toNat:Nat):Int)=k by lia] at z
def nZ:bootBuiltins "len"=some (.builtin "len"):=by decide +kernel
section
variable{X:Cx}
noncomputable def mR(xs:List V)(k:Nat)(y:V):List V:=xs.take k++y::xs.drop k
def OO(xs:List V)(k:Nat)(y:V):(mR xs k y).length=xs.length+1:=by
 grind [mR]
def KH:V->List V->Hp->VK->Prop:=λx vs H Q=>∃l xs i y,x=.ref l/\vs=[.int i,y]/\H l=some (.lst xs)/\0<=i/\i<2^62/\xs.length<sizeLine/\Q .aR (upd H l (.lst (mR xs i.toNat y)))
theorem Pp:BI X "list.insert" KH:=by
 intro ae s Z H x vs v us Q I rx rv h;refine kY λkz=>?_
 obtain⟨l,xs,i,y,rfl,rfl,hH,h0,hi,hz,q⟩:=h;cases rx;obtain⟨u,u',rfl,⟨t,rfl⟩,ru⟩:=rv.two;obtain⟨z,aA,n,r,hl,e⟩:=I.vF hH;have Gn:¬(!Builtin.List.listFitsIndex i)=true:=by
  grind [PySem.Builtin.List.listFitsIndex]
 refine kz ?_;refine call_meets F.slot_list_insert ⟨_,e,rfl⟩ F.entry_list_insert (F.args_list_insert_3 _ _ _) (PySem.AutoSeq1.list_insert_list_int_val_1 l aA.toArray n i t u' Gn (by rw[dq];lia)) ⟨e,?_⟩
 refine⟨.aR,_,I.vE (its':=aA.take i.toNat++u'::aA.drop i.toNat) hH e ?_ ((r.take i.toNat).append (.cons ru (r.drop i.toNat))) ?_,rfl,q⟩
 .have h1:¬i<0:=by lia
  simp only[h1,iY];apply Array.ext';simp only[Array.toList_append,Array.toList_push,Array.toList_extract,dq];rw[List.extract_eq_drop_take,List.extract_eq_drop_take];have e1:min i.toNat aA.length - 0=min i.toNat aA.length:=by lia
  rw[e1];simp only[List.drop_zero];have e2:aA.take (min i.toNat aA.length)=aA.take i.toNat:=by rw[List.take_eq_take_iff];lia
  rw[e2];by_cases hc:i.toNat<=aA.length
  .rw[Nat.min_eq_left hc,yq (l:=List.drop i.toNat aA) (by rw[wD];lia)]
   simp
  .have hc:aA.length<=i.toNat:=by lia
   rw[Nat.min_eq_right hc,DS (bC _),DS hc];simp
 .show(mR xs i.toNat y).length<=sizeLine;rw[OO];lia
def A3:V->ah Int->ah Int->Hp->VK->Prop:=λx lo hi H Q=>∃z,x=.str z/\z.length<=sizeLine/\Q (.str (Txt.slice z lo hi)) H
theorem wg:nI X A3:=by
 intro ae s Z H x v vl vu lo hi sl Q I rx hs pl pu h;obtain⟨z,rfl,hz,q⟩:=h;obtain⟨t,rfl⟩:=rx;refine⟨"str",_,F.slot_str_getitem.lookup,typeIs_str _ _ _,?_⟩;have fin:∀t' k,EP X ae Z Q (.str (Txt.slice z lo hi) t') { s with toks:=k}:=λt' k=>⟨.str _,H,I.tok _,⟨_,rfl⟩,q⟩
 cases pl with
 |none=>
  cases pu with
  |none=>exact wpAny_getItem_str_slice (l:=none) (u:=none) (st:=none) hs rfl (post_val_or_str ⟨iQ (Txt.slice_le z _ _) hz,fin⟩)
  |int j tj=>exact wpAny_getItem_str_slice (l:=none) (u:=some (j,tj)) (st:=none) hs rfl (post_val_or_str ⟨iQ (Txt.slice_le z _ _) hz,fin⟩)
 |int i ti=>
  cases pu with
  |none=>exact wpAny_getItem_str_slice (l:=some (i,ti)) (u:=none) (st:=none) hs rfl (post_val_or_str ⟨iQ (Txt.slice_le z _ _) hz,fin⟩)
  |int j tj=>exact wpAny_getItem_str_slice (l:=some (i,ti)) (u:=some (j,tj)) (st:=none) hs rfl (post_val_or_str ⟨iQ (Txt.slice_le z _ _) hz,fin⟩)
def OX:dh X (binaryOp .Mult) (λx y H Q=>∃z n,x=.str z/\y=.int n/\MulOk z n/\Q (.str (Txt.mul z n)) H):=by
 intro ae s Z H x y v u Q I rx ry h;obtain⟨z,n,rfl,rfl,hm,q⟩:=h;obtain⟨t,rfl⟩:=rx;obtain⟨t',rfl⟩:=ry;exact SB.mul hm λt' k=>⟨.str _,H,I.tok _,⟨_,rfl⟩,q⟩
end
section
variable{X:Cx}{ae:List (aj×Obj)}{Z:St}{H:Hp}{s:au}
def Vals.at{xs:List V}{us:List ai}(r:Vals xs us){j:Nat}(h:j<us.toArray.size):∃x,xs[j]?=some x/\RelV x us.toArray[j]:=by
 have hl:=r.length;have h':j<us.length:=by simpa using h
 have hx:xs[j]?=some xs[j]:=by simp[show j<xs.length by lia]
 obtain⟨u,hu,ru⟩:=r.get hx
 simp_all
end
section
variable{X:Cx}
def QE(K:aH)(hK:X.K=K:=by rfl):mG X (v9 K):=hK ▸ Sa
def Sk(K:aH)(hK:X.K=K:=by rfl):mG X (v_ K):=hK ▸ Vy
def Ox(K:aH)(hK:X.K=K:=by rfl):bD X (.builtin "len") (λxs H Q=>∃p ys,xs=[.ref p]/\(cI K H p ys\/fy K H p ys)/\Q (.int ys.length) H):=hK ▸ OK
def QF(K:aH)(hK:X.K=K:=by rfl):nI X (wa K):=hK ▸ Sb
def Sl(K:aH)(hK:X.K=K:=by rfl):nI X (wb K):=hK ▸ Vx
def Pu(K:aH)(hK:X.K=K:=by rfl):bD X (.builtin "isinstance") (λxs H Q=>∃x k T,xs=[x,.ty T]/\zq K H x k/\(T="int"\/T="str"\/T="bool"\/T="list"\/T="tuple")/\Q (.bl (mT k T)) H):=hK ▸ QC
def Oy(K:aH)(hK:X.K=K:=by rfl):bD X (.type "list") (λxs H Q=>∃p ys,xs=[.ref p]/\(cI K H p ys\/fy K H p ys)/\∀l,H l=none->Q (.ref l) (upd H l (.lst ys))):=hK ▸ OL
end
end L2
set_option autoImplicit false
namespace L2
open PySem PySem.Spec PyProof.Rows
theorem B5{α β:Type}{R:α->β->Prop}:∀{l:List α} {m:List β} (i:Nat) {b:β},Paired R l m->m[i]?=some b->∃a,l[i]?=some a/\R a b
 |_,_,_,_,.nil,e=>by simp at e
 |_,_,0,_,.cons r _,e=>by simp at e;subst e;exact⟨_,rfl,r⟩
 |_,_,i+1,_,.cons _ t,e=>by
  obtain⟨a,h1,h2⟩:=B5 i t (by simpa using e)
  simp_all
def Paired.wA{α β:Type}{R:α->β->Prop}{l:List α}{b:β}{m:List β}(h:Paired R l (b::m)):∃a l',l=a::l'/\R a b/\Paired R l' m:=by
 cases h with
 |cons r t=>exact⟨_,_,rfl,r,t⟩
def yZ{α β:Type}{R:α->β->Prop}:∀{l:List α} {m:List β} (i:Nat) {a:α},Paired R l m->l[i]?=some a->∃b,m[i]?=some b/\R a b:=by
 intro l m i a h e
 induction h generalizing i with
 |nil=>simp at e
 |cons r _ ih=>cases i with
  |zero=>simp at e;subst e;exact⟨_,rfl,r⟩
  |succ i=>exact ih i (by simpa using e)
inductive D where
 |aR|bl (b:Bool)|int (i:Int)|str (x:Str)|ty (n:String)|ref (n:Nat)
 |lst (xs:List D)|tup (xs:List D)|aP (kvs:List (TK×D))
mutual
def TK.d:TK->D
 |.inl i=>.int i
 |.inr x=>.str x
 |.tp l=>.tup (TK.dl l)
 |.aR=>.aR
def TK.dl:List TK->List D
 |[]=>[]
 |k::l=>TK.d k::TK.dl l
end
noncomputable def qF:D->ah V
 |.aR=>some .aR
 |.bl b=>some (.bl b)
 |.int i=>some (.int i)
 |.str x=>some (.str x)
 |.ty n=>some (.ty n)
 |_=>none
structure Kn where
 F:Hp
 A:List aj
 T:List aj
inductive af (K:aH) (k:Kn):List V->List D->Prop
 |nil:af K k [] []
 |flat {v:V} {d:D} {vs:List V} {ds:List D}:qF d=some v->af K k vs ds->af K k (v::vs) (d::ds)
 |ref {n:Nat} {a:aj} {vs:List V} {ds:List D}:k.A[n]?=some a->af K k vs ds->af K k (.ref a::vs) (.ref n::ds)
 |lst {a:aj} {ws vs:List V} {es ds:List D}:cI K k.F a ws->af K k ws es->af K k vs ds->af K k (.ref a::vs) (.lst es::ds)
 |tup {a:aj} {ws vs:List V} {es ds:List D}:fy K k.F a ws->af K k ws es->af K k vs ds->af K k (.ref a::vs) (.tup es::ds)
 |aP {a:aj} {kvs:List (TK×V×V)} {es:List (TK×D)} {ep:Nat} {vs:List V} {ds:List D}:k.F a=some (.dG kvs ep)->kvs.map (·.1)=es.map (·.1)->af K k (kvs.map (·.2.1)) (es.map (·.1.d))->af K k (kvs.map (·.2.2)) (es.map (·.2))->af K k vs ds->af K k (.ref a::vs) (.aP es::ds)
def ay.rd{H H':Hp}{a:aj}{u:HO}(e:ay H H')(h:Rd H a u):Rd H' a u:=by
 rcases h with h|⟨o,h⟩
 .exact .inl (e _ _ h)
 .exact .inr ⟨o,e _ _ h⟩
def ay.A8{K:aH}{H H':Hp}{a:aj}{xs:List V}(e:ay H H')(h:fy K H a xs):fy K H' a xs:=h.imp e.rd id
def ay.HK{K:aH}{H H':Hp}{a:aj}{xs:List V}(e:ay H H')(h:cI K H a xs):cI K H' a xs:=h.imp e.rd id
structure Kn.le (k k':Kn):Prop where
 f:ay k.F k'.F
 a:k.A <+: k'.A
def CK{α:Type}{l l':List α}{n:Nat}{x:α}(h:l <+: l')(e:l[n]?=some x):l'[n]?=some x:=by
 obtain⟨t,rfl⟩:=h;rw[gj (cK.mp e).1];exact e
section
variable{K:aH}{k k':Kn}{v:V}{vs ws:List V}{d:D}{ds es:List D}
def af.mono(s:k.le k')(h:af K k vs ds):af K k' vs ds:=by
 induction h with
 |nil=>exact .nil
 |flat e _ ih=>exact .flat e ih
 |ref e _ ih=>exact .ref (CK s.a e) ih
 |lst e _ _ i1 i2=>exact .lst (s.f.HK e) i1 i2
 |tup e _ _ i1 i2=>exact .tup (s.f.A8 e) i1 i2
 |aP e q _ _ _ i0 i1 i2=>exact .aP (s.f _ _ e) q i0 i1 i2
def af.length(h:af K k vs ds):vs.length=ds.length:=by
 induction h with
 |nil=>rfl
 |flat _ _ ih=>exact congrArg _ ih
 |ref _ _ ih=>exact congrArg _ ih
 |lst _ _ _ _ ih=>exact congrArg _ ih
 |tup _ _ _ _ ih=>exact congrArg _ ih
 |aP _ _ _ _ _ _ _ ih=>exact congrArg _ ih
def af.inv(h:af K k (v::vs) (d::ds)):af K k [v] [d]/\af K k vs ds:=by
 cases h with
 |flat e t=>exact⟨.flat e .nil,t⟩
 |ref e t=>exact⟨.ref e .nil,t⟩
 |lst e i t=>exact⟨.lst e i .nil,t⟩
 |tup e i t=>exact⟨.tup e i .nil,t⟩
 |aP e q j i t=>exact⟨.aP e q j i .nil,t⟩
def af.cons(h:af K k [v] [d])(t:af K k vs ds):af K k (v::vs) (d::ds):=by
 cases h with
 |flat e _=>exact .flat e t
 |ref e _=>exact .ref e t
 |lst e i _=>exact .lst e i t
 |tup e i _=>exact .tup e i t
 |aP e q j i _=>exact .aP e q j i t
def af.cx(h:af K k vs (d::ds)):∃w us,vs=w::us/\af K k [w] [d]/\af K k us ds:=by
 cases vs with
 |nil=>have:=h.length;cases this
 |cons w us=>exact⟨w,us,rfl,h.inv⟩
def af.eS(h:af K k vs []):vs=[]:=List.eq_nil_of_length_eq_zero h.length
def af.get{i:Nat}(h:af K k vs ds)(e:ds[i]?=some d):∃v,vs[i]?=some v/\af K k [v] [d]:=by
 induction ds generalizing vs i with
 |nil=>cases e
 |cons x ds ih=>
  obtain⟨w,us,rfl,h1,h2⟩:=h.cx;cases i with
  |zero=>cases e;exact⟨w,rfl,h1⟩
  |succ i=>exact ih (vs:=us) (i:=i) h2 e
def af.append(h:af K k vs ds)(t:af K k ws es):af K k (vs++ws) (ds++es):=by
 induction ds generalizing vs with
 |nil=>rw[h.eS];exact t
 |cons x ds ih=>
  obtain⟨w,us,rfl,h1,h2⟩:=h.cx;exact .cons h1 (ih h2)
def af.take(n:Nat)(h:af K k vs ds):af K k (vs.take n) (ds.take n):=by
 induction n generalizing vs ds with
 |zero=>exact .nil
 |succ n ih=>
  cases ds with
  |nil=>rw[h.eS];exact .nil
  |cons x ds=>
   obtain⟨w,us,rfl,h1,h2⟩:=h.cx;exact .cons h1 (ih h2)
def af.drop(n:Nat)(h:af K k vs ds):af K k (vs.drop n) (ds.drop n):=by
 induction n generalizing vs ds with
 |zero=>exact h
 |succ n ih=>
  cases ds with
  |nil=>rw[h.eS];exact .nil
  |cons x ds=>
   obtain⟨w,us,rfl,h1,h2⟩:=h.cx;exact ih h2
def QG(ns:List Int):af K k (ns.map V.int) (ns.map D.int):=by
 induction ns with
 |nil=>exact .nil
 |cons n ns ih=>exact .flat rfl ih
inductive R1 (K:aH) (k:Kn):V->D->Prop
 |flat {v:V} {d:D}:qF d=some v->R1 K k v d
 |ref {n:Nat} {a:aj}:k.A[n]?=some a->R1 K k (.ref a) (.ref n)
 |lst {a:aj} {ws:List V} {es:List D}:cI K k.F a ws->af K k ws es->R1 K k (.ref a) (.lst es)
 |tup {a:aj} {ws:List V} {es:List D}:fy K k.F a ws->af K k ws es->R1 K k (.ref a) (.tup es)
 |aP {a:aj} {es:List (TK×V×V)} {kvs:List (TK×D)} {ep:Nat}:k.F a=some (.dG es ep)->es.map (·.1)=kvs.map (·.1)->af K k (es.map (·.2.1)) (kvs.map (·.1.d))->af K k (es.map (·.2.2)) (kvs.map (·.2))->R1 K k (.ref a) (.aP kvs)
def af.one(h:af K k [v] [d]):R1 K k v d:=by
 cases h with
 |flat q _=>exact .flat q
 |ref q _=>exact .ref q
 |lst q i _=>exact .lst q i
 |tup q i _=>exact .tup q i
 |aP q e i j _=>exact .aP q e i j
def af.aL{u:V}(h:af K k [v] [d])(e:qF d=some u):v=u:=by
 cases h.one with
 |flat q=>rw[e] at q;exact(Option.some.inj q).symm
 |_=>cases e
def af.isRef{n:Nat}(h:af K k [v] [.ref n]):∃a,v=.ref a/\k.A[n]?=some a:=by
 cases h.one with
 |flat q=>cases q
 |ref e=>exact⟨_,rfl,e⟩
def af.tK(h:af K k [v] [.lst es]):∃a ws,v=.ref a/\cI K k.F a ws/\af K k ws es:=by
 cases h.one with
 |flat q=>cases q
 |lst e i=>exact⟨_,_,rfl,e,i⟩
def af.isTup(h:af K k [v] [.tup es]):∃a ws,v=.ref a/\fy K k.F a ws/\af K k ws es:=by
 cases h.one with
 |flat q=>cases q
 |tup e i=>exact⟨_,_,rfl,e,i⟩
def af.tJ{kvs:List (TK×D)}(h:af K k [v] [.aP kvs]):∃a es ep,v=.ref a/\k.F a=some (.dG es ep)/\es.map (·.1)=kvs.map (·.1)/\af K k (es.map (·.2.1)) (kvs.map (·.1.d))/\af K k (es.map (·.2.2)) (kvs.map (·.2)):=by
 cases h.one with
 |flat q=>cases q
 |aP e q j i=>exact⟨_,_,_,rfl,e,q,j,i⟩
end
end L2
set_option autoImplicit false
namespace L2
open PySem PySem.Spec PyProof.Rows
variable{o:HO}
inductive Bx where
 |lst (xs:List D)|aP (kvs:List (TK×D))
noncomputable def Bx.d:Bx->D
 |.lst xs=>.lst xs
 |.aP kvs=>.aP kvs
inductive Cell where
 |o (c:Bx)|z (c:Bx)|ins (C:aj) (fs:List (Str×D))
structure ba where
 s:List Cell
 r:List Cell
inductive Val where
 |d (x:D)|c (n:Nat)
abbrev Gm:=List (ah Val)
inductive Rv where
 |v (x:Val)|o (c:Bx)
inductive Rs (α:Type) where
 |ok (a:α) (S:ba)|ex (C:aj) (l:ah Int) (S:ba)
abbrev Gx(α:Type):=Gm->ba->ah (Rs α)
noncomputable def bd{α β:Type}(x:ah (Rs α))(f:α->ba->ah (Rs β)):ah (Rs β):=match x with
 |none=>none
 |some (.ok a S)=>f a S
 |some (.ex C l S)=>some (.ex C l S)
noncomputable def lH(A:List aj)(a:aj)(o:HO):Nat->Prop
 |0=>False
 |1=>∃es ep,o=.dG es ep
 |2=>True
 |n+3=>A[n]?=some a
theorem L_{A B:List aj}(p:A <+: B){a:aj}:∀{q:Nat},lH A a o q->lH B a o q
 |0,h=>h
 |1,h=>h
 |2,h=>h
 |n+3,h=>by
  obtain⟨l,rfl⟩:=p;have h:A[n]?=some a:=h;show(A++l)[n]?=some a;rw[gj (cK.mp h).1];exact h
def cM(K:aH)(k:Kn)(H:Hp)(a:aj):Bx->Prop
 |.lst xs=>∃ws,H a=some (.lst ws)/\af K k ws xs
 |.aP kvs=>∃es ep,H a=some (.dG es ep)/\es.map (·.1)=kvs.map (·.1)/\af K k (es.map (·.2.1)) (kvs.map (·.1.d))/\af K k (es.map (·.2.2)) (kvs.map (·.2))
def bc(K:aH)(k:Kn)(H:Hp)(a:aj):Cell->Prop
 |.o c=>k.F a=none/\cM K k H a c
 |.z c=>k.F a≠none/\af K k [.ref a] [c.d]
 |.ins C fs=>k.F a=none/\∃dx gs,H a=some (.ins C dx gs)/\gs.map (·.1)=fs.map (·.1)/\af K k (gs.map (·.2)) (fs.map (·.2))
structure Lay (K:aH) (k:Kn) (H:Hp) (as:List aj) (cs:List Cell):Prop where
 ln:as.length=cs.length
 at':∀(n:Nat) (a:aj) (c:Cell),as[n]?=some a->cs[n]?=some c->bc K k H a c
structure bO (K:aH) (k:Kn) (H:Hp) (S:ba):Prop where
 le:ay k.F H
 nd:(k.A++k.T).Nodup
 r:Lay K k H k.A S.r
 s:Lay K k H k.T S.s
structure Up (q:Nat) (k:Kn) (H:Hp) (k':Kn) (H':Hp):Prop where
 f:ay k.F k'.F
 a:k.A <+: k'.A
 t:k.T <+: k'.T
 h:∀a o,lH k.A a o q->H a=some o->H' a=some o
def de(K:aH)(k:Kn)(x:V):Val->Prop
 |.d y=>af K k [x] [y]
 |.c n=>∃a,x=.ref a/\k.T[n]?=some a
structure fw (K:aH) (k:Kn) (Z:St) (U:Gm):Prop where
 ln:Z.length=U.length
 at':∀(i:Nat) (v:Val),U[i]?=some (some v)->∃x,Z[i]?=some (some x)/\de K k x v
def lr(K:aH)(k:Kn)(H:Hp)(x:V):Rv->Prop
 |.v y=>de K k x y
 |.o c=>∃a,x=.ref a/\k.F a=none/\a∉k.A++k.T/\cM K k H a c
section
variable{q:Nat}{K:aH}{k k' NN:Kn}{F' H H' yz:Hp}{S S':ba}{Z:St}{U:Gm}{n:Nat}{a:aj}{as:List aj}{cs:List Cell}{c:Cell}{b:Bx}
theorem Kn.le.refl:k.le k:=⟨ay.refl _,iX _⟩
def Up.le(u:Up q k H k' H'):k.le k':=⟨u.f,u.a⟩
theorem Up.refl:Up q k H k H:=⟨ay.refl _,iX _,iX _,λ_ _ _ h=>h⟩
theorem Up.trans(x:Up q k H k' H')(y:Up q k' H' NN yz):Up q k H NN yz:=⟨x.f.trans y.f,x.a.trans y.a,x.t.trans y.t,λa o z h=>y.h a o (L_ x.a z) (x.h a o z h)⟩
def Up.of{F':Hp}(s:ay k.F F')(t:ay H H'):Up q k H ⟨F',k.A,k.T⟩ H':=⟨s,iX _,iX _,λa o _ h=>t a o h⟩
def de.up{x:V}{v:Val}(h:de K k x v)(u:Up q k H k' H'):de K k' x v:=by
 cases v with
 |d y=>exact af.mono u.le h
 |c n=>obtain⟨a,e,z⟩:=h;exact⟨a,e,CK u.t z⟩
theorem yG.up{xs:List V}{vs:List Val}(h:Paired (de K k) xs vs)(u:Up q k H k' H'):Paired (de K k') xs vs:=Paired.AJ h λ_ _ r=>r.up u
theorem fw.up(h:fw K k Z U)(u:Up q k H k' H'):fw K k' Z U:=⟨h.ln,λi v e=>let ⟨x,z,r⟩:=h.at' i v e;⟨x,z,r.up u⟩⟩
def cM.keep(h:cM K k H a b)(s:k.le k')(e:∀o,H a=some o->H' a=some o):cM K k' H' a b:=by
 cases b with
 |lst xs=>obtain⟨ws,z,r⟩:=h;exact⟨ws,e _ z,r.mono s⟩
 |aP kvs=>obtain⟨es,ep,z,q,r,t⟩:=h;exact⟨es,ep,e _ z,q,r.mono s,t.mono s⟩
theorem bc.keep(h:bc K k H a c)(s:k.le k')(e:∀o,H a=some o->H' a=some o)(fr:k.F a=none->k'.F a=none):bc K k' H' a c:=by
 cases c with
 |o b=>exact⟨fr h.1,h.2.keep s e⟩
 |z b=>exact⟨λz=>h.1 (s.f.free z),h.2.mono s⟩
 |ins C fs=>obtain⟨h0,dx,gs,h1,h2,h3⟩:=h;exact⟨fr h0,dx,gs,e _ h1,h2,h3.mono s⟩
def cM.there(h:cM K k H a b):H a≠none:=λz=>by
 cases b with
 |lst xs=>obtain⟨_,e,_⟩:=h;rw[e] at z;cases z
 |aP kvs=>obtain⟨_,_,e,_⟩:=h;rw[e] at z;cases z
theorem bc.there(h:bc K k H a c)(le:ay k.F H):H a≠none:=by
 cases c with
 |o b=>exact h.2.there
 |z b=>exact λz=>h.1 (le.free z)
 |ins C fs=>obtain⟨_,dx,gs,h1,_⟩:=h;rw[h1];exact λz=>nomatch z
def Lay.get(h:Lay K k H as cs)(e:as[n]?=some a):∃c,cs[n]?=some c/\bc K k H a c:=by
 have hn:n<cs.length:=h.ln ▸ (cK.mp e).1;exact⟨_,gp hn,h.at' n a _ e (gp hn)⟩
def Lay.keep(h:Lay K k H as cs)(f:∀a∈as,∀c,bc K k H a c->bc K k' H' a c):Lay K k' H' as cs:=⟨h.ln,λn a c e1 e2=>f a (kg e1) c (h.at' n a c e1 e2)⟩
def KI{α:Type}{l:List α}{x y:α}(e:(l++[x])[n]?=some y):l[n]?=some y\/(n=l.length/\y=x):=by
 by_cases h:n<l.length
 .rw[gj h] at e;exact .inl e
 .have h1:=Nat.le_of_not_lt h;rw[gE h1] at e;have h2:n - l.length=0:=Nat.lt_one_iff.mp (cK.mp e).1;rw[h2] at e;cases e;exact .inr ⟨by lia,rfl⟩
def EM{α:Type}{l:List α}{x:α}:(l++[x])[l.length]?=some x:=by rw[gE (bC _),kh];rfl
def Lay.push(h:Lay K k H as cs)(hc:bc K k H a c):Lay K k H (as++[a]) (cs++[c]):=by
 refine⟨by rw[b_,b_,h.ln];rfl,λn b d e1 e2=>?_⟩
 rcases KI e1 with e1|⟨z,rfl⟩ <;> rcases KI e2 with e2|⟨y,rfl⟩
 .exact h.at' n b d e1 e2
 .exact bG (cK.mp e1).1 (by rw[y,h.ln];exact jl _)
 .exact bG (cK.mp e2).1 (by rw[z,h.ln];exact jl _)
 .exact hc
def Es{α:Type}{l:List α}{i j:Nat}{x:α}(nd:l.Nodup)(e1:l[i]?=some x)(e2:l[j]?=some x):i=j:=by
 obtain⟨h1,z1⟩:=cK.mp e1;obtain⟨h2,z2⟩:=cK.mp e2;exact(List.getElem_inj nd).mp (z1.trans z2.symm)
def Lay.set(h:Lay K k H as cs)(nd:as.Nodup)(ha:as[n]?=some a)(hc:bc K k' H' a c)(f:∀b∈as,b≠a->∀c,bc K k H b c->bc K k' H' b c):Lay K k' H' as (cs.set n c):=by
 refine⟨by rw[mE];exact h.ln,λj b d e1 e2=>?_⟩
 by_cases e0:n=j
 .subst e0;rw[qh (h.ln ▸ (cK.mp ha).1)] at e2;cases e2;cases ha.symm.trans e1;exact hc
 .rw[iU e0] at e2;exact f b (kg e1) (λz=>e0 (Es nd ha (z ▸ e1))) d (h.at' j b d e1 e2)
def Lay.take(h:Lay K k H as cs)(m:Nat):Lay K k H (as.take m) (cs.take m):=by
 refine⟨by rw[r6,r6,h.ln],λj b d e1 e2=>?_⟩
 rw[List.getElem?_take] at e1 e2;split at e1
 .rename_i hj
  rw[aU hj] at e2;exact h.at' j b d e1 e2
 .cases e1
theorem Lay.there(h:Lay K k H as cs)(le:ay k.F H):∀a∈as,H a≠none:=λa m=>by
 obtain⟨n,e⟩:=DT.mp m;obtain⟨c,_,hc⟩:=h.get e;exact hc.there le
theorem bO.there(h:bO K k H S):∀a∈k.A++k.T,H a≠none:=λa m=>(dD.mp m).elim (h.r.there h.le a) (h.s.there h.le a)
def bO.fresh(h:bO K k H S)(e:H a=none):k.F a=none/\a∉k.A++k.T:=⟨h.le.free e,λm=>h.there a m e⟩
def bO.new(h:bO K k H S)(s1:ay k.F F')(s2:∀a∈k.A++k.T,∀o,H a=some o->H' a=some o)(s3:ay F' H')(fr:∀p∈k.A++k.T,k.F p=none->F' p=none):bO K ⟨F',k.A,k.T⟩ H' S:=
 have go:∀a∈k.A++k.T,∀c,bc K k H a c->bc K ⟨F',k.A,k.T⟩ H' a c:=λa m _ q=>q.keep ⟨s1,iX _⟩ (s2 a m) (fr a m)
 ⟨s3,h.nd,h.r.keep λa m=>go a (t_ _ m),h.s.keep λa m=>go a (m7 _ m)⟩
def bc.le(h:bc K k H a c)(s:k.le k')(e:k.F=k'.F):bc K k' H a c:=h.keep s (λ_ z=>z) λz=>by rw[<-e];exact z
def Et{α:Type}{l:List α}{x:α}:l <+: l++[x]:=List.prefix_append _ _
def VD{α:Type}{l m:List α}{x:α}(h:(l++m).Nodup)(n:x∉l++m):((l++[x])++m).Nodup:=by
 rw[g_];exact(List.perm_middle (l₁:=l) (l₂:=m) (a:=x)).nodup_iff.mpr (gA.mpr ⟨n,h⟩)
def bO.pushS(h:bO K k H S)(hF:k.F a=none)(hn:a∉k.A++k.T)(hb:cM K k H a b):bO K ⟨k.F,k.A,k.T++[a]⟩ H ⟨S.s++[.o b],S.r⟩/\∀q,Up q k H ⟨k.F,k.A,k.T++[a]⟩ H:=by
 have go:k.le ⟨k.F,k.A,k.T++[a]⟩:=⟨ay.refl _,iX _⟩;refine⟨⟨h.le,?_,h.r.keep λ_ _ _ z=>z.le go rfl,(h.s.push (c:=.o b) ⟨hF,hb⟩).keep λ_ _ _ z=>z.le go rfl⟩,λq=>⟨ay.refl _,iX _,Et,λ_ _ _ z=>z⟩⟩
 rw[<-g_];exact k8.mpr ⟨h.nd,by simp,λx m y m' e=>hn (by rw[dW.mp m'] at e;exact e ▸ m)⟩
def bO.AW(h:bO K k H S)(hn:a∉k.A++k.T)(hc:bc K k H a c):bO K ⟨k.F,k.A++[a],k.T⟩ H ⟨S.s,S.r++[c]⟩/\∀q,Up q k H ⟨k.F,k.A++[a],k.T⟩ H:=by
 have go:k.le ⟨k.F,k.A++[a],k.T⟩:=⟨ay.refl _,Et⟩;exact⟨⟨h.le,VD h.nd hn,(h.r.push hc).keep λ_ _ _ z=>z.le go rfl,h.s.keep λ_ _ _ z=>z.le go rfl⟩,λq=>⟨ay.refl _,Et,iX _,λ_ _ _ z=>z⟩⟩
def jn(H H':Hp)(a:aj):Prop:=∀b,b≠a->H' b=H b
def Ca:jn H (upd H a o) a:=λ_ z=>dj z
def bO.chg(h:bO K k H S)(ho:jn H H' a)(hF:k.F a=none)(hq:∀o,H a=some o->¬lH k.A a o q):ay k.F H'/\Up q k H k H'/\∀b,b≠a->∀c,bc K k H b c->bc K k H' b c:=
 ⟨λb o e=>by rw[ho b λz=>by rw[z,hF] at e;cases e];exact h.le b o e,⟨ay.refl _,iX _,iX _,λb o e z=>by
  by_cases y:b=a
  .simp_all
  .rw[ho b y];exact z⟩,λb y c z=>z.keep .refl (λo e=>by rw[ho b y];exact e) id⟩
def bO.HF(h:bO K k H S)(ha:k.A[n]?=some a)(ho:jn H H' a)(hF:k.F a=none)(hq:∀o,H a=some o->¬lH k.A a o q)(hc:bc K k H' a c):bO K k H' ⟨S.s,S.r.set n c⟩/\Up q k H k H':=by
 obtain⟨h1,h2,h3⟩:=h.chg ho hF hq;obtain⟨n1,n2,n3⟩:=k8.mp h.nd;exact⟨⟨h1,h.nd,h.r.set n1 ha hc λb _=>h3 b,h.s.keep λb m=>h3 b λz=>n3 a (kg ha) b m z.symm⟩,h2⟩
def bO.HG(h:bO K k H S)(ha:k.T[n]?=some a)(ho:jn H H' a)(hF:k.F a=none)(hq:∀o,H a=some o->¬lH k.A a o q)(hc:bc K k H' a c):bO K k H' ⟨S.s.set n c,S.r⟩/\Up q k H k H':=by
 obtain⟨h1,h2,h3⟩:=h.chg ho hF hq;obtain⟨n1,n2,n3⟩:=k8.mp h.nd;exact⟨⟨h1,h.nd,h.r.keep λb m=>h3 b λz=>n3 b m a (kg ha) z,h.s.set n2 ha hc λb _=>h3 b⟩,h2⟩
def cM.Y(h:cM K k H a b)(le:ay k.F H)(hF:k.F a=none):∃o,H a=some o/\ay k.F (upd k.F a o)/\ay (upd k.F a o) H/\af K ⟨upd k.F a o,k.A,k.T⟩ [.ref a] [b.d]:=by
 have sm:∀o,ay k.F (upd k.F a o):=λo=>pQ hF
 have sh:∀o,H a=some o->ay (upd k.F a o) H:=λo e p u q=>by
  by_cases z:p=a
  .grind [aN]
  .rw[dj z] at q;exact le p u q
 cases b with
 |lst xs=>
  obtain⟨ws,e,r⟩:=h;exact⟨_,e,sm _,sh _ e,.lst (.inl (.inl aN)) (r.mono ⟨sm _,iX _⟩) .nil⟩
 |aP kvs=>
  obtain⟨es,ep,e,q,r,t⟩:=h;exact⟨_,e,sm _,sh _ e,.aP aN q (r.mono ⟨sm _,iX _⟩) (t.mono ⟨sm _,iX _⟩) .nil⟩
def bO.F5(h:bO K k H S)(hF:k.F a=none)(hn:a∉k.A++k.T)(hb:cM K k H a b):∃F',bO K ⟨F',k.A,k.T⟩ H S/\(∀q,Up q k H ⟨F',k.A,k.T⟩ H)/\af K ⟨F',k.A,k.T⟩ [.ref a] [b.d]:=by
 obtain⟨o,e,s1,s2,rp⟩:=hb.Y h.le hF;exact⟨_,h.new s1 (λ_ _ _ z=>z) s2 λp m z=>by rw[dj (show p≠a from λy=>hn (y ▸ m))];exact z,λq=>.of s1 (ay.refl _),rp⟩
def bO.F6(h:bO K k H S)(ha:k.T[n]?=some a)(hc:S.s[n]?=some (.o b)):∃F',bO K ⟨F',k.A,k.T⟩ H ⟨S.s.set n (.z b),S.r⟩/\(∀q,Up q k H ⟨F',k.A,k.T⟩ H)/\af K ⟨F',k.A,k.T⟩ [.ref a] [b.d]:=by
 refine kY λkz=>?_
 obtain⟨hF,hb⟩:=h.s.at' n a _ ha hc;obtain⟨o,e,s1,s2,rp⟩:=hb.Y h.le hF;obtain⟨n1,n2,n3⟩:=k8.mp h.nd;have go:∀p,p≠a->∀c,bc K k H p c->bc K ⟨upd k.F a o,k.A,k.T⟩ H p c:=λp y c z=>z.keep ⟨s1,iX _⟩ (λ_ z=>z) λz=>(dj y).trans z
 refine kz ?_;exact⟨_,⟨s2,h.nd,h.r.keep λp m=>go p λz=>n3 p m a (kg ha) z,h.s.set n2 ha (c:=.z b) ⟨λz=>(nomatch aN.symm.trans z),rp⟩ λp _=>go p⟩,λq=>.of s1 (ay.refl _),rp⟩
theorem bO.take(h:bO K k H S)(m:Nat):bO K ⟨k.F,k.A,k.T.take m⟩ H ⟨S.s.take m,S.r⟩:=
 have go:k.le ⟨k.F,k.A,k.T.take m⟩:=⟨ay.refl _,iX _⟩
 ⟨h.le,h.nd.sublist ((List.Sublist.refl _).append (List.take_sublist _ _)),h.r.keep λ_ _ _ z=>z.le go rfl,(h.s.take m).keep λ_ _ _ z=>z.le go rfl⟩
def J5{α:Type}{l l':List α}{m:Nat}(h:l <+: l')(hm:l.length<=m):l <+: l'.take m:=by
 grind
def Up.take(u:Up q k H k' H'){m:Nat}(h:k.T.length<=m):Up q k H ⟨k'.F,k'.A,k'.T.take m⟩ H':=⟨u.f,u.a,J5 u.t h,u.h⟩
end
end L2
set_option autoImplicit false
namespace L2
open PySem PySem.Spec PyProof.Rows
variable{X:Cx}{e:Expr}{t:TE}{t':TT}{v x:V}{k:Kn}{S:ba}{r:R2}{Q:List V->Hp->Prop}{vs:List Val}{ds:List D}{o:List D->ah Rv}
def PE.mono{t':TE}(h:PE X e t)(m:∀Z H Q,t' Z H Q->t Z H Q):PE X e t':=λae s Z H Q I q=>h ae s Z H Q I (m _ _ _ q)
def PT.mono{t:TT}(h:PT X e t)(m:∀Z H Q,t' Z H Q->t Z H Q):PT X e t':=λae s Z H Q I q=>h ae s Z H Q I (m _ _ _ q)
def PW.mono{t:TT}(h:PW X e t)(m:∀Z H Q,t' Z H Q->t Z H Q):PW X e t':=λwh ae s Z H Q I q=>h wh ae s Z H Q I (m _ _ _ q)
def PA.mono{e:List Expr}{t t':TA}(h:PA X e t)(m:∀Z H Q,t' Z H Q->t Z H Q):PA X e t':=λpos ae s Z H Q I q=>h pos ae s Z H Q I (m _ _ _ q)
def PS.mono{e:Stmt}{t t':TS}(h:PS X e t)(m:∀D Z H,t' D Z H->t D Z H):PS X e t':=λae s Z H D I q=>h ae s Z H D I (m _ _ _ q)
def ij.mono{e:List Stmt}{t t':TS}(h:ij X e t)(m:∀D Z H,t' D Z H->t D Z H):ij X e t':=λae s Z H D I q=>h ae s Z H D I (m _ _ _ q)
abbrev XW:=aj->ah aj->St->Hp->Prop
def yy(F:Hp)(dx:ah aj):ah Int->Prop
 |none=>dx=none
 |some n=>∃d,dx=some d/\F d=some (.xd [("line",.int n)])
abbrev Rp(α β:Type):=Kn->Hp->β->α->Prop
section
variable{α β α' β':Type}(R:Rp α β){R':Rp α' β'}(K:aH)(W:XW)(q:Nat){Z:St}{H H':Hp}{k k':Kn}{U:Gm}{S:ba}{Q:β->Hp->Prop}{Q':β'->Hp->Prop}
def eD(Z:St)(k:Kn)(H:Hp)(Q:β->Hp->Prop):Rs α->Prop
 |.ok a S=>∀b k' H',Up q k H k' H'->bO K k' H' S->R k' H' b a->Q b H'
 |.ex C l S=>∀dx k' H',Up q k H k' H'->bO K k' H' S->yy k'.F dx l->W C dx Z H'
def tX(g:Gx α):St->Hp->(β->Hp->Prop)->Prop:=λZ H Q=>∃k U S res,bO K k H S/\fw K k Z U/\g U S=some res/\eD R K W q Z k H Q res
variable{R K W q}
def eD.up{res:Rs α}(w:eD R K W q Z k H Q res)(u:Up q k H k' H'):eD R K W q Z k' H' Q res:=by
 cases res with
 |ok a S=>exact λb k2 H2 u2 k r=>w b k2 H2 (u.trans u2) k r
 |ex C l S=>exact λdx k2 H2 u2 k r=>w dx k2 H2 (u.trans u2) k r
def zr{x:ah (Rs α)}{f:α->ba->ah (Rs α')}{res:Rs α'}(e:bd x f=some res):(∃a S,x=some (.ok a S)/\f a S=some res)\/∃C l S,x=some (.ex C l S)/\res=.ex C l S:=by
 obtain _|_|_:=x
 .cases e
 .exact .inl ⟨_,_,rfl,e⟩
 .cases e;exact .inr ⟨_,_,_,rfl,rfl⟩
def tX.bd{g:Gx α}{f:α->ba->ah (Rs α')}{res:Rs α'}(ok:bO K k H S)(gk:fw K k Z U)(e:bd (g U S) f=some res)(w:eD R' K W q Z k H Q' res)
  (h:∀a S1 b k1 H1,bO K k1 H1 S1->fw K k1 Z U->R k1 H1 b a->f a S1=some res->eD R' K W q Z k1 H1 Q' res->Up q k H k1 H1->Q b H1):tX R K W q g Z H Q:=by
 rcases zr e with⟨a,S1,e1,e2⟩|⟨C,l,S1,e1,rfl⟩
 .exact⟨k,U,S,_,ok,gk,e1,λb k' H' u fB r=>h a S1 b k' H' fB (gk.up u) r e2 (w.up u) u⟩
 .exact⟨k,U,S,_,ok,gk,e1,w⟩
def eD.now{a:α}{b:β}(w:eD R K W q Z k H Q (.ok a S))(ok:bO K k H S)(r:R k H b a):Q b H:=w b k H .refl ok r
def lY{g:Gx α}{Q₂:β->Hp->Prop}(h:tX R K W q g Z H Q)(m:∀b H,Q b H->Q₂ b H):tX R K W q g Z H Q₂:=by
 obtain⟨k,U,S,res,ok,gk,e,w⟩:=h;refine⟨k,U,S,res,ok,gk,e,?_⟩;cases res with
 |ok a S=>exact λb k2 H2 u k r=>m _ _ (w b k2 H2 u k r)
 |ex C l S=>exact w
end
abbrev RE(K:aH):Rp Rv V:=λk H x r=>lr K k H x r
abbrev RA(K:aH):Rp (List Val) (List V):=λk _ xs vs=>Paired (de K k) xs vs
abbrev RB:Rp Bool Bool:=λ_ _ b a=>b=a
abbrev GE:=Gx Rv
variable{g f:GE}
abbrev GA:=Gx (List Val)
variable{h:GA}
abbrev GT:=Gx Bool
abbrev tE(K:aH)(W:XW)(q:Nat)(g:GE):TE:=tX (RE K) K W q g
abbrev fD(K:aH)(W:XW)(q:Nat)(g:GA):TA:=tX (RA K) K W q g
abbrev tT(K:aH)(W:XW)(q:Nat)(g:GT):TT:=tX RB K W q g
noncomputable def gC(d:D):GE:=λ_ S=>some (.ok (.v (.d d)) S)
noncomputable def om(i:Nat):GE:=λU S=>((U[i]?).join).map λv=>.ok (.v v) S
def Eg{α:Type}{x:ah (ah α)}{v:α}(h:x.join=some v):x=some (some v):=by
 cases x with
 |none=>cases h
 |some y=>exact congrArg some h
def jA:Rv->Val
 |.v x=>x
 |.o c=>.d c.d
noncomputable def Y7(S:ba):Rv->Rs Rv
 |.o c=>.ok (.v (.d (.ref S.r.length))) ⟨S.s,S.r++[.o c]⟩
 |r=>.ok r S
def dy(g:GE):GE:=λU S=>bd (g U S) λr S1=>some (Y7 S1 r)
noncomputable def gN:GA:=λ_ S=>some (.ok [] S)
def gK(g:GE)(h:GA):GA:=λU S=>bd (g U S) λr S1=>bd (h U S1) λvs S2=>some (.ok (jA r::vs) S2)
section
variable{X:Cx}{K:aH}{W:XW}{q:Nat}{e a b:Expr}{es:List Expr}{i8 fb fc:GE}{fs:GA}{ft fu:GT}{pos:Pos}{Z:St}{H:Hp}
def xP{d:D}(h:PE X e (tC v))(hf:qF d=some v:=by rfl):PE X e (tE K W q (gC d)):=h.mono λZ H Q t=>by
 obtain⟨k,U,S,res,ok,gk,e,w⟩:=t;cases e;exact w.now ok (show af K k [v] [d] from .flat hf .nil)
def VE{i:Nat}(h:PE X e (Bg i)):PE X e (tE K W q (om i)):=h.mono λZ H Q t=>by
 obtain⟨k,U,S,res,ok,gk,e,w⟩:=t;obtain⟨v,q,rfl⟩:=cS.mp e;obtain⟨x,hx,r⟩:=gk.at' i v (Eg q);exact⟨x,hx,w.now ok (show lr K k H x (.v v) from r)⟩
def nX{r:Rv}(ok:bO K k H S)(h:lr K k H x r):∃k',(∀q,Up q k H k' H)/\bO K k' H S/\de K k' x (jA r):=by
 cases r with
 |v y=>exact⟨k,λ_=>.refl,ok,h⟩
 |o c=>
  obtain⟨p,rfl,hF,hi,hc⟩:=h;obtain⟨F',fB,u,rp⟩:=ok.F5 hF hi hc;exact⟨_,u,fB,rp⟩
def KJ{Q:VK}(t:tE K W q (dy i8) Z H Q):tE K W q i8 Z H Q:=by
 obtain⟨k,U,S,res,ok,gk,e,w⟩:=t;refine tX.bd ok gk e w λr S1 x k1 H1 bq g1 r1 e1 w1 _=>?_
 cases r with
 |v y=>cases e1;exact w1.now bq r1
 |o c=>
  cases e1;obtain⟨p,rfl,hF,hi,hc⟩:=r1;obtain⟨cR,u⟩:=bq.AW hi (c:=.o c) ⟨hF,hc⟩;exact w1 _ _ _ (u q) cR (show af K _ [.ref p] [.ref S1.r.length] from .ref (by rw[<-bq.r.ln];exact EM) .nil)
def qR(h:PE X e (tE K W q i8)):PE X e (tE K W q (dy i8)):=h.mono λ_ _ _ t=>KJ t
def qA(t:fD K W q (gK g h) Z H Q):tE K W q g Z H λx H1=>fD K W q h Z H1 λxs H2=>Q (x::xs) H2:=by
 refine kY λkz=>?_
 obtain⟨k,U,S,res,ok,gk,e,w⟩:=t;refine kz ?_;refine tX.bd ok gk e w λr S1 x k1 H1 bq g1 r1 e1 w1 _=>?_
 obtain⟨k2,u2,cR,r2⟩:=nX bq r1;refine tX.bd cR (g1.up (u2 q)) e1 (w1.up (u2 q)) λvs S3 xs k3 H3 iI g3 r3 e3 w3 u3=>?_
 cases e3;exact w3.now iI (.cons (r2.up u3) r3)
def xw(t:fD K W q gN Z H Q):Q [] H:=by
 obtain⟨k,U,S,res,ok,gk,e,w⟩:=t;cases e;exact w.now ok .nil
def uW:PA X [] (fD K W q gN):=jZ.mono λZ H Q t=>xw t
def Sm(ha:PE X e (tE K W q g))(hr:PA X es (fD K W q h))(hs:starEach (e::es) X.env=(false,eval e X.env)::starEach es X.env):PA X (e::es) (fD K W q (gK g h)):=(Cv ha hr hs).mono λZ H Q t=>qA t
def Top(K:aH)(k:Kn)(H:Hp)(x:V)(d:D):Prop:=af K k [x] [d]\/∃p c,x=.ref p/\d=Bx.d c/\cM K k H p c
noncomputable def Cell.kU:Cell->ah D
 |.o c=>some c.d
 |.z c=>some c.d
 |.ins _ _=>none
def kU(S:ba):Val->ah D
 |.d (.ref n)=>(S.r[n]?).bind Cell.kU
 |.d x=>some x
 |.c n=>(S.s[n]?).bind Cell.kU
def rL(S:ba):List Val->ah (List D)
 |[]=>some []
 |v::vs=>(kU S v).bind λd=>(rL S vs).map λds=>d::ds
def J6{x:aj}{c:Cell}{d:D}(h:bc K k H x c)(e:c.kU=some d):Top K k H (.ref x) d:=by
 cases c with
 |o b=>cases e;exact .inr ⟨x,b,rfl,rfl,h.2⟩
 |z b=>cases e;exact .inl h.2
 |ins _ _=>cases e
def CL{v:Val}{d:D}(ok:bO K k H S)(h:de K k x v)(e:kU S v=some d):Top K k H x d:=by
 cases v with
 |d y=>
  cases y with
  |ref n=>
   obtain⟨p,rfl,h1⟩:=af.isRef h;obtain⟨c,h2,e⟩:=cC.mp e;exact J6 (ok.r.at' n p c h1 h2) e
  |_=>cases e;exact .inl h
 |c n=>
  obtain⟨p,rfl,h1⟩:=h;obtain⟨c,h2,e⟩:=cC.mp e;exact J6 (ok.s.at' n p c h1 h2) e
def KL{xs:List V}(ok:bO K k H S)(h:Paired (de K k) xs vs)(e:rL S vs=some ds):Paired (Top K k H) xs ds:=by
 induction h generalizing ds with
 |nil=>cases e;exact .nil
 |cons r _ ih=>
  obtain⟨d,e1,e⟩:=cC.mp e;obtain⟨es,e2,rfl⟩:=cS.mp e;exact .cons (CL ok r e1) (ih e2)
def Oo(K:aH)(k':Kn)(H H':Hp)(x:V):Rv->Prop
 |.v (.d y)=>af K k' [x] [y]
 |.o c=>∃p,x=.ref p/\H p=none/\k'.F p=none/\cM K k' H' p c
 |_=>False
def iS(K:aH)(k:Kn)(H:Hp)(r:Rv)(Q:VK):Prop:=∀x F' H',ay k.F F'->ay H H'->ay F' H'->(∀p,H p≠none->k.F p=none->F' p=none)->Oo K ⟨F',k.A,k.T⟩ H H' x r->Q x H'
def bP(K:aH)(r:List V->Hp->VK->Prop)(o:List D->ah Rv):Prop:=∀k H xs ds y Q,ay k.F H->Paired (Top K k H) xs ds->o ds=some y->iS K k H y Q->r xs H Q
def gO(o:List D->ah Rv)(g:GA):GE:=λU S=>bd (g U S) λvs S1=>(rL S1 vs).bind λds=>(o ds).map λr=>.ok r S1
def iS.fin{y:Rv}{Q:VK}(ok:bO K k H S)(w:eD (RE K) K W q Z k H Q (.ok y S)):iS K k H y Q:=λx F' H' s1 s2 s3 fr nw=>by
 refine w x ⟨F',k.A,k.T⟩ H' (.of s1 s2) (ok.new s1 (λp _ o z=>s2 p o z) s3 λp m=>fr p (ok.there p m)) ?_
 cases y with
 |v z=>
  cases z with
  |d z=>exact nw
  |_=>exact nw.elim
 |o c=>obtain⟨p,e4,e5,e6,e7⟩:=nw;exact⟨p,e4,e6,(ok.fresh e5).2,e7⟩
def sR{r:List V->Hp->VK->Prop}(bL:bP K r o){g:GA}{Q:VK}(t:tE K W q (gO o g) Z H Q):fD K W q g Z H λxs H1=>r xs H1 Q:=by
 obtain⟨k,U,S,res,ok,gk,e,w⟩:=t;refine tX.bd ok gk e w λvs S1 xs k1 H1 bq g1 r1 e1 w1 _=>?_
 obtain⟨ds,e2,e1⟩:=cC.mp e1;obtain⟨y,e3,rfl⟩:=cS.mp e1;exact bL k1 H1 xs ds y Q bq.le (KL bq r1 e2) e3 (.fin bq w1)
section
variable{k:Kn}{x:V}{Q:VK}
def iS.rep{y:D}(h:iS K k H (.v (.d y)) Q)(le:ay k.F H)(r:af K k [v] [y]):Q v H:=h v k.F H (ay.refl _) (ay.refl _) le (λ_ _ z=>z) r
theorem iS.flat{y:D}{v:V}(h:iS K k H (.v (.d y)) Q)(le:ay k.F H)(e:qF y=some v):Q v H:=h.rep le (.flat e .nil)
def iS.lst{ds:List D}{ws:List V}(h:iS K k H (.o (.lst ds)) Q)(le:ay k.F H)(r:af K k ws ds){l:aj}(hn:H l=none):Q (.ref l) (upd H l (.lst ws)):=
 h _ k.F _ (ay.refl _) (pQ hn) (le.put hn) (λ_ _ z=>z) ⟨l,rfl,hn,le.free hn,ws,aN,r⟩
def iS.aP{kvs:List (TK×D)}{es:List (TK×V×V)}{ep:Nat}(h:iS K k H (.o (.aP kvs)) Q)(le:ay k.F H)(q:es.map (·.1)=kvs.map (·.1))(r:af K k (es.map (·.2.1)) (kvs.map (·.1.d)))(t:af K k (es.map (·.2.2)) (kvs.map (·.2))){l:aj}(hn:H l=none):Q (.ref l) (upd H l (.dG es ep)):=
 h _ k.F _ (ay.refl _) (pQ hn) (le.put hn) (λ_ _ z=>z) ⟨l,rfl,hn,le.free hn,es,ep,aN,q,r,t⟩
theorem iS.tup{ds:List D}{ws:List V}(h:iS K k H (.v (.d (.tup ds))) Q)(le:ay k.F H)(r:af K k ws ds){l:aj}(hn:H l=none):Q (.ref l) (upd H l (.tup ws)):=by
 have hF:=le.free hn;refine h _ (upd k.F l (.tup ws)) _ (pQ hF) (pQ hn) (λb u z=>?_) (λp z1 z2=>by rw[dj (show p≠l from λz=>z1 (z ▸ hn))];exact z2) (show af K ⟨upd k.F l (.tup ws),k.A,k.T⟩ [.ref l] [.tup ds] from .tup (.inl (.inl aN)) (r.mono ⟨pQ hF,iX _⟩) .nil)
 by_cases q:b=l
 .subst q;rw[aN] at z ⊢;exact z
 .rw[dj q] at z ⊢;exact le b u z
noncomputable abbrev Kn.all(k:Kn)(H:Hp):Kn:=⟨H,k.A,k.T⟩
def af.all{vs:List V}{ds:List D}(h:af K k vs ds)(le:ay k.F H):af K (k.all H) vs ds:=h.mono ⟨le,iX _⟩
def Top.rep{d:D}(h:Top K k H x d)(le:ay k.F H):af K (k.all H) [x] [d]:=by
 rcases h with h|⟨p,c,rfl,rfl,h⟩
 .exact h.all le
 .cases c with
  |lst xs=>obtain⟨ws,e,r⟩:=h;exact .lst (.inl (.inl e)) (r.all le) .nil
  |aP kvs=>obtain⟨es,ep,e,q,r,t⟩:=h;exact .aP e q (r.all le) (t.all le) .nil
def Top.flat{d:D}(h:Top K k H x d)(e:qF d=some v):x=v:=by
 rcases h with h|⟨p,c,rfl,rfl,h⟩
 .exact h.aL e
 .cases c <;> cases e
def Top.lst{ds:List D}(h:Top K k H x (.lst ds))(le:ay k.F H):∃p ws,x=.ref p/\cI K H p ws/\af K k ws ds:=by
 rcases h with h|⟨p,c,rfl,e,h⟩
 .obtain⟨p,ws,rfl,q,r⟩:=h.tK;exact⟨p,ws,rfl,le.HK q,r⟩
 .cases c <;> cases e;obtain⟨ws,e,r⟩:=h;exact⟨p,ws,rfl,.inl (.inl e),r⟩
def Top.tup{ds:List D}(h:Top K k H x (.tup ds))(le:ay k.F H):∃p ws,x=.ref p/\fy K H p ws/\af K k ws ds:=by
 rcases h with h|⟨p,c,rfl,e,h⟩
 .obtain⟨p,ws,rfl,q,r⟩:=h.isTup;exact⟨p,ws,rfl,le.A8 q,r⟩
 .cases c <;> cases e
def Top.aP{kvs:List (TK×D)}(h:Top K k H x (.aP kvs))(le:ay k.F H):∃p es ep,x=.ref p/\H p=some (.dG es ep)/\es.map (·.1)=kvs.map (·.1)/\af K k (es.map (·.2.1)) (kvs.map (·.1.d))/\af K k (es.map (·.2.2)) (kvs.map (·.2)):=by
 rcases h with h|⟨p,c,rfl,e,h⟩
 .obtain⟨p,es,ep,rfl,q,r⟩:=h.tJ;exact⟨p,es,ep,rfl,le _ _ q,r⟩
 .cases c <;> cases e;obtain⟨es,ep,h⟩:=h;exact⟨p,es,ep,rfl,h⟩
end
def j5(r:R2):List V->Hp->VK->Prop:=λxs H Q=>∃x y,xs=[x,y]/\r x y H Q
def NZ(r:V->Hp->VK->Prop):List V->Hp->VK->Prop:=λxs H Q=>∃x,xs=[x]/\r x H Q
abbrev aX(f:GE):GA:=gK f gN
abbrev aV(f g:GE):GA:=gK f (gK g gN)
def zJ{r:V->V->Hp->Prop}(h:fD K W q (aV f g) Z H λxs H1=>∃x y,xs=[x,y]/\r x y H1):tE K W q f Z H λx H1=>tE K W q g Z H1 λy H2=>r x y H2:=
 lY (qA h) λx H1 t=>lY (qA t) λy H2 t=>by
  obtain⟨x',y',e,q⟩:=xw t;cases e;exact q
def HY{r:V->Hp->Prop}(h:fD K W q (aX f) Z H λxs H1=>∃x,xs=[x]/\r x H1):tE K W q f Z H r:=
 lY (qA h) λx H1 t=>by
  obtain⟨x',e,q⟩:=xw t;cases e;exact q
def Xy{op:Operator}(ho:dh X (binaryOp op) r)(ok:bP K (j5 r) o)(ha:PE X a (tE K W q i8))(hb:PE X b (tE K W q fb)):PE X (.BinOp a op b pos) (tE K W q (gO o (aV i8 fb))):=(Xm ho ha hb).mono λ_ _ _ t=>zJ (sR ok t)
def Xz{op:UnaryOp}{r:V->Hp->VK->Prop}(ho:BK X (unaryOp op) r)(ok:bP K (NZ r) o)(ha:PE X a (tE K W q i8)):PE X (.UnaryOp op a pos) (tE K W q (gO o (aX i8))):=(Xn ho ha).mono λ_ _ _ t=>HY (sR ok t)
def VF{op:CmpOp}(ho:dh X (compareOp op) r)(ok:bP K (j5 r) o)(ha:PE X a (tE K W q i8))(hb:PE X b (tE K W q fb))(hm:behindInMarks op b=false):PE X (.Compare a [op] [b] pos) (tE K W q (gO o (aV i8 fb))):=(Kz ho ha hb hm).mono λ_ _ _ t=>zJ (sR ok t)
def XA(ho:mG X r)(ok:bP K (j5 r) o)(ha:PE X a (tE K W q i8))(hb:PE X b (tE K W q fb))(hs:EK b):PE X (.Subscript a b pos) (tE K W q (gO o (aV i8 fb))):=(Xq ho ha hb hs).mono λ_ _ _ t=>zJ (sR ok t)
end
noncomputable def Rv.bool:Rv->ah Bool
 |.v (.d (.bl b))=>some b
 |_=>none
def Rv.qL{r:Rv}{b:Bool}(h:r.bool=some b):r=.v (.d (.bl b)):=by
 obtain(d|_)|_:=r
 .cases d <;> cases h;rfl
 all_goals cases h
noncomputable def wu:D->ah Bool
 |.aR=>some false
 |.bl b=>some b
 |.int i=>some (i != 0)
 |.str y=>if y.length<=1000000 then some ((y.length:Int) != 0) else none
 |.lst xs=>some (!xs.isEmpty)
 |.tup xs=>some (!xs.isEmpty)
 |_=>none
def gB(g:GE):GT:=λU S=>bd (g U S) λr S1=>r.bool.map λb=>.ok b S1
def bH(g:GE):GT:=λU S=>bd (g U S) λr S1=>((kU S1 (jA r)).bind wu).map λb=>.ok b S1
def bu(g:GT):GT:=λU S=>bd (g U S) λb S1=>some (.ok (!b) S1)
def z8(c g h:GT):GT:=λU S=>bd (c U S) λb S1=>if b=true then g U S1 else h U S1
def f7(b:Bool):GT:=λ_ S=>some (.ok b S)
def cJ(g h:GT):GT:=z8 g h (f7 false)
def cW(g h:GT):GT:=z8 g (f7 true) h
def zZ(c:GT)(g h:GE):GE:=λU S=>bd (c U S) λb S1=>if b=true then g U S1 else h U S1
def kD(g h:GE):GE:=zZ (gB g) h (gC (.bl false))
def z6(g:GE):GE:=λU S=>bd (gB g U S) λb S1=>some (.ok (.v (.d (.bl (!b)))) S1)
section
variable{X:Cx}{K:aH}{W:XW}{q:Nat}{e a b:Expr}{es rest:List Expr}{f g h:GE}{fs:GA}{ft fu:GT}{pos:Pos}{Z:St}{H:Hp}
def FN{Q:Bool->Hp->Prop}(t:tT K W q (gB f) Z H Q):tE K W q f Z H λx H1=>∃k,x=.bl k/\Q k H1:=by
 obtain⟨k,U,S,res,ok,gk,e,w⟩:=t;refine tX.bd ok gk e w λr S1 x k1 H1 bq g1 r1 e1 w1 _=>?_
 obtain⟨b,e2,rfl⟩:=cS.mp e1;cases Rv.qL e2;exact⟨b,(show af K k1 [x] [.bl b] from r1).aL rfl,w1.now bq rfl⟩
def So{d:D}{b:Bool}(le:ay k.F H)(h:Top K k H x d)(e:wu d=some b):uj K x H b:=by
 cases d with
 |aR=>cases h.flat rfl;cases e;rfl
 |bl b=>cases h.flat rfl;cases e;rfl
 |int i=>cases h.flat rfl;cases e;rfl
 |str y=>
  cases h.flat rfl;unfold wu at e;dsimp only at e;split at e
  .cases e;exact⟨iQ (by assumption) (by decide),rfl⟩
  .cases e
 |lst xs=>
  cases e;obtain⟨p,ws,rfl,h1,h2⟩:=h.lst le;refine .inl ⟨ws,h1,?_⟩;have:=h2.length
  grind
 |tup xs=>
  cases e;obtain⟨p,ws,rfl,h1,h2⟩:=h.tup le;refine .inr (.inl ⟨ws,h1,?_⟩);have:=h2.length
  grind
 |_=>cases e
def VG(hK:X.K=K)(he:PE X a (tE K W q f))(ht:∀whole,isTrue a X.env whole=(do let v <-whole;standAt a.pos;holding [v] (truthy v))):PT X a (tT K W q (bH f)):=(Qt he ht).mono λZ H Q t=>by
 refine kY λkz=>?_
 obtain⟨k,U,S,res,ok,gk,e,w⟩:=t;refine kz ?_;refine tX.bd ok gk e w λr S1 x k1 H1 bq g1 r1 e1 w1 _=>?_
 refine kY λkz=>?_
 obtain⟨b,e2,rfl⟩:=cS.mp e1;obtain⟨d,e3,e4⟩:=cC.mp e2;obtain⟨k2,u2,cR,r2⟩:=nX bq r1;refine kz ?_;rw[hK];exact⟨b,So cR.le (CL cR r2 e3) e4,(w1.up (u2 q)).now cR rfl⟩
def Ni(h:PT X a (pA t))(m:∀Z H Q,tE K W q f Z H Q->t Z H Q):PT X a (tT K W q (gB f)):=h.mono λZ H Q q=>m Z H _ (FN q)
def u_(h:PT X a (tT K W q ft)):PT X (.UnaryOp .Not a pos) (tT K W q (bu ft)):=(Ve h).mono λZ H Q t=>by
 obtain⟨k,U,S,res,ok,gk,e,w⟩:=t;refine tX.bd ok gk e w λb S1 x k1 H1 bq g1 r1 e1 w1 _=>?_
 cases e1;cases r1;exact w1.now bq rfl
def C0{β' α':Type}{R':Rp α' β'}{gx gy:Gx α'}{Q':β'->Hp->Prop}(t:tX R' K W q (λU S=>bd (ft U S) λb S1=>if b=true then gx U S1 else gy U S1) Z H Q'):tT K W q ft Z H λb H1=>if b=true then tX R' K W q gx Z H1 Q' else tX R' K W q gy Z H1 Q':=by
 refine kY λkz=>?_
 obtain⟨k,U,S,res,ok,gk,e,w⟩:=t;refine kz ?_;refine tX.bd ok gk e w λb S1 x k1 H1 bq g1 r1 e1 w1 _=>?_
 cases r1;cases b with
 |true=>exact oP ⟨k1,U,S1,res,bq,g1,e1,w1⟩
 |false=>exact oO ⟨k1,U,S1,res,bq,g1,e1,w1⟩
def C1{α β:Type}{R:Rp α β}{c:α}{b:β}{Q:β->Hp->Prop}(t:tX R K W q (λ_ S=>some (.ok c S)) Z H Q)(r:∀k H,R k H b c):Q b H:=by
 obtain⟨k,U,S,res,ok,gk,e,w⟩:=t;cases e;exact w.now ok (r k H)
def EN{c:Bool}{p p' q q':Prop}(h:if c=true then p else q)(h1:p->p')(h2:q->q'):if c=true then p' else q':=by
 lia
def va(ha:PT X a (tT K W q ft))(hb:PW X (.BoolOp .And (b::rest) pos) (tT K W q fu)):PW X (.BoolOp .And (a::b::rest) pos) (tT K W q (cJ ft fu)):=(Vd ha hb).mono λZ H Q t=>
 lY (C0 t) λc H1 z=>EN z id λz=>C1 z λ_ _=>rfl
def zR(ha:PT X a (tT K W q ft))(hb:PW X (.BoolOp .Or (b::rest) pos) (tT K W q fu)):PW X (.BoolOp .Or (a::b::rest) pos) (tT K W q (cW ft fu)):=(Xk ha hb).mono λZ H Q t=>
 lY (C0 t) λc H1 z=>EN z (λz=>C1 z λ_ _=>rfl) id
def uX(ha:PE X a (tE K W q f))(hb:PE X (.BoolOp .And (b::rest) pos) (tE K W q g)):PE X (.BoolOp .And (a::b::rest) pos) (tE K W q (kD f g)):=(Vf ha hb).mono λZ H Q t=>
 lY (FN (C0 t)) λx H1 ⟨c,e,z⟩=>⟨c,e,EN z id λz=>C1 z λ_ _=>af.flat rfl .nil⟩
def uZ(ha:PE X a (tE K W q f)):PE X (.UnaryOp .Not a pos) (tE K W q (z6 f)):=(Vg ha).mono λZ H Q t=>FN (by
 obtain⟨k,U,S,res,ok,gk,e,w⟩:=t;refine tX.bd ok gk e w λb S1 x k1 H1 bq g1 r1 e1 w1 _=>?_
 cases e1;cases r1;exact w1.now bq (show af K k1 [_] [_] from .flat rfl .nil))
def zL{c:Expr}(hc:PT X c (tT K W q ft))(ha:PE X a (tE K W q f))(hb:PE X b (tE K W q g)):PE X (.IfExp c a b pos) (tE K W q (zZ ft f g)):=(Qp hc ha hb).mono λZ H Q t=>C0 t
end
noncomputable def i_(S:ba):Val->ah (D×ba)
 |.d x=>some (x,S)
 |.c n=>(S.s[n]?).bind λc=>match c with
  |.o b=>some (b.d,⟨S.s.set n (.z b),S.r⟩)
  |.z b=>some (b.d,S)
  |.ins _ _=>none
def mL:List Val->ba->ah (List D×ba)
 |[],S=>some ([],S)
 |v::vs,S=>(i_ S v).bind λp=>(mL vs p.2).map λq=>(p.1::q.1,q.2)
section
variable{K:aH}{k:Kn}{H:Hp}{S S':ba}
def EO{v:Val}{d:D}(ok:bO K k H S)(h:de K k x v)(e:i_ S v=some (d,S')):∃k',(∀q,Up q k H k' H)/\bO K k' H S'/\af K k' [x] [d]:=by
 cases v with
 |d y=>cases e;exact⟨k,λ_=>.refl,ok,h⟩
 |c n=>
  obtain⟨p,rfl,hp⟩:=h;obtain⟨c,h1,e⟩:=cC.mp e;cases c with
  |o b=>
   cases e;obtain⟨F',fB,u,rp⟩:=ok.F6 hp h1;exact⟨_,u,fB,rp⟩
  |z b=>cases e;exact⟨k,λ_=>.refl,ok,(ok.s.at' n p _ hp h1).2⟩
  |ins C fs=>cases e
def Cw{xs:List V}(ok:bO K k H S)(h:Paired (de K k) xs vs)(e:mL vs S=some (ds,S')):∃k',(∀q,Up q k H k' H)/\bO K k' H S'/\af K k' xs ds:=by
 induction vs generalizing xs ds k S with
 |nil=>cases e;cases h;exact⟨k,λ_=>.refl,ok,.nil⟩
 |cons v vs ih=>
  cases h with
  |cons r t=>
   refine kY λkz=>?_
   obtain⟨⟨v1,S1⟩,e1,e⟩:=cC.mp e;obtain⟨⟨vs2,S2⟩,e2,e⟩:=cS.mp e;cases e;obtain⟨k1,u1,bq,r1⟩:=EO ok r e1;obtain⟨k2,u2,cR,r2⟩:=ih bq (yG.up t (u1 0)) e2;refine kz ?_;exact⟨k2,λb=>(u1 b).trans (u2 b),cR,.cons (r1.mono (u2 0).le) r2⟩
end
noncomputable def HE(t:Bool)(p:List D×ba):Rs Rv:=.ok (if t=true then .v (.d (.tup p.1)) else .o (.lst p.1)) p.2
def aI(t:Bool)(g:GA):GE:=λU S=>bd (g U S) λvs S1=>if vs.length<=1000000 then(mL vs S1).map (HE t) else none
section
variable{X:Cx}{K:aH}{W:XW}{q:Nat}{es:List Expr}{fs:GA}{pos:Pos}{Z:St}{H:Hp}
def ml{n:Nat}(h:n<=1000000):n<=sizeLine:=iQ h (by decide)
def Ma{t:Bool}{Q:VK}(h:tE K W q (aI t fs) Z H Q):fD K W q fs Z H λxs H1=>xs.length<=sizeLine/\∀p,H1 p=none->Q (.ref p) (upd H1 p (if t=true then .tup xs else .lst xs)):=by
 refine kY λkz=>?_
 obtain⟨k,U,S,res,ok,gk,e,w⟩:=h;refine kz ?_;refine tX.bd ok gk e w λvs S1 xs k1 H1 bq g1 r1 e1 w1 _=>?_
 split at e1
 .rename_i hl
  refine⟨by rw[Paired.length r1];exact ml hl,λp hp=>?_⟩
  refine kY λkz=>?_
  obtain⟨⟨ds,S2⟩,e2,e3⟩:=cS.mp e1;obtain⟨k2,u2,cR,r2⟩:=Cw bq r1 e2;have w2:=w1.up (u2 q);cases e3;refine kz ?_;cases t with
  |false=>exact iS.lst (.fin cR w2) cR.le r2 hp
  |true=>exact iS.tup (.fin cR w2) cR.le r2 hp
 .cases e1
def u0{x1}(h:PA X es (fD K W q fs)):PE X (.Tuple es x1 pos) (tE K W q (aI true fs)):=(Vt h).mono λZ H Q t=>Ma t
def uY(h:PA X es (fD K W q fs)):PE X (.List es pos) (tE K W q (aI false fs)):=(Vu h).mono λZ H Q t=>Ma t
end
variable{base:bJ}{env:Env}{outer:List Env}{L e C:aj}{dx:ah aj}{n:Nat}{H:Hp}{Q:Unit->au->Prop}
structure ig (fs ch:List aj) (h h':bJ):Prop where
 keep:∀b o,b∉fs->b∉ch->h.get? b=some o->h'.get? b=some o
 slot:∀b o,b∈fs->b∉ch->h.get? b=some o->∃sl,h'.get? b=some { o with slots:=sl}
def ic(n:Nat)(h:bJ)(H:Hp)(e C:aj)(dx:ah aj):Prop:=n<=e/\H e=none/\∃oe vs,h.get? e=some oe/\oe.cls=.ref C/\oe.dict=dx/\oe.data=.fields vs/\1<vs.size/\
 (vs[1]?=some .none\/∃T oT ts,vs[1]?=some (.ref T)/\n<=T/\H T=none/\T≠e/\h.get? T=some oT/\oT.data=.fields ts/\ts[3]?=some .none)
def Pw(f:Array ai->Array ai)(o:Obj):(Obj.mapFields f o).dict=o.dict:=by obtain⟨c,d,dt,sl⟩:=o;cases dt <;> rfl
section
variable{M:Model}{A:cy}{E:ai->au->Prop}{s:au}
def KN{oe:Obj}{vs:Array ai}{head:ai}{YI:Bool}
  (oB:A.frames=some (env::outer)) (hl:s.heap.FunFrames base (env::outer)) (hf:env.frame=some L) (he:s.heap.get? e=some oe) (hc:oe.cls=.ref C) (hx:oe.dict=dx) (hd:oe.data=.fields vs) (hsz:1<vs.size) (hn:n<=s.heap.objs.size) (gw:n<=e) (xS:H e=none) (hH:∀a,s.heap.objs.size<=a->H a=none)
  (h:∀h',ig (i9 (env::outer)) [e] s.heap h'->ic n h' H e C dx->Q () { s with heap:=h'}) :
  wpAny M A (do let a <-frameOf env;let pl <-entryPlaceOf L YI;let b <-EntryCells.newEntry head a .none (rawInt L) .none pl;setField (.ref e) 1 b) (λ_ s'=>wpAny M A (setFlight (.ref e) none) Q E s') E s:=by
 have Yf:e∉i9 (env::outer):=λm=>by
  obtain⟨_,o,ho,GF⟩:=hl.mem m
  simp_all
 refine aE (wpAny_frameOf_fun oB hl hf λh1 so=>aE (wpAny_entryPlaceOf λpl g8=>?_))
 unfold EntryCells.newEntry newFields;refine aE (wpAny_newObj_type ?_ (g8.sizeOk5 _ _ _ _ _));generalize eN:({ cls:=.type "traceback",dict:=none,data:=.fields ([head,.ref L,.none,rawInt L,.none]++(if pl.isEmpty then List.replicate 6 Value.none else pl)).toArray}:Obj)=oN
 have e1:h1.get? e=some oe:=(so.2.1 e Yf).trans he;have e2:(h1.push oN).get? e=some oe:=dU _ e1;have nT:h1.objs.size≠e:=Bu (cQ e1);have fN:oN.data=.fields ([head,.ref L,.none,rawInt L,.none]++(if pl.isEmpty then List.replicate 6 Value.none else pl)).toArray:=by rw[<-eN]
 have lN:3<([head,.ref L,.none,rawInt L,.none]++(if pl.isEmpty then List.replicate 6 Value.none else pl)).toArray.size:=by simp only[dq,b_,dg,nz];lia
 have dE:=Obj.data_mapFields hd (·.setIfInBounds 1 (Value.ref h1.objs.size))
 have e3:=nu (Obj.mapFields (·.setIfInBounds 1 (Value.ref h1.objs.size))) e2 (Obj.isFreed_of_fields dE)
 have t3:((h1.push oN).update e (Obj.mapFields (·.setIfInBounds 1 (Value.ref h1.objs.size)))).get? h1.objs.size=some oN:=(ny _ _ (Ne.symm nT)).trans (jD h1 (Obj.isFreed_of_fields fN))
 have dT:=Obj.data_mapFields fN (·.setIfInBounds 3 ((none:ah aj).elim Value.none λf=>rawInt f))
 refine wpAny_setField e2 hd hsz ?_;unfold setFlight;refine aE (wpAny_field e3 dE (x:=.ref h1.objs.size) (by simp[hsz]) ?_)
 rw[aU (show(Value.ref h1.objs.size != Value.none)=true by simp)]
 refine wpAny_setField t3 fN lN (h _ ⟨λb o hb kQ g=>?_,λb o hb kQ g=>?_⟩ ⟨gw,xS,_,_,(ny _ _ nT).trans e3,(Obj.cls_mapFields _ _).trans hc,(Pw _ _).trans hx,dE,by simpa using hsz,.inr ⟨h1.objs.size,_,_,by simp[hsz],by rw[so.1];exact hn,hH _ (by rw[so.1];exact bC _),nT,nu _ t3 (Obj.isFreed_of_fields dT),dT,by simp[Array.getElem?_setIfInBounds,lN]⟩⟩)
 .have be:b≠e:=λz=>kQ (by simp[z])
  have b1:h1.get? b=some o:=(so.2.1 b hb).trans g;rw[ny _ _ (Bu (cQ b1)),ny _ _ (Ne.symm be)];exact dU _ b1
 .have be:b≠e:=λz=>kQ (by simp[z])
  obtain⟨sl,b1⟩:=so.2.2 b o g;refine⟨sl,?_⟩;rw[ny _ _ (Bu (cQ b1)),ny _ _ (Ne.symm be)];exact dU _ b1
def VH
  (oB:A.frames=some (env::outer)) (hl:s.heap.FunFrames base (env::outer)) (hf:env.frame=some L) (hn:n<=s.heap.objs.size) (hH:∀a,s.heap.objs.size<=a->H a=none) (fl:ic n s.heap H e C dx)
  (h:∀h' ch,(∀b∈ch,n<=b/\H b=none)->ig (i9 (env::outer)) ch s.heap h'->ic n h' H e C dx->Q () { s with heap:=h'}):wpAny M A (noteFrame (.ref e) env) (λ_ s'=>wpAny M A (setFlight (.ref e) none) Q E s') E s:=by
 refine kY λkz=>?_
 obtain⟨gw,xS,oe,vs,he,hc,hx,hd,hsz,h1⟩:=fl;refine kz ?_;unfold noteFrame;simp only[hf];rcases h1 with h1|⟨T,oT,ts,h1,Y0,Yw,YF,hT,NC,h3⟩
 .refine aE (wpAny_field he hd h1 ?_);rw[aO (by decide)]
  exact KN oB hl hf he hc hx hd hsz hn gw xS hH λh' l f=>h h' [e] (λb m=>by cases dW.1 m;exact⟨gw,xS⟩) l f
 .refine aE (wpAny_field he hd h1 ?_);rw[aU (show(Value.ref T != Value.none)=true by simp)]
  refine aE (wpAny_field hT NC h3 ?_);rw[aO (show ¬(Value.none == rawInt L)=true by simp[rawInt])]
  refine aE (wpAny_setField hT NC (ub.mp h3).1 ?_);have ot:∀b,b≠T->(s.heap.update T (Obj.mapFields (·.setIfInBounds 3 Value.none))).get? b=s.heap.get? b:=λb z=>ny _ _ (Ne.symm z)
  have nr:∀b o,s.heap.get? b=some o->(∀vs,o.data≠.fields vs)->b≠T:=λb o hb GF z=>by
   simp_all
  refine KN (s:={ s with heap:=s.heap.update T (Obj.mapFields (·.setIfInBounds 3 Value.none))}) oB (hl.of_keeps λb o hb GF=>⟨o,(ot b (nr b o hb GF)).trans hb,rfl⟩) hf ((ot e (Ne.symm YF)).trans he) hc hx hd hsz (by simpa[Heap.size_after_update] using hn) gw xS (λa z=>hH a (by simpa[Heap.size_after_update] using z)) λh' l f=>h h' [e,T] (λb m=>?_) ⟨λb o hb kQ g=>?_,λb o hb kQ g=>?_⟩ f
  .simp only[y06,y1y,or_false] at m;rcases m with rfl|rfl
   .exact⟨gw,xS⟩
   .exact⟨Y0,Yw⟩
  .simp only[y06,y1y,or_false,not_or] at kQ;exact l.keep b o hb (by simp[kQ.1]) ((ot b kQ.2).trans g)
  .simp only[y06,y1y,or_false,not_or] at kQ;exact l.slot b o hb (by simp[kQ.1]) ((ot b kQ.2).trans g)
def Sq
  (oB:A.frames=some (env::outer)) (hl:s.heap.FunFrames base (env::outer)) (hf:env.frame=some L) (hn:n<=s.heap.objs.size) (hH:∀a,s.heap.objs.size<=a->H a=none) (fl:ic n s.heap H e C dx)
  (h:∀h' ch,(∀b∈ch,n<=b/\H b=none)->ig (i9 (env::outer)) ch s.heap h'->ic n h' H e C dx->Q () { s with heap:=h'}):wpAny M A (leaving env (.ref e)) Q E s:=by
 unfold leaving;exact aE (VH oB hl hf hn hH fl h)
end
variable{n:Nat}{h h':bJ}{H:Hp}{e C:aj}{dx:ah aj}{X:Cx}{ch:List aj}{Q:VK}
structure BD (P:cL) (w:bX) (outer:List Env) (H:Hp) (s:au) (H':Hp) (s':au) (e C:aj) (dx:ah aj):Prop where
 os:s'.os=s.os
 bare:AllBare s'.gens
 un:Un (i9 outer) [] H H' s.heap s'.heap
 bL:gu P w H' s'.heap
 Nu:ic s.heap.objs.size s'.heap H' e C dx
def lT(P:cL)(w:bX):pL:=λouter H s E e s'=>∃a C dx H',e=.ref a/\BD P w outer H s H' s' a C dx/\E (.ref C) dx H'
def jo(X:Cx)(W:XW):Prop:=∀(ae:List (aj×Obj)) (Z:St) (H:Hp) (s:au) (H':Hp) (s':au) (e C:aj) (dx:ah aj),Inv X ae Z H s->BD X.prog X.w X.stack H s H' s' e C dx->W C dx Z H'->X.xe (.ref e) s'
def ic.mono{n':Nat}(f:ic n h H e C dx)(l:n'<=n):ic n' h H e C dx:=by
 obtain⟨a,b,oe,vs,c1,c2,c3,c4,c5,c6⟩:=f;refine⟨iQ l a,b,oe,vs,c1,c2,c3,c4,c5,?_⟩;rcases c6 with c6|⟨T,oT,ts,d1,d2,d3⟩
 .exact .inl c6
 .exact .inr ⟨T,oT,ts,d1,iQ l d2,d3⟩
def ic.lt(f:ic n h H e C dx):n<=h.objs.size:=by
 obtain⟨a,b,oe,vs,c1,_⟩:=f;exact Br (Nat.lt_of_le_of_lt a (cQ c1))
def BD.inv{ae:List (aj×Obj)}{Z:St}{H':Hp}{s s':au}(c:BD X.prog X.w X.stack H s H' s' e C dx)(I:Inv X ae Z H s):Inv X ae Z H' s':=
 I.sT (ch:=[]) c.os c.un c.bL c.bare λ_ z=>nomatch z
def ig.bL{P:cL}{w:bX}{fs:List aj}(l:ig fs ch h h')(k:gu P w H h)(hf:∀b∈fs,H b=none)(hc:∀b∈ch,H b=none):gu P w H h':=λb o q=>
 (k b o q).j8 (λc u z g=>l.keep c u (λm=>by
  simp_all) (λm=>by
  simp_all) g) (λ_ z=>z) λ_ _ z=>z
def ig.any{fs:List aj}(l:ig fs ch h h'){b:aj}{o:Obj}(g:h.get? b=some o)(hc:b∉ch):∃sl,h'.get? b=some { o with slots:=sl}:=by
 by_cases m:b∈fs
 .exact l.slot b o m hc g
 .exact⟨o.slots,l.keep b o m hc g⟩
def WF(E:XK):XW:=λC dx _ H'=>E (.ref C) dx H'
section
variable{P:cL}{w:bX}{K:aH}{mg:Str->ah ai}{base:bJ}{N:List Str}{qual:Str}{scope:Scope}{f:aj}{cd:ai}{A:cy}{outer:List Env}{s₀:au}{H₀:Hp}{E:XK}
def rE:jo (jO (lT P w) P w K mg base N qual scope f cd A outer s₀ H₀ E) (WF E):=by
 intro ae Z H s H' s' e C dx I c q;have I':=c.inv I;have oB:(A.deeper (envOfC qual scope s₀.heap.objs.size f cd)).frames=some (envOfC qual scope s₀.heap.objs.size f cd::outer):=I.ok.frames;have sz:s₀.heap.objs.size<=s.heap.objs.size:=I.sz;refine Sq (base:=base) (L:=s₀.heap.objs.size) oB I'.stack rfl c.Nu.lt (λa z=>I'.bL.fresh z) c.Nu λh' ch lD lx fl=>⟨e,C,dx,H',rfl,⟨I'.os,I'.bare,?_,lx.bL I'.bL I'.j9 λb m=>(lD b m).2,fl.mono sz⟩,q⟩
 have rq:∀b o,s₀.heap.get? b=some o->b∉ch:=λb o g m=>bG (eO (cQ g) (iQ sz (lD b m).1)) (jl _)
 have nL:∀b o,s₀.heap.get? b=some o->b∉i9 outer->b∉i9 (envOfC qual scope s₀.heap.objs.size f cd::outer):=λb o g z m=>by
  rcases y06.mp (show b∈s₀.heap.objs.size::i9 outer from m) with m|m
  .exact bG (m ▸ cQ g) (jl _)
  .exact z m
 have B:Un (i9 outer) [] H₀ H' s₀.heap s'.heap:=I'.base;refine⟨λb o g n hb hx=>lx.keep b o (nL b o g hb) (rq b o g) (B.keep b o g n hb hx),λb o g n hb hx=>?_,B.free,λb o g hx=>?_,B.jk,B.iA,B.jj⟩
 .obtain⟨sl,g1⟩:=B.slot b o g n hb hx;obtain⟨HH,g2⟩:=lx.any g1 (rq b o g);exact⟨HH,g2⟩
 .obtain⟨o',g1⟩:=B.there b o g hx;obtain⟨sl,g2⟩:=lx.any g1 (rq b o g);exact⟨_,g2⟩
def AU:PassesOwn (model P w) (A.deeper (envOfC qual scope s₀.heap.objs.size f cd)) (envOfC qual scope s₀.heap.objs.size f cd) (jO (lT P w) P w K mg base N qual scope f cd A outer s₀ H₀ E).xe:=PassesOwn.leaving
end
def EW(W:XW):St->XK:=λZ c dx H'=>∃C,c=.ref C/\W C dx Z H'
def AS{W:XW}(h:jo X W):E_ (lT X.prog X.w) X (EW W):=λae Z H s e s' I h'=>by
 obtain⟨a,C,dx,H',rfl,c,C',hc,q⟩:=h';cases hc;exact h ae Z H s H' s' a C dx I c q
abbrev GM:=List Val->ba->ah (Rs Rv)
def yH(K:aH)(q n:Nat)(m:GM):Sp:=λxs H Q E=>xs.length=n/\∃k vs S res,bO K k H S/\Paired (de K k) xs vs/\m vs S=some res/\eD (RE K) K (WF E) q [] k H Q res
def nK(m:GM)(n:Nat):Prop:=∀vs S res,m vs S=some res->vs.length=n
def ak(m:GM)(g:GA):GE:=λU S=>bd (g U S) m
def any_some{α:Type}{x:ah α}{p:α->Bool}(h:x.any p=true):∃c,x=some c/\p c=true:=by
 cases x with
 |none=>cases h
 |some c=>exact⟨c,rfl,h⟩
section
variable{X:Cx}{K:aH}{W:XW}{Z:St}{H:Hp}{q n:Nat}{m:GM}{g:GA}{f:GE}
def eD.wf{k:Kn}{res:Rs Rv}(w:eD (RE K) K W q Z k H Q res):eD (RE K) K (WF (EW W Z)) q [] k H Q res:=by
 cases res with
 |ok a S=>exact w
 |ex C l S=>exact λdx k' H' u k r=>⟨C,rfl,w dx k' H' u k r⟩
def Sr(hm:nK m n)(t:tE K W q (ak m g) Z H Q):fD K W q g Z H λxs H1=>yH K q n m (xs++[]) H1 Q (EW W Z):=by
 refine kY λkz=>?_
 obtain⟨k,U,S,res,ok,gk,e,w⟩:=t;refine kz ?_;refine tX.bd ok gk e w λvs S1 xs k1 H1 bq g1 r1 e1 w1 _=>?_
 rw[lQ];exact⟨(Paired.length r1).trans (hm _ _ _ e1),k1,vs,S1,res,bq,r1,e1,w1.wf⟩
end
end L2
set_option autoImplicit false
namespace L2
open PySem PySem.Spec PyProof.Rows
variable{P:St->Hp->Prop}{mu:Bool}{H:Hp}{i:Nat}{Z:St}{ts:pO}
inductive Fr where
 |nx (U:Gm) (S:ba)|bk (U:Gm) (S:ba)|ct (U:Gm) (S:ba)|rt (r:Rv) (S:ba)|ex (C:aj) (l:ah Int) (U:Gm) (S:ba)
abbrev GS:=Gm->ba->ah Fr
section
variable(K:aH)(W:XW)(q:Nat){D:Ends}{k k':Kn}{H H':Hp}{Z:St}{U:Gm}{S:ba}{fr:Fr}
def bK(k:Kn)(H:Hp)(P:St->Hp->Prop)(U:Gm)(S:ba):Prop:=∀Z' k' H',Up q k H k' H'->bO K k' H' S->fw K k' Z' U->P Z' H'
def Done(D:Ends)(k:Kn)(H:Hp):Fr->Prop
 |.nx U S=>bK K q k H D.nx U S
 |.bk U S=>bK K q k H D.bk U S
 |.ct U S=>bK K q k H D.ct U S
 |.rt r S=>∀v k' H',Up q k H k' H'->bO K k' H' S->lr K k' H' v r->D.rt v H'
 |.ex C l U S=>∀dx Z' k' H',Up q k H k' H'->bO K k' H' S->fw K k' Z' U->yy k'.F dx l->W C dx Z' H'
noncomputable def tS(f:GS):TS:=λD Z H=>∃k U S fr,bO K k H S/\fw K k Z U/\f U S=some fr/\Done K W q D k H fr
variable{K W q}
def jq(q p:Nat):Nat:=match p with
 |0=>q
 |p+1=>match q with
  |0=>p+1
  |q+1=>if q=p then q+1 else 2
abbrev DC(p q:Nat):Prop:=∀A a o,lH A a o p->lH A a o q
def Nj(q p:Nat):DC q (jq q p):=by
 intro A a o h;cases p with
 |zero=>exact h
 |succ p=>
  cases q with
  |zero=>cases h
  |succ q=>
   show lH A a o (if q=p then q+1 else 2)
   split
   .exact h
   .exact mF
def Nk(q p:Nat):DC p (jq q p):=by
 intro A a o h;cases p with
 |zero=>cases h
 |succ p=>
  cases q with
  |zero=>exact h
  |succ q=>
   show lH A a o (if q=p then q+1 else 2)
   split
   .rename_i z
    exact z ▸ h
   .exact mF
def Up.weak{p:Nat}(u:Up q k H k' H')(h:DC p q):Up p k H k' H':=⟨u.f,u.a,u.t,λa o z e=>u.h a o (h _ _ _ z) e⟩
def bK.up(w:bK K q k H P U S)(u:Up q k H k' H'):bK K q k' H' P U S:=λZ' k2 H2 u2 ok g=>w Z' k2 H2 (u.trans u2) ok g
def bK.now(w:bK K q k H P U S)(ok:bO K k H S)(g:fw K k Z U):P Z H:=w Z k H .refl ok g
theorem Done.up(w:Done K W q D k H fr)(u:Up q k H k' H'):Done K W q D k' H' fr:=by
 cases fr with
 |nx U S=>exact bK.up w u
 |bk U S=>exact bK.up w u
 |ct U S=>exact bK.up w u
 |rt r S=>exact λv k2 H2 u2 k r=>w v k2 H2 (u.trans u2) k r
 |ex C l U S=>exact λdx Z' k2 H2 u2 k g r=>w dx Z' k2 H2 (u.trans u2) k g r
theorem Done.weak{p:Nat}(w:Done K W q D k H fr)(h:DC q p):Done K W p D k H fr:=by
 cases fr with
 |nx U S=>exact λZ' k2 H2 u=>w Z' k2 H2 (u.weak h)
 |bk U S=>exact λZ' k2 H2 u=>w Z' k2 H2 (u.weak h)
 |ct U S=>exact λZ' k2 H2 u=>w Z' k2 H2 (u.weak h)
 |rt r S=>exact λv k2 H2 u=>w v k2 H2 (u.weak h)
 |ex C l U S=>exact λdx Z' k2 H2 u=>w dx Z' k2 H2 (u.weak h)
noncomputable def i7{α:Type}(U:Gm)(x:ah (Rs α))(f:α->ba->ah Fr):ah Fr:=match x with
 |none=>none
 |some (.ok a S)=>f a S
 |some (.ex C l S)=>some (.ex C l U S)
def KO{α:Type}{x:ah (Rs α)}{f:α->ba->ah Fr}(e:i7 U x f=some fr):(∃a S,x=some (.ok a S)/\f a S=some fr)\/∃C l S,x=some (.ex C l S)/\fr=.ex C l U S:=by
 obtain _|_|_:=x
 .cases e
 .exact .inl ⟨_,_,rfl,e⟩
 .cases e;exact .inr ⟨_,_,_,rfl,rfl⟩
def tS.Fh{α β:Type}{R:Rp α β}{g:Gx α}{f:α->ba->ah Fr}{Q:β->Hp->Prop}(ok:bO K k H S)(gk:fw K k Z U)(e:i7 U (g U S) f=some fr)(w:Done K W q D k H fr)
  (h:∀a S1 b k1 H1,bO K k1 H1 S1->fw K k1 Z U->R k1 H1 b a->f a S1=some fr->Done K W q D k1 H1 fr->Up q k H k1 H1->Q b H1):tX R K W q g Z H Q:=by
 rcases KO e with⟨a,S1,e1,e⟩|⟨C,l,S1,e1,rfl⟩
 .exact⟨k,U,S,_,ok,gk,e1,λb k' H' u fB r=>h a S1 b k' H' fB (gk.up u) r e (w.up u) u⟩
 .exact⟨k,U,S,_,ok,gk,e1,λdx k' H' u fB r=>w dx Z k' H' u fB (gk.up u) r⟩
def tS.bd{α β:Type}{R:Rp α β}{g:Gx α}{f:α->ba->ah Fr}{Q:β->Hp->Prop}(ok:bO K k H S)(gk:fw K k Z U)(e:i7 U (g U S) f=some fr)(w:Done K W q D k H fr)
  (h:∀a S1 b k1 H1,bO K k1 H1 S1->fw K k1 Z U->R k1 H1 b a->f a S1=some fr->Done K W q D k1 H1 fr->Q b H1):tX R K W q g Z H Q:=tS.Fh ok gk e w λa S1 b k1 H1 h1 h2 h3 h4 h5 _=>h a S1 b k1 H1 h1 h2 h3 h4 h5
end
def fO:GS:=λU S=>some (.nx U S)
noncomputable def cA(f g:GS):GS:=λU S=>(f U S).bind λr=>match r with
 |.nx U S=>g U S
 |r=>some r
def az(g:GE):GS:=λU S=>i7 U (g U S) λr S1=>some (.rt r S1)
def kF(c:GT)(f g:GS):GS:=λU S=>i7 U (c U S) λb S1=>if b=true then f U S1 else g U S1
def dY(g:GE):GS:=λU S=>i7 U (g U S) λ_ S1=>some (.nx U S1)
noncomputable def asg(mu:Bool)(S:ba):Rv->Val×ba
 |.o c=>if mu=true then(.c S.s.length,⟨S.s++[.o c],S.r⟩) else(.d c.d,S)
 |.v x=>(x,S)
def ag(i:Nat)(mu:Bool)(g:GE):GS:=λU S=>i7 U (g U S) λr S1=>if i<U.length then some (.nx (U.set i (some (asg mu S1 r).1)) (asg mu S1 r).2) else none
section
variable{X:Cx}{K:aH}{W:XW}{q:Nat}{st:Stmt}{rest sa sb:List Stmt}{e c:Expr}{f g:GS}{i8:GE}{ft:GT}{pos:Pos}
def u7:ij X [] (tS K W q fO):=rJ.mono λD Z H t=>by
 obtain⟨k,U,S,fr,ok,gk,e,w⟩:=t;cases e;exact bK.now w ok gk
def qV(h1:PS X st (tS K W q f))(h2:ij X rest (tS K W q g)):ij X (st::rest) (tS K W q (cA f g)):=(Qq h1 h2).mono λD Z H t=>by
 obtain⟨k,U,S,fr,ok,gk,e,w⟩:=t;obtain⟨r,e1,e⟩:=cC.mp e;refine⟨k,U,S,r,ok,gk,e1,?_⟩;cases r with
 |nx U1 S1=>exact λZ' k' H' u fB g'=>⟨k',U1,S1,fr,fB,g',e,w.up u⟩
 |bk U1 S1=>cases e;exact w
 |ct U1 S1=>cases e;exact w
 |rt r S1=>cases e;exact w
 |ex C l U1 S1=>cases e;exact w
def u9(h:PE X e (tE K W q i8)):PS X (.Return (some e) pos) (tS K W q (az i8)):=(Vh h).mono λD Z H t=>by
 obtain⟨k,U,S,fr,ok,gk,e,w⟩:=t;refine tS.bd ok gk e w λr S1 v k1 H1 bq g1 r1 e1 w1=>?_
 cases e1;exact w1 v k1 H1 .refl bq r1
def zM(hc:PT X c (tT K W q ft))(ha:ij X sa (tS K W q f))(hb:ij X sb (tS K W q g)):PS X (.If c sa sb pos) (tS K W q (kF ft f g)):=(Xl hc ha hb).mono λD Z H t=>by
 refine kY λkz=>?_
 obtain⟨k,U,S,fr,ok,gk,e,w⟩:=t;refine kz ?_;refine tS.bd ok gk e w λb S1 v k1 H1 bq g1 r1 e1 w1=>?_
 cases r1;cases b with
 |true=>exact oP ⟨k1,U,S1,fr,bq,g1,e1,w1⟩
 |false=>exact oO ⟨k1,U,S1,fr,bq,g1,e1,w1⟩
def Ss(he:PE X e (tE K W q i8))(hs:swapsWith e none pos.line X.env=pure false):PS X (.Expr e pos) (tS K W q (dY i8)):=(RY he hs).mono λD Z H t=>by
 obtain⟨k,U,S,fr,ok,gk,e,w⟩:=t;refine tS.bd ok gk e w λr S1 v k1 H1 bq g1 r1 e1 w1=>?_
 cases e1;exact bK.now w1 bq g1
def VI{k:Kn}{S:ba}{x:V}{r:Rv}(ok:bO K k H S)(h:lr K k H x r):∃k',(∀q,Up q k H k' H)/\bO K k' H (asg mu S r).2/\de K k' x (asg mu S r).1:=by
 cases r with
 |v y=>exact nX ok h
 |o c=>
  cases mu with
  |false=>exact nX (r:=.o c) ok h
  |true=>
   obtain⟨p,rfl,hF,hi,hc⟩:=h;obtain⟨bq,u⟩:=ok.pushS hF hi hc;exact⟨_,u,bq,p,rfl,by rw[<-ok.s.ln];exact EM⟩
def fw.set{k:Kn}{Z:St}{U:Gm}{i:Nat}{x:V}{v:Val}(g:fw K k Z U)(r:de K k x v)(hi:i<U.length):fw K k (Z.set i (some x)) (U.set i (some v)):=by
 refine⟨by rw[mE,mE,g.ln],λj w e=>?_⟩
 by_cases z:i=j
 .subst z;rw[qh hi] at e;cases e;exact⟨x,qh (g.ln ▸ hi),r⟩
 .rw[iU z] at e ⊢;exact g.at' j w e
def Mb{D:Ends}(t:tS K W q (ag i mu i8) D Z H):tE K W q i8 Z H λv H1=>D.nx (Z.set i (some v)) H1:=by
 refine kY λkz=>?_
 obtain⟨k,U,S,fr,ok,gk,e,w⟩:=t;refine kz ?_;refine tS.bd ok gk e w λr S1 v k1 H1 bq g1 r1 e1 w1=>?_
 split at e1
 .cases e1;obtain⟨k2,u,cR,r2⟩:=VI (mu:=mu) bq r1;exact bK.now (bK.up w1 (u q)) cR ((g1.up (u q)).set r2 (by assumption))
 .cases e1
def VJ{x:Str}{pos':Pos}(hN:X.N.Nodup)(hi:X.N[i]?=some x)(hx:Loc X.env.scope x)(he:PE X e (tE K W q i8))(hs:swapsWith e (some (.Name x pos')) pos.line X.env=pure false)(hf:X.fn x=true\/X.env.scope.names.lookup x=some .local):
  PS X (.Assign [.Name x pos'] e pos) (tS K W q (ag i mu i8)):=(Vk hN hi hx he hs hf).mono λD Z H t=>Mb t
def aw(c:GT)(f:GS):Nat->GS
 |0=>λ_ _=>none
 |n+1=>λU S=>i7 U (c U S) λb S1=>if b=true then(f U S1).bind λr=>match r with
   |.nx U2 S2=>aw c f n U2 S2
   |.ct U2 S2=>aw c f n U2 S2
   |.bk U2 S2=>some (.nx U2 S2)
   |r=>some r
  else some (.nx U S1)
def n6(n:Nat)(hp:PassesOwn (mX X) X.A X.env X.xe)(hc:PT X c (tT K W q ft))(hb:ij X sa (tS K W q f)):PS X (.While c sa [] pos) (tS K W q (aw ft f n)):=(Qr hp hc hb).mono λD Z H t=>by
 obtain⟨k,U,S,fr,ok,gk,e,w⟩:=t;refine⟨λn Z H=>∃k U S,bO K k H S/\fw K k Z U/\aw ft f n U S=some fr/\Done K W q D k H fr,⟨n,k,U,S,ok,gk,e,w⟩,?_⟩
 clear ok gk e w;rintro n Z H ⟨k,U,S,ok,gk,e,w⟩;cases n with
 |zero=>cases e
 |succ n=>
  refine tS.bd ok gk e w λb S1 v k1 H1 bq g1 r1 e1 w1=>?_
  cases r1;cases b with
  |false=>cases e1;exact oO (bK.now w1 bq g1)
  |true=>
   refine oP ⟨λZ' H'=>∃k U S,bO K k H' S/\fw K k Z' U/\aw ft f n U S=some fr/\Done K W q D k H' fr,λZ' H' h=>⟨n,r9 _,h⟩,?_⟩
   obtain⟨r,e2,e3⟩:=cC.mp (show((f U S1).bind _)=some fr from e1);refine⟨k1,U,S1,r,bq,g1,e2,?_⟩;cases r with
   |nx U2 S2=>exact λZ' k' H' u fB g'=>⟨k',U2,S2,fB,g',e3,w1.up u⟩
   |ct U2 S2=>exact λZ' k' H' u fB g'=>⟨k',U2,S2,fB,g',e3,w1.up u⟩
   |bk U2 S2=>cases e3;exact w1
   |rt r S2=>cases e3;exact w1
   |ex C l U2 S2=>cases e3;exact w1
end
abbrev GG:=D->Gm->ah Gm
variable{gs:List GG}
noncomputable def ao(i:Nat):GG:=λd U=>if i<U.length then some (U.set i (some (.d d))) else none
noncomputable def l6:List GG->List D->Gm->ah Gm
 |[],[],U=>some U
 |g::gs,d::ds,U=>(g d U).bind λU1=>l6 gs ds U1
 |_,_,_=>none
def dX(gs:List GG):GG:=λd U=>match d with
 |.tup ds=>l6 gs ds U
 |_=>none
section
variable{K:aH}
def fI(K:aH)(t:TG)(g:GG):Prop:=
 ∀(k:Kn) (H:Hp) (Z:St) (U U1:Gm) (x:V) (d:D) (Q:St->Hp->Prop),ay k.F H->fw K k Z U->af K k [x] [d]->g d U=some U1->(∀Z',fw K k Z' U1->Q Z' H)->t x Z H Q
def lX(K:aH)(t:pO)(gs:List GG):Prop:=
 ∀(k:Kn) (H:Hp) (Z:St) (U U1:Gm) (xs:List V) (ds:List D) (Q:St->Hp->Prop),ay k.F H->fw K k Z U->af K k xs ds->l6 gs ds U=some U1->(∀Z',fw K k Z' U1->Q Z' H)->t xs Z H Q
def rO:fI K (l5 i) (ao i):=by
 intro k H Z U U1 x v Q le gk r e w;unfold ao at e;split at e
 .cases e;exact w _ (gk.set (v:=.d v) r (by assumption))
 .cases e
def rQ:lX K z5 []:=by
 intro k H Z U U1 xs vs Q le gk r e w;cases vs with
 |nil=>cases e;exact⟨r.eS,w Z gk⟩
 |cons _ _=>cases e
def pB{t:TG}{g:GG}(h1:fI K t g)(h2:lX K ts gs):lX K (s9 t ts) (g::gs):=by
 intro k H Z U U1 xs vs Q le gk r e w;cases vs with
 |nil=>cases e
 |cons d ds=>
  obtain⟨U2,e1,e2⟩:=cC.mp e;obtain⟨x,xs,rfl,r1,r2⟩:=r.cx;exact⟨_,_,rfl,h1 k H Z U U2 _ _ _ le gk r1 e1 λZ1 g1=>h2 k H Z1 U2 U1 _ _ Q le g1 r2 e2 w⟩
def Px:∀{gs:List GG} {vs:List D} {U U1:Gm},l6 gs vs U=some U1->vs.length=gs.length:=by
 intro gs
 induction gs with
 |nil=>intro vs U U1 e;cases vs with
  |nil=>rfl
  |cons _ _=>cases e
 |cons g gs ih=>intro vs U U1 e;cases vs with
  |nil=>cases e
  |cons v vs=>obtain⟨U2,_,e2⟩:=cC.mp e;exact congrArg (·+1) (ih e2)
def wq{n:Nat}(h:lX K ts gs)(hn:n=gs.length):fI K (ve K n ts) (dX gs):=by
 intro k H Z U U1 x d Q le gk r e w;cases d with
 |tup es=>
  obtain⟨a,ws,rfl,sq,rp⟩:=r.isTup;exact⟨a,ws,rfl,le.A8 sq,by rw[hn,<-Px e,rp.length],h k H Z U U1 _ _ Q le gk rp e w⟩
 |_=>cases e
end
def gD(g:GE):Gx D:=λU S=>bd (g U S) λr S1=>(i_ S1 (jA r)).map λp=>.ok p.1 p.2
abbrev RD(K:aH):Rp D V:=λk _ x d=>af K k [x] [d]
def oq(g:GE)(gg:GG):GS:=λU S=>i7 U (gD g U S) λd S1=>(gg d U).map λU1=>.nx U1 S1
section
variable{X:Cx}{K:aH}{W:XW}{q:Nat}{g:GE}{gg:GG}{t:TG}{e tg:Expr}{pos:Pos}
def Nl{Q:VK}(t:tX (RD K) K W q (gD g) Z H Q):tE K W q g Z H Q:=by
 obtain⟨k,U,S,res,ok,gk,e,w⟩:=t;refine tX.bd ok gk e w λr S1 x k1 H1 bq g1 r1 e1 w1 _=>?_
 obtain⟨p,e2,rfl⟩:=cS.mp e1;obtain⟨k2,u2,cR,r2⟩:=nX bq r1;obtain⟨k3,u3,iI,r3⟩:=EO cR r2 e2;exact((w1.up (u2 q)).up (u3 q)).now iI r3
def VL(he:PE X e (tE K W q g))(hg:PG X tg t)(ht:fI K t gg)(hs:swapsWithSole [tg] e pos.line X.env=pure false)(hw:swappedStores [tg] e X.env=pure none)(h1:(assignEach [tg] X.env).map (·.2)=[assign tg X.env]):PS X (.Assign [tg] e pos) (tS K W q (oq g gg)):=(L5 he hg hs hw h1).mono λD Z H t=>Nl (by
 refine kY λkz=>?_
 obtain⟨k,U,S,fr,ok,gk,e,w⟩:=t;refine kz ?_;refine tS.bd ok gk e w λd S1 x k1 H1 bq g1 r1 e1 w1=>?_
 obtain⟨U1,e2,rfl⟩:=cS.mp e1;exact ht k1 H1 Z U U1 x d _ bq.le g1 r1 e2 λZ' g'=>bK.now w1 bq g')
end
variable{N:List Str}{n p:Nat}{m:GS}
noncomputable def ba.cut(S:ba)(b:Nat):ba:=⟨S.s.take b,S.r⟩
noncomputable def zE:Cell->ah Rv
 |.o x=>some (.o x)
 |.z x=>some (.v (.d x.d))
 |_=>none
def back(b:Nat)(S:ba):Rv->ah Rv
 |.v (.c n)=>if n<b then some (.v (.c n)) else(S.s[n]?).bind zE
 |r=>some r
def leave(b:Nat):Fr->ah (Rs Rv)
 |.nx _ S=>some (.ok (.v (.d .aR)) (S.cut b))
 |.rt r S=>(back b S r).map λr'=>.ok r' (S.cut b)
 |.ex C l _ S=>some (.ex C l (S.cut b))
 |_=>none
def runM(p n:Nat)(m:GS):GM:=λvs S=>if vs.length=p then(m (vs.map some++List.replicate (n - vs.length) none) S).bind (leave S.s.length) else none
section
variable{K:aH}{k k':Kn}{H H':Hp}{S:ba}{q b:Nat}
def Su{v:V}{r r':Rv}(ok:bO K k H S)(h:lr K k H v r)(e:back b S r=some r'):lr K ⟨k.F,k.A,k.T.take b⟩ H v r':=by
 have go:k.le ⟨k.F,k.A,k.T.take b⟩:=⟨ay.refl _,iX _⟩;cases r with
 |o c=>
  cases e;obtain⟨a,e1,e2,e3,e4⟩:=h;exact⟨a,e1,e2,λm=>e3 ((dD.mp m).elim (t_ _) λm=>m7 _ (List.mem_of_mem_take m)),e4.keep go λ_ z=>z⟩
 |v x=>
  cases x with
  |d y=>cases e;exact af.mono go h
  |c n=>
   obtain⟨a,e1,e2⟩:=h;unfold back at e;dsimp only at e;split at e
   .rename_i hn
    cases e;exact⟨a,e1,by rw[List.getElem?_take,aU hn];exact e2⟩
   .rename_i hn
    obtain⟨c,h1,h2⟩:=cC.mp e;have h3:=ok.s.at' n a c e2 h1;cases c with
    |ins _ _=>cases h2
    |z x=>cases h2;rw[e1];exact af.mono go h3.2
    |o x=>
     cases h2;obtain⟨n1,n2,n3⟩:=k8.mp ok.nd;refine⟨a,e1,h3.1,λm=>?_,h3.2.keep go λ_ z=>z⟩
     rcases dD.mp m with m|m
     .exact n3 a m a (kg e2) rfl
     .obtain⟨j,hj⟩:=DT.mp m;rw[List.getElem?_take] at hj;split at hj
      .rename_i xZ
       have:=Es n2 hj e2;lia
      .cases hj
def Py{xs:List V}{vs:List Val}(h:Paired (de K k) xs vs)(hn:N.length=n):fw K k (start N xs) (vs.map some++List.replicate (n - vs.length) none):=by
 have hl:=Paired.length h;refine⟨by unfold start;simp[hl,hn],λi v e=>?_⟩
 by_cases hi:i<vs.length
 .rw[gj (by rw[aW];exact hi),gn] at e
  obtain⟨w,e1,e2⟩:=cS.mp e;cases e2;obtain⟨x,h1,h2⟩:=B5 i h e1;refine⟨x,?_,h2⟩;unfold start;rw[gj (by rw[aW,hl];exact hi),gn,h1]
  rfl
 .rw[gE (by rw[aW];lia),Iu] at e
  split at e <;> cases e
end
section
variable{P:cL}{w:bX}{K:aH}{mg:Str->ah ai}{base:bJ}
def VM{x qual:Str}{st:Stmt}{f:aj}{fd:jF}{ps:List Str}{k q:Nat}(F:sg K x qual st f fd)(S:fG N ps (mJ st))(hp:ps.length=p)(hn:N.length=n)
  (ou:∀(eF:ai) (A:cy) (outer:List Env) (s:au) (H:Hp) (E:XK),cN k (A.deeper (envOfC qual (mJ st) s.heap.objs.size f eF))->ij (jO (lT P w) P w K mg base N qual (mJ st) f eF A outer s H E) (uA st) (tS K (WF E) q m)) :
  eV P w K mg base (lT P w) (k+1) f fd ps (yH K q p (runM p n m)):=by
 refine kY λkz=>?_
 obtain⟨oc,od,kV,doc,pm,an,eF,ct,mf,rfl,lk,oz⟩:=F.ex;refine kz ?_;refine Xp lk oz S (λvs H Q E h=>h.1.trans hp.symm) λA outer s H xs Q E hr tu=>⟨_,ou eF A outer s H E hr,?_⟩
 refine kY λkz=>?_
 obtain⟨hl,k,vs,S,res,ok,rp,e,w⟩:=tu;unfold runM at e;refine kz ?_;split at e
 .obtain⟨fr,e1,e2⟩:=cC.mp e;refine⟨k,_,S,fr,ok,Py rp hn,e1,?_⟩;have lb:k.T.length<=S.s.length:=DQ ok.s.ln;cases fr with
  |nx U S'=>
   cases e2;exact λZ' k' H' u fB g'=>w .aR _ H' (u.take lb) (fB.take _) (show af K _ [.aR] [.aR] from .flat rfl .nil)
  |bk U S'=>cases e2
  |ct U S'=>cases e2
  |rt r S'=>
   obtain⟨r',e3,rfl⟩:=cS.mp e2;exact λv k' H' u fB r1=>w v _ H' (u.take lb) (fB.take _) (Su fB r1 e3)
  |ex C l U S'=>
   cases e2;exact λdx Z' k' H' u fB g' el=>w dx _ H' (u.take lb) (fB.take _) el
 .cases e
def mZ:nK (runM p n m) p:=λvs S res e=>by
 unfold runM at e;split at e
 .assumption
 .cases e
end
section
variable{prog:cL}{w:bX}{A:cy}{E:ai->au->Prop}{h:bJ}{g:Array GenState}{d:Drawn}{t:Nat}{os:OsState}
variable{nm q:Str}{C N:aj}{bs bm uQ:List ai}{hdct:Bool}{sn:List Str}{sub:List ai}{ab:Bool}{col:ah Bool}{dd:ah aj}{k0 k1 k2 k3 k5:ah ai}{B Bn newId NT jU NM:String}{Lw:List ai}
def Bi(Fn:ExcBaseFacts Bn newId NM Lw)(Dh:uQ.contains (.type Bn)=true)(F:ExcBaseFacts B NT jU uQ)(T:OwnTail h uQ bm){mN:Str->ah ai}{rest:List ai}{Q:Fin->au->Prop}
  (hC:h.get? C=some (excClassObj nm q C N bs bm hdct sn sub ab col dd k0 k1 k2 k3 k5 newId)) (hn:h.Ns N mN) (oI:rest.length<=sizeLine)
  (hq:∀i,i=(mN "__init__").getD (.builtin jU)->wpAny (model prog w) A (bindSpecial i (.ref (h.objs.size+1))) (λp s'=>wpAny (model prog w) A (call p.1 (p.2++rest)) (λr pj=>r=.none/\Q (.done (.ret (.ref (h.objs.size+1)))) pj) E s') E ⟨((h.push { cls:=.type "tuple",data:=.seq rest.toArray}).push { cls:=.ref C,data:=.fields #[.ref h.objs.size,.none,.none,.none,.bool false,.none]}),g,d,t,os⟩) :
  wpAny (model prog w) A (Builtin.«type.__call__» ⟨.ref C::rest,[]⟩) Q E ⟨h,g,d,t,os⟩:=by
 repeat (first|with_reducible refine wpAny_loadPart_at hC ?_|with_reducible refine wpAny_madeBy_exc hC ?_|wp_step)
 refine codeAny_call_builtin_code (Code.quiet_builtin _ Fn.quiet) (wpAny_check_new_subU Fn Dh T hC (codeAny_exc_new_subU Fn Dh F T hC ?_ oI));show wpAny _ _ _ _ _ _;have st:∀b o,h.get? b=some o->((h.push { cls:=.type "tuple",data:=.seq rest.toArray}).push { cls:=.ref C,data:=.fields #[.ref h.objs.size,.none,.none,.none,.bool false,.none]}).get? b=some o:=λb o e=>dU _ (dU _ e)
 have hC₁:=st _ _ hC;have vj:((h.push { cls:=.type "tuple",data:=.seq rest.toArray}).push { cls:=.ref C,data:=.fields #[.ref h.objs.size,.none,.none,.none,.bool false,.none]}).get? (h.objs.size+1)=some { cls:=.ref C,data:=.fields #[.ref h.objs.size,.none,.none,.none,.bool false,.none]}:=by heap_get
 have Gj:(Value.ref C::bm).contains (.ref C)=true:=by simp
 unfold isInstance
 repeat (first|with_reducible refine wpAny_loadPart_at vj ?_|(with_reducible refine wpAny_isSubtype_exc hC₁ ?_;rw[Gj])|wp_step)
 show wpAny _ _ (typeLookup (.ref C) _) _ _ _;refine wpAny_typeLookup_tail hC₁ (hn.keeps st) (T.keeps st) F.mroIs F.init.lookup ?_;cases hv:mN "__init__" with
 |none=>
  refine jH (aE (wpAny_mono (hq _ (by rw[hv];rfl)) (λp s' z=>aE (wpAny_mono z (λr pj y=>?_) λ_ _ y=>y)) λ_ _ y=>y))
  obtain⟨rfl,y⟩:=y
  wp_walk
  exact y
 |some v=>
  refine jH (aE (wpAny_mono (hq _ (by rw[hv];rfl)) (λp s' z=>aE (wpAny_mono z (λr pj y=>?_) λ_ _ y=>y)) λ_ _ y=>y))
  obtain⟨rfl,y⟩:=y
  wp_walk
  exact y
def QH(Fn:ExcBaseFacts Bn newId NM Lw)(Dh:uQ.contains (.type Bn)=true)(F:ExcBaseFacts B NT jU uQ)(T:OwnTail h uQ bm){mN:Str->ah ai}{rest:List ai}{Q:ai->au->Prop}
  (hC:h.get? C=some (excClassObj nm q C N bs bm hdct sn sub ab col dd k0 k1 k2 k3 k5 newId)) (hn:h.Ns N mN) (oI:rest.length<=sizeLine)
  (hq:∀i,i=(mN "__init__").getD (.builtin jU)->wpAny (model prog w) (A.under (.builtin "type.__call__" ⟨.ref C::rest,[]⟩)) (bindSpecial i (.ref (h.objs.size+1))) (λp s'=>wpAny (model prog w) (A.under (.builtin "type.__call__" ⟨.ref C::rest,[]⟩)) (call p.1 (p.2++rest)) (λr pj=>r=.none/\Q (.ref (h.objs.size+1)) pj) E s') E ⟨((h.push { cls:=.type "tuple",data:=.seq rest.toArray}).push { cls:=.ref C,data:=.fields #[.ref h.objs.size,.none,.none,.none,.bool false,.none]}),g,d,t,os⟩) :
  wpAny (model prog w) A (call (.ref C) rest) Q E ⟨h,g,d,t,os⟩:=by
 have f1:=tc_lookup;have f2:=tc_bind (.ref C);have hT:(⟨h,g,d,t,os⟩:au).TypeIs (.ref C) "type":=⟨_,hC,rfl⟩;refine wpAny_call (codeAny_of_tree (show wpAny _ _ (callAny (.ref C) _) _ _ _ from ?_))
 repeat (any_goals (first|assumption|with_reducible refine wpAny_loadPart_at hC ?_|wp_step))
 exact⟨rfl,codeAny_call_builtin_at (Code.quiet_builtin _ (by decide +kernel)) entry_typeCall (wpAny_check_type_call_sub hC (Bi Fn Dh F T hC hn oI λi e=>hq i e))⟩
end
end L2
namespace L2
open PySem PySem.Spec PySem.W PySem.Calls PyProof.Rows
noncomputable def oi(C t:aj)(d:ah aj):Obj:={ cls:=.ref C,dict:=d,data:=.fields #[.ref t,.none,.none,.none,.bool false,.none]}
section
variable{prog:cL}{w:bX}{A:cy}{E:ai->au->Prop}{h:bJ}{g:Array GenState}{d:Drawn}{tt:Nat}{os:OsState}{x t:aj}
variable{nm q:Str}{C N:aj}{bs bm uQ:List ai}{hdct:Bool}{sn:List Str}{sub:List ai}{ab:Bool}{col:ah Bool}{dd:ah aj}{k0 k1 k2 k3 k5:ah ai}{newId:String}
def Bq{u:ai}{Q:ai->au->Prop}(T:OwnTail h [.type "ValueError",.type "Exception",.type "BaseException",.type "object"] bm)(hC:h.get? C=some (excClassObj nm q C N bs bm hdct sn sub ab col dd k0 k1 k2 k3 k5 newId))(hx:h.get? x=some (oi C t none))
  (hq:∀h',h'.get? x=some (oi C h.objs.size none)->(∀b o,b≠x->h.get? b=some o->h'.get? b=some o)->Q .none ⟨h',g,d,tt,os⟩) :
  wpAny (model prog w) A (call (.builtin "ValueError.__init__") [.ref x,u]) Q E ⟨h,g,d,tt,os⟩:=by
 have FB:=F.excBase_ValueError;have vv:h.get? x=some { cls:=.ref C,data:=.fields #[.ref t,.none,.none,.none,.bool false,.none]}:=hx;refine wpAny_call (codeAny_call_builtin FB.init.plain FB.initEntry (wpAny_check_init_subU FB T hC vv rfl ?_))
 wp_walk
 refine hq _ ?_ λb o n e=>?_
 .rw[nu _ (dU _ vv) rfl];rfl
 .rw[ny _ _ (Ne.symm n)];exact dU _ e
end
noncomputable abbrev pV:List ai:=[.type "ValueError",.type "Exception",.type "BaseException",.type "object"]
def km(K:eU)(C:aj)(bm:List ai)(Dv:ah ai):Prop:=∃nm q N bs sn sub ab col dd k0 k1 k2 k3 k5 on AM es ep A6,
 K.lookup C=some (excClassObj nm q C N bs bm true sn sub ab col dd k0 k1 k2 k3 k5 "ValueError.__new__")/\K.lookup N=some ⟨on,AM,.dict es ep,A6⟩/\StrKeys es/\nsFind es "__init__"=Dv
section
variable{X:Cx}{ae:List (aj×Obj)}{Z:St}{H:Hp}{s:au}{C B0:aj}{R:ai->au->Prop}
def QI{u:ai}(G:km X.K C (.ref B0::pV) none)(G0:km X.K B0 pV none)(I:Inv X ae Z H s)(h:∀h' t,(∀b o,s.heap.get? b=some o->h'.get? b=some o)->h'.get? (s.heap.objs.size+1)=some (oi C t none)->R (.ref (s.heap.objs.size+1)) { s with heap:=h'}):
  wpAny (mX X) X.A (call (.ref C) [u]) R X.xe s:=by
 refine kY λkz=>?_
 obtain⟨hh,g,d,tt,os⟩:=s;have KX:X.K.In hh:=I.lG;obtain⟨nm,q,N,bs,sn,sub,ab,col,dd,k0,k1,k2,k3,k5,on,AM,es,ep,A6,g1,g2,g3,g4⟩:=G;obtain⟨nm',q',N',kx,sn',sub',ab',col',dd',k0',k1',k2',k3',k5',on',odn',es',mK,sln',Yn,Yo,Yp,Yq⟩:=G0;have FB:=F.excBase_ValueError;have T:OwnTail hh pV (.ref B0::pV):=.own (KX _ _ Yn) (mA:=λn=>nsFind es' n) ⟨_,_,_,KX _ _ Yo,rfl,Yp,λ_=>rfl⟩ Yq .base
 refine kz ?_;refine QH FB rfl FB T (KX _ _ g1) (mN:=λn=>nsFind es n) ⟨_,_,_,KX _ _ g2,rfl,g3,λ_=>rfl⟩ (by rw[sizeLine_eq];exact(by decide:1<=16777216)) λi ei=>?_
 rw[g4] at ei;subst ei;have st:∀b o,hh.get? b=some o->((hh.push { cls:=.type "tuple",data:=.seq [u].toArray}).push { cls:=.ref C,data:=.fields #[.ref hh.objs.size,.none,.none,.none,.bool false,.none]}).get? b=some o:=λb o e=>dU _ (dU _ e)
 have vj:((hh.push { cls:=.type "tuple",data:=.seq [u].toArray}).push { cls:=.ref C,data:=.fields #[.ref hh.objs.size,.none,.none,.none,.bool false,.none]}).get? (hh.objs.size+1)=some (oi C hh.objs.size none):=by unfold oi;heap_get
 refine wpAny_of_eq (FB.init.bind _) (Bq (T.keeps st) (st _ _ (KX _ _ g1)) vj λh' e1 e2=>?_)
 exact⟨rfl,h h' _ (λb o z=>e2 b o (iP (Bw (cQ z))) (st b o z)) e1⟩
end
end L2
namespace L2
open PySem PySem.Spec PyProof.Rows
variable{P:cL}{w:bX}{K:aH}{tg l:Expr}{X:Cx}{ta:TA}{p:Pos}{Q:ah ai->au->Prop}{n t' x1:Nat}{ob:Obj}{L:List aj}{elts:List Expr}{it:aj}
def nC(K:aH)(a:aj)(n:Nat):It:=
 ⟨λi H=>i<n/\∃xs,cI K H a xs/\xs.length=n,λi H x H'=>H'=H/\∀xs,cI K H a xs->xs[n - 1 - i]?=some x,λi H=>n<=i⟩
def QJ(a it:aj)(n:Nat):Turn P w K tg (nC K a n) [it] it (λi h=>i<=n/\h.IsRevIter it a ((n:Int) - 1 - i)) where
 mem:=by simp
 obj:=λi h st b hb=>by
  have e:b=it:=by simpa using hb
  subst e;obtain⟨_,o,e,c,d⟩:=st
  simp_all
 keep:=λi h h' st k=>⟨st.1,st.2.at λo e=>k it (by simp) o e⟩
 item:=by
  intro X hP hw hK hc i ae s Z H E I hf st hg;subst hP hw hK;refine kY λkz=>?_
  obtain⟨hi,xs,hq,hx⟩:=hg;obtain⟨aA,rv,p,hz⟩:=I.list hq;have vv:xs[n - 1 - i]?=some xs[n - 1 - i]:=gp (by lia)
  obtain⟨u,hu,ru⟩:=rv.get vv;obtain⟨f0,f1,f2,f3,f4,f5⟩:=hf it (by simp)
  have nt:s.heap.IsRevIter it a (((n - 1 - i:Nat):Int)):=by
   lia
  refine kz ?_;refine wpAny_pyNext_rev_item nt p.isList (x:=u) (by simpa using hu) λh' kW sb=>?_
  have I1:Inv X ae Z H { s with heap:=h'}:=I.turned (t':=s.toks) (λb o hb e=>(sb.2 b hb).trans e) f0 f1 f3 f4 f5
  obtain⟨o,e,c,d⟩:=id kW;refine⟨u,rfl,xJ (s:={ s with heap:=h'}) e c d (by decide) ⟨_,H,I1,ru,⟨rfl,λys hy=>by rw[I.iG hy hq];exact vv⟩,⟨by lia,?_⟩,λb hb=>(hf b hb).1⟩⟩
  grind
 done:=by
  intro X hP hw hK hc i ae s Z H E I hf st hg;subst hP hw hK;refine kY λkz=>?_
  obtain⟨f0,f1,f2,f3,f4,f5⟩:=hf it (by simp)
  have hg:n<=i:=hg;have nt:s.heap.IsRevIter it a (-1):=by
   grind
  refine kz ?_;exact wpAny_pyNext_rev_end (I.ok.hd hc) nt λh' eb=>⟨rfl,I.turned (t':=s.toks) (λb o hb e=>eb b o hb e) f0 f1 f3 f4 f5⟩
 self:=λ_ _ _ _ _ st h=>wpAny_pyIter_revIter st.2 h
def Ar(K:aH)(ta:TA):TI:=λZ H R=>ta Z H λvs H1=>∃a xs,vs=[.ref a]/\cI K H1 a xs/\R (nC K a xs.length) H1
def VN{pos:Pos}(hg:Gl X "reversed")(hm:X.mg "reversed"=none)(ha:PA X [l] ta)(hs:starEach [l] X.env=[(false,eval l X.env)]:=by rfl):PI X tg (.Call (.Name "reversed" p) [l] [] pos) (Ar X.K ta):=by
 intro ae s Z H R I h;refine Call_ (qD I hg hm boot_reversed (PyProof.Rows.callWith_type1 (bz (ha pos ae s Z H _ I h) λus s1 hh=>?_) hs rfl))
 obtain⟨vs,H1,I1,r1,q1⟩:=hh;obtain⟨a,xs,e,hq,q⟩:=q1;subst e;cases r1 with
 |cons r rr=>
  cases rr;cases r;obtain⟨aA,rv,pl,hz⟩:=I1.list hq;have hl:=rv.length;refine call_reversed_list pl.isList ?_;have st:(s1.heap.push (revObj a ((aA.toArray.size:Int) - 1))).IsRevIter s1.heap.objs.size a ((aA.toArray.size:Int) - 1):=⟨_,jD _ rfl,rfl,rfl⟩;refine wpAny_pyIter_revIter st ?_;refine⟨s1.heap.objs.size,[s1.heap.objs.size],_,_,H1,rfl,I1.kept (t':=s1.toks) λb o e=>dU _ e,QJ a _ xs.length,⟨k7 _,?_⟩,λb hb=>?_,q⟩
  .simp_all
  .have e:b=s1.heap.objs.size:=by simpa using hb
   subst e;exact I1.lB (bC _) (I1.bL.fresh (bC _))
section
variable{X:Cx}{ae:List (aj×Obj)}{Z:St}{H:Hp}{A:cy}{E:ai->au->Prop}{s:au}{d it:aj}{es:List (TK×V×V)}{ep i:Nat}
theorem J7{Q:ai->au->Prop}(I:Inv X ae Z H s)(hd:H d=some (.dG es ep))
  (hQ:Q (.ref s.heap.objs.size) { s with heap:=s.heap.push { cls:=.type "dict_keyiterator",data:=.fields #[.ref d,.int 0 0,.int es.length 0,.int ep 0]}}):wpAny (mX X) A (pyIter (.ref d)) Q E s:=by
 obtain⟨_,z,ob,xs,g1,g5,g2,g3,g4⟩:=(jP I hd);have hT:s.TypeIs (.ref d) "dict":=⟨ob,g1,g5.1⟩;have hl:xs.size=es.length:=by have:=Paired.length g3;simpa using this.symm
 refine wpAny_pyIter_slot hT F.slot_dict_iter (wpAny_call_entry F.slot_dict_iter hT F.entry_dict_iter ?_ (F.args_dict_iter_1 _));unfold Builtin.«dict.__iter__»;refine aE ?_;unfold Builtin.Dict.dictSlotNone;refine aE (wpAny_notOrdered_dict hT (show wpAny _ _ (pure (Value.ref d)) _ _ s from a_ (show wpAny _ _ (Builtin.Dict.showsAll d >>= _) _ _ s from ?_)));unfold Builtin.Dict.showsAll;rw[aO (by rw[z];exact qi)]
 refine aE (a_ (aE (wpAny_dictEntries g1 g2 (aE (wpAny_dictEpoch g1 g2 ?_)))));refine aE (wpAny_newObj_type (a_ ⟨_,rfl,"dict_keyiterator",_,⟨_,jD _ rfl,rfl⟩,F.slot_dict_keyiterator_next.lookup,?_⟩));simpa[rawInt,hl] using hQ
theorem Jh{xs:Array DictEntry}(g1:s.heap.get? d=some ob)(g2:ob.data=.dict xs ep)(hl:xs.size=n)(hit:s.heap.IsKeyIter it d i n ep)(lt':i<xs.size)
  (hQ:∀h',h'.IsKeyIter it d (i+1) n ep->Heap.SameBut it s.heap h'->Q (some xs[i].key) { s with heap:=h'}):wpAny (model P w) A (pyNext (.ref it)) Q E s:=by
 obtain⟨o,k1,k2,k3⟩:=id hit;unfold pyNext;refine aE (wpAny_attempt (wpAny_callSpecial?_slot (name:=Str.ofString "__next__") hit.typeIs F.slot_dict_keyiterator_next (wpAny_call_entry F.slot_dict_keyiterator_next hit.typeIs F.entry_dict_keyiterator_next (aE (a_ (aE (aE ?_)))) (F.args_dict_keyiterator_next_1 _))))
 (first|refine aE (wpAny_typeNameOfWhole_keyiter hit.typeIs (a_ ?_))|refine aE (wpAny_typeNameOf_keyiter hit.typeIs (a_ ?_)));refine aE (wpAny_fieldsOf k1 k3 ?_)
 have vR:Builtin.Dict_items.ownsTuple "dict_keyiterator"=false:=by decide
 rw[vR]
 (show wpAny _ _ (if(Value.ref d == Value.none)=true then _ else _) _ _ s);rw[aO (show ¬((Value.ref d == Value.none)=true) from qi)]
 refine aE (a_ (aE (wpAny_dictEntries g1 g2 ?_)));rw[aO (by rw[hl];simp)]
 refine aE (a_ (aE (wpAny_dictEpoch g1 g2 ?_)));rw[aO (by simp)]
 refine a_ ?_;dsimp only;rw[aO (show ¬((i:Int)<0) by lia),Int.toNat_natCast,pF lt']
 refine aE ?_
 (first|refine aE (wpAny_typeNameOfWhole_keyiter hit.typeIs (a_ ?_))|refine aE (wpAny_typeNameOf_keyiter hit.typeIs (a_ ?_)));refine aE (wpAny_isOneOf_keyiter hit.typeIs ?_)
 (show wpAny _ _ (setField (.ref it) 1 (rawInt ((i:Int)+1)) >>= _) _ _ s);refine aE (wpAny_setField k1 k3 (by simp) ?_)
 have Af:(s.heap.update it (Obj.mapFields (·.setIfInBounds 1 (rawInt ((i:Int)+1))))).IsKeyIter it d (i+1) n ep:=
  ⟨_,nu _ k1 (Obj.isFreed_of_fields (Obj.data_mapFields k3 _)),(Obj.cls_mapFields ..).trans k2,by rw[Obj.data_mapFields k3];simp[rawInt]⟩
 refine aE (jH (aE (wpAny_isOneOf_keyiter (s:={ s with heap:=s.heap.update it (Obj.mapFields (·.setIfInBounds 1 (rawInt ((i:Int)+1))))}) Af.typeIs ?_)))
 show wpAny _ _ (pure xs[i].key) _ _ _;exact a_ (a_ ⟨_,rfl,a_ (hQ _ Af (Heap.SameBut.update ..))⟩)
def OY(I:Inv X ae Z H s)(hd:H d=some (.dG es ep))(hit:s.heap.IsKeyIter it d i es.length ep){e:TK×V×V}(hx:es[i]?=some e)
  (hQ:∀key h',RelV e.2.1 key->h'.IsKeyIter it d (i+1) es.length ep->Heap.SameBut it s.heap h'->Q (some key) { s with heap:=h'}):wpAny (mX X) A (pyNext (.ref it)) Q E s:=by
 refine kY λkz=>?_
 obtain⟨_,z,ob,xs,g1,g5,g2,g3,g4⟩:=(jP I hd);have hl:xs.size=es.length:=by have:=Paired.length g3;simpa using this.symm
 obtain⟨x,x1,x2⟩:=yZ i g3 hx;have lt':i<xs.size:=by
  grind
 have ex:xs[i]=x:=by
  have:xs[i]?=some x:=by rw[<-uc];exact x1
  rw[pF lt'] at this;exact Option.some.inj this
 refine kz ?_;exact Jh g1 g2 hl hit lt' λh' AA sb=>hQ _ h' (by rw[ex];exact x2.2.1) AA sb
theorem JA{xs:Array DictEntry}(hh:A.handled=none)(g1:s.heap.get? d=some ob)(g2:ob.data=.dict xs ep)(hl:xs.size=n)(hit:s.heap.IsKeyIter it d i n ep)(hx:n<=i)
  (hQ:∀h',Heap.ExtBut it s.heap h'->Q none { s with heap:=h'}):wpAny (model P w) A (pyNext (.ref it)) Q E s:=by
 obtain⟨o,k1,k2,k3⟩:=id hit;unfold pyNext;refine aE (wpAny_attempt (wpAny_callSpecial?_slot (name:=Str.ofString "__next__") hit.typeIs F.slot_dict_keyiterator_next (wpAny_call_entry F.slot_dict_keyiterator_next hit.typeIs F.entry_dict_keyiterator_next (aE (a_ (aE (aE ?_)))) (F.args_dict_keyiterator_next_1 _))))
 (first|refine aE (wpAny_typeNameOfWhole_keyiter hit.typeIs (a_ ?_))|refine aE (wpAny_typeNameOf_keyiter hit.typeIs (a_ ?_)));refine aE (wpAny_fieldsOf k1 k3 ?_)
 have vR:Builtin.Dict_items.ownsTuple "dict_keyiterator"=false:=by decide
 rw[vR]
 (show wpAny _ _ (if(Value.ref d == Value.none)=true then _ else _) _ _ s);rw[aO (show ¬((Value.ref d == Value.none)=true) from qi)]
 refine aE (a_ (aE (wpAny_dictEntries g1 g2 ?_)));rw[aO (by rw[hl];simp)]
 refine aE (a_ (aE (wpAny_dictEpoch g1 g2 ?_)));rw[aO (by simp)]
 refine a_ ?_;have YQ:xs.size<=i:=by lia
 dsimp only;rw[aO (show ¬((i:Int)<0) by lia),Int.toNat_natCast,Array.getElem?_eq_none YQ]
 refine aE ?_
 (first|refine aE (wpAny_typeNameOfWhole_keyiter hit.typeIs (a_ ?_))|refine aE (wpAny_typeNameOf_keyiter hit.typeIs (a_ ?_)));(show wpAny _ _ (setField (.ref it) 0 .none >>= _) _ _ s);refine aE (wpAny_setField k1 k3 (by simp) ?_)
 (show wpAny _ _ (newExc (.type "StopIteration") [] >>= _) _ _ _);refine aE ?_
 simp only[newExc,newTuple];refine aE (wpAny_newObj_type (aE (m:=firstArgMember _ _) (wpAny_of_eq (a:=Value.none) (by first|rfl|(simp only[firstArgMember];rfl)) (wpAny_newObj_type ?_ (by size_fits)))) (by size_fits))
 refine aE (wpAny_handled ?_);rw[show A.in1.handled=none from hh]
 (refine aE (a_ (wpAny_throw ?_)));refine aE (wpAny_isInstance (T:="StopIteration") (b:=true) ⟨_,jD _ rfl,rfl⟩ isSubtype_stop ?_)
 exact a_ (hQ _ (((Heap.SameBut.update ..).extBut.push _).push _))
def Pz(hh:A.handled=none)(I:Inv X ae Z H s)(hd:H d=some (.dG es ep))(hit:s.heap.IsKeyIter it d i es.length ep)(hx:es.length<=i)
  (hQ:∀h',Heap.ExtBut it s.heap h'->Q none { s with heap:=h'}):wpAny (mX X) A (pyNext (.ref it)) Q E s:=by
 obtain⟨_,z,ob,xs,g1,g5,g2,g3,g4⟩:=(jP I hd);exact JA hh g1 g2 (by have:=Paired.length g3;simpa using this.symm) hit hx hQ
end
def DW(a:aj)(n ep:Nat):It:=
 ⟨λi H=>∃es,H a=some (.dG es ep)/\es.length=n/\i<n,λi H x H'=>H'=H/\∀es,H a=some (.dG es ep)->∃e,es[i]?=some e/\e.2.1=x,λi H=>∃es,H a=some (.dG es ep)/\es.length=n/\n<=i⟩
def PB(a it:aj)(n ep:Nat):Turn P w K tg (DW a n ep) [it] it (λi h=>h.IsKeyIter it a i n ep) where
 mem:=by simp
 obj:=λi h st b hb=>by
  have e:b=it:=by simpa using hb
  subst e;obtain⟨o,e,c,d⟩:=st
  simp_all
 keep:=λi h h' st k=>st.at λo e=>k it (by simp) o e
 item:=by
  intro X hP hw hK hc i ae s Z H E I hf st hg;subst hP hw hK;obtain⟨es,hd,hl,hi⟩:=hg;subst hl;obtain⟨f0,f1,f2,f3,f4,f5⟩:=hf it (by simp)
  refine OY I hd st (e:=es[i]) (gp hi) λkey h' rk kW sb=>?_
  have I1:Inv X ae Z H { s with heap:=h'}:=I.turned (t':=s.toks) (λb o hb e=>(sb.2 b hb).trans e) f0 f1 f3 f4 f5
  obtain⟨o,e,c,d⟩:=id kW;refine⟨key,rfl,xJ (s:={ s with heap:=h'}) e c d (by decide) ⟨es[i].2.1,H,I1,rk,⟨rfl,λys hy=>?_⟩,kW,λb hb=>(hf b hb).1⟩⟩
  simp_all
 done:=by
  intro X hP hw hK hc i ae s Z H E I hf st hg;subst hP hw hK;obtain⟨es,hd,hl,hi⟩:=hg;subst hl;obtain⟨f0,f1,f2,f3,f4,f5⟩:=hf it (by simp)
  exact Pz (I.ok.hd hc) I hd st hi λh' eb=>⟨rfl,I.turned (t':=s.toks) (λb o hb e=>eb b o hb e) f0 f1 f3 f4 f5⟩
 self:=λ_ _ _ _ _ st h=>wpAny_pyIter_keyiter st h
def tD(tl:TE):TI:=λZ H R=>tl Z H λx H1=>∃a es ep,x=.ref a/\H1 a=some (.dG es ep)/\R (DW a es.length ep) H1
def Sv{tl:TE}(hl:PE X l tl):PI X tg l (tD tl):=by
 intro ae s Z H R I h;refine bz (hl ae s Z H _ I h) λv s1 hh=>?_
 refine kY λkz=>?_
 obtain⟨x,H1,I1,r1,q1⟩:=hh;obtain⟨a,es,ep,e,hd,q⟩:=q1;subst e;cases r1;refine kz ?_;refine J7 I1 hd ?_;refine⟨s1.heap.objs.size,[s1.heap.objs.size],_,_,H1,rfl,I1.kept (t':=s1.toks) λb o e=>dU _ e,PB a _ _ _,⟨_,jD _ rfl,rfl,rfl⟩,λb hb=>?_,q⟩
 have e:b=s1.heap.objs.size:=by simpa using hb
 subst e;exact I1.lB (bC _) (I1.bL.fresh (bC _))
def Ft{w1 w2:TI}(h1:PI X tg l w1)(h2:PI X tg l w2):PI X tg l (λZ H R=>w1 Z H R\/w2 Z H R):=by
 intro ae s Z H R I h;rcases h with h|h
 .exact h1 ae s Z H R I h
 .exact h2 ae s Z H R I h
open PySem PySem.Spec PyProof.Rows
section
variable{X:Cx}{ae:List (aj×Obj)}{Z:List (ah V)}{H:Hp}{s:au}{h':bJ}
def Inv.rV{T:aj}{o:HO}(I:Inv X ae Z H s)(k:∀b ob,b∉L->s.heap.get? b=some ob->h'.get? b=some ob)(hL:∀b∈L,gH X ae H b)(hT:s.heap.objs.size<=T)
  (new:cu X.prog X.w (upd H T o) h' T o):Inv X ae Z (upd H T o) { s with heap:=h',toks:=t'}:=by
 have hn:H T=none:=I.bL.fresh hT;have nL:∀b u,H b=some u->b∉L:=λb u e z=>by rw[(hL b z).1] at e;cases e
 have nT:∀b u,H b=some u->b≠T:=λb u e z=>by rw[z,hn] at e;cases e
 refine I.step (g':=s.gens) (d':=s.drawn) (ch:=L) (λb hb=>?_) (λb ob _ _ hc e _=>k b ob hc e) (λb ob _ _ hc e _=>⟨ob.slots,k b ob hc e⟩) (λb ob _ e n=>?_)
  (λb ob hc e=>⟨ob,k b ob hc e⟩) (λb xs e=>?_) (λb ob u e=>?_) (λb ps e=>⟨#[],?_⟩) (λm hm=>?_) (λb u e=>?_) I.bare
 .obtain⟨f0,f1,f2,f3,f4,f5⟩:=hL b hb;exact⟨f3,f1,f4,f5⟩
 .rw[dj (λz=>by subst z;exact bG (eO (cQ e) hT) (jl _))];exact n
 .rw[dj (nT b _ e)];exact e
 .rw[dj (nT b _ e)];exact e
 .rw[dj (nT b _ e),e];simp
 .obtain⟨ob,es,ep,ho,r⟩:=hm;exact⟨ob,es,ep,k _ ob (λz=>(hL _ z).2.1 rfl) ho,r⟩
 .by_cases hb:b=T
  .grind [aN]
  .rw[dj hb] at e;refine(I.bL b u e).j8 (λc v hc q=>k c v ?_ q) (λc q=>by rw[dj (nT c _ q)];exact q) λc xs q=>by rw[dj (nT c _ q)];exact q
   grind
def Inv.Bk(I:Inv X ae Z H s)(k:∀b ob,b∉L->s.heap.get? b=some ob->h'.get? b=some ob)(hL:∀b∈L,gH X ae H b):Inv X ae Z H { s with heap:=h',toks:=t'}:=by
 have nL:∀b u,H b=some u->b∉L:=λb u e z=>by rw[(hL b z).1] at e;cases e
 refine I.step (g':=s.gens) (d':=s.drawn) (ch:=L) (λb hb=>?_) (λb ob _ _ hc e _=>k b ob hc e) (λb ob _ _ hc e _=>⟨ob.slots,k b ob hc e⟩) (λb ob _ e n=>n)
  (λb ob hc e=>⟨ob,k b ob hc e⟩) (λb xs e=>e) (λb ob u e=>e) (λb ps e=>⟨#[],by rw[e];simp⟩) (λm hm=>?_) (λb u e=>?_) I.bare
 .obtain⟨f0,f1,f2,f3,f4,f5⟩:=hL b hb;exact⟨f3,f1,f4,f5⟩
 .obtain⟨ob,es,ep,ho,r⟩:=hm;exact⟨ob,es,ep,k _ ob (λz=>(hL _ z).2.1 rfl) ho,r⟩
 .refine(I.bL b u e).j8 (λc v hc q=>k c v ?_ q) (λc q=>q) λc xs q=>q
  grind
end
def BG(Src:Hp->Prop)(n:Nat)(val:Nat->List V->Prop):It:=
 ⟨λi H=>i<n/\Src H,λi H x H'=>∃p ws,x=.ref p/\H p=none/\val i ws/\H'=upd H p (.tup ws),λi H=>n<=i/\Src H⟩
def PC{pos:Pos}{FP wr:List aj}{Src:Hp->Prop}{val:Nat->List V->Prop}{tn:Nat->bJ->Prop}(mem:it∈FP)(sub:∀b∈wr,b∈FP)
  (obj:∀i h,tn i h->∀b∈FP,∃o,h.get? b=some o/\∀v,o.data≠.cell v) (keep:∀i h h',tn i h->(∀b∈FP,∀o,h.get? b=some o->h'.get? b=some o)->tn i h')
  (hW:∀(X:Cx),X.prog=P->X.w=w->X.K=K->X.calm=true->∀(ae:List (aj×Obj)) (s:au) (Z:St) (H:Hp),Inv X ae Z H s->Src H->∃(FY:List aj) (Pt:Nat->Array ai->Prop) (St:Nat->bJ->Prop) (DZ:Nat->aj->bJ->Prop),WalksT P w X.A it FY wr n Pt St DZ/\(∀i,tn i s.heap->St i s.heap)/\(∀i h,St i h->tn i h)/\∀i vals,Pt i vals->∃ws,val i ws/\Vals ws vals.toList/\ws.length<=10)
  (self:∀(A:cy) (i:Nat) (s:au) (Q:ai->au->Prop) (E:ai->au->Prop),tn i s.heap->Q (.ref it) s->wpAny (model P w) A (pyIter (.ref it)) Q E s) :
  Turn P w K (.Tuple elts x1 pos) (BG Src n val) FP it (λi h=>i<=n/\tn i h) where
 mem:=mem
 obj:=λi h st=>obj i h st.2
 keep:=λi h h' st k=>⟨st.1,keep i h h' st.2 k⟩
 item:=by
  intro X hP hw hK hc i ae s Z H E I hf st hg;refine kY λkz=>?_
  obtain⟨FY,Pt,St,DZ,W,toSt,AN,pv⟩:=hW X hP hw hK hc ae s Z H I hg.2;subst hP hw hK;refine kz ?_;refine W.item i s _ E hg.1 (toSt i st.2) λT vals h1 tk Yz hsz Gg z_ NH=>?_
  refine⟨.ref T,rfl,W.go elts x1 pos i T _ _ E z_ λh2 YD Dp=>?_⟩
  obtain⟨ws,hv,rv,Du⟩:=pv i vals Yz;have Gf:IsTup h2 T vals:=by
   obtain⟨o,e,c⟩:=Gg;exact⟨o,Dp T o (W.apart i T h1 z_) e,c⟩
  have hn:H T=none:=I.bL.fresh hsz;have I2:Inv X ae Z (upd H T (.tup ws)) { s with heap:=h2,toks:=tk}:=I.rV (L:=wr) (λb ob hb e=>Dp b ob hb (NH b ob hb e)) (λb hb=>hf b (sub b hb)) hsz ⟨by rw[sizeLine_eq];lia,vals.toList,rv,by simpa using Gf⟩
  refine⟨.ref T,_,I2,rfl,⟨T,ws,rfl,hn,hv,rfl⟩,⟨by have:=hg.1;lia,AN _ _ YD⟩,λb hb=>?_⟩
  have YK:=(hf b hb).1;rw[dj]
  .exact YK
  .intro z;subst z;obtain⟨o,e,_⟩:=obj i s.heap st.2 b hb;exact bG (eO (cQ e) hsz) (jl _)
 done:=by
  intro X hP hw hK hc i ae s Z H E I hf st hg;refine kY λkz=>?_
  obtain⟨FY,Pt,St,DZ,W,toSt,AN,pv⟩:=hW X hP hw hK hc ae s Z H I hg.2;subst hP hw hK;have ei:i=n:=by have:=hg.1;have:=st.1;lia
  subst ei;refine kz ?_;exact W.done s _ E (toSt i st.2) λh2 tk hk=>⟨rfl,I.Bk (L:=wr) (λb ob hb e=>hk b ob hb e) λb hb=>hf b (sub b hb)⟩
 self:=λA i s Q E st h=>self A i s Q E st.2 h
theorem QK{h:bJ}{a l:aj}{i:Nat}(p:h.IsListIter a l i):∃o,h.get? a=some o/\∀v,o.data≠.cell v:=by
 obtain⟨o,e,_,d⟩:=p
 simp_all
def Bm(xs:List V)(i:Nat)(ws:List V):Prop:=∃x,xs[i]?=some x/\ws=[.int i,x]
def PD{pos:Pos}{e l:aj}(n1:e≠it)(n2:l≠e)(n3:l≠it)(xs:List V):
  Turn P w K (.Tuple elts x1 pos) (BG (λH=>cI K H l xs) xs.length (Bm xs)) [e,it] e (λi h=>i<=xs.length/\((∃old,IsEnum h e it (i:Int) old)/\h.IsListIter it l i)):=by
 refine PC (FP:=[e,it]) (wr:=[e,it]) (by simp) (λb hb=>hb) (λi h st b hb=>?_) (λi h h' st k=>?_) (λX hP hw hK hc ae s Z H I hS=>?_) (λA i s Q E st h=>?_)
 .grind [QK]
 .obtain⟨⟨old,s1⟩,s2⟩:=st;exact⟨⟨old,k e (by simp) _ s1⟩,s2.at λo q=>k it (by simp) o q⟩
 .subst hP hw hK;obtain⟨q8,HA,p1,_⟩:=I.list hS;have e1:=HA.length;have W:=WalksT.enumerate (prog:=X.prog) (w:=X.w) (A:=X.A) (I.ok.hd hc) e it l n1 n2 n3 q8.toArray;rw[show q8.toArray.size=xs.length by rw[dq,<-e1]] at W
  refine⟨_,_,_,_,W,λi st=>?_,λi h st=>?_,λi vals hp=>?_⟩
  .exact⟨st.1,st.2,p1.isList⟩
  .simp_all
  .obtain⟨t,u,hu,rfl⟩:=hp;have hu:q8[i]?=some u:=by simpa using hu
   have NF:i<xs.length:=by have:=(cK.mp hu).1;lia
   obtain⟨u',oK,ru⟩:=HA.get (gp NF);rw[hu] at oK;cases oK;exact⟨[.int i,xs[i]],⟨_,gp NF,rfl⟩,.cons ⟨t,rfl⟩ (.cons ru .nil),by show 2<=10;decide⟩
 .obtain⟨old,s1⟩:=st.1;exact wpAny_pyIter_enum s1 h
def tF(K:aH)(ta:TA):TI:=λZ H R=>ta Z H λvs H1=>∃a xs,vs=[.ref a]/\cI K H1 a xs/\R (BG (λH=>cI K H a xs) xs.length (Bm xs)) H1
def Sw{iO:Pos}{a:Expr}{pos:Pos}(hg:Gl X "enumerate")(hm:X.mg "enumerate"=none)(ha:PA X [a] ta)(hs:starEach [a] X.env=[(false,eval a X.env)]:=by rfl):
  PI X (.Tuple elts x1 iO) (.Call (.Name "enumerate" p) [a] [] pos) (tF X.K ta):=by
 intro ae s Z H R I h;refine Call_ (qD I hg hm PyProof.Rows.Boot.enumerate (PyProof.Rows.callWith_type1 (bz (ha pos ae s Z H _ I h) λus s1 hh=>?_) hs rfl))
 obtain⟨vs,H1,I1,r1,q1⟩:=hh;obtain⟨l1,xs,e,Y8,q⟩:=q1;subst e;cases r1 with
 |cons r rr=>
  cases rr;cases r;obtain⟨q8,HA,p1,_⟩:=I1.list Y8;refine call_enumerate_list p1.isList λh' z1 z2 z3 z4=>?_
  have L1:l1<s1.heap.objs.size:=by obtain⟨o,n,e,_⟩:=p1;exact cQ e
  refine wpAny_pyIter_enum z1 ?_;refine⟨s1.heap.objs.size+1,[s1.heap.objs.size+1,s1.heap.objs.size],_,_,H1,rfl,I1.kept (t':=s1.toks) z4,PD (e:=s1.heap.objs.size+1) (it:=s1.heap.objs.size) (l:=l1) (Bu (by lia)) (iP (eO L1 (Nat.le_add_right _ _))) (iP L1) xs,⟨k7 _,⟨_,z1⟩,z2⟩,λb hb=>?_,q⟩
  simp only[y06,y1y,or_false] at hb;have Di:s1.heap.objs.size<=b:=by rcases hb with rfl|rfl <;> lia
  exact I1.lB Di (I1.bL.fresh Di)
end L2
set_option autoImplicit false
namespace L2
open PySem PySem.Spec PyProof.Rows
variable{a:aj}{b:Bx}{i j:Int}{k:Kn}{A:List aj}{q:Nat}{H H':Hp}
def Kept(A:List aj)(q:Nat)(H H':Hp):Prop:=∀a o,lH A a o q->H a=some o->H' a=some o
def ie(K:aH)(k:Kn)(H:Hp)(q:Nat)(x:V):D->Prop
 |.lst ds=>∃a ws,x=.ref a/\af K k ws ds/\∀H',ay k.F H'->Kept k.A q H H'->cI K H' a ws
 |.tup ds=>∃a ws,x=.ref a/\af K k ws ds/\∀H',ay k.F H'->Kept k.A q H H'->fy K H' a ws
 |.aP kvs=>∃a es ep,x=.ref a/\es.map (·.1)=kvs.map (·.1)/\af K k (es.map (·.2.1)) (kvs.map (·.1.d))/\af K k (es.map (·.2.2)) (kvs.map (·.2))/\∀H',ay k.F H'->Kept k.A q H H'->H' a=some (.dG es ep)
 |.str z=>x=.str z
 |_=>True
def Bx.lv:Bx->Nat
 |.lst _=>2
 |.aP _=>1
noncomputable def oH(f:Bx->Nat):Cell->ah (Nat×D)
 |.o b=>some (f b,b.d)
 |.z b=>some (0,b.d)
 |.ins _ _=>none
def l8(fz:Bool)(S:ba):Rv->ah (Rs (Nat×D))
 |.o c=>some (.ok (0,c.d) S)
 |.v (.d (.ref n))=>(S.r[n]?).bind λc=>(oH (λ_=>n+3) c).map λp=>.ok p S
 |.v (.d x)=>some (.ok (0,x) S)
 |.v (.c n)=>if fz=true then(i_ S (.c n)).map λp=>.ok (0,p.1) p.2 else(S.s[n]?).bind λc=>(oH Bx.lv c).map λp=>.ok p S
def s_(fz:Bool)(g:GE):Gx (Nat×D):=λU S=>bd (g U S) (λr S1=>l8 fz S1 r)
abbrev RH(K:aH)(q:Nat):Rp (Nat×D) V:=λk H x p=>ie K k H (jq q p.1) x p.2
section
variable{X:Cx}{K:aH}{W:XW}{q:Nat}{k:Kn}{H:Hp}{x:V}{d:D}{g:GE}{Z:St}
def Cb(h:af K k [x] [d]):ie K k H q x d:=by
 cases d with
 |lst ds=>obtain⟨a,ws,rfl,h1,h2⟩:=h.tK;exact⟨a,ws,rfl,h2,λH' s _=>s.HK h1⟩
 |tup ds=>obtain⟨a,ws,rfl,h1,h2⟩:=h.isTup;exact⟨a,ws,rfl,h2,λH' s _=>s.A8 h1⟩
 |aP kvs=>obtain⟨a,es,ep,rfl,h1,h2,h3,h4⟩:=h.tJ;exact⟨a,es,ep,rfl,h2,h3,h4,λH' s _=>s _ _ h1⟩
 |str z=>exact h.aL rfl
 |_=>exact mF
def Sx{l:Nat}(h:cM K k H a b)(hl:∀o,H a=some o->lH k.A a o l):ie K k H (jq q l) (.ref a) b.d:=by
 cases b with
 |lst xs=>obtain⟨ws,h1,h2⟩:=h;exact⟨a,ws,rfl,h2,λH' _ c=>.inl (.inl (c _ _ (Nk _ _ _ _ _ (hl _ h1)) h1))⟩
 |aP kvs=>obtain⟨es,ep,h1,h2,h3,h4⟩:=h;exact⟨a,es,ep,rfl,h2,h3,h4,λH' _ c=>c _ _ (Nk _ _ _ _ _ (hl _ h1)) h1⟩
def JB{c:Cell}{f:Bx->Nat}{p:Nat×D}(h:bc K k H a c)(hf:∀b o,cM K k H a b->H a=some o->lH k.A a o (f b))(e:oH f c=some p):ie K k H (jq q p.1) (.ref a) p.2:=by
 cases c with
 |o b=>cases e;exact Sx h.2 λo=>hf b o h.2
 |z b=>cases e;exact Cb h.2
 |ins _ _=>cases e
def VO{o:HO}(h:cM K k H a b)(e:H a=some o):lH k.A a o b.lv:=by
 cases b with
 |lst xs=>exact mF
 |aP kvs=>obtain⟨es,ep,h1,_⟩:=h;rw[e] at h1;cases h1;exact⟨es,ep,rfl⟩
def KP{fz:Bool}{Q:VK}(t:tX (RH K q) K W q (s_ fz g) Z H Q):tE K W q g Z H Q:=by
 obtain⟨k,U,S,res,ok,gk,e,w⟩:=t;refine tX.bd ok gk e w λr S1 x k1 H1 bq g1 r1 e1 w1 _=>?_
 cases r with
 |o c=>
  cases e1;obtain⟨k2,u2,cR,r2⟩:=nX bq r1;exact(w1.up (u2 q)).now cR (Cb r2)
 |v y=>
  cases y with
  |d y=>
   cases y with
   |ref n=>
    obtain⟨c,h1,e2⟩:=cC.mp e1;obtain⟨p,h2,rfl⟩:=cS.mp e2;obtain⟨a,rfl,h3⟩:=af.isRef r1;exact w1.now bq (JB (f:=λ_=>n+3) (bq.r.at' n a c h3 h1) (λ_ _ _ _=>h3) h2)
   |_=>cases e1;exact w1.now bq (Cb r1)
  |c n=>
   cases fz with
   |true=>
    obtain⟨p,h1,rfl⟩:=cS.mp (show(i_ S1 (.c n)).map _=some res from e1);obtain⟨k2,u2,cR,r2⟩:=EO (v:=.c n) bq r1 h1;exact(w1.up (u2 q)).now cR (Cb r2)
   |false=>
    obtain⟨c,h1,e2⟩:=cC.mp (show(S1.s[n]?).bind _=some res from e1);obtain⟨p,h2,rfl⟩:=cS.mp e2;obtain⟨a,rfl,h3⟩:=r1;exact w1.now bq (JB (bq.s.at' n a c h3 h1) (λ_ _=>VO) h2)
end
structure fH (K:aH) (k1:Kn) (H1:Hp) (q:Nat) (J:It) (ds:List D):Prop where
 go:∀i k H,k1.le k->ay k.F H->Kept k1.A q H1 H->i<ds.length->J.go i H
 stop:∀i k H,k1.le k->ay k.F H->Kept k1.A q H1 H->ds.length<=i->J.stop i H
 pJ:∀i k H x H',k1.le k->ay k.F H->Kept k1.A q H1 H->J.pJ i H x H'->∀d,ds[i]?=some d->∃F',ay k.F F'/\ay H H'/\ay F' H'/\(∀p,H p≠none->k.F p=none->F' p=none)/\af K ⟨F',k.A,k.T⟩ [x] [d]
abbrev RI(K:aH)(q:Nat):Rp (Nat×List D) It:=λk H J p=>fH K k H (jq q p.1) J p.2
section
variable{K:aH}{k1:Kn}{H1:Hp}{q n:Nat}{ds:List D}{J:It}{a:aj}{ws xs:List V}
def fH.old(hn:ds.length=n)(h1:∀i H,ay k1.F H->Kept k1.A q H1 H->i<n->J.go i H)(h2:∀i H,ay k1.F H->Kept k1.A q H1 H->n<=i->J.stop i H)(h3:∀i H x H' d,ay k1.F H->Kept k1.A q H1 H->J.pJ i H x H'->ds[i]?=some d->H'=H/\af K k1 [x] [d]):fH K k1 H1 q J ds where
 go:=λi k H l s c hi=>h1 i H (l.f.trans s) c (hn ▸ hi)
 stop:=λi k H l s c hi=>h2 i H (l.f.trans s) c (hn ▸ hi)
 pJ:=λi k H x H' l s c y d hd=>by
  obtain⟨rfl,r⟩:=h3 i H x H' d (l.f.trans s) c y hd;exact⟨k.F,ay.refl _,ay.refl _,s,λ_ _ z=>z,r.mono l⟩
def fH.Hg{Src:Hp->Prop}{val:Nat->List V->Prop}{f:Nat->List D}(hs:∀H,ay k1.F H->Kept k1.A q H1 H->Src H)(hv:∀i us,i<n->val i us->af K k1 us (f i)):fH K k1 H1 q (BG Src n val) ((List.range n).map λi=>.tup (f i)) where
 go:=λi k H l s c hi=>⟨by simpa using hi,hs H (l.f.trans s) c⟩
 stop:=λi k H l s c hi=>⟨by simpa using hi,hs H (l.f.trans s) c⟩
 pJ:=λi k H x H' l s c y d hd=>by
  obtain⟨p,us,rfl,hp,hw,rfl⟩:=y;have hi:i<n:=by have:=(cK.mp hd).1;simpa using this
  rw[gn,DU hi] at hd;cases hd;have hF:=s.free hp;refine⟨upd k.F p (.tup us),pQ hF,pQ hp,λb u z=>?_,λb z1 z2=>?_,.tup (.inl (.inl aN)) ((hv i us hi hw).mono ⟨l.f.trans (pQ hF),l.a⟩) .nil⟩
  .by_cases z3:b=p
   .subst z3;rw[aN] at z ⊢;exact z
   .rw[dj z3] at z ⊢;exact s b u z
  grind [dj]
def Sy(h:∀H',ay k1.F H'->Kept k1.A q H1 H'->cI K H' a ws)(r:af K k1 ws ds):fH K k1 H1 q (DX K a) ds:=
 .old r.length.symm (λi H s c hi=>⟨ws,ws[i],h H s c,gp _⟩) (λi H s c hi=>⟨ws,h H s c,hi⟩) λi H x H' d s c y hd=>by
  obtain⟨rfl,y⟩:=y;obtain⟨v,h1,h2⟩:=r.get hd
  simp_all
def VQ(h:∀H',ay k1.F H'->Kept k1.A q H1 H'->fy K H' a ws)(r:af K k1 ws ds):fH K k1 H1 q (DY K a) ds:=
 .old r.length.symm (λi H s c hi=>⟨ws,ws[i],h H s c,gp _⟩) (λi H s c hi=>⟨ws,h H s c,hi⟩) λi H x H' d s c y hd=>by
  obtain⟨rfl,y⟩:=y;obtain⟨v,h1,h2⟩:=r.get hd
  simp_all
def VR(h:∀H',ay k1.F H'->Kept k1.A q H1 H'->cI K H' a ws)(r:af K k1 ws ds):fH K k1 H1 q (nC K a ws.length) ds.reverse:=
 .old (by rw[List.length_reverse,r.length]) (λi H s c hi=>⟨hi,ws,h H s c,rfl⟩) (λi H s c hi=>hi) λi H x H' d s c y hd=>by
  obtain⟨rfl,y⟩:=y;have hi:=(cK.mp hd).1;rw[List.length_reverse] at hi;rw[List.getElem?_reverse hi,<-r.length] at hd;obtain⟨v,h1,h2⟩:=r.get hd
  simp_all
def SA{es:List (TK×V×V)}{ep:Nat}(h:∀H',ay k1.F H'->Kept k1.A q H1 H'->H' a=some (.dG es ep))(r:af K k1 (es.map (·.2.1)) ds):fH K k1 H1 q (DW a es.length ep) ds:=
 .old (by rw[<-r.length,aW]) (λi H s c hi=>⟨es,h H s c,rfl,hi⟩) (λi H s c hi=>⟨es,h H s c,rfl,hi⟩) λi H x H' d s c y hd=>by
  obtain⟨rfl,y⟩:=y;obtain⟨v,h1,h2⟩:=r.get hd;rw[gn] at h1;obtain⟨e,h3,rfl⟩:=cS.mp h1;obtain⟨e',h4,rfl⟩:=y es (h _ s c);cases h3.symm.trans h4;exact⟨rfl,h2⟩
def VS{z:Str}:fH K k1 H1 q (BH z) (z.cps.toList.map λc=>.str (ly c)):=
 .old (by rw[aW,Bt]) (λi H s _ hi=>hi) (λi H s _ hi=>hi) λi H x H' d s _ y hd=>by
  obtain⟨rfl,c,h1,rfl⟩:=y;rw[gn,uc,h1] at hd;cases hd;exact⟨rfl,.flat rfl .nil⟩
noncomputable def cZ(lo:Int)(n:Nat):List D:=(List.range n).map λ(i:Nat)=>D.int (lo+(i:Int))
theorem Mc{lo:Int}:fH K k1 H1 q (yA lo n) (cZ lo n):=
 .old (by unfold cZ;rw[aW,kN]) (λi H s _ hi=>hi) (λi H s _ hi=>hi) λi H x H' d s _ y hd=>by
  obtain⟨rfl,rfl⟩:=y;have hi:=(cK.mp hd).1;unfold cZ at hi hd;rw[aW,kN] at hi;rw[gn,DU hi] at hd;cases hd;exact⟨rfl,.flat rfl .nil⟩
end
abbrev jI:=Gx (Nat×List D)
def bp(fz:Bool)(o:D->ah (List D))(g:GE):jI:=λU S=>bd (s_ fz g U S) λp S1=>(o p.2).map λds=>.ok (p.1,ds) S1
def dB:D->ah (List D)
 |.lst ds=>some ds
 |.tup ds=>some ds
 |.aP kvs=>some (kvs.map (·.1.d))
 |.str z=>some (z.cps.toList.map λc=>.str (ly c))
 |_=>none
def wc:D->ah (List D)
 |.lst ds=>some ds.reverse
 |_=>none
noncomputable def cU(ds:List D):List D:=(List.range ds.length).map λi=>.tup [.int (i:Nat),(ds[i]?).getD .aR]
def kd:D->ah (List D)
 |.lst ds=>some (cU ds)
 |_=>none
noncomputable def iV:Val->ah Int
 |.d (.int i)=>some i
 |_=>none
def XB{v:Val}(h:iV v=some i):v=.d (.int i):=by
 cases v with
 |d x=>cases x <;> cases h;rfl
 |c n=>cases h
def je:List Val->ah (List D)
 |[a]=>(iV a).bind λj=>if Nat.ble j.natAbs 1000000000000=true then some (cZ 0 j.toNat) else none
 |_=>none
def jg:List Val->ah (List D)
 |[.d (.int i),.d (.int j)]=>if(Nat.ble i.natAbs 1000000000000&&Nat.ble j.natAbs 1000000000000)=true then some (cZ i (j - i).toNat) else none
 |_=>none
def dz(o:List Val->ah (List D))(g:GA):jI:=λU S=>bd (g U S) λvs S1=>(o vs).map λds=>.ok (0,ds) S1
section
variable{X:Cx}{K:aH}{W:XW}{q:Nat}{g:GE}{ga:GA}{fz:Bool}{Z:St}{H:Hp}{R:It->Hp->Prop}
def Eh{o:D->ah (List D)}(t:tX (RI K q) K W q (bp fz o g) Z H R):(∀Q:VK,tE K W q g Z H Q)\/∃d ds n,o d=some ds/\∀Q:VK,(∀k1 H1 x,ay k1.F H1->ie K k1 H1 n x d->(∀J,fH K k1 H1 n J ds->R J H1)->Q x H1)->tE K W q g Z H Q:=by
 refine kY λkz=>?_
 obtain⟨k,U,S,res,ok,gk,e,w⟩:=t;refine kz ?_;rcases zr e with⟨⟨n,d⟩,S1,e1,e2⟩|⟨C,l,S1,e1,rfl⟩
 .obtain⟨ds,e3,rfl⟩:=cS.mp e2;exact .inr ⟨d,ds,jq q n,e3,λQ h=>KP ⟨k,U,S,_,ok,gk,e1,λx k1 H1 u bq r=>h k1 H1 x bq.le r λJ j=>w J k1 H1 u bq j⟩⟩
 .exact .inl λQ=>KP ⟨k,U,S,_,ok,gk,e1,w⟩
def ie.now{x:V}{P:Hp->Prop}{n:Nat}(h:∀H',ay k.F H'->Kept k.A n H H'->P H')(le:ay k.F H):P H:=h H le λ_ _ _ z=>z
def Ap(K:aH)(te:TE):TI:=λZ H R=>tG K te Z H R\/Av K te Z H R\/tD te Z H R\/As te Z H R
def VT{tg l:Expr}{te:TE}(h:PE X l te):PI X tg l (Ap X.K te):=Ft (R3 h) (Ft (Vn h) (Ft (Sv h) (VA h)))
def VU(t:tX (RI K q) K W q (bp fz dB g) Z H R):Ap K (tE K W q g) Z H R:=by
 rcases Eh t with h|⟨d,ds,n,e,h⟩
 .exact .inl (h _)
 .cases d with
  |lst _=>
   cases e;refine .inl (h _ λk1 H1 x le hd j=>?_)
   obtain⟨a,ws,rfl,q2,q1⟩:=hd;exact⟨a,rfl,⟨ws,ie.now (x:=.aR) q1 le⟩,j _ (Sy q1 q2)⟩
  |tup _=>
   cases e;refine .inr (.inl (h _ λk1 H1 x le hd j=>?_))
   obtain⟨a,ws,rfl,q2,q1⟩:=hd;exact⟨a,rfl,⟨ws,ie.now (x:=.aR) q1 le⟩,j _ (VQ q1 q2)⟩
  |aP kvs=>
   cases e;refine .inr (.inr (.inl (h _ λk1 H1 x le hd j=>?_)))
   obtain⟨a,es,ep,rfl,q2,q3,q4,q1⟩:=hd;exact⟨a,es,ep,rfl,ie.now (x:=.aR) q1 le,j _ (SA q1 q3)⟩
  |str z=>
   cases e;exact .inr (.inr (.inr (h _ λk1 H1 x le hd j=>⟨z,hd,j _ VS⟩)))
  |_=>cases e
def SD(t:tX (RI K q) K W q (bp fz wc g) Z H R):Ar K (pw (tE K W q g) wm) Z H R:=by
 rcases Eh t with h|⟨d,ds,n,e,h⟩
 .exact h _
 .cases d with
  |lst _=>
   cases e;refine h _ λk1 H1 x le hd j=>?_
   obtain⟨a,ws,rfl,q2,q1⟩:=hd;exact⟨a,ws,rfl,ie.now (x:=.aR) q1 le,j _ (VR q1 q2)⟩
  |_=>cases e
def VW(t:tX (RI K q) K W q (bp fz kd g) Z H R):tF K (pw (tE K W q g) wm) Z H R:=by
 rcases Eh t with h|⟨d,ds,n,e,h⟩
 .exact h _
 .cases d with
  |lst es=>
   cases e;refine h _ λk1 H1 x le hd j=>?_
   obtain⟨a,ws,rfl,q2,q1⟩:=hd;refine⟨a,ws,rfl,ie.now (x:=.aR) q1 le,j _ ?_⟩;unfold cU;rw[<-q2.length];refine .Hg q1 λi us hi hv=>?_
   obtain⟨x,h1,rfl⟩:=hv;obtain⟨d,hd⟩:∃d,es[i]?=some d:=⟨es[i]'(by rw[<-q2.length];exact hi),gp _⟩
   obtain⟨v,h3,h4⟩:=q2.get hd;cases h1.symm.trans h3;rw[hd];exact .flat rfl h4
  |_=>cases e
theorem rep1{xs:List V}(h:Paired (de K k) xs [.d (.int j)]):xs=[.int j]:=by
 cases h with
 |cons r t=>cases t;rw[(show af K k [_] [_] from r).aL rfl]
def rep2{xs:List V}(h:Paired (de K k) xs [.d (.int i),.d (.int j)]):xs=[.int i,.int j]:=by
 cases h with
 |cons r t=>rw[(show af K k [_] [_] from r).aL rfl,rep1 t]
def JC{o:List Val->ah (List D)}{Q:List V->Hp->Prop}(t:tX (RI K q) K W q (dz o ga) Z H R)(h:∀vs ds k1 H1 xs,o vs=some ds->(∀J,fH K k1 H1 (jq q 0) J ds->R J H1)->Paired (de K k1) xs vs->Q xs H1):fD K W q ga Z H Q:=by
 obtain⟨k,U,S,res,ok,gk,e,w⟩:=t;rcases zr e with⟨vs,S1,e1,e2⟩|⟨C,l,S1,e1,rfl⟩
 .obtain⟨ds,e3,rfl⟩:=cS.mp e2;exact⟨k,U,S,_,ok,gk,e1,λxs k1 H1 u bq r=>h vs ds k1 H1 xs e3 (λJ j=>w J k1 H1 u bq j) r⟩
 .exact⟨k,U,S,_,ok,gk,e1,w⟩
def SE(t:tX (RI K q) K W q (dz je ga) Z H R):tH (fD K W q ga) Z H R:=JC t λvs ds k1 H1 xs e j r=>by
 obtain _|⟨v,_|_⟩:=vs
 .cases e
 .obtain⟨i,e1,e2⟩:=cC.mp e;clear e;cases XB e1;split at e2
  .rename_i h
   have h:=Nat.le_of_ble_eq_true h
   grind [rep1,Mc]
  .cases e2
 .cases e
def SG(t:tX (RI K q) K W q (dz jg ga) Z H R):tI (fD K W q ga) Z H R:=JC t λvs ds k1 H1 xs e j r=>by
 unfold jg at e;split at e
 .split at e
  .rename_i h
   obtain⟨h1,h2⟩:=r_.mp h;have h1:=Nat.le_of_ble_eq_true h1;have h2:=Nat.le_of_ble_eq_true h2;cases e;exact⟨_,_,rep2 r,⟨by lia,by lia,by lia,by lia⟩,j _ Mc⟩
  .cases e
 .cases e
end
noncomputable def aF(g:GG)(f:GS):List D->GS
 |[]=>λU S=>some (.nx U S)
 |d::ds=>λU S=>(g d U).bind λU1=>(f U1 S).bind λr=>match r with
   |.nx U2 S2=>aF g f ds U2 S2
   |.ct U2 S2=>aF g f ds U2 S2
   |.bk U2 S2=>some (.nx U2 S2)
   |r=>some r
def aY(q:Nat)(src:jI)(g:GG)(f:Nat->GS):GS:=λU S=>i7 U (src U S) λp S1=>aF g (f (jq q p.1)) p.2 U S1
def Up.kept{k':Kn}(u:Up q k H k' H')(p:A <+: k.A:=by exact iX _):Kept A q H H':=λa o z=>u.h a o (L_ p z)
def Kept.refl:Kept A q H H:=λ_ _ _ z=>z
def Kept.trans{yz:Hp}(a:Kept A q H H')(b:Kept A q H' yz):Kept A q H yz:=λx o z h=>b x o z (a x o z h)
theorem Kept.same(a:ay H H'):Kept A q H H':=λx o _ h=>a x o h
section
variable{X:Cx}{K:aH}{W:XW}{q:Nat}{tg iter:Expr}{body:List Stmt}{wi:TI}{t:TG}{gg:GG}{f:Nat->GS}{src:jI}{pos:Pos}
def VX(hp:PassesOwn (mX X) X.A X.env X.xe)(hc:X.calm=true)(hi:PI X tg iter wi)(mP:∀Z H R,tX (RI K q) K W q src Z H R->wi Z H R)(hg:PG X tg t)(ht:fI K t gg)(hb:∀n,ij X body (tS K W n (f n)))(hs:∀x,foldedSetIterable iter X.env x=pure x):
  PS X (.For tg iter body [] pos) (tS K W q (aY q src gg f)):=by
 intro ae s Z H De I t;refine kY λkz=>?_
 obtain⟨k,U,S,fr,ok,gk,e,w⟩:=t;refine kz ?_;rcases KO e with⟨⟨n,ds⟩,S1,e1,e⟩|⟨C,l,S1,e1,rfl⟩
 .
  refine L6 hp hc hi hg (hb (jq q n)) hs ae s Z H De I (mP _ _ _ ⟨k,U,S,_,ok,gk,e1,λJ k1 H1 u1 bq r1=>?_⟩)
  have w1:=(w.up u1).weak (Nj q n);have g1:=gk.up u1;clear w gk ok e1 u1;refine⟨λi m Z H=>m=ds.length - i/\i<=ds.length/\∃k U S,bO K k H S/\fw K k Z U/\k1.le k/\Kept k1.A (jq q n) H1 H/\aF gg (f (jq q n)) (ds.drop i) U S=some fr/\Done K W (jq q n) De k H fr,⟨_,rfl,k7 _,k1,U,S1,bq,g1,.refl,.refl,e,w1⟩,?_⟩
  rintro i m Z H ⟨rfl,hi,k,U,S,ok,gk,l,c,e,w⟩;rcases Nat.lt_or_ge i ds.length with h|h
  .rw[DJ h] at e;refine .inr ⟨r1.go i k H l ok.le c h,λZ' H'=>∃k U S,bO K k H' S/\fw K k Z' U/\k1.le k/\Kept k1.A (jq q n) H1 H'/\aF gg (f (jq q n)) (ds.drop (i+1)) U S=some fr/\Done K W (jq q n) De k H' fr,λZ' H' z=>⟨_,by lia,rfl,h,z⟩,λx H' y=>?_⟩
   refine kY λkz=>?_
   obtain⟨F',s1,s2,s3,s4,rp⟩:=r1.pJ i k H x H' l ok.le c y _ (gp h);have u:Up (jq q n) k H ⟨F',k.A,k.T⟩ H':=.of s1 s2;obtain⟨U1,e1,e2⟩:=cC.mp e;obtain⟨r,e3,e4⟩:=cC.mp e2;have fB:bO K ⟨F',k.A,k.T⟩ H' S:=ok.new s1 (λp _ o z=>s2 p o z) s3 λp m=>s4 p (ok.there p m)
   have l':k1.le ⟨F',k.A,k.T⟩:=⟨l.f.trans s1,l.a⟩;refine kz ?_;refine ht _ H' Z U U1 x ds[i] _ s3 (gk.up u) rp e1 λZ1 g1=>⟨_,U1,S,r,fB,g1,e3,?_⟩
   have w':=w.up u;have c':Kept k1.A (jq q n) H1 H':=c.trans (.same s2);cases r with
   |nx U2 S2=>exact λZ' k2 H2 u2 cR g2=>⟨k2,U2,S2,cR,g2,⟨l'.f.trans u2.f,l'.a.trans u2.a⟩,c'.trans (u2.kept l'.a),e4,w'.up u2⟩
   |ct U2 S2=>exact λZ' k2 H2 u2 cR g2=>⟨k2,U2,S2,cR,g2,⟨l'.f.trans u2.f,l'.a.trans u2.a⟩,c'.trans (u2.kept l'.a),e4,w'.up u2⟩
   |bk U2 S2=>cases e4;exact w'
   |rt r S2=>cases e4;exact w'
   |ex C l U2 S2=>cases e4;exact w'
  .rw[DS h] at e;cases e;exact .inl ⟨r1.stop i k H l ok.le c h,bK.now w ok gk⟩
 .exact L6 hp hc hi hg (hb q) hs ae s Z H De I (mP _ _ _ ⟨k,U,S,_,ok,gk,e1,λdx k' H' u fB r=>w dx Z k' H' u fB (gk.up u) r⟩)
end
end L2
set_option autoImplicit false
namespace L2
open PySem PySem.Spec PyProof.Rows
variable{ds:List D}{U:Gm}{Z:St}
noncomputable def pU{α β:Type}(x:ah (Rs α))(f:α->ba->ah (Rs β)):ah (Rs β):=match x with
 |some (.ok a S)=>f a S
 |_=>none
def W0:XW:=λ_ _ _ _=>False
def bx(gg:GG)(tt:GT)(te:GE):List D->Gm->ba->List D->ah (Rs (List D))
 |[],_,S,bB=>some (.ok bB S)
 |d::ds,U,S,bB=>(gg d U).bind λU1=>pU (tt U1 S) λb S1=>if b=true then pU (gD te U1 S1) λx S2=>if bB.length<1000000 then bx gg tt te ds U1 S2 (bB++[x]) else none else bx gg tt te ds U1 S1 bB
noncomputable def qN(n:Nat)(cF:List Nat)(U:Gm):Gm:=List.replicate n none++cF.map λi=>(U[i]?).join
def bA(q:Nat)(src:jI)(gg:GG)(tt:Nat->GT)(te:Nat->GE)(n:Nat)(cF:List Nat):GE:=λU S=>bd (src U S) λp S1=>bd (bx gg (tt (jq q p.1)) (te (jq q p.1)) p.2 (qN n cF U) S1 []) λds S2=>some (.ok (.o (.lst ds)) S2)
section
variable{X:Cx}{K:aH}{W:XW}{q:Nat}{tg iter elt:Expr}{ifs:List Expr}{scope:Scope}{wi:TI}{t:TG}{gg:GG}{tt:Nat->GT}{te:Nat->GE}{src:jI}{pos:Pos}{M:List Str}{n:Nat}{cF:List Nat}
def Cy{α β:Type}{x:ah (Rs α)}{f:α->ba->ah (Rs β)}{res:Rs β}(e:pU x f=some res):∃a S,x=some (.ok a S)/\f a S=some res:=by
 unfold pU at e;split at e
 .exact⟨_,_,rfl,e⟩
 .cases e
def QL{gg:GG}{tt:GT}{te:GE}{S:ba}{bB:List D}{res:Rs (List D)}(e:bx gg tt te ds U S bB=some res):∃l S',res=.ok l S':=by
 induction ds generalizing U S bB with
 |nil=>cases e;exact⟨_,_,rfl⟩
 |cons d ds ih=>
  obtain⟨U1,_,e⟩:=cC.mp e;obtain⟨b,S1,_,e⟩:=Cy e;cases b with
  |false=>exact ih e
  |true=>
   obtain⟨x,S2,_,e⟩:=Cy (show pU _ _=some res from e);split at e
   .exact ih e
   .cases e
def SH{k:Kn}(g:fw K k Z U):fw K k (iy n cF Z) (qN n cF U):=by
 refine⟨by unfold iy qN;rw[b_,b_,aW,aW,ym,ym],λi v e=>?_⟩
 unfold qN at e;unfold iy;by_cases hi:i<n
 .rw[gj (by rw[ym];exact hi),Iu,aU hi] at e;cases e
 .have hi:=Nat.le_of_not_lt hi;rw[gE (by rw[ym];exact hi),ym,gn] at e ⊢
  obtain⟨j,h1,h2⟩:=cS.mp e;obtain⟨x,h3,h4⟩:=g.at' j v (Eg h2)
  simp_all
def VY{J:It}{k1:Kn}{H1:Hp}{m:Nat}{out:List D}{S1 S2:ba}{τ:St}{gt:GT}{ge:GE}{eD:List V->Hp->Prop}(ht:fI K t gg)(r1:fH K k1 H1 m J ds)(bq:bO K k1 H1 S1)(g1:fw K k1 τ U)(e:bx gg gt ge ds U S1 []=some (.ok out S2))
  (w:∀k H vs,Up m k1 H1 k H->bO K k H S2->af K k vs out->eD vs H):lU J t (tT K W0 m gt) (tE K W0 m ge) τ H1 eD:=by
 refine⟨ds.length,λi τ vs H=>i<=ds.length/\∃k U S bB,bO K k H S/\fw K k τ U/\af K k vs bB/\Up m k1 H1 k H/\bx gg gt ge (ds.drop i) U S bB=some (.ok out S2),⟨k7 _,k1,U,S1,[],bq,g1,.nil,.refl,e⟩,?_⟩
 rintro i τ vs H hi ⟨_,k,U,S,bB,ok,gk,rv,u,e⟩;rcases Nat.lt_or_ge i ds.length with h|h
 .rw[DJ h] at e;refine .inr ⟨h,r1.go i k H u.le ok.le u.kept h,λx H' y=>?_⟩
  refine kY λkz=>?_
  obtain⟨F',s1,s2,s3,s4,rp⟩:=r1.pJ i k H x H' u.le ok.le u.kept y _ (gp h);have u2:Up m k H ⟨F',k.A,k.T⟩ H':=.of s1 s2;have fB:bO K ⟨F',k.A,k.T⟩ H' S:=ok.new s1 (λp _ o z=>s2 p o z) s3 λp m=>s4 p (ok.there p m)
  obtain⟨U1,e1,e2⟩:=cC.mp e;refine kz ?_;refine ht _ H' τ U U1 x ds[i] _ s3 (gk.up u2) rp e1 λτ1 g1=>?_
  obtain⟨b,S3,e3,e4⟩:=Cy e2;refine⟨_,U1,S,_,fB,g1,e3,λb' k3 H3 u3 iI r3=>?_⟩
  cases r3;have u4:=(u.trans u2).trans u3;cases b with
  |false=>exact oO ⟨h,k3,U1,S3,bB,iI,g1.up u3,rv.mono (u2.trans u3).le,u4,e4⟩
  |true=>
   obtain⟨y,S4,e5,e6⟩:=Cy (show pU _ _=some _ from e4);refine oP (Nl ⟨_,U1,S3,_,iI,g1.up u3,e5,λv k5 H5 u5 lI r5=>?_⟩)
   split at e6
   .rename_i hl
    refine⟨eO (by rw[rv.length];exact hl) (by decide),h,k5,U1,S4,bB++[y],lI,(g1.up u3).up u5,(rv.mono ((u2.trans u3).trans u5).le).append r5,u4.trans u5,e6⟩
   .cases e6
 .rw[DS h] at e;cases e;exact .inl ⟨r1.stop i k H u.le ok.le u.kept h,w k H vs u ok rv⟩
def KQ{H:Hp}{Q:VK}(ht:fI K t gg)(h:tE K W q (bA q src gg tt te n cF) Z H Q):∃m,tX (RI K q) K W q src Z H λJ H1=>lU J t (tT K W0 m (tt m)) (tE K W0 m (te m)) (iy n cF Z) H1 λbB H'=>∀l,H' l=none->Q (.ref l) (upd H' l (.lst bB)):=by
 refine kY λkz=>?_
 obtain⟨k,U,S,res,ok,gk,e,w⟩:=h;refine kz ?_;rcases zr e with⟨⟨m,ds⟩,S1,e1,e2⟩|⟨C,l,S1,e1,rfl⟩
 .refine⟨jq q m,k,U,S,_,ok,gk,e1,λJ k1 H1 u1 bq r1=>?_⟩
  rcases zr e2 with⟨out,S2,e3,e4⟩|⟨C,l,S2,e3,rfl⟩
  .cases e4;refine VY ht r1 bq (SH (gk.up u1)) e3 λk2 H2 vs u2 cR rv l hl=>?_
   exact iS.lst (.fin cR ((w.up u1).up (u2.weak (Nj q m)))) cR.le rv hl
  .obtain⟨_,_,z⟩:=QL e3;cases z
 .exact⟨0,k,U,S,_,ok,gk,e1,w⟩
def SJ(hc:X.calm=true)(ok:du X scope M n cF)(hi:PI X tg iter wi)(mP:∀Z H R,tX (RI K q) K W q src Z H R->wi Z H R)(ht:fI K t gg)
  (hg:∀C s H fp,PG (dH X scope M C s H fp) tg t) (hT:∀m C s H fp,m8 (dH X scope M C s H fp) ifs (tT K W0 m (tt m))) (hE:∀m C s H fp,PE (dH X scope M C s H fp) elt (tE K W0 m (te m)))
  (hs:∀x,foldedSetIterable iter X.env x=pure x):PE X (.ListComp elt [⟨tg,iter,ifs,0⟩] scope pos) (tE K W q (bA q src gg tt te n cF)):=λae s Z H Q I h=>by
 obtain⟨m,h⟩:=KQ ht h;exact Sh hc ok hi hg (hT m) (hE m) hs ae s Z H Q I (mP _ _ _ h)
def KR{mu:Bool}{i:Nat}{x:Str}{px jh:Pos}{f:GE}(hh:∀Z H Q,tE K W q f Z H Q->tE K W q (bA q src gg tt te n cF) Z H Q)(hc:X.calm=true)(ok:du X scope M n cF)(hN:X.N.Nodup)(qY:X.N[i]?=some x)(hx:Loc X.env.scope x)(hi:PI X tg iter wi)(mP:∀Z H R,tX (RI K q) K W q src Z H R->wi Z H R)(ht:fI K t gg)
  (hg:∀C s H fp,PG (dH X scope M C s H fp) tg t) (hT:∀m C s H fp,m8 (dH X scope M C s H fp) ifs (tT K W0 m (tt m))) (hE:∀m C s H fp,PE (dH X scope M C s H fp) elt (tE K W0 m (te m)))
  (vt:swapsWith (.ListComp elt [⟨tg,iter,ifs,0⟩] scope pos) (some (.Name x px)) jh.line X.env=pure true) (hs:∀x,foldedSetIterable iter X.env x=pure x) (hf:X.fn x=true\/X.env.scope.names.lookup x=some .local) :
  PS X (.Assign [.Name x px] (.ListComp elt [⟨tg,iter,ifs,0⟩] scope pos) jh) (tS K W q (ag i mu f)):=λae s Z H D I h=>by
 obtain⟨m,h⟩:=KQ ht (hh _ _ _ (Mb h));exact Si hc ok hN qY hx hi hg (hT m) (hE m) vt hs hf ae s Z H D I (mP _ _ _ h)
end
end L2
namespace L2
open PySem PySem.Spec PySem.W PySem.Calls PyProof.Rows
def ER(C:aj)(fe:GE):GS:=λU S=>i7 U (fe U S) λ_ S1=>some (.ex C none U S1)
section
variable{X:Cx}{K:eU}{W:XW}{q:Nat}{C B0:aj}{x:Str}{p cp pos:Pos}{e:Expr}{fe:GE}
def QM(G:km K C (.ref B0::pV) none)(G0:km K B0 pV none)(hk:keepIn K (.ref C)=true)(hm:X.mg x=some (.ref C))(hp:jo X W)(he:PE X e (tE K W q fe))(hc:X.calm=true)(hg:Gl X x)(lE:(x == ("__debug__":Str))=false)
  (lF:starEach [e] X.env=(false,eval e X.env)::starEach [] X.env) (hK:X.K=K):PS X (.Raise (some (.Call (.Name x p) [e] [] cp)) none pos) (tS K W q (ER C fe)):=by
 subst hK;intro ae s Z H D I t;have t1:tE X.K W q fe Z H λ_ H1=>W C none Z H1:=by
  refine kY λkz=>?_
  obtain⟨k,U,S,fr,ok,gk,e,w⟩:=t;refine kz ?_;refine tS.bd ok gk e w λr S1 v k1 H1 bq g1 r1 e1 w1=>?_
  cases e1;exact w1 none Z k1 H1 .refl bq g1 rfl
 refine kY λkz=>?_
 obtain⟨nm,qq,N,bs,sn,sub,ab,col,dd,k0,k1,k2,k3,k5,on,AM,es,ep,A6,g1,g2,g3,g4⟩:=id G;refine kz ?_;rw[arm_exec_Raise];show wpAny _ _ (do standAt pos;raiseStmt X.env (some (do let v <-eval (.Call (.Name x p) [e] [] cp) X.env;standAt pos;pure v)) none) _ _ _
 refine aE (wpAny_standAt (wpAny_raiseStmt_made_sub (C:=C) (nm:=nm) (q:=qq) (N:=N) (bs:=bs) (bm:=.ref B0::pV) (hdct:=true) (sn:=sn) (sub:=sub) (ab:=ab) (col:=col) (dd:=dd) (k0:=k0) (k1:=k1) (k2:=k2) (k3:=k3) (k5:=k5) (newId:="ValueError.__new__") rfl (I.ok.hd hc) (aE (bz ?_ λv s3 h3=>aE (wpAny_standAt (a_ h3))))))
 refine wpAny_Call_Name_kw (EI I hg hm ?_ lE);have g8:(backTo cp (starEach [] X.env)).any (·.1)=false:=rfl
 refine PySem.W.callWith_K (h₀:=X.base) I.ok.mod.Dx hk (bz ((Cv he jZ lF) cp ae s Z H (λvs H1=>vs.length=1/\W C none Z H1) I (lY t1 λ_ H1 h=>⟨rfl,h⟩)) λus s1 hh=>?_) lF g8
 refine kY λkz=>?_
 obtain⟨vs,H1,I1,r,hl,pp⟩:=hh;refine kz ?_;refine⟨I1.lG,?_⟩;obtain⟨u,rfl⟩:∃u,us=[u]:=by
  have l:=r.length;rw[hl] at l;cases us with
  |nil=>cases l
  |cons u us=>cases us with
   |nil=>exact⟨u,rfl⟩
   |cons _ _=>cases l
 refine QI G G0 I1 λh' t kp g=>⟨_,t,rfl,kp _ _ (I1.lG _ _ g1),g,?_⟩
 exact hp ae Z H1 s1 H1 _ _ C none I1 ⟨rfl,I1.bare,Un.kept kp,I1.bL.kept kp,yo _,I1.bL.fresh (yo _),_,_,g,rfl,rfl,rfl,by show 1<6;decide,.inl rfl⟩ pp
end
end L2
namespace L2
open PySem PySem.Spec PyProof.Rows
variable{K:aH}{es:List D}{j n:Nat}
abbrev aQ(K:aH)(H:Hp):List V->List D->Prop:=af K ⟨H,[],[]⟩
def af.Oc{H H1:Hp}{vs:List V}{ds:List D}(h:af K ⟨H,[],[]⟩ vs ds)(s:ay H H1):af K ⟨H1,[],[]⟩ vs ds:=af.mono (k:=⟨H,[],[]⟩) ⟨s,iX ([]:List aj)⟩ h
section
variable{X:Cx}
mutual
def cj:D->D->Bool
 |.lst xs,.lst ys=>dQ xs ys
 |.tup xs,.tup ys=>dQ xs ys
 |.aR,.aR=>true
 |.bl a,.bl b=>a == b
 |.bl a,.int b=>(if a then 1 else 0) == b
 |.int a,.bl b=>a == (if b then 1 else 0)
 |.int a,.int b=>a == b
 |.str a,.str b=>a == b
 |_,_=>false
def dQ:List D->List D->Bool
 |[],[]=>true
 |x::xs,y::ys=>cj x y&&dQ xs ys
 |_,_=>false
end
noncomputable def bR:Nat->D->Bool
 |n+1,.lst xs=>xs.all (bR n)
 |n+1,.tup xs=>xs.all (bR n)
 |_,.aR=>true
 |_,.bl _=>true
 |_,.int _=>true
 |_,.str _=>true
 |_,_=>false
theorem y6:∀{xs ys:List D},xs.length≠ys.length->dQ xs ys=false
 |[],[],h=>bG rfl h
 |[],_::_,_=>rfl
 |_::_,[],_=>rfl
 |x::xs,y::ys,h=>by show(cj x y&&dQ xs ys)=false;rw[y6 (by simpa using h),By]
theorem y7:∀{xs ys:List D} (n:Nat),xs.length=n->ys.length=n->dQ xs ys=(List.range n).all λj=>cj (xs.getD j .aR) (ys.getD j .aR)
 |[],[],0,_,_=>rfl
 |x::xs,y::ys,n+1,h1,h2=>by
  show(cj x y&&dQ xs ys)=_;rw[y7 n (by simpa using h1) (by simpa using h2),List.range_succ_eq_map,k9,yr]
  rfl
 |[],_,_+1,h,_=>by simp at h
 |_::_,[],_+1,_,h=>by simp at h
 |_::_,_,0,h,_=>by simp at h
 |[],_::_,0,_,h=>by simp at h
variable{ae:List (aj×Obj)}{Z:St}{H:Hp}{s:au}
def sM{F:Hp}{ws:List V}(r:aQ K F ws es){aA:List ai}(rv:Vals ws aA)(h:j<aA.toArray.size):∃x,RelV x aA.toArray[j]/\aQ K F [x] [es.getD j .aR]/\j<es.length:=by
 obtain⟨x,hx,rx⟩:=rv.at h;have hl:=r.length;have hj:j<es.length:=by
  grind
 obtain⟨y,hy,ry⟩:=r.get (i:=j) (d:=es[j]) (by simp[hj])
 rw[hx] at hy;cases hy;refine⟨x,rx,?_,hj⟩;rw[show es.getD j .aR=es[j] by simp[hj]]
 exact ry
def sH{p:D->Bool}(h:es.all p=true)(hj:j<es.length):p (es.getD j .aR)=true:=by
 simp_all
inductive uh (K:aH) (H:Hp) (s:au):ai->D->Prop
 |none:uh K H s .none .aR
 |bool (b:Bool):uh K H s (.bool b) (.bl b)
 |int (i:Int) (t:Tok):uh K H s (.int i t) (.int i)
 |str (x:Str) (t:Tok):uh K H s (.str x t) (.str x)
 |list {a:aj} {aA:List ai} {ws:List V} {es:List D}:s.heap.IsList a aA.toArray->Vals ws aA->aQ K H ws es->uh K H s (.ref a) (.lst es)
 |tuple {a:aj} {aA:List ai} {ws:List V} {es:List D}:s.heap.IsTuple a aA.toArray->Vals ws aA->aQ K H ws es->uh K H s (.ref a) (.tup es)
def CM(I:Inv X ae Z H s){x:V}{u:ai}{d:D}(r:aQ X.K H [x] [d])(ru:RelV x u)(ok:bR n d=true):uh X.K H s u d:=by
 cases r.one with
 |lst q i=>
  cases ru;obtain⟨aA,rv,pl,_⟩:=I.list q;exact .list pl.isList rv i
 |tup q i=>
  cases ru;obtain⟨aA,rv,pl,_⟩:=I.tuple q;exact .tuple pl rv i
 |aP _ _ _ _=>cases n <;> cases ok
 |ref _=>cases n <;> cases ok
 |flat q=>
  cases d with
  |aR=>cases q;cases ru;exact .none
  |bl b=>cases q;cases ru;exact .bool b
  |int i=>cases q;obtain⟨t,rfl⟩:=ru;exact .int i t
  |str z=>cases q;obtain⟨t,rfl⟩:=ru;exact .str z t
  |ty _=>cases n <;> cases ok
  |lst _=>cases q
  |tup _=>cases q
  |aP _=>cases q
  |ref _=>cases q
def uB(h:bR n (.lst es)=true):∃m,n=m+1/\es.all (bR m)=true:=by
 cases n with
 |zero=>cases h
 |succ n=>exact⟨n,rfl,h⟩
def uC(h:bR n (.tup es)=true):∃m,n=m+1/\es.all (bR m)=true:=by
 cases n with
 |zero=>cases h
 |succ n=>exact⟨n,rfl,h⟩
def JD(h:∀d∈es,cj d d=true):dQ es es=true:=by
 induction es with
 |nil=>rfl
 |cons d es ih=>show(cj d d&&dQ es es)=true;rw[h d (by simp),ih λd m=>h d (by simp[m])];rfl
theorem y8:∀(n:Nat) {d:D},bR n d=true->cj d d=true:=by
 intro n
 induction n with
 |zero=>intro d h;cases d <;> first|(cases h;done)|exact rfl|exact qm _
 |succ n ih=>
  intro d h;cases d with
  |lst es=>exact JD λd m=>ih (gF.mp h d m)
  |tup es=>exact JD λd m=>ih (gF.mp h d m)
  |aP _=>cases h
  |ref _=>cases h
  |ty _=>cases h
  |_=>first|exact rfl|exact qm _
def OM{xs ys:List D}(hl:xs.length=ys.length)(h:∀j,j<xs.length->xs.getD j .aR=ys.getD j .aR):xs=ys:=by
 apply List.ext_getElem hl;intro j h1 h2;have:=h j h1;simpa[h1,h2] using this
noncomputable def H_:V->D
 |.bl b=>.bl b
 |.int i=>.int i
 |.str x=>.str x
 |.ty n=>.ty n
 |_=>.aR
def JE{d:D}{v:V}(h:qF d=some v):d=H_ v:=by cases d <;> cases h <;> rfl
def xh{d:D}{a:aj}(h:qF d=some (.ref a)):False:=by cases d <;> cases h
theorem Cz(I:Inv X ae Z H s):∀(n m:Nat) {x:V} {d e:D},aQ X.K H [x] [d]->aQ X.K H [x] [e]->bR n d=true->bR m e=true->d=e:=by
 intro n
 induction n using Nat.strongRecOn with
 |ind n ih=>
 intro m x d e rd re od oe;have go:∀{ws:List V} {es h_:List D} {n' m':Nat},n'<n->aQ X.K H ws es->aQ X.K H ws h_->es.all (bR n')=true->h_.all (bR m')=true->es=h_:=by
  intro ws es h_ n' m' hn r1 r2 o1 o2;have l1:=r1.length;have l2:=r2.length;refine OM (by lia) λj hj=>?_
  have xZ:j<h_.length:=by lia
  obtain⟨v,g1,g2⟩:=r1.get (i:=j) (d:=es[j]) (by simp[hj])
  obtain⟨v',p1,p2⟩:=r2.get (i:=j) (d:=h_[j]) (by simp[xZ])
  rw[g1] at p1;cases p1;rw[show es.getD j .aR=es[j] by simp[hj],show h_.getD j .aR=h_[j] by simp[xZ]]
  exact ih n' hn m' g2 p2 (gF.mp o1 _ (ua hj)) (gF.mp o2 _ (ua xZ))
 cases rd.one with
 |flat q=>
  cases re.one with
  |flat q'=>
   rw[JE q,JE q']
  |lst _ _=>exact(xh q).elim
  |tup _ _=>exact(xh q).elim
  |aP _ _ _ _=>exact(xh q).elim
  |ref _=>exact(xh q).elim
 |lst q i=>
  obtain⟨n',rfl,oX⟩:=uB od;cases re.one with
  |flat q'=>exact(xh q').elim
  |lst q' i'=>
   obtain⟨m',rfl,oY⟩:=uB oe;cases I.iG q q';rw[go (r9 _) i i' oX oY]
  |tup q' i'=>
   obtain⟨_,_,p1,_⟩:=I.list q;obtain⟨_,_,p2,_⟩:=I.tuple q';exact bG rfl (SeqAt.ne_of_list_tuple p1.isList p2)
  |aP _ _ _ _=>cases m <;> cases oe
  |ref _=>cases m <;> cases oe
 |tup q i=>
  obtain⟨n',rfl,oX⟩:=uC od;cases re.one with
  |flat q'=>exact(xh q').elim
  |tup q' i'=>
   obtain⟨m',rfl,oY⟩:=uC oe;cases I.jB q q';rw[go (r9 _) i i' oX oY]
  |lst q' i'=>
   obtain⟨_,_,p1,_⟩:=I.list q';obtain⟨_,_,p2,_⟩:=I.tuple q;exact bG rfl (SeqAt.ne_of_list_tuple p1.isList p2)
  |aP _ _ _ _=>cases m <;> cases oe
  |ref _=>cases m <;> cases oe
 |aP _ _ _ _=>cases n <;> cases od
 |ref _=>cases n <;> cases od
def xx(I:Inv X ae Z H s):∀(n m:Nat) {A:cy} {x y:V} {u v:ai} {d e:D},aQ X.K H [x] [d]->aQ X.K H [y] [e]->bR n d=true->bR m e=true->RelV x u->RelV y v->A.units+n<cLine->
  SeqAt.EqAt A s u v (cj d e)/\SeqAt.RcAt A s u v (cj d e):=by
 intro n
 induction n using Nat.strongRecOn with
 |ind n ih=>
 intro m A x y u v d e rd re od oe ru rv hu;have cw:A.units<cLine:=by lia
 have s1:=CM I rd ru od;have s2:=CM I re rv oe;cases s1 with
 |none=>
  cases s2 with
  |none=>
   exact⟨SeqAt.EqAt.same _,SeqAt.RcAt.none_none⟩
  |bool a2=>
   exact⟨SeqAt.EqAt.none_bool a2,SeqAt.RcAt.none_bool a2⟩
  |int a2 t2=>
   exact⟨SeqAt.EqAt.none_int a2 t2,SeqAt.RcAt.none_int a2 t2⟩
  |str a2 t2=>
   exact⟨SeqAt.EqAt.none_str a2 t2,SeqAt.RcAt.none_str a2 t2⟩
  |list l2 v2 r2=>
   exact⟨SeqAt.EqAt.none_list l2 cw,SeqAt.RcAt.none_list l2 cw⟩
  |tuple l2 v2 r2=>
   exact⟨SeqAt.EqAt.none_tuple l2 cw,SeqAt.RcAt.none_tuple l2 cw⟩
 |bool a1=>
  cases s2 with
  |none=>
   exact⟨SeqAt.EqAt.bool_none a1,SeqAt.RcAt.bool_none a1⟩
  |bool a2=>
   exact⟨SeqAt.EqAt.bool_bool a1 a2,SeqAt.RcAt.bool_bool a1 a2⟩
  |int a2 t2=>
   exact⟨SeqAt.EqAt.bool_int a1 a2 t2,SeqAt.RcAt.bool_int a1 a2 t2⟩
  |str a2 t2=>
   exact⟨SeqAt.EqAt.bool_str a1 a2 t2,SeqAt.RcAt.bool_str a1 a2 t2⟩
  |list l2 v2 r2=>
   exact⟨SeqAt.EqAt.bool_list a1 l2 cw,SeqAt.RcAt.bool_list a1 l2 cw⟩
  |tuple l2 v2 r2=>
   exact⟨SeqAt.EqAt.bool_tuple a1 l2 cw,SeqAt.RcAt.bool_tuple a1 l2 cw⟩
 |int a1 t1=>
  cases s2 with
  |none=>
   exact⟨SeqAt.EqAt.int_none a1 t1,SeqAt.RcAt.int_none a1 t1⟩
  |bool a2=>
   exact⟨SeqAt.EqAt.int_bool a1 t1 a2,SeqAt.RcAt.int_bool a1 t1 a2⟩
  |int a2 t2=>
   exact⟨SeqAt.EqAt.int_int a1 t1 a2 t2,SeqAt.RcAt.int_int a1 t1 a2 t2⟩
  |str a2 t2=>
   exact⟨SeqAt.EqAt.int_str a1 t1 a2 t2,SeqAt.RcAt.int_str a1 t1 a2 t2⟩
  |list l2 v2 r2=>
   exact⟨SeqAt.EqAt.int_list a1 t1 l2 cw,SeqAt.RcAt.int_list a1 t1 l2 cw⟩
  |tuple l2 v2 r2=>
   exact⟨SeqAt.EqAt.int_tuple a1 t1 l2 cw,SeqAt.RcAt.int_tuple a1 t1 l2 cw⟩
 |str a1 t1=>
  cases s2 with
  |none=>
   exact⟨SeqAt.EqAt.str_none a1 t1,SeqAt.RcAt.str_none a1 t1⟩
  |bool a2=>
   exact⟨SeqAt.EqAt.str_bool a1 t1 a2,SeqAt.RcAt.str_bool a1 t1 a2⟩
  |int a2 t2=>
   exact⟨SeqAt.EqAt.str_int a1 t1 a2 t2,SeqAt.RcAt.str_int a1 t1 a2 t2⟩
  |str a2 t2=>
   exact⟨SeqAt.EqAt.str_str a1 t1 a2 t2,SeqAt.RcAt.str_str a1 t1 a2 t2⟩
  |list l2 v2 r2=>
   exact⟨SeqAt.EqAt.str_list a1 t1 l2 cw,SeqAt.RcAt.str_list a1 t1 l2 cw⟩
  |tuple l2 v2 r2=>
   exact⟨SeqAt.EqAt.str_tuple a1 t1 l2 cw,SeqAt.RcAt.str_tuple a1 t1 l2 cw⟩
 |@list a aA ws es l1 v1 r1=>
  cases s2 with
  |none=>
   exact⟨SeqAt.EqAt.list_none l1 cw,SeqAt.RcAt.list_none l1 cw⟩
  |bool a2=>
   exact⟨SeqAt.EqAt.list_bool a2 l1 cw,SeqAt.RcAt.list_bool a2 l1 cw⟩
  |int a2 t2=>
   exact⟨SeqAt.EqAt.list_int a2 t2 l1 cw,SeqAt.RcAt.list_int a2 t2 l1 cw⟩
  |str a2 t2=>
   exact⟨SeqAt.EqAt.list_str a2 t2 l1 cw,SeqAt.RcAt.list_str a2 t2 l1 cw⟩
  |@list b g9 yk h_ l2 v2 r2=>
   obtain⟨n',rfl,oX⟩:=uB od;obtain⟨m',rfl,oY⟩:=uB oe;have la:=v1.length;have lb:=v2.length;have G3:=r1.length;have G4:=r2.length;have rc:SeqAt.RcAt A s (.ref a) (.ref b) (cj (.lst es) (.lst h_)):=by
    show SeqAt.RcAt A s _ _ (dQ es h_);by_cases hl:es.length=h_.length
    .rw[y7 aA.toArray.size (by simp only[dq];lia) (by simp only[dq];lia)]
     refine SeqAt.RcAt.lists (A:=A) l1 l2 (by simp only[dq];lia) cw λj h1 h2=>?_
     obtain⟨x1,q1,q2,q3⟩:=sM r1 v1 h1;obtain⟨y1,p1,p2,p3⟩:=sM r2 v2 h2;exact(ih n' (r9 _) m' q2 p2 (sH oX q3) (sH oY p3) q1 p1 (by show A.units+1+n'<cLine;lia)).1
    grind [y6,PySem.SeqAt.RcAt.lists_lengths]
   grind [RelV.inj,Cz,y8,PySem.SeqAt.EqAt.same,PySem.SeqAt.EqAt.of_refs]
  |tuple l2 v2 r2=>
   exact⟨SeqAt.EqAt.list_tuple l1 l2 cw,SeqAt.RcAt.list_tuple l1 l2 cw⟩
 |@tuple a aA ws es l1 v1 r1=>
  cases s2 with
  |none=>
   exact⟨SeqAt.EqAt.tuple_none l1 cw,SeqAt.RcAt.tuple_none l1 cw⟩
  |bool a2=>
   exact⟨SeqAt.EqAt.tuple_bool a2 l1 cw,SeqAt.RcAt.tuple_bool a2 l1 cw⟩
  |int a2 t2=>
   exact⟨SeqAt.EqAt.tuple_int a2 t2 l1 cw,SeqAt.RcAt.tuple_int a2 t2 l1 cw⟩
  |str a2 t2=>
   exact⟨SeqAt.EqAt.tuple_str a2 t2 l1 cw,SeqAt.RcAt.tuple_str a2 t2 l1 cw⟩
  |list l2 v2 r2=>
   exact⟨SeqAt.EqAt.tuple_list l1 l2 cw,SeqAt.RcAt.tuple_list l1 l2 cw⟩
  |@tuple b g9 yk h_ l2 v2 r2=>
   obtain⟨n',rfl,oX⟩:=uC od;obtain⟨m',rfl,oY⟩:=uC oe;have la:=v1.length;have lb:=v2.length;have G3:=r1.length;have G4:=r2.length;have rc:SeqAt.RcAt A s (.ref a) (.ref b) (cj (.tup es) (.tup h_)):=by
    have z:=SeqAt.RcAt.tuples (A:=A) (e:=λj=>cj (es.getD j .aR) (h_.getD j .aR)) l1 l2 cw λj h1 h2=>by
     obtain⟨x1,q1,q2,q3⟩:=sM r1 v1 h1;obtain⟨y1,p1,p2,p3⟩:=sM r2 v2 h2;exact(ih n' (r9 _) m' q2 p2 (sH oX q3) (sH oY p3) q1 p1 (by show A.units+1+n'<cLine;lia)).1
    show SeqAt.RcAt A s _ _ (dQ es h_);by_cases hl:es.length=h_.length
    .rw[y7 aA.toArray.size (by simp only[dq];lia) (by simp only[dq];lia)]
     have e1:g9.toArray.size=aA.toArray.size:=by simp only[dq];lia
     rw[e1,Nat.min_self,qm,Bool.and_true] at z;exact z
    .rw[y6 hl];have e1:(aA.toArray.size == g9.toArray.size)=false:=by rw[nA];simp only[dq];lia
     rw[e1,By] at z;exact z
   grind [RelV.inj,Cz,y8,PySem.SeqAt.EqAt.same,PySem.SeqAt.EqAt.of_refs]
end
mutual
theorem za:∀k j:TK,cj k.d j.d=decide (k=j)
 |.inl a,.inl b=>by show(a == b)=_;rw[qj];simp
 |.inr a,.inr b=>by show(a == b)=_;rw[qj];simp
 |.tp l,.tp m=>by show dQ (TK.dl l) (TK.dl m)=_;rw[kC l m,qj];simp
 |.inl _,.inr _=>rfl
 |.inl _,.tp _=>rfl
 |.inr _,.inl _=>rfl
 |.inr _,.tp _=>rfl
 |.tp _,.inl _=>rfl
 |.tp _,.inr _=>rfl
 |.aR,.aR=>rfl
 |.aR,.inl _=>rfl
 |.aR,.inr _=>rfl
 |.aR,.tp _=>rfl
 |.inl _,.aR=>rfl
 |.inr _,.aR=>rfl
 |.tp _,.aR=>rfl
theorem kC:∀l m:List TK,dQ (TK.dl l) (TK.dl m)=decide (l=m)
 |[],[]=>rfl
 |a::l,b::m=>by show(cj a.d b.d&&dQ (TK.dl l) (TK.dl m))=_;rw[za a b,kC l m,qj];simp
 |[],_::_=>rfl
 |_::_,[]=>rfl
end
theorem xy:∀l:List TK,TK.dl l=l.map TK.d
 |[]=>by simp[TK.dl]
 |a::l=>by simp[TK.dl,xy l]
theorem qB:∀(n:Nat) {k:TK},k.ok n=true->bR n k.d=true
 |n,.inl i,_=>by cases n <;> rfl
 |n,.inr i,_=>by cases n <;> rfl
 |n,.aR,_=>by cases n <;> rfl
 |0,.tp l,h=>by simp[TK.ok] at h
 |n+1,.tp l,h=>by
  show(TK.dl l).all (bR n)=true;rw[xy,yr];refine gF.mpr λa m=>?_
  exact qB n (gF.mp (by simpa only[TK.ok] using h) a m)
def PF{α:Type}{M:Model}{A:cy}{E:ai->au->Prop}{s:au}{c:Prop}[Decidable c]{a b:Sem α}{Q:α->au->Prop}(h1:wpAny M A a Q E s)(h2:wpAny M A b Q E s):wpAny M A (if c then a else b) Q E s:=by
 split
 .exact h1
 .exact h2
theorem IW(w:bX):∀l m:List TK,TK.dm w (l++m)=TK.dm w l++TK.dm w m
 |[],m=>by simp[TK.dm]
 |a::l,m=>by simp[TK.dm,IW w l m]
section
variable{X:Cx}{ae:List (aj×Obj)}{Z:St}{H:Hp}
def KS{A:cy}{E:ai->au->Prop}{s:au}{y:V}{u:ai}{i:Int}{Q:Int->au->Prop}(r:aQ X.K H [y] [TK.d (.inl i)])(ru:RelV y u)(h:∀t,Q (TK.hash X.w (.inl i)) { s with toks:=t}):wpAny (mX X) A (pyHash u) Q E s:=by
 cases(show y=.int i from af.aL r rfl);obtain⟨t,rfl⟩:=ru;exact wpAny_pyHash_int (by simpa only[TK.hash] using h _)
def KU{A:cy}{E:ai->au->Prop}{s:au}{y:V}{u:ai}{i:Str}{Q:Int->au->Prop}(r:aQ X.K H [y] [TK.d (.inr i)])(ru:RelV y u)(h:∀t,Q (TK.hash X.w (.inr i)) { s with toks:=t}):wpAny (mX X) A (pyHash u) Q E s:=by
 cases(show y=.str i from af.aL r rfl);obtain⟨t,rfl⟩:=ru;exact wpAny_pyHash_str (by simpa only[TK.hash] using h _)
theorem KW{A:cy}{E:ai->au->Prop}{s:au}{y:V}{u:ai}{Q:Int->au->Prop}(r:aQ X.K H [y] [TK.d .aR])(ru:RelV y u)(h:∀t,Q (TK.hash X.w .aR) { s with toks:=t}):wpAny (mX X) A (pyHash u) Q E s:=by
 cases(show y=.aR from af.aL r rfl);cases ru;have hT:s.TypeIs .none "NoneType":=rfl;unfold pyHash;have hv:[Value.none].any Value.onHeap=false:=rfl;refine aE ?_;rw[cRoomFor,aO (by rw[hv];exact qi)];refine a_ ?_
 refine aE (wpAny_specialOf hT F.slot_NoneType_hash.lookup ?_);show wpAny _ _ (if(some (Value.builtin "NoneType.__hash__") == some Value.none)=true then _ else _) Q E s
 rw[aO (by rw[beq_builtin_none];exact qi)]
 refine aE (wpAny_specialOf hT F.slot_NoneType_hash.lookup ?_);show wpAny _ _ (callSpecialIfBoundUnlessNone? .none "__hash__" _ >>= _) Q E s;refine aE (wpAny_callSpecialIfBoundUnlessNone?_slot hT F.slot_NoneType_hash (wpAny_call_entry F.slot_NoneType_hash hT F.entry_NoneType_hash (show wpAny _ _ (do ret (<-mkInt 4238894112)) _ _ s from wpAny_ret_mkInt ?_) (F.args_NoneType_hash_1 _)))
 refine a_ ?_
 grind [TK.hash]
theorem Eu:∀(n:Nat) {A:cy} {E:ai->au->Prop} {s:au} {y:V} {u:ai} {k:TK} {Q:Int->au->Prop},Inv X ae Z H s->aQ X.K H [y] [k.d]->k.ok n=true->RelV y u->A.units+n<cLine->
  (∀t,Q (k.hash X.w) { s with toks:=t})->wpAny (mX X) A (pyHash u) Q E s:=by
 intro n
 induction n with
 |zero=>
  intro A E s y u k Q I r ok ru hu h;cases k with
  |tp l=>simp[TK.ok] at ok
  |inl i=>exact KS r ru h
  |inr x=>exact KU r ru h
  |aR=>exact KW r ru h
 |succ n ih=>
  intro A E s y u k Q I r ok ru hu h;cases k with
  |inl i=>exact KS r ru h
  |inr x=>exact KU r ru h
  |aR=>exact KW r ru h
  |tp l=>
   obtain⟨a,ws,rfl,q,i⟩:=af.isTup r;cases ru;obtain⟨aA,rv,pl,_⟩:=I.tuple q;have hT:s.TypeIs (.ref a) "tuple":=pl.typeIs;obtain⟨o,g1,g2,nn,g3⟩:=pl;have ok:l.all (TK.ok n)=true:=by simpa only[TK.ok] using ok
   show wpAny _ _ (pyHashByItsType (.ref a)) Q E s;unfold pyHashByItsType;refine aE (wpAny_cRoomFor_or (.inr (by lia)) (aE (wpAny_specialOf hT F.slot_tuple_hash.lookup ?_)))
   dsimp only;rw[aO (by rw[beq_builtin_none];exact qi)]
   refine aE (wpAny_specialOf hT F.slot_tuple_hash.lookup (aE ?_));refine wpAny_callSpecialIfBoundUnlessNone?_slot hT F.slot_tuple_hash (wpAny_call_entry F.slot_tuple_hash hT F.entry_tuple_hash ?_ (F.args_tuple_hash_1 _));show wpAny _ _ (Builtin.Tuple.tupleItemsOf (.ref a) >>= λz=>_) _ _ s
   refine aE (wpAny_tupleItemsOf g1 g3 (aE ?_));rw[<-Iv];refine wpAny_forIn_list _ (λrest (b:Array Int) s'=>∃done left wl t,l=done++left/\aQ X.K H wl (TK.dl left)/\Vals wl rest/\b.toList=TK.dm X.w done/\s'={ s with toks:=t}) _ ?_ ?_ _ _ ⟨[],l,ws,s.toks,rfl,i,rv,by simp[TK.dm],rfl⟩
   .rintro x rest b s' ⟨done,left,wl,t,e,r',v',hb,rfl⟩;obtain⟨w1,wl,rfl,HB,v'⟩:=Paired.wA v';cases left with
    |nil=>have:=r'.length;simp[TK.dl] at this
    |cons k1 left=>
     simp only[TK.dl] at r';have bq:k1.ok n=true:=gF.mp ok k1 (by rw[e];simp)
     have fin:∀t',∃sW tN Oe ZS,l=sW++tN/\aQ X.K H Oe (TK.dl tN)/\Vals Oe rest/\(b.push (k1.hash X.w)).toList=TK.dm X.w sW/\({ s with toks:=t'}:au)={ s with toks:=ZS}:=
      λt'=>⟨done++[k1],left,wl,t',by simp[e],r'.inv.2,v',by rw[IW,<-hb];simp[TK.dm],rfl⟩
     exact aE (ih (I.tok t) r'.inv.1 bq HB (by show A.units+1+n<cLine;lia) λt'=>by
      first
       |exact a_ (fin t')
       |exact aE (a_ (a_ (fin t'))))
   .rintro b s' ⟨done,left,wl,t,e,r',v',hb,rfl⟩;cases v';have hl:left=[]:=by
     cases left with
     |nil=>rfl
     |cons _ _=>have:=r'.length;simp[TK.dl] at this
    subst hl;rw[lQ] at e;subst e;show wpAny _ _ (retInt (Builtin.Tuple.tupleHashOf b.toList)) _ _ _;rw[hb];refine wpAny_ret_mkInt ?_;have h':∀t,Q (reduceHash (Builtin.Tuple.tupleHashOf (TK.dm X.w l))) { s with toks:=t}:=λt=>by simpa only[TK.hash] using h t
    unfold reduceHash at h';show wpAny _ _ (if(decide (-(2:Int)^63<=Builtin.Tuple.tupleHashOf (TK.dm X.w l))&&decide (Builtin.Tuple.tupleHashOf (TK.dm X.w l)<2^63))=true then _ else _) Q E _
    split
    .rename_i hc
     rw[aU hc] at h';exact a_ (h' _)
    .rename_i hc
     rw[aO hc] at h';exact aE (wpAny_rule (a_ (h' _)))
theorem B6:∀(n:Nat) {A:cy} {E:ai->au->Prop} {s:au} {y:V} {u:ai} {k:TK} {Q:Bool->au->Prop},Inv X ae Z H s->aQ X.K H [y] [k.d]->k.ok n=true->RelV y u->Q true s->
  wpAny (mX X) A (eqIsQuiet n u) Q E s:=by
 intro n
 induction n with
 |zero=>
  intro A E s y u k Q I r ok ru h;cases k with
  |tp l=>simp[TK.ok] at ok
  |inl i=>cases(show _=.int i from af.aL r rfl);obtain⟨t,rfl⟩:=ru;rw[eqIsQuiet_byValue 0 rfl];exact a_ h
  |inr i=>cases(show _=.str i from af.aL r rfl);obtain⟨t,rfl⟩:=ru;rw[eqIsQuiet_byValue 0 rfl];exact a_ h
  |aR=>cases(show _=.aR from af.aL r rfl);cases ru;rw[eqIsQuiet_byValue 0 rfl];exact a_ h
 |succ n ih=>
  intro A E s y u k Q I r ok ru h;cases k with
  |inl i=>cases(show _=.int i from af.aL r rfl);obtain⟨t,rfl⟩:=ru;rw[eqIsQuiet_byValue (n+1) rfl];exact a_ h
  |inr i=>cases(show _=.str i from af.aL r rfl);obtain⟨t,rfl⟩:=ru;rw[eqIsQuiet_byValue (n+1) rfl];exact a_ h
  |aR=>cases(show _=.aR from af.aL r rfl);cases ru;rw[eqIsQuiet_byValue (n+1) rfl];exact a_ h
  |tp l=>
   obtain⟨a,ws,rfl,q,i⟩:=af.isTup r;cases ru;obtain⟨aA,rv,pl,_⟩:=I.tuple q;have hT:s.TypeIs (.ref a) "tuple":=pl.typeIs;obtain⟨o,g1,g2,nn,g3⟩:=pl;have ok:l.all (TK.ok n)=true:=by simpa only[TK.ok] using ok
   unfold eqIsQuiet;refine aE (wpAny_specialOf hT F.slot_tuple_eq.lookup (aE (wpAny_isInstance hT isSubtype_tuple_tuple ?_)));simp only[wH,jE,iY];refine aE (wpAny_seqItems g1 g3 (aE ?_));show wpAny _ _ (forIn aA.toArray _ _) _ _ s;rw[<-Iv];refine wpAny_forIn_list _ (λrest r s'=>r.1=none/\s'=s/\∃left wl,aQ X.K H wl (TK.dl left)/\Vals wl rest/\∀x∈left,x.ok n=true) _ ?_ ?_ _ _ ⟨rfl,rfl,l,ws,i,rv,λx m=>gF.mp ok x m⟩
   .rintro v rest r s' ⟨hr,rfl,left,wl,r',v',hk⟩;obtain⟨w1,wl,rfl,HB,v'⟩:=Paired.wA v';cases left with
    |nil=>have:=r'.length;simp[TK.dl] at this
    |cons k1 left=>
     simp only[TK.dl] at r';refine aE (ih I r'.inv.1 (hk k1 (by simp)) HB ?_)
     simp only[wH,jE,iY];exact a_ ⟨rfl,rfl,left,wl,r'.inv.2,v',λx m=>hk x (by simp[m])⟩
   .rintro⟨r1,r2⟩ s' ⟨hr,rfl,_⟩;cases(show r1=none from hr);exact a_ h
structure yx (X:Cx) (A:cy) (E:ai->au->Prop) (s:au) (xs:Array DictEntry) (es:List (TK×V×V)) (k:TK) (u:ai):Prop where
 ent:∀(j:Nat) (x:DictEntry),xs[j]?=some x->∃e,es[j]?=some e/\gG X.w e x/\(∀(R:Bool->au->Prop),R (decide (e.1=k)) s->wpAny (mX X) A (eqBool x.key u) R E s)/\
  ∀(R:Bool->au->Prop),R true s->wpAny (mX X) A (eqIsQuiet 8 x.key) R E s
 ents:∀(j:Nat) (e:TK×V×V),es[j]?=some e->∃x:DictEntry,xs[j]?=some x/\gG X.w e x
 uniq:∀(i j:Nat) (e f:TK×V×V),es[i]?=some e->es[j]?=some f->e.1=k->f.1=k->i=j
def VZ{A:cy}{E:ai->au->Prop}{s:au}{xs:Array DictEntry}{es:List (TK×V×V)}{k:TK}{y:V}{u:ai}(I:Inv X ae Z H s)(g3:Paired (gG X.w) es xs.toList)(g4:(es.map (·.1)).Nodup)
  (rk:aQ X.K H (es.map (·.2.1)) (es.map (·.1.d))) (ry:aQ X.K H [y] [k.d]) (ok:k.ok 8=true) (ru:RelV y u) (hu:A.units+8<cLine):yx X A E s xs es k u where
 ent:=λj x hx=>by
  refine kY λkz=>?_
  obtain⟨e,e1,e2⟩:=B5 j g3 (by rw[uc];exact hx)
  obtain⟨v,v1,v2⟩:=rk.get (i:=j) (d:=e.1.d) (by rw[gn,e1];rfl)
  rw[gn,e1] at v1;cases v1;refine kz ?_;refine⟨e,e1,e2,λR hR=>?_,λR hR=>B6 8 I v2 e2.2.2.2 e2.2.1 hR⟩
  refine(xx I 8 8 v2 ry (qB 8 e2.2.2.2) (qB 8 ok) e2.2.1 ru hu).1 X.prog X.w E R ?_;rw[za];exact hR
 ents:=λj e he=>by
  obtain⟨x,x1,x2⟩:=yZ j g3 he
  simp_all
 uniq:=λi j e f he hf ek fk=>by
  have hi:(es.map (·.1))[i]?=some k:=by rw[gn,he,<-ek];rfl
  have hj:(es.map (·.1))[j]?=some k:=by rw[gn,hf,<-fk];rfl
  exact(List.getElem?_inj (cK.mp hi).1 g4).mp (hi.trans hj.symm)
section
variable{A:cy}{E:ai->au->Prop}{s:au}{d:aj}{o:Obj}{xs:Array DictEntry}{ep:Nat}{es:List (TK×V×V)}{k:TK}{u:ai}{Q:ah Nat->au->Prop}
noncomputable abbrev kI(xs:Array DictEntry)(h:Int):List Nat:=placesWithHash xs.size (λi=>xs[i]?.map (·.hash)) h
def j4{h:Int}{i:Nat}:i∈kI xs h↔∃x,xs[i]?=some x/\x.hash=h:=by
 unfold kI placesWithHash;rw[gf,k6];constructor
 .rintro⟨h1,h2⟩;refine⟨xs[i],pF h1,?_⟩;dsimp only at h2;rw[pF h1] at h2;simpa using h2
 .rintro⟨x,h1,h2⟩;refine⟨(ub.mp h1).1,?_⟩;dsimp only;rw[h1,Option.map_some,h2];simp
def PH{h:Int}:(kI xs h).Nodup:=List.Nodup.sublist List.filter_sublist List.nodup_range
def yx.kI(D:yx X A E s xs es k u){j:Nat}{e:TK×V×V}(he:es[j]?=some e)(ek:e.1=k):j∈kI xs (k.hash X.w):=by
 obtain⟨x,x1,x2⟩:=D.ents j e he;exact j4.mpr ⟨x,x1,by rw[x2.1,ek]⟩
def PJ(D:yx X A E s xs es k u)(g1:s.heap.get? d=some o)(g2:o.data=.dict xs ep)
  (q0:(∀(j:Nat) (e:TK×V×V),es[j]?=some e->e.1≠k)->Q none s) (q1:∀(j:Nat) (e:TK×V×V),es[j]?=some e->e.1=k->Q (some j) s) :
  wpAny (mX X) A (dictWalkPlain d u (k.hash X.w) xs (kI xs (k.hash X.w))) Q E s:=by
 unfold dictWalkPlain;refine aE (wpAny_forIn_list _ (λrest b s'=>s'=s/\b=(none,())/\∃done,kI xs (k.hash X.w)=done++rest/\∀j e,j∈done->es[j]?=some e->e.1≠k) _ ?_ ?_ _ _ ⟨rfl,rfl,[],rfl,λ_ _ m=>by cases m⟩)
 .rintro i rest b s' ⟨rfl,rfl,done,hd,p9⟩;refine kY λkz=>?_
  obtain⟨x,x1,x2⟩:=j4.mp (show i∈kI xs (k.hash X.w) by rw[hd];simp)
  obtain⟨e,e1,e2,eq,_⟩:=D.ent i x x1;refine kz ?_;simp only[x1];rw[aU (by rw[x2];simp)]
  refine aE (wpAny_dictEpoch g1 g2 (aE (eq _ (aE (wpAny_dictEpoch g1 g2 ?_)))));rw[aO (by simp)]
  by_cases ek:e.1=k
  .rw[eP ek];exact aE (wpAny_rule (a_ (a_ (q1 i e e1 ek))))
  .rw[eC ek];refine aE (wpAny_rule (a_ ⟨rfl,rfl,done++[i],by simp[hd],λj f m hf=>?_⟩))
   rcases dD.mp m with m|m
   .exact p9 j f m hf
   .simp at m;subst m;rw[e1] at hf;cases hf;exact ek
 .rintro b s' ⟨rfl,rfl,done,hd,p9⟩;refine a_ (q0 λj e he ek=>p9 j e ?_ he ek)
  have:=D.kI he ek
  simp_all
def Zh(u:ai):ai:=u
def KY{v:ai}(h:isExactStrKey v=true):∃z t,v=.str z t:=by
 cases v with
 |str z t=>exact⟨z,t,rfl⟩
 |_=>cases h
def V0{v:ai}{z:Str}(h:v.isStr z=true):∃t,v=.str z t:=by
 cases v with
 |str x t=>exact⟨t,by rw[show x=z by simpa[Value.isStr] using h]⟩
 |_=>cases h
def QN(D:yx X A E s xs es k u)(g1:s.heap.get? d=some o)(g2:o.data=.dict xs ep)(hq:∀(R:Bool->au->Prop),R true s->wpAny (mX X) A (eqIsQuiet 8 u) R E s)
  (hs:∀z t,u=.str z t->k=.inr z) (lF:∀(j:Nat) (x:DictEntry) (e:TK×V×V) z t,xs[j]?=some x->es[j]?=some e->x.key=.str z t->e.1=.inr z) (hh:∀a (j:Nat) (x:DictEntry) (e:TK×V×V),u=.ref a->xs[j]?=some x->es[j]?=some e->x.key=u->e.1=k)
  (q0:(∀(j:Nat) (e:TK×V×V),es[j]?=some e->e.1≠k)->Q none s) (q1:∀(j:Nat) (e:TK×V×V),es[j]?=some e->e.1=k->Q (some j) s) :
  wpAny (mX X) A (dictFind d u (k.hash X.w)) Q E s:=by
 have walk:=PJ D g1 g2 q0 q1;have stored:∀v∈(kI xs (k.hash X.w)).filterMap (λi=>xs[i]?.map (·.key)),∀(R:Bool->au->Prop),R true s->wpAny (mX X) A (eqIsQuiet 8 v) R E s:=by
  intro v hv R hR;obtain⟨i,_,hi⟩:=wC.mp hv;cases hx:xs[i]? with
  |none=>rw[hx] at hi;cases hi
  |some x=>
   rw[hx] at hi;obtain rfl:x.key=v:=by simpa using hi
   obtain⟨e,_,_,_,h⟩:=D.ent i x hx;exact h R hR
 have tell:∀(R:Bool->au->Prop),R false s->wpAny (mX X) A (tableMayTell u ((kI xs (k.hash X.w)).filterMap λi=>xs[i]?.map (·.key))) R E s:=by
  intro R hR;unfold tableMayTell;split
  .exact a_ hR
  .refine aE (hq _ ?_);simp only[wH,jE,iY];refine aE (wpAny_forIn_list _ (λrest r s'=>s'=s/\r=(none,())/\∀v∈rest,∀(R:Bool->au->Prop),R true s->wpAny (mX X) A (eqIsQuiet 8 v) R E s) _ ?_ ?_ _ _ ⟨rfl,rfl,stored⟩)
   .rintro x rest r s' ⟨rfl,rfl,hr⟩;refine aE (hr x (by simp) _ ?_)
    simp only[wH,jE,iY];exact a_ ⟨rfl,rfl,λv hv=>hr v (by simp[hv])⟩
   .rintro r s' ⟨rfl,rfl,_⟩;exact a_ hR
 have tell2:∀(R:Bool->au->Prop),R false s->wpAny (mX X) A (if((kI xs (k.hash X.w)).filterMap (λi=>xs[i]?.map (·.key)) == [u])=true then pure false else tableMayTell u ((kI xs (k.hash X.w)).filterMap λi=>xs[i]?.map (·.key))) R E s:=by
  intro R hR;split
  .exact a_ hR
  .exact tell R hR
 have fin:∀(i:Nat) (x:DictEntry) (e:TK×V×V),xs[i]?=some x->es[i]?=some e->gG X.w e x->(x.hash == k.hash X.w)=false->e.1≠k:=λi x e _ _ he hf ek=>by
  rw[he.1,ek] at hf;simp at hf
 unfold dictFind
 (try with_reducible refine jH ?_);refine aE (wpAny_dictEntries g1 g2 ?_)
 dsimp only;by_cases gZ:((u::(kI xs (k.hash X.w)).filterMap λi=>xs[i]?.map (·.key)).all carriedByValue)=true
 .rw[aU gZ];split;next=>
   rename Str=>z
   split;next GL=>
    unfold foundByValue;cases hf:xs.findIdx? (λe=>e.key.isStr z) with
    |none=>
     refine a_ (q0 λj e he ek=>?_)
     obtain⟨x,x1,x2⟩:=D.ents j e he;have n1:=Array.findIdx?_eq_none_iff.mp hf x (Array.mem_of_getElem? x1);have e2:=x2.2.1;have n2:isExactStrKey x.key=true:=by
      have h:=Array.all_eq_true.mp GL j (ub.mp x1).1;rw[(ub.mp x1).2] at h;exact h
     obtain⟨z2,t2,hk⟩:=KY n2;have e3:=lF j x e z2 t2 x1 he hk;rw[ek,hs z _ rfl] at e3;cases e3;rw[hk] at n1;simp[Value.isStr] at n1
    |some i=>
     obtain⟨x6,hi,_⟩:=Array.findIdx?_eq_some_iff_getElem.mp hf;obtain⟨e,e1,e2,eq,_⟩:=D.ent i xs[i] (pF x6);have ek:e.1=k:=by
      obtain⟨t2,hk⟩:=V0 hi;rw[lF i _ e z t2 (pF x6) e1 hk,hs z _ rfl]
     simp only[pF x6];refine aE (wpAny_dictEpoch g1 g2 (aE (eq _ (aE (wpAny_dictEpoch g1 g2 ?_)))));rw[aO (by simp),eP ek]
     exact aE (wpAny_rule (a_ (q1 i e e1 ek)))
   next=>exact walk
  next=>exact walk
 .rw[aO gZ];have AL:∀z t,u=.str z t->¬(xs.all λe=>isExactStrKey e.key)=true:=by
   intro z t hu hx;refine gZ (gF.mpr λv hv=>?_)
   rcases y06.mp hv with rfl|hv
   .rw[hu];rfl
   .obtain⟨i,_,hi⟩:=wC.mp hv;cases qa:xs[i]? with
    |none=>rw[qa] at hi;cases hi
    |some x=>
     rw[qa] at hi;obtain rfl:x.key=v:=by simpa using hi
     have h:=Array.all_eq_true.mp hx i (ub.mp qa).1;rw[(ub.mp qa).2] at h;obtain⟨_,_,hk⟩:=KY h;rw[hk];rfl
  have tP:∀a,u=.ref a->¬(xs.any λe=>e.key == u&&e.hash != k.hash X.w)=true:=by
   intro a hu hx;rw[Array.any_eq_true] at hx;obtain⟨i,hi,hc⟩:=hx;rw[m6,beq_iff_eq,bne_iff_ne] at hc;obtain⟨e,e1,e2,_⟩:=D.ent i xs[i] (pF hi);have:=hh a i _ e hu (pF hi) e1 hc.1;exact hc.2 (by rw[e2.1,this])
  have Gs:u=Zh u:=rfl;refine(λ(key:?P)=>?main) ?k
  case main=>
   rw(occs:=.pos [1]) [Gs];split
   .rename_i hz
    rw[aO (AL _ _ hz)];rw(occs:=.pos [1]) [Gs];split
    .rename_i ha
     rw[aO (tP _ ha)];exact key
    .exact key
   .rw(occs:=.pos [1]) [Gs];split
    .rename_i ha
     rw[aO (tP _ ha)];exact key
    .exact key
  refine(λ(vD:?P2)=>?AI) ?k2
  case AI=>
   refine PF ?_ ?_
   .refine aE (a_ ?_);exact vD
   .refine aE (tell _ ?_);exact vD
  all_goals (
   show wpAny _ _ (if(false&&_)=true then _ else _) _ _ _
   rw[aO (by rw[Bool.false_and];exact qi)]
   refine aE (wpAny_forIn_list _ (λrest b s'=>s'=s/\∃hit done,b=(none,hit)/\kI xs (k.hash X.w)=done++rest/\((hit=none/\∀(j:Nat) (e:TK×V×V),j∈done->es[j]?=some e->e.1≠k)\/∃(j:Nat) (e:TK×V×V),hit=some j/\j∈done/\es[j]?=some e/\e.1=k)) _ ?_ ?_ _ _
    ⟨rfl,none,[],rfl,rfl,.inl ⟨rfl,λ_ _ m=>by cases m⟩⟩)
   .rintro i rest b s' ⟨rfl,hit,done,rfl,hd,hH⟩;obtain⟨x,x1,x2⟩:=j4.mp (show i∈kI xs (k.hash X.w) by rw[hd];simp)
    obtain⟨e,e1,e2,eq,_⟩:=D.ent i x x1;have Y2:i∉done:=λm=>by
     have:=PH (xs:=xs) (h:=k.hash X.w);rw[hd] at this;exact(k8.mp this).2.2 i m i (by simp) rfl
    simp only[x1];rw[aU (by rw[x2];simp)]
    refine aE (wpAny_dictEpoch g1 g2 (aE (eq _ (aE (wpAny_dictEpoch g1 g2 ?_)))));rw[aO (by simp)]
    by_cases ek:e.1=k
    .rw[eP ek];rcases hH with⟨rfl,p9⟩|⟨j,f,rfl,jd,jf,fk⟩
     .first|rw[aU rfl]|skip
      simp only[Option.isSome_none,jE,iY];skip;refine aE (wpAny_rule ?_);split
      .exact a_ (a_ (q1 i e e1 ek))
      .exact a_ ⟨rfl,some i,done++[i],rfl,by simp[hd],.inr ⟨i,e,rfl,by simp,e1,ek⟩⟩
     .exact bG (D.uniq i j e f e1 jf ek fk) λz=>Y2 (by rw[z];exact jd)
    .rw[eC ek];have nx:(hit=none/\∀(j:Nat) (e:TK×V×V),j∈done++[i]->es[j]?=some e->e.1≠k)\/∃(j:Nat) (e:TK×V×V),hit=some j/\j∈done++[i]/\es[j]?=some e/\e.1=k:=by
      rcases hH with⟨h0,p9⟩|⟨j,f,h0,jd,jf,fk⟩
      .refine .inl ⟨h0,λj f m hf=>?_⟩
       rcases dD.mp m with m|m
       .exact p9 j f m hf
       .simp at m;subst m;rw[e1] at hf;cases hf;exact ek
      .exact .inr ⟨j,f,h0,by simp[jd],jf,fk⟩
     simp only[jE,iY];refine aE (wpAny_rule ?_);rw[aO (by simp)]
     exact a_ ⟨rfl,hit,done++[i],rfl,by simp[hd],nx⟩
   .rintro b s' ⟨rfl,hit,done,rfl,hd,hH⟩;rcases hH with⟨rfl,p9⟩|⟨j,f,rfl,jd,jf,fk⟩
    .refine a_ (q0 λj e he ek=>p9 j e ?_ he ek)
     have:=D.kI he ek;rw[hd] at this;simpa using this
    .exact a_ (q1 j f jf fk))
end
end
variable{k:TK}{y:V}{o:ah V}{Q:ai->au->Prop}{H':Hp}
noncomputable def ka(es:List (TK×V×V))(k:TK):ah V:=(es.find? λe=>decide (e.1=k)).map (·.2.2)
noncomputable def cY:List (TK×V×V)->TK->V->V->List (TK×V×V)
 |[],k,y,v=>[(k,y,v)]
 |e::es,k,y,v=>if e.1=k then(e.1,e.2.1,v)::es else e::cY es k y v
noncomputable def vW(es:List (TK×V×V))(k:TK)(ep:Nat):Nat:=if(es.any λe=>decide (e.1=k))=true then ep else ep+1
def fX(K:aH)(H:Hp)(a:aj)(y:V)(r:ah V):Prop:=∃es ep k,H a=some (.dG es ep)/\aQ K H (es.map (·.2.1)) (es.map (·.1.d))/\aQ K H [y] [k.d]/\k.ok 8=true/\r=ka es k
def uk(K:aH)(H:Hp)(a:aj)(y v:V)(H':Hp):Prop:=∃es ep k,H a=some (.dG es ep)/\aQ K H (es.map (·.2.1)) (es.map (·.1.d))/\aQ K H [y] [k.d]/\k.ok 8=true/\es.length<sizeLine/\H'=upd H a (.dG (cY es k y v) (vW es k ep))
def SK{j:TK}(e:k.d=j.d)(h:k.ok 8=true):k=j:=by
 have h1:=za k j;rw[<-e,y8 8 (qB 8 h)] at h1
 lia
section
variable{X:Cx}{ae:List (aj×Obj)}{Z:St}{H:Hp}
def KZ{z:Str}{t:Tok}(r:aQ X.K H [y] [k.d])(ru:RelV y (.str z t)):k=.inr z:=by
 cases k with
 |inl i=>cases(show _=.int i from af.aL r rfl);obtain⟨t,e⟩:=ru;cases e
 |inr i=>cases(show _=.str i from af.aL r rfl);obtain⟨t,e⟩:=ru;cases e;rfl
 |tp l=>simp only[TK.d] at r;cases r with|flat q _=>cases q|tup q _ _=>cases ru
 |aR=>cases(show _=.aR from af.aL r rfl);cases ru
def K0{a:aj}(ru:RelV y (.ref a)):y=.ref a:=by
 cases y with
 |ref b=>cases ru;rfl
 |aR=>cases ru
 |bl _=>cases ru
 |ty _=>cases ru
 |_=>obtain⟨t,e⟩:=ru;cases e
section
variable{A:cy}{E:ai->au->Prop}{s:au}{d:aj}{es:List (TK×V×V)}{k:TK}{y v:V}{u r:ai}
def Md{o:Obj}{xs:Array DictEntry}{ep:Nat}{Q:ah Nat->au->Prop}(I:Inv X ae Z H s)(g1:s.heap.get? d=some o)(g2:o.data=.dict xs ep)(g3:Paired (gG X.w) es xs.toList)(g4:(es.map (·.1)).Nodup)
  (rk:aQ X.K H (es.map (·.2.1)) (es.map (·.1.d))) (ry:aQ X.K H [y] [k.d]) (ok:k.ok 8=true) (ru:RelV y u) (hu:A.units+8<cLine)
  (q0:(∀(j:Nat) (e:TK×V×V),es[j]?=some e->e.1≠k)->Q none s) (q1:∀(j:Nat) (e:TK×V×V),es[j]?=some e->e.1=k->Q (some j) s):wpAny (mX X) A (dictFind d u (k.hash X.w)) Q E s:=by
 have at':∀(j:Nat) (x:DictEntry) (e:TK×V×V),xs[j]?=some x->es[j]?=some e->gG X.w e x/\aQ X.K H [e.2.1] [e.1.d]:=by
  intro j x e hx he;obtain⟨e',e1,e2⟩:=B5 j g3 (by rw[uc];exact hx)
  rw[he] at e1;cases e1;obtain⟨v,v1,v2⟩:=rk.get (i:=j) (d:=e.1.d) (by rw[gn,he];rfl)
  simp_all
 refine QN (VZ I g3 g4 rk ry ok ru hu) g1 g2 (λR hR=>B6 8 I ry ok ru hR) (λz t e=>KZ ry (by rw[<-e];exact ru)) (λj x e z t hx he hk=>?_) (λa j x e oK hx he hk=>?_) q0 q1
 .obtain⟨g,r'⟩:=at' j x e hx he;exact KZ r' (by rw[<-hk];exact g.2.1)
 .obtain⟨g,r'⟩:=at' j x e hx he;have h1:=g.2.1;rw[hk,oK] at h1;rw[oK] at ru;rw[K0 h1] at r';rw[K0 ru] at ry;exact SK (Cz I 8 8 r' ry (qB 8 g.2.2.2) (qB 8 ok)) g.2.2.2
def PK(h:∀(j:Nat) (e:TK×V×V),es[j]?=some e->e.1≠k):ka es k=none:=by
 unfold ka;rw[List.find?_eq_none.mpr λe m z=>?_,Option.map_none]
 obtain⟨j,hj⟩:=DT.mp m;exact h j e hj (pI z)
def PM(hn:(es.map (·.1)).Nodup){j:Nat}{e:TK×V×V}(he:es[j]?=some e)(ek:e.1=k):ka es k=some e.2.2:=by
 induction es generalizing j with
 |nil=>simp at he
 |cons x es ih=>
  rw[c_,gA] at hn;unfold ka;rw[wI];cases j with
  |zero=>
   simp only[List.getElem?_cons_zero,Option.some.injEq] at he;subst he;rw[eP ek];rfl
  |succ j=>
   simp only[Iw] at he;have ne:¬x.1=k:=λz=>hn.1 (by rw[z,<-ek];exact dF.mpr ⟨e,kg he,rfl⟩)
   rw[eC ne];exact ih hn.2 he
def JF{Q:ah ai->au->Prop}(hu:A.units+8<cLine)(I:Inv X ae Z H s)(g:fX X.K H d y o)(ru:RelV y u)(h:∀w t,kq o w->Q w { s with toks:=t}):
  wpAny (mX X) A (dictGet d u) Q E s:=by
 refine kY λkz=>?_
 obtain⟨es,ep,k,hd,rk,ry,ok,rfl⟩:=g;obtain⟨_,_,ob,xs,g1,_,g2,g3,g4⟩:=(jP I hd);refine kz ?_;unfold dictGet
 (try with_reducible refine jH ?_);refine aE (Eu 8 I ry ok ru hu λt=>aE (Md (I.tok t) g1 g2 g3 g4 rk ry ok ru hu (λq0=>?_) (λj e he ek=>?_)))
 .exact a_ (h none t (by rw[PK q0];exact mF))
 .obtain⟨x,x1,x2⟩:=yZ j g3 he;refine aE (wpAny_dictEntries (s:={ s with toks:=t}) g1 g2 (a_ ?_));rw[<-uc,x1];exact h (some x.val) t (by rw[PM g4 he ek];exact x2.2.2.1)
def fX.ty(I:Inv X ae Z H s)(g:fX X.K H d y o):s.TypeIs (.ref d) "dict"/\(d == sysModules)=false:=by
 obtain⟨es,ep,k,hd,_⟩:=g;obtain⟨_,z,ob,xs,g1,g5,_⟩:=(jP I hd);exact⟨⟨ob,g1,g5.1⟩,z⟩
def JG(hu:A.units+9<cLine)(I:Inv X ae Z H s)(g:fX X.K H d y (some v))(ru:RelV y u)(h:∀w' s',Inv X ae Z H s'->RelV v w'->Q w' s'):wpAny (mX X) A (getItem (.ref d) u) Q E s:=by
 have hT:=(g.ty I).1;unfold getItem
 (try with_reducible refine jH ?_);refine aE (wpAny_sequenceKey hT (by decide) (aE (wpAny_callSpecial?_slot (name:=Str.ofString "__getitem__") hT slot_dict_getitem (wpAny_call_entry slot_dict_getitem hT entry_dict_getitem ?_ (args_dict_getitem _ _)))))
 show wpAny _ _ (dictGet d u >>= _) _ _ s;refine aE (JF (by show A.units+1+8<cLine;lia) I g ru λw t ph=>?_)
 obtain⟨w',rfl,r'⟩:=kq.some_of ph;exact a_ ⟨w',rfl,a_ (h w' _ (I.tok t) r')⟩
def Ji{Q:Bool->au->Prop}(hu:A.units+9<cLine)(I:Inv X ae Z H s)(g:fX X.K H d y o)(ru:RelV y u)(h:∀s',Inv X ae Z H s'->Q o.isSome s'):wpAny (mX X) A (contains (.ref d) u) Q E s:=by
 obtain⟨hT,hd⟩:=g.ty I;unfold contains
 (try with_reducible refine jH ?_);refine aE (wpAny_specialOf hT slot_dict_contains.lookup ?_)
 dsimp only;rw[aO (by rw[beq_builtin_none];exact qi)]
 refine aE (wpAny_callSpecialUnlessNone?_slot (name:=Str.ofString "__contains__") hT slot_dict_contains (wpAny_call_entry slot_dict_contains hT entry_dict_contains ?_ (args_dict_contains _ _)));show wpAny _ _ (dictGet d u >>= _) _ _ s;refine aE (JF (by show A.units+1+8<cLine;lia) I g ru λw t ph=>?_)
 have e:=ph.mS;cases w with
 |some w=>
  show wpAny _ _ (ret (.bool true)) _ _ _;refine a_ ⟨_,rfl,wpAny_truthy_bool ?_⟩;have:=h _ (I.tok t)
  simp_all
 |none=>
  show wpAny _ _ (Builtin.Dict.pendingKey? d u >>= _) _ _ _;refine aE (wpAny_pendingKey_other hd (a_ ⟨_,rfl,wpAny_truthy_bool ?_⟩));have:=h _ (I.tok t)
  simp_all
def Ip(hu:A.units+9<cLine)(I:Inv X ae Z H s)(g:fX X.K H d y o)(ru:RelV y u)(h:∀s',Inv X ae Z H s'->Q (.bool o.isSome) s'):wpAny (mX X) A (compareOp .In u (.ref d)) Q E s:=
 aE (Ji hu I g ru λs' I'=>a_ (h s' I'))
def SM(hu:A.units+9<cLine)(I:Inv X ae Z H s)(g:fX X.K H d y o)(ru:RelV y u)(h:∀s',Inv X ae Z H s'->Q (.bool (!o.isSome)) s'):wpAny (mX X) A (compareOp .NotIn u (.ref d)) Q E s:=
 aE (Ji hu I g ru λs' I'=>a_ (h s' I'))
theorem D8(k:TK)(y v:V):∀es:List (TK×V×V),(cY es k y v).length<=es.length+1
 |[]=>by simp[cY]
 |e::es=>by
  unfold cY;have:=D8 k y v es;split <;> simp <;> lia
theorem J8:∀{es:List (TK×V×V)},(∀(j:Nat) (e:TK×V×V),es[j]?=some e->e.1≠k)->cY es k y v=es++[(k,y,v)]
 |[],_=>rfl
 |e::es,h=>by
  unfold cY;rw[aO (h 0 e rfl),J8 λj x hx=>h (j+1) x (by simpa using hx)]
  rfl
def SN{w:bX}{xs:List DictEntry}(g3:Paired (gG w) es xs)(ry:RelV y u)(rv:RelV v r)(ok:k.ok 8=true):Paired (gG w) (es++[(k,y,v)]) (xs++[⟨k.hash w,u,r⟩]):=by
 induction g3 with
 |nil=>exact .cons ⟨rfl,ry,rv,ok⟩ .nil
 |cons a _ ih=>exact .cons a ih
theorem K1{w:bX}:∀{es:List (TK×V×V)} {xs:List DictEntry} {j:Nat} {e:TK×V×V},Paired (gG w) es xs->(es.map (·.1)).Nodup->es[j]?=some e->e.1=k->RelV v r->
  Paired (gG w) (cY es k y v) (xs.modify j λx=>{ x with val:=r})/\(cY es k y v).map (·.1)=es.map (·.1)
 |_,_,_,_,.nil,_,he,_,_=>by simp at he
 |_::es,_::xs,0,e,.cons a t,hn,he,ek,rv=>by
  simp only[List.getElem?_cons_zero,Option.some.injEq] at he;subst he;unfold cY;rw[aU ek];exact⟨.cons ⟨a.1,a.2.1,rv,a.2.2.2⟩ t,rfl⟩
 |x::es,_::xs,j+1,e,.cons a t,hn,he,ek,rv=>by
  simp only[Iw] at he;rw[c_,gA] at hn;have ne:¬x.1=k:=λz=>hn.1 (by rw[z,<-ek];exact dF.mpr ⟨e,kg he,rfl⟩)
  unfold cY;rw[aO ne];have ih:=K1 t hn.2 he ek rv;exact⟨.cons a ih.1,by rw[c_,c_,ih.2]⟩
def JH{Q:Unit->au->Prop}(hu:A.units+8<cLine)(I:Inv X ae Z H s)(g:uk X.K H d y v H')(ru:RelV y u)(rv:RelV v r)(h:∀s',Inv X ae Z H' s'->Q () s'):
  wpAny (mX X) A (dictSet d u r) Q E s:=by
 refine kY λkz=>?_
 obtain⟨es,ep,k,hd,rk,ry,ok,hl,rfl⟩:=g;obtain⟨_,z,ob,xs,g1,g5,g2,g3,g4⟩:=(jP I hd);have hz:xs.size<=sizeLine:=by have:=Paired.length g3;simp at this;lia
 have Ds:(cY es k y v).length<=sizeLine:=by have:=D8 k y v es;lia
 refine kz ?_;unfold dictSet
 (try with_reducible refine jH ?_);refine aE (Eu 8 I ry ok ru hu λt=>?_)
 unfold dictSetHashed
 (try with_reducible refine jH ?_);refine aE (Md (I.tok t) g1 g2 g3 g4 rk ry ok ru hu (λq0=>?_) (λj e he ek=>?_))
 .have Nn:cY es k y v=es++[(k,y,v)]:=J8 q0;have FR:vW es k ep=ep+1:=aO (by
   rw[yp];rintro⟨e,m,q⟩;obtain⟨j,hj⟩:=DT.mp m;exact q0 j e hj (pI q))
  rw[FR] at h;refine aE (wpAny_rule (wpAny_updateDictKeys (hz:=hz) (s:={ s with toks:=t}) g1 g2 (h _ ?_)));refine KG (I.tok t) (by rw[hd];exact mF) (Heap.SameBut.update ..) ⟨_,nu _ g1 (Obj.isFreed_of_dict (Obj.data_mapDictKeys g2 _))⟩ ⟨Ds,z,_,_,nu _ g1 (Obj.isFreed_of_dict (Obj.data_mapDictKeys g2 _)),g5.mapDictKeys _,Obj.data_mapDictKeys g2 _,?_,?_⟩
  .rw[Nn,Array.toList_push];exact SN g3 ru rv ok
  .rw[Nn,gq,k8];refine⟨g4,by simp,λa m b m' e=>?_⟩
   simp at m';subst m';obtain⟨x,mx,rfl⟩:=dF.mp m;obtain⟨j,hj⟩:=DT.mp mx;exact q0 j x hj e
 .have em:=K1 (y:=y) g3 g4 he ek rv;have FR:vW es k ep=ep:=aU (yp.mpr ⟨e,kg he,eP ek⟩);rw[FR] at h;refine aE (wpAny_rule (aE (wpAny_updateDict (s:={ s with toks:=t}) g1 g2 (wpAny_point (h _ ?_)))));refine KG (I.tok t) (by rw[hd];exact mF) (Heap.SameBut.update ..) ⟨_,nu _ g1 (Obj.isFreed_of_dict (Obj.data_mapDict g2 _))⟩ ⟨Ds,z,_,_,nu _ g1 (Obj.isFreed_of_dict (Obj.data_mapDict g2 _)),g5.mapDict _,Obj.data_mapDict g2 _,?_,?_⟩
  all_goals simp_all
def PN{Q:Unit->au->Prop}(hu:A.units+9<cLine)(I:Inv X ae Z H s)(g:uk X.K H d y v H')(ru:RelV y u)(rv:RelV v r)(h:∀s',Inv X ae Z H' s'->Q () s'):
  wpAny (mX X) A (setItem (.ref d) u r) Q E s:=by
 have hT:s.TypeIs (.ref d) "dict":=by
  obtain⟨es,ep,k,hd,rk,ry,ok,_⟩:=g;exact(fX.ty I ⟨es,ep,k,hd,rk,ry,ok,rfl⟩).1
 unfold setItem
 (try with_reducible refine jH ?_);refine aE (wpAny_sequenceKey hT (by decide) (aE (wpAny_callSpecial?_slot (name:=Str.ofString "__setitem__") hT slot_dict_setitem (wpAny_call_entry slot_dict_setitem hT entry_dict_setitem ?_ (args_dict_setitem _ _ _)))))
 show wpAny _ _ (Builtin.Dict.notOrdered "__setitem__" ⟨[.ref d,u,r],[]⟩ >>= _) _ _ s;refine aE (wpAny_notOrdered_dict hT ?_);show wpAny _ _ (dictSet d u r >>= λz=>_) _ _ s
 exact aE (JH (by show A.units+1+8<cLine;lia) I g ru rv λs' I'=>a_ ⟨.none,rfl,a_ (h s' I')⟩)
end
end
section
variable{X:Cx}
def o_(K:aH):R2:=λx y H Q=>∃l b xs zs,x=.ref l/\y=.ref b/\cI K H l xs/\cI K H b zs/\xs.length+zs.length<=sizeLine/\∀p,H p=none->Q (.ref p) (upd H p (.lst (xs++zs)))
def SO:dh X (binaryOp .Add) (o_ X.K):=by
 intro ae s Z H x y v u Q I rx ry h;refine kY λkz=>?_
 obtain⟨l,b,xs,zs,rfl,rfl,hH,hB,hz,q⟩:=h;cases rx;cases ry;obtain⟨aA,r,pl,_⟩:=I.list hH;obtain⟨g9,r2,Ht,_⟩:=I.list hB;have hl:=r.length;have Ds:=r2.length;obtain⟨⟨cls,dd,data,sl⟩,ho,hc,n,hd⟩:=id pl.isList;obtain⟨⟨Fz,C_,data2,DE⟩,vk,Ab,n2,hd2⟩:=id Ht.isList;simp only at hc hd Ab hd2;subst hc hd Ab hd2;have ea:aA.toArray++g9.toArray=(aA++g9).toArray:=by simp
 refine kz ?_;refine concat_meets ⟨_,ho,rfl⟩ ⟨_,vk,rfl⟩ noFill_list_add seq_list_add PySem.F.slot_list_add PySem.F.entry_list_add (PySem.F.args_list_add_2 _ _) (list_addW l b aA.toArray g9.toArray n n2 dd C_ sl DE (by simp only[dq];lia)) ⟨ho,vk,?_⟩
 rw[ea];exact⟨.ref _,_,I.G7 (t':=s.toks) (r.append r2) (by rw[b_];lia),rfl,q _ I.fresh⟩
def QO(K:aH)(hK:X.K=K:=by rfl):dh X (binaryOp .Add) (o_ K):=hK ▸ SO
end
variable{n:Nat}
instance (z:Str) (n:Int):Decidable (MulOk z n):=by unfold MulOk;infer_instance
noncomputable abbrev rd(x:D):Rv:=.v (.d x)
section
variable{K:aH}{k:Kn}{H:Hp}{x:V}{xs:List V}{d e:D}{vs:List V}{ds:List D}
def af.rB(h:af K k vs ds)(ok:ds.all (bR n)=true):af K ⟨k.F,[],[]⟩ vs ds:=by
 induction h generalizing n with
 |nil=>exact .nil
 |flat e _ ih=>rw[k9,m6] at ok;exact .flat e (ih ok.2)
 |ref _ _ _=>rw[k9,m6] at ok;obtain⟨ok,_⟩:=ok;cases n <;> cases ok
 |lst e _ _ i1 i2=>
  rw[k9,m6] at ok;obtain⟨m,rfl,o⟩:=uB ok.1;exact .lst e (i1 o) (i2 ok.2)
 |tup e _ _ i1 i2=>
  rw[k9,m6] at ok;obtain⟨m,rfl,o⟩:=uC ok.1;exact .tup e (i1 o) (i2 ok.2)
 |aP _ _ _ _ _ _ _ _=>rw[k9,m6] at ok;obtain⟨ok,_⟩:=ok;cases n <;> cases ok
theorem Top.rB{n:Nat}(h:Top K k H x d)(le:ay k.F H)(ok:bR n d=true):aQ K H [x] [d]:=af.rB (k:=k.all H) (n:=n) (h.rep le) (by rw[k9,ok];rfl)
def Top.Ho(r:af K k vs ds)(le:ay k.F H)(ok:ds.all (bR n)=true):aQ K H vs ds:=af.rB (k:=k.all H) (n:=n) (r.all le) ok
mutual
theorem q_:∀{v:V} (j:TK),af K k [v] [j.d]->af K ⟨k.F,[],[]⟩ [v] [j.d]
 |_,.inl i,h=>by simp only[TK.d] at h ⊢;rw[h.aL rfl];exact .flat rfl .nil
 |_,.inr x,h=>by simp only[TK.d] at h ⊢;rw[h.aL rfl];exact .flat rfl .nil
 |_,.aR,h=>by simp only[TK.d] at h ⊢;rw[h.aL rfl];exact .flat rfl .nil
 |_,.tp l,h=>by
  simp only[TK.d] at h ⊢;obtain⟨a,ws,rfl,q,r⟩:=h.isTup;exact .tup q (oR l r) .nil
theorem oR:∀{vs:List V} (l:List TK),af K k vs (TK.dl l)->af K ⟨k.F,[],[]⟩ vs (TK.dl l)
 |_,[],h=>by simp only[TK.dl] at h ⊢;rw[h.eS];exact .nil
 |_,j::l,h=>by
  simp only[TK.dl] at h ⊢;obtain⟨w,us,rfl,h1,h2⟩:=h.cx;exact .cons (q_ j h1) (oR l h2)
end
def K2{es:List (TK×V×V)}{kvs:List (TK×D)}(q:es.map (·.1)=kvs.map (·.1))(r:af K k (es.map (·.2.1)) (kvs.map (·.1.d)))(le:ay k.F H):aQ K H (es.map (·.2.1)) (es.map (·.1.d)):=by
 have e1:kvs.map (·.1.d)=TK.dl (kvs.map (·.1)):=by rw[xy,kL];rfl
 have e2:es.map (·.1.d)=TK.dl (es.map (·.1)):=by rw[xy,kL];rfl
 rw[e1,<-q] at r;rw[e2];exact oR (k:=k.all H) _ (r.all le)
def K3(h:Paired (Top K k H) xs [d]):∃x,xs=[x]/\Top K k H x d:=by
 cases h with
 |cons r t=>cases t;exact⟨_,rfl,r⟩
def SQ(h:Paired (Top K k H) xs [d,e]):∃x y,xs=[x,y]/\Top K k H x d/\Top K k H y e:=by
 cases h with
 |cons r t=>obtain⟨y,rfl,r'⟩:=K3 t;exact⟨_,_,rfl,r,r'⟩
end
noncomputable def o1(f:D->ah Rv):List D->ah Rv
 |[a]=>f a
 |_=>none
noncomputable def o2(f:D->D->ah Rv):List D->ah Rv
 |[a,b]=>f a b
 |_=>none
section
variable{X:Cx}{K:aH}
def vM{r:List V->Hp->VK->Prop}{f:D->ah Rv}(h:∀k H x a y Q,ay k.F H->Top K k H x a->f a=some y->iS K k H y Q->r [x] H Q):bP K r (o1 f):=λk H xs ds y Q le t e res=>by
 unfold o1 at e;split at e
 .obtain⟨x,rfl,t1⟩:=K3 t;exact h k H x _ y Q le t1 e res
 .cases e
def vN{r:List V->Hp->VK->Prop}{f:D->D->ah Rv}(h:∀k H x z a b y Q,ay k.F H->Top K k H x a->Top K k H z b->f a b=some y->iS K k H y Q->r [x,z] H Q):bP K r (o2 f):=λk H xs ds y Q le t e res=>by
 unfold o2 at e;split at e
 .obtain⟨x,z,rfl,t1,t2⟩:=SQ t;exact h k H x z _ _ y Q le t1 t2 e res
 .cases e
def rC{r:R2}{f:D->D->ah Rv}(h:∀k H x z a b y Q,ay k.F H->Top K k H x a->Top K k H z b->f a b=some y->iS K k H y Q->r x z H Q):bP K (j5 r) (o2 f):=vN λk H x z a b y Q le t1 t2 e res=>⟨x,z,rfl,h k H x z a b y Q le t1 t2 e res⟩
def uL:D->D->ah Rv
 |.int i,.int j=>some (rd (.int (i+j)))
 |.str x,.str y=>if x.length+y.length<=1000000 then some (rd (.str (x++y))) else none
 |.lst xs,.lst ys=>if xs.length+ys.length<=1000000 then some (.o (.lst (xs++ys))) else none
 |_,_=>none
def tV(K:aH):R2:=λx y H Q=>mW (λi j=>.int (i+j)) x y H Q\/(∃i j,x=.str i/\y=.str j/\i.length+j.length<=sizeLine/\Q (.str (i++j)) H)\/o_ K x y H Q
def SR(K:aH)(hK:X.K=K):dh X (binaryOp .Add) (tV K):=vO.or (lJ.or (QO K hK))
def V1:bP K (j5 (tV K)) (o2 uL):=rC λk H x z a b y Q le t1 t2 e res=>by
 cases a with
 |int _=>cases b with
  |int _=>cases e;cases t1.flat rfl;cases t2.flat rfl;exact .inl ⟨_,_,rfl,rfl,res.flat le rfl⟩
  |_=>cases e
 |str _=>cases b with
  |str _=>
   have e:(if _ then _ else _)=_:=e
   split at e
   .cases e;cases t1.flat rfl;cases t2.flat rfl;exact .inr (.inl ⟨_,_,rfl,rfl,ml (by assumption),res.flat le rfl⟩)
   .cases e
  |_=>cases e
 |lst _=>cases b with
  |lst _=>
   have e:(if _ then _ else _)=_:=e
   split at e
   .cases e;obtain⟨a1,Of,rfl,s1,r1⟩:=t1.lst le;obtain⟨a2,yk,rfl,s2,r2⟩:=t2.lst le;exact .inr (.inr ⟨a1,a2,Of,yk,rfl,rfl,s1,s2,ml (by rw[r1.length,r2.length];assumption),λp hp=>res.lst le (r1.append r2) hp⟩)
   .cases e
  |_=>cases e
 |_=>cases e
def eI(C:Int->Int->Bool)(f:Int->Int->D):D->D->ah Rv
 |.int i,.int j=>if C i j=true then some (rd (f i j)) else none
 |_,_=>none
def CN{r:R2}{C:Int->Int->Bool}{f:Int->Int->D}{g:Int->Int->V}(hf:∀i j,qF (f i j)=some (g i j))(hr:∀i j H Q,C i j=true->Q (g i j) H->r (.int i) (.int j) H Q):bP K (j5 r) (o2 (eI C f)):=rC λk H x z a b y Q le t1 t2 e res=>by
 unfold eI at e;split at e
 .split at e
  .cases e;cases t1.flat rfl;cases t2.flat rfl;exact hr _ _ _ _ (by assumption) (res.flat le (hf _ _))
  .cases e
 .cases e
abbrev t9:Int->Int->Bool:=λ_ _=>true
def V2:bP K (j5 (mW λi j=>.int (i - j))) (o2 (eI t9 λi j=>.int (i - j))):=CN (λ_ _=>rfl) λ_ _ _ _ _ q=>⟨_,_,rfl,rfl,q⟩
def SU:bP K (j5 (rI ud λi j=>.int (i / j))) (o2 (eI (λ_ j=>decide (0<j/\j<1073741824)) λi j=>.int (i / j))):=CN (λ_ _=>rfl) λi j _ _ c q=>⟨_,_,rfl,rfl,show ud i j from pI (p:=0<j/\j<1073741824) c,q⟩
def V3:bP K (j5 (rI (λ_ j=>0<j) λi j=>.int (i%j))) (o2 (eI (λ_ j=>decide (0<j)) λi j=>.int (i%j))):=CN (λ_ _=>rfl) λ_ _ _ _ c q=>⟨_,_,rfl,rfl,pI c,q⟩
def Me{f:Int->Int->Bool}:bP K (j5 (mW λi j=>.bl (f i j))) (o2 (eI t9 λi j=>.bl (f i j))):=CN (λ_ _=>rfl) λ_ _ _ _ _ q=>⟨_,_,rfl,rfl,q⟩
def rn:D->D->ah Rv
 |.int i,.int j=>if(-(2^64)<i/\i<2^64)\/(-(2^64)<j/\j<2^64) then some (rd (.int (i*j))) else none
 |.str z,.int j=>if MulOk z j then some (rd (.str (Txt.mul z j))) else none
 |_,_=>none
def t4:R2:=λx y H Q=>rI qo (λi j=>.int (i*j)) x y H Q\/∃z n,x=.str z/\y=.int n/\MulOk z n/\Q (.str (Txt.mul z n)) H
def SV:dh X (binaryOp .Mult) t4:=vQ.or OX
def V4:bP K (j5 t4) (o2 rn):=rC λk H x z a b y Q le t1 t2 e res=>by
 unfold rn at e;split at e
 .split at e
  .cases e;cases t1.flat rfl;cases t2.flat rfl;exact .inl ⟨_,_,rfl,rfl,by assumption,res.flat le rfl⟩
  .cases e
 .split at e
  .cases e;cases t1.flat rfl;cases t2.flat rfl;exact .inr ⟨_,_,rfl,rfl,by assumption,res.flat le rfl⟩
  lia
 lia
def mV:D->ah Rv
 |.int i=>some (rd (.int (-i)))
 |_=>none
def V5:bP K (NZ (rU λi=>.int (-i))) (o1 mV):=vM λk H x a y Q le t e res=>by
 unfold mV at e;split at e
 .cases e;cases t.flat rfl;exact⟨_,rfl,_,rfl,res.flat le rfl⟩
 .cases e
end
section
variable{X:Cx}{ae:List (aj×Obj)}{s:au}{Z:St}{H:Hp}
def V6(I:Inv X ae Z H s){n m:Nat}{A:cy}{x y:V}{u v:ai}{d e:D}(rd:aQ X.K H [x] [d])(re:aQ X.K H [y] [e])(od:bR n d=true)(oe:bR m e=true)(ru:RelV x u)(rv:RelV y v)(hu:A.units+n<cLine):SeqAt.RcNeAt A s u v (!cj d e):=by
 have cw:A.units<cLine:=by lia
 have s1:=CM I rd ru od;have s2:=CM I re rv oe;cases s1 with
 |none=>
  cases s2 with
  |none=>
   exact SeqAt.RcNeAt.none_none
  |bool a2=>
   exact SeqAt.RcNeAt.none_bool a2
  |int a2 t2=>
   exact SeqAt.RcNeAt.none_int a2 t2
  |str a2 t2=>
   exact SeqAt.RcNeAt.none_str a2 t2
  |list l2 v2 r2=>
   exact SeqAt.RcNeAt.none_list l2 cw
  |tuple l2 v2 r2=>
   exact SeqAt.RcNeAt.none_tuple l2 cw
 |bool a1=>
  cases s2 with
  |none=>
   exact SeqAt.RcNeAt.bool_none a1
  |bool a2=>
   exact SeqAt.RcNeAt.bool_bool a1 a2
  |int a2 t2=>
   exact SeqAt.RcNeAt.bool_int a1 a2 t2
  |str a2 t2=>
   exact SeqAt.RcNeAt.bool_str a1 a2 t2
  |list l2 v2 r2=>
   exact SeqAt.RcNeAt.bool_list a1 l2 cw
  |tuple l2 v2 r2=>
   exact SeqAt.RcNeAt.bool_tuple a1 l2 cw
 |int a1 t1=>
  cases s2 with
  |none=>
   exact SeqAt.RcNeAt.int_none a1 t1
  |bool a2=>
   exact SeqAt.RcNeAt.int_bool a1 t1 a2
  |int a2 t2=>
   exact SeqAt.RcNeAt.int_int a1 t1 a2 t2
  |str a2 t2=>
   exact SeqAt.RcNeAt.int_str a1 t1 a2 t2
  |list l2 v2 r2=>
   exact SeqAt.RcNeAt.int_list a1 t1 l2 cw
  |tuple l2 v2 r2=>
   exact SeqAt.RcNeAt.int_tuple a1 t1 l2 cw
 |str a1 t1=>
  cases s2 with
  |none=>
   exact SeqAt.RcNeAt.str_none a1 t1
  |bool a2=>
   exact SeqAt.RcNeAt.str_bool a1 t1 a2
  |int a2 t2=>
   exact SeqAt.RcNeAt.str_int a1 t1 a2 t2
  |str a2 t2=>
   exact SeqAt.RcNeAt.str_str a1 t1 a2 t2
  |list l2 v2 r2=>
   exact SeqAt.RcNeAt.str_list a1 t1 l2 cw
  |tuple l2 v2 r2=>
   exact SeqAt.RcNeAt.str_tuple a1 t1 l2 cw
 |@list a aA ws es l1 v1 r1=>
  cases s2 with
  |none=>
   exact SeqAt.RcNeAt.list_none l1 cw
  |bool a2=>
   exact SeqAt.RcNeAt.list_bool a2 l1 cw
  |int a2 t2=>
   exact SeqAt.RcNeAt.list_int a2 t2 l1 cw
  |str a2 t2=>
   exact SeqAt.RcNeAt.list_str a2 t2 l1 cw
  |@list b g9 yk h_ l2 v2 r2=>
   obtain⟨n',rfl,oX⟩:=uB od;obtain⟨m',rfl,oY⟩:=uB oe;have la:=v1.length;have lb:=v2.length;have G3:=r1.length;have G4:=r2.length;show SeqAt.RcNeAt A s _ _ (!dQ es h_);by_cases hl:es.length=h_.length
   .rw[y7 aA.toArray.size (by simp only[dq];lia) (by simp only[dq];lia)]
    refine SeqAt.RcNeAt.lists (A:=A) l1 l2 (by simp only[dq];lia) cw λj h1 h2=>?_
    obtain⟨x1,q1,q2,q3⟩:=sM r1 v1 h1;obtain⟨y1,p1,p2,p3⟩:=sM r2 v2 h2;exact(xx I n' m' q2 p2 (sH oX q3) (sH oY p3) q1 p1 (by show A.units+1+n'<cLine;lia)).1
   grind [y6,PySem.SeqAt.RcNeAt.lists_lengths]
  |tuple l2 v2 r2=>
   exact SeqAt.RcNeAt.list_tuple l1 l2 cw
 |@tuple a aA ws es l1 v1 r1=>
  cases s2 with
  |none=>
   exact SeqAt.RcNeAt.tuple_none l1 cw
  |bool a2=>
   exact SeqAt.RcNeAt.tuple_bool a2 l1 cw
  |int a2 t2=>
   exact SeqAt.RcNeAt.tuple_int a2 t2 l1 cw
  |str a2 t2=>
   exact SeqAt.RcNeAt.tuple_str a2 t2 l1 cw
  |list l2 v2 r2=>
   exact SeqAt.RcNeAt.tuple_list l1 l2 cw
  |@tuple b g9 yk h_ l2 v2 r2=>
   obtain⟨n',rfl,oX⟩:=uC od;obtain⟨m',rfl,oY⟩:=uC oe;have la:=v1.length;have lb:=v2.length;have G3:=r1.length;have G4:=r2.length;have z:=SeqAt.RcNeAt.tuples (A:=A) (e:=λj=>cj (es.getD j .aR) (h_.getD j .aR)) l1 l2 cw λj h1 h2=>by
    obtain⟨x1,q1,q2,q3⟩:=sM r1 v1 h1;obtain⟨y1,p1,p2,p3⟩:=sM r2 v2 h2;exact(xx I n' m' q2 p2 (sH oX q3) (sH oY p3) q1 p1 (by show A.units+1+n'<cLine;lia)).1
   show SeqAt.RcNeAt A s _ _ (!dQ es h_);by_cases hl:es.length=h_.length
   .rw[y7 aA.toArray.size (by simp only[dq];lia) (by simp only[dq];lia)]
    have e1:g9.toArray.size=aA.toArray.size:=by simp only[dq];lia
    rw[e1,Nat.min_self,qm,Bool.and_true] at z;exact z
   .rw[y6 hl];have e1:(aA.toArray.size == g9.toArray.size)=false:=by rw[nA];simp only[dq];lia
    rw[e1,By] at z;exact z
end
section
variable{X:Cx}{K:aH}
def A1(K:aH):R2:=λx y H Q=>∃d e,aQ K H [x] [d]/\aQ K H [y] [e]/\bR 40 d=true/\bR 40 e=true/\Q (.bl (!cj d e)) H
def V7(K:aH)(hu:X.A.units+40<cLine)(hK:X.K=K:=by rfl):dh X (compareOp .NotEq) (A1 K):=by
 subst hK;intro ae s Z H x y v u Q I rx ry h;refine kY λkz=>?_
 obtain⟨d,e,r1,r2,o1,o2,q⟩:=h;refine kz ?_;exact(V6 I r1 r2 o1 o2 rx ry hu) X.prog X.w _ _ ⟨.bl _,H,I,rfl,q⟩
end
end L2
namespace L2
open PySem PySem.Spec PySem.W PySem.Calls PyProof.Rows
def mI(es:List (TK×V×V)):Prop:=∀e∈es,∃x,e.1=.inr x/\e.2.1=.str x
def SW{P:cL}{w:bX}{es:List (TK×V×V)}{xs:List DictEntry}(p:Paired (gG w) es xs)(h:mI es):∃kvs:List (Str×ai),(∀x∈xs,∃k,(strKind P w).is k x.key=true/\x.hash=(strKind P w).hash k)/\Pairs (strKind P w) xs kvs/\kvs.map (λp=>TK.inr p.1)=es.map (·.1)/\Vals (es.map (·.2.2)) (kvs.map (·.2)):=by
 induction p with
 |nil=>exact⟨[],by simp,.nil,rfl,.nil⟩
 |@cons e x es xs r t ih=>
  refine kY λkz=>?_
  obtain⟨kvs,h1,h2,h3,h4⟩:=ih λe m=>h e (mD _ m)
  obtain⟨z,e1,e2⟩:=h e (pD ..);obtain⟨r1,r2,r3,r4⟩:=r;rw[e2] at r2;obtain⟨t',r2⟩:=r2;have hk:(strKind P w).is z x.key=true:=by rw[r2];show Value.isStrOf z (.str z t')=true;simp[Value.isStrOf]
  refine kz ?_;refine⟨(z,x.val)::kvs,λy m=>?_,.cons hk rfl h2,by rw[c_,c_,h3,e1],.cons r3 h4⟩
  rcases y06.mp m with rfl|m
  .exact⟨z,hk,by rw[r1,e1];rfl⟩
  .exact h1 y m
section
variable{X:Cx}{ae:List (aj×Obj)}{Z:St}{H:Hp}{s:au}{d:aj}{es:List (TK×V×V)}{ep:Nat}
def SX(I:Inv X ae Z H s)(hd:H d=some (.dG es ep))(ht:mI es):∃kvs,s.heap.DictAt (strKind X.prog X.w) d kvs ep/\Vals (es.map (·.2.2)) (kvs.map (·.2))/\kvs.map (λp=>TK.inr p.1)=es.map (·.1)/\kvs.length<=sizeLine/\(d == sysModules)=false:=by
 refine kY λkz=>?_
 obtain⟨hz,lo,ob,xs,g1,g5,g2,g3,g4⟩:=(jP I hd);obtain⟨kvs,h1,h2,h3,h4⟩:=SW (P:=X.prog) g3 ht;refine kz ?_;refine⟨kvs,⟨ob,xs,g1,g5,g2,λx m=>h1 x (Array.mem_toList_iff.mpr m),h2,?_⟩,h4,h3,?_,lo⟩
 all_goals grind [List.length_map]
noncomputable def tL:TK->Bool
 |.inr _=>true
 |_=>false
theorem Mf{K:eU}{F:Kn}:∀{ws:List (TK×V×V)} {ks:List TK},ws.map (·.1)=ks->af K F (ws.map (·.2.1)) (ks.map (·.d))->ks.all tL=true->mI ws
 |[],_,_,_,_=>λe m=>nomatch m
 |w::ws,[],e,_,_=>by cases e
 |w::ws,k::ks,e,r,a=>by
  rw[c_,List.cons.injEq] at e;obtain⟨e1,e2⟩:=e;rw[k9,m6] at a;rw[c_,c_] at r;intro y m;rcases y06.mp m with rfl|m
  .cases k with
   |inr x=>
    refine⟨x,e1,?_⟩;have:=r.inv.1;obtain⟨y1,y2,y3⟩:=y;dsimp only at this ⊢;exact this.aL rfl
   |inl _=>cases a.1
   |tp _=>cases a.1
   |aR=>cases a.1
  .exact Mf e2 r.inv.2 a.2 y m
end
end L2
namespace L2
open PySem PySem.Spec PyProof.Rows
section
variable{X:Cx}{K:aH}
def vZ(K:aH):R2:=λx y H Q=>∃d e,aQ K H [x] [d]/\aQ K H [y] [e]/\bR 40 d=true/\bR 40 e=true/\Q (.bl (cj d e)) H
def Mg(K:aH)(hu:X.A.units+40<cLine)(hK:X.K=K:=by rfl):dh X (compareOp .Eq) (vZ K):=by
 subst hK;intro ae s Z H x y v u Q I rx ry h;obtain⟨d,e,r1,r2,o1,o2,q⟩:=h;exact(xx I 40 40 r1 r2 o1 o2 rx ry hu).2 X.prog X.w _ _ ⟨.bl _,H,I,rfl,q⟩
open Classical in
noncomputable def kS (K:aH) (H:Hp) (dx:D) (u:ai):Bool:=decide (∃x d,RelV x u/\aQ K H [x] [d]/\bR 40 d=true/\cj d dx=true)
open Classical in
def Mh{ae:List (aj×Obj)}{s:au}{Z:St}{H:Hp}(I:Inv X ae Z H s){dx d:D}{x:V}{u:ai}(rx:RelV x u)(r:aQ X.K H [x] [d])(ok:bR 40 d=true):kS X.K H dx u=cj d dx:=by
 unfold kS;rw[qj,Og];constructor
 .rintro⟨x',d',ZJ,r',fB,e⟩;have:=RelV.inj rx ZJ;subst this;rw[Cz I 40 40 r r' ok fB];exact e
 .exact λe=>⟨x,d,rx,r,ok,e⟩
def CO{ae:List (aj×Obj)}{s:au}{Z:St}{H:Hp}(I:Inv X ae Z H s){dx:D}{ws:List V}{aA:List ai}{ds:List D}(t:Vals ws aA)(rp:aQ X.K H ws ds)(ok:ds.all (bR 40)=true):aA.any (kS X.K H dx)=ds.any λd=>cj d dx:=by
 induction t generalizing ds with
 |nil=>
  cases ds with
  |nil=>rfl
  |cons _ _=>have:=rp.length;simp at this
 |cons r t ih=>
  cases ds with
  |nil=>have:=rp.length;simp at this
  |cons d ds=>
   rw[k9,m6] at ok;rw[List.any_cons,List.any_cons,Mh I r rp.inv.1 ok.1,ih rp.inv.2 ok.2]
def CP{ae:List (aj×Obj)}{s:au}{Z:St}{H:Hp}(I:Inv X ae Z H s){dx:D}{y:V}{v:ai}{A:cy}(rv:RelV y v)(ry:aQ X.K H [y] [dx])(oy:bR 40 dx=true)(hu:A.units+40<cLine):
  ∀{ws:List V} {aA:List ai} {ds:List D},Vals ws aA->aQ X.K H ws ds->ds.all (bR 40)=true->∀u∈aA,SeqAt.EqAt A s u v (kS X.K H dx u):=by
 intro ws aA ds t
 induction t generalizing ds with
 |nil=>intro _ _ u m;cases m
 |cons r t ih=>
  intro rp ok u' m;cases ds with
  |nil=>have:=rp.length;simp at this
  |cons d ds=>
   rw[k9,m6] at ok;rcases y06.mp m with rfl|m
   .rw[Mh I r rp.inv.1 ok.1];exact(xx I 40 40 rp.inv.1 ry ok.1 oy r rv hu).1
   .exact ih rp.inv.2 ok.2 u' m
noncomputable def we:D->ah (List D)
 |.lst ds=>some ds
 |.tup ds=>some ds
 |_=>none
def v7(K:aH)(neg:Bool):R2:=λx y H Q=>
 (∃d e ds,aQ K H [x] [d]/\aQ K H [y] [e]/\we e=some ds/\bR 40 d=true/\ds.all (bR 40)=true/\Q (.bl (if neg then !ds.any λz=>cj z d else ds.any λz=>cj z d)) H)\/
 (∃i j,x=.str i/\y=.str j/\Q (.bl (if neg then !(!(Builtin.Str.occurrences j i 0 j.length 1).isEmpty) else !(Builtin.Str.occurrences j i 0 j.length 1).isEmpty)) H)\/
 ∃a o,y=.ref a/\fX K H a x o/\Q (.bl (if neg then !o.isSome else o.isSome)) H
def V8(K:aH)(hu:X.A.units+41<cLine)(hK:X.K=K:=by rfl):dh X (compareOp .In) (v7 K false):=by
 subst hK;intro ae s Z H x y v u Q I rx ry h;rcases h with⟨d,e,ds,r1,r2,es,o1,o2,q⟩|⟨i,j,rfl,rfl,q⟩|⟨a,o,rfl,g,q⟩
 .have oK:X.A.in1.units+40<cLine:=by show X.A.units+1+40<cLine;lia
  cases r2.one with
  |flat z=>cases e <;> first|(cases z;done)|cases es
  |lst sq i=>
   cases es;cases ry;obtain⟨aA,r,pl,hz⟩:=I.list sq;refine SeqAt.in_listAt (kS X.K H d) pl.isList (λw hw=>CP I rx r1 o1 oK r i o2 w (by simpa using hw)) ⟨.bl _,H,I,rfl,?_⟩
   rw[show aA.toArray.any (kS X.K H d)=aA.any (kS X.K H d) by simp,CO I r i o2]
   exact q
  |tup sq i=>
   cases es;cases ry;obtain⟨aA,r,pl,hz⟩:=I.tuple sq;refine SeqAt.in_tupleAt (kS X.K H d) pl (λw hw=>CP I rx r1 o1 oK r i o2 w (by simpa using hw)) ⟨.bl _,H,I,rfl,?_⟩
   rw[show aA.toArray.any (kS X.K H d)=aA.any (kS X.K H d) by simp,CO I r i o2]
   exact q
  |aP _ _ _ _=>cases es
  |ref _=>cases es
 .exact Pc ae s Z H _ _ v u Q I rx ry ⟨i,j,rfl,rfl,q⟩
 .cases ry;exact Ip (by lia) I g rx λs3 I3=>⟨.bl o.isSome,H,I3,rfl,q⟩
def PQ(K:aH)(hu:X.A.units+41<cLine)(hK:X.K=K:=by rfl):dh X (compareOp .NotIn) (v7 K true):=by
 subst hK;intro ae s Z H x y v u Q I rx ry h;rcases h with⟨d,e,ds,r1,r2,es,o1,o2,q⟩|⟨i,j,rfl,rfl,q⟩|⟨a,o,rfl,g,q⟩
 .have oK:X.A.in1.units+40<cLine:=by show X.A.units+1+40<cLine;lia
  cases r2.one with
  |flat z=>cases e <;> first|(cases z;done)|cases es
  |lst sq i=>
   cases es;cases ry;obtain⟨aA,r,pl,hz⟩:=I.list sq;refine SeqAt.notIn_listAt (kS X.K H d) pl.isList (λw hw=>CP I rx r1 o1 oK r i o2 w (by simpa using hw)) ⟨.bl _,H,I,rfl,?_⟩
   rw[show aA.toArray.any (kS X.K H d)=aA.any (kS X.K H d) by simp,CO I r i o2]
   exact q
  |tup sq i=>
   cases es;cases ry;obtain⟨aA,r,pl,hz⟩:=I.tuple sq;refine SeqAt.notIn_tupleAt (kS X.K H d) pl (λw hw=>CP I rx r1 o1 oK r i o2 w (by simpa using hw)) ⟨.bl _,H,I,rfl,?_⟩
   rw[show aA.toArray.any (kS X.K H d)=aA.any (kS X.K H d) by simp,CO I r i o2]
   exact q
  |aP _ _ _ _=>cases es
  |ref _=>cases es
 .exact OI ae s Z H _ _ v u Q I rx ry ⟨i,j,rfl,rfl,q⟩
 .cases ry;exact SM (by lia) I g rx λs3 I3=>⟨.bl (!o.isSome),H,I3,rfl,q⟩
def p6(ne:Bool)(a b:D):ah Rv:=if(bR 40 a&&bR 40 b)=true then some (rd (.bl (if ne=true then !cj a b else cj a b))) else none
def XC:bP K (j5 (vZ K)) (o2 (p6 false)):=rC λk H x z a b y Q le t1 t2 e res=>by
 unfold p6 at e;split at e
 .rename_i h
  obtain⟨h1,h2⟩:=r_.mp h;cases e;exact⟨_,_,t1.rB le h1,t2.rB le h2,h1,h2,res.flat le rfl⟩
 .cases e
def XD:bP K (j5 (A1 K)) (o2 (p6 true)):=rC λk H x z a b y Q le t1 t2 e res=>by
 unfold p6 at e;split at e
 .rename_i h
  obtain⟨h1,h2⟩:=r_.mp h;cases e;exact⟨_,_,t1.rB le h1,t2.rB le h2,h1,h2,res.flat le rfl⟩
 .cases e
mutual
def kX:D->ah TK
 |.int i=>some (.inl i)
 |.str x=>some (.inr x)
 |.aR=>some .aR
 |.tup l=>(fj l).map .tp
 |_=>none
def fj:List D->ah (List TK)
 |[]=>some []
 |d::l=>(kX d).bind λk=>(fj l).map λks=>k::ks
end
def f':D->ah TK
 |.int i=>some (.inl i)
 |.str x=>some (.inr x)
 |.aR=>some .aR
 |.tup l=>(fj l).bind λks=>if TK.ok 8 (.tp ks)=true then some (.tp ks) else none
 |_=>none
mutual
theorem XE:∀{d:D} {k:TK},kX d=some k->k.d=d
 |.int i,k,e=>by simp only[kX] at e;cases e;simp[TK.d]
 |.str i,k,e=>by simp only[kX] at e;cases e;simp[TK.d]
 |.tup l,k,e=>by
  simp only[kX] at e;obtain⟨ks,h1,rfl⟩:=cS.mp e;simp only[TK.d];rw[j_ h1]
 |.aR,k,e=>by simp only[kX] at e;cases e;simp[TK.d]
 |.ref _,k,e=>by simp[kX] at e
 |.bl _,k,e=>by simp[kX] at e
 |.ty _,k,e=>by simp[kX] at e
 |.lst _,k,e=>by simp[kX] at e
 |.aP _,k,e=>by simp[kX] at e
theorem j_:∀{l:List D} {ks:List TK},fj l=some ks->TK.dl ks=l
 |[],ks,e=>by simp only[fj] at e;cases e;simp[TK.dl]
 |d::l,ks,e=>by
  simp only[fj] at e;obtain⟨k,h1,e⟩:=cC.mp e;obtain⟨ks',h2,rfl⟩:=cS.mp e;simp only[TK.dl];rw[XE h1,j_ h2]
end
def xq{d:D}{k:TK}(e:f' d=some k):k.d=d/\k.ok 8=true:=by
 cases d with
 |int i=>cases e;exact⟨by simp[TK.d],rfl⟩
 |str i=>cases e;exact⟨by simp[TK.d],rfl⟩
 |aR=>cases e;exact⟨by simp[TK.d],rfl⟩
 |tup l=>
  simp only[f'] at e;obtain⟨ks,h1,e⟩:=cC.mp e
  grind [TK.d,j_]
 |_=>cases e
noncomputable def bt(kvs:List (TK×D))(k:TK):ah D:=(kvs.find? λkv=>decide (kv.1=k)).map (·.2)
theorem K4{F:Kn}{k:TK}:∀{ws:List (TK×V×V)} {kvs:List (TK×D)},ws.map (·.1)=kvs.map (·.1)->af K F (ws.map (·.2.2)) (kvs.map (·.2))->(ka ws k=none/\bt kvs k=none)\/∃v d,ka ws k=some v/\bt kvs k=some d/\af K F [v] [d]
 |[],[],_,_=>.inl ⟨rfl,rfl⟩
 |w::ws,p::kvs,h,r=>by
  rw[c_,c_] at h;injection h with h1 h2;unfold ka bt;rw[wI,wI,h1];by_cases e:p.1=k
  .rw[eP e];exact .inr ⟨w.2.2,p.2,rfl,rfl,r.inv.1⟩
  .rw[eC e];exact K4 h2 r.inv.2
 |[],_::_,h,_=>by simp at h
 |_::_,[],h,_=>by simp at h
def wB{k:Kn}{H:Hp}{x y:V}{kvs:List (TK×D)}{d:D}{j:TK}(le:ay k.F H)(t1:Top K k H x (.aP kvs))(t2:Top K k H y d)(hk:f' d=some j):∃a o,x=.ref a/\fX K H a y o/\((o=none/\bt kvs j=none)\/∃v e,o=some v/\bt kvs j=some e/\af K k [v] [e]):=by
 refine kY λkz=>?_
 obtain⟨a,es,ep,rfl,h1,h2,h3,h4⟩:=t1.aP le;obtain⟨k1,k2⟩:=xq hk;refine kz ?_;refine⟨a,ka es j,rfl,⟨es,ep,j,h1,K2 h2 h3 le,?_,k2,rfl⟩,K4 h2 h4⟩;have:=t2.rep le;rw[<-k1] at this;exact q_ (k:=k.all H) j this
def x8(neg:Bool)(a b:D):ah Rv:=match b with
 |.aP kvs=>(f' a).map λj=>rd (.bl (if neg=true then !(bt kvs j).isSome else(bt kvs j).isSome))
 |.str j=>(match a with
  |.str i=>some (rd (.bl (if neg=true then !(!(Builtin.Str.occurrences j i 0 j.length 1).isEmpty) else !(Builtin.Str.occurrences j i 0 j.length 1).isEmpty)))
  |_=>none)
 |e=>(we e).bind λds=>if(bR 40 a&&ds.all (bR 40))=true then some (rd (.bl (if neg=true then !ds.any λz=>cj z a else ds.any λz=>cj z a))) else none
def SY{k:Kn}{H:Hp}{x:V}{e:D}{ds:List D}(le:ay k.F H)(t:Top K k H x e)(h:we e=some ds)(ok:ds.all (bR 40)=true):aQ K H [x] [e]:=by
 cases e with
 |lst _=>cases h;obtain⟨p,ws,rfl,q,r⟩:=t.lst le;exact .lst q (Top.Ho r le ok) .nil
 |tup _=>cases h;obtain⟨p,ws,rfl,q,r⟩:=t.tup le;exact .tup q (Top.Ho r le ok) .nil
 |_=>cases h
def MX(neg:Bool):bP K (j5 (v7 K neg)) (o2 (x8 neg)):=rC λk H x z a b y Q le t1 t2 e res=>by
 unfold x8 at e;split at e
 .obtain⟨j,hj,rfl⟩:=cS.mp e;obtain⟨p,o,rfl,g,h⟩:=wB le t2 t1 hj;refine .inr (.inr ⟨p,o,rfl,g,?_⟩);have z:=res.flat le rfl;rcases h with⟨rfl,h⟩|⟨v,e,rfl,h,_⟩ <;> rw[h] at z <;> exact z
 .split at e
  .cases e;cases t1.flat rfl;cases t2.flat rfl;exact .inr (.inl ⟨_,_,rfl,rfl,res.flat le rfl⟩)
  .cases e
 .obtain⟨ds,h1,e⟩:=cC.mp e;split at e
  .rename_i h
   obtain⟨h2,h3⟩:=r_.mp h;cases e;exact .inl ⟨_,_,ds,t1.rB le h2,SY le t2 h1 h3,h1,h2,h3,res.flat le rfl⟩
  .cases e
def v8(neg:Bool):R2:=λx y H Q=>(y=.aR/\Q (.bl (if neg then !decide (x=.aR) else decide (x=.aR))) H)\/∃a b,x=.bl a/\y=.bl b/\Q (.bl (if neg then a != b else a == b)) H
def V9:dh X (compareOp .Is) (v8 false):=vP.or VB
def S6:dh X (compareOp .IsNot) (v8 true):=rD.or Sj
def l_:D->Bool
 |.aR=>true
 |_=>false
def x_(neg:Bool)(a b:D):ah Rv:=match b with
 |.aR=>some (rd (.bl (if neg=true then !l_ a else l_ a)))
 |.bl b=>(match a with
  |.bl a=>some (rd (.bl (if neg=true then a != b else a == b)))
  |_=>none)
 |_=>none
def QP{k:Kn}{H:Hp}{x:V}{d:D}(h:Top K k H x d):decide (x=.aR)=l_ d:=by
 rcases h with h|⟨p,c,rfl,rfl,h⟩
 .cases h.one with
  |flat q=>cases d <;> cases q <;> rfl
  |_=>rfl
 .cases c <;> rfl
def MY(neg:Bool):bP K (j5 (v8 neg)) (o2 (x_ neg)):=rC λk H x z a b y Q le t1 t2 e res=>by
 unfold x_ at e;split at e
 .cases e;cases t2.flat rfl;refine .inl ⟨rfl,?_⟩;rw[QP t1];exact res.flat le rfl
 .split at e
  .cases e;cases t1.flat rfl;cases t2.flat rfl;exact .inr ⟨_,_,rfl,rfl,res.flat le rfl⟩
  .cases e
 .cases e
def AY(K:aH):R2:=λx y H Q=>v9 K x y H Q\/v_ K x y H Q\/AZ x y H Q\/∃a v,x=.ref a/\fX K H a y (some v)/\Q v H
def S7(hu:X.A.units+9<cLine):mG X (λx y H Q=>∃a v,x=.ref a/\fX X.K H a y (some v)/\Q v H):=by
 intro value slice ae s Z H x y v u Q I rx ry h hs;obtain⟨a,w,rfl,g,q⟩:=h;cases rx;exact tail_any (g.ty I).1 PySem.F.slot_dict_getitem.lookup (JG hu I g ry λw' s3 I3 ph=>⟨w,H,I3,ph,q⟩) hs
def GP(K:aH)(hu:X.A.units+41<cLine)(hK:X.K=K):mG X (AY K):=by
 subst hK;exact(QE X.K rfl).or ((Sk X.K rfl).or (vC.or (S7 (by lia))))
def intD:D->ah Int
 |.int k=>some k
 |_=>none
def CA{i:D}{k:Int}(h:intD i=some k):i=.int k:=by
 cases i with
 |int _=>cases h;rfl
 |_=>cases h
def K5{F:Kn}{ws:List V}{ds:List D}{i:Int}{d:D}(r:af K F ws ds)(e:cB ds i=some d):∃v,cB ws i=some v/\af K F [v] [d]:=by
 unfold cB at e ⊢;rw[r.length];cases q:qb ds.length i with
 |none=>rw[q] at e;cases e
 |some j=>
  rw[q] at e;exact r.get e
def q9(a i:D):ah Rv:=match a with
 |.lst ds=>(intD i).bind λk=>(cB ds k).map rd
 |.tup ds=>(intD i).bind λk=>(cB ds k).map rd
 |.str z=>(intD i).bind λk=>if z.length<=1000000 then(cB z.cps.toList k).map λc=>rd (.str ⟨#[c]⟩) else none
 |.aP kvs=>(f' i).bind λj=>(bt kvs j).map rd
 |_=>none
def XF:bP K (j5 (AY K)) (o2 q9):=rC λk H x z a b y Q le t1 t2 e res=>by
 unfold q9 at e;split at e
 .obtain⟨i,hi,e⟩:=cC.mp e;cases CA hi;cases t2.flat rfl;obtain⟨d,h1,rfl⟩:=cS.mp e;obtain⟨p,ws,rfl,q,r⟩:=t1.lst le;obtain⟨v,h2,h3⟩:=K5 r h1;exact .inl ⟨p,ws,i,v,rfl,rfl,q,h2,res.rep le h3⟩
 .obtain⟨i,hi,e⟩:=cC.mp e;cases CA hi;cases t2.flat rfl;obtain⟨d,h1,rfl⟩:=cS.mp e;obtain⟨p,ws,rfl,q,r⟩:=t1.tup le;obtain⟨v,h2,h3⟩:=K5 r h1;exact .inr (.inl ⟨p,ws,i,v,rfl,rfl,q,h2,res.rep le h3⟩)
 .obtain⟨i,hi,e⟩:=cC.mp e;cases CA hi;cases t2.flat rfl;cases t1.flat rfl;split at e
  .obtain⟨c,h1,rfl⟩:=cS.mp e;exact .inr (.inr (.inl ⟨_,i,c,rfl,rfl,ml (by assumption),h1,res.flat le rfl⟩))
  .cases e
 .obtain⟨j,hj,e⟩:=cC.mp e;obtain⟨d,h1,rfl⟩:=cS.mp e;obtain⟨p,o,rfl,g,h⟩:=wB le t1 t2 hj;rcases h with⟨_,h⟩|⟨v,e,rfl,h,r⟩
  .lia
  .rw[h] at h1;cases h1;exact .inr (.inr (.inr ⟨p,v,rfl,g,res.rep le r⟩))
 .cases e
noncomputable def cutD(ds:List D)(lo hi:ah Int):List D:=(ds.drop (HT.bW ds.length 0 lo)).take (HT.bW ds.length ds.length hi - HT.bW ds.length 0 lo)
def A2(K:aH):V->ah Int->ah Int->Hp->VK->Prop:=λx lo hi H Q=>A3 x lo hi H Q\/wa K x lo hi H Q\/wb K x lo hi H Q
def HJ(K:aH)(hK:X.K=K):nI X (A2 K):=wg.or ((QF K hK).or (Sl K hK))
def HI(a:D)(lo hi:ah Int):ah Rv:=match a with
 |.str z=>if z.length<=1000000 then some (rd (.str (Txt.slice z lo hi))) else none
 |.lst ds=>some (.o (.lst (cutD ds lo hi)))
 |.tup ds=>if HT.bW ds.length 0 lo=0/\HT.bW ds.length ds.length hi=ds.length then none else some (rd (.tup (cutD ds lo hi)))
 |_=>none
def K6{k:Kn}{ws:List V}{ds:List D}{lo hi:ah Int}(r:af K k ws ds):af K k (kA ws lo hi) (cutD ds lo hi):=by
 unfold kA cutD;rw[r.length];exact(r.drop _).take _
def XG{k:Kn}{H:Hp}{x:V}{a:D}{y:Rv}{Q:VK}{lo hi:ah Int}(le:ay k.F H)(t:Top K k H x a)(e:HI a lo hi=some y)(res:iS K k H y Q):A2 K x lo hi H Q:=by
 unfold HI at e;split at e
 .split at e
  .cases e;cases t.flat rfl;exact .inl ⟨_,rfl,ml (by assumption),res.flat le rfl⟩
  .cases e
 .cases e;obtain⟨p,ws,rfl,q,r⟩:=t.lst le;exact .inr (.inl ⟨p,ws,rfl,q,λl hl=>res.lst le (K6 r) hl⟩)
 .split at e
  .cases e
  .rename_i gw
   cases e;obtain⟨p,ws,rfl,q,r⟩:=t.tup le;exact .inr (.inr ⟨p,ws,rfl,q,by rw[r.length];exact gw,λl hl=>res.tup le (K6 r) hl⟩)
 .cases e
abbrev GO:=Gx (ah Int)
abbrev wQ:Rp (ah Int) (ah Int):=λ_ _ b a=>b=a
def sN:GO:=λ_ S=>some (.ok none S)
noncomputable def Rv.int:Rv->ah Int
 |.v (.d (.int i))=>some i
 |_=>none
def sO(g:GE):GO:=λU S=>bd (g U S) λr S1=>r.int.map λi=>.ok (some i) S1
def qH(f:GE)(lo hi:GO):GE:=λU S=>bd (f U S) λr S1=>bd (lo U S1) λl S2=>bd (hi U S2) λu S3=>((kU S3 (jA r)).bind λd=>HI d l u).map λy=>.ok y S3
def Rv.f_{r:Rv}{i:Int}(h:r.int=some i):r=rd (.int i):=by
 obtain(d|_)|_:=r
 .cases d <;> cases h;rfl
 all_goals cases h
section
variable{W:XW}{q:Nat}{e:Expr}{lo hi:ah Expr}{f:GE}{fl fh:GO}{pos p2:Pos}
def qT:PO X none (tX wQ K W q sN):=λae s Z H Q I t=>R8 ae s Z H Q I (C1 t λ_ _=>rfl)
def qU(h:PE X e (tE K W q f)):PO X (some e) (tX wQ K W q (sO f)):=λae s Z H Q I t=>R9 h ae s Z H Q I (by
 obtain⟨k,U,S,res,ok,gk,e,w⟩:=t;refine tX.bd ok gk e w λr S1 x k1 H1 bq g1 r1 e1 w1 _=>?_
 obtain⟨i,e2,rfl⟩:=cS.mp e1;cases Rv.f_ e2;exact⟨i,(show af K k1 [x] [.int i] from r1).aL rfl,w1.now bq rfl⟩)
def QQ(he:PE X e (tE K W q f))(hl:PO X lo (tX wQ K W q fl))(hu:PO X hi (tX wQ K W q fh))(hK:X.K=K):PE X (.Subscript e (.Slice lo hi none p2) pos) (tE K W q (qH f fl fh)):=(Qw (HJ K hK) he hl hu).mono λZ H Q t=>by
 obtain⟨k,U,S,res,ok,gk,e,w⟩:=t;refine tX.bd ok gk e w λr S1 x k1 H1 bq g1 r1 e1 w1 _=>?_
 obtain⟨k2,u2,cR,r2⟩:=nX bq r1;refine tX.bd cR (g1.up (u2 q)) e1 (w1.up (u2 q)) λl S3 l' k3 H3 iI g3 r3 e3 w3 u3=>?_
 cases r3;refine tX.bd iI g3 e3 w3 λu S4 u' k4 H4 qg g4 r4 e4 w4 u4=>?_
 cases r4;obtain⟨y,e5,rfl⟩:=cS.mp e4;obtain⟨d,e6,e7⟩:=cC.mp e5;exact XG qg.le (CL qg ((r2.up u3).up u4) e6) e7 (.fin qg w4)
end
end
section
variable{X:Cx}{K:aH}
noncomputable def eZ:List Int->Int
 |[]=>0
 |x::xs=>xs.foldl (λa b=>if b<a then b else a) x
def PR(xs:List Int):∀x:Int,(xs.foldl (λa b=>if b<a then b else a) x<=x/\∀y∈xs,xs.foldl (λa b=>if b<a then b else a) x<=y)/\(xs.foldl (λa b=>if b<a then b else a) x=x\/xs.foldl (λa b=>if b<a then b else a) x∈xs):=by
 induction xs with
 |nil=>intro x;exact⟨⟨sd _,λy m=>by cases m⟩,.inl rfl⟩
 |cons z xs ih=>
  grind
def xg{xs:List Int}(h:xs≠[]):eZ xs∈xs/\∀y∈xs,eZ xs<=y:=by
 cases xs with
 |nil=>exact bG rfl h
 |cons x xs=>
  obtain⟨⟨h1,h2⟩,h3⟩:=PR xs x;refine⟨?_,λy m=>?_⟩
  .rcases h3 with h3|h3
   .show List.foldl _ x xs∈_
    simp_all
   .exact .tail _ h3
  .rcases y06.mp m with rfl|m
   .exact h1
   .exact h2 y m
theorem Eb:∀{is:List Int} {aA:List ai},Vals (is.map V.int) aA->∃ps:List (Int×Tok),aA=ps.map (λp=>Value.int p.1 p.2)/\ps.map (·.1)=is
 |[],aA,h=>by
  rw[Bv] at h;cases h;exact⟨[],rfl,rfl⟩
 |i::is,aA,h=>by
  rw[c_] at h;cases h with
  |cons r t=>
   obtain⟨ps,e1,e2⟩:=Eb t;obtain⟨tk,rfl⟩:=r;exact⟨(i,tk)::ps,by rw[e1];rfl,by rw[c_,e2]⟩
def QR(K:aH)(hc:X.calm=true:=by rfl)(hK:X.K=K:=by rfl):bD X (.builtin "min") (λxs H Q=>∃(a:aj) (is:List Int),xs=[.ref a]/\cI K H a (is.map V.int)/\is≠[]/\Q (.int (eZ is)) H):=by
 subst hK;intro ae s Z H xs us Q I r h;obtain⟨a,is,rfl,hs,gw,q⟩:=h;obtain⟨u,rfl,ru⟩:=vals1 r;cases ru;obtain⟨aA,rv,p,hz⟩:=I.list hs;obtain⟨ps,e1,e2⟩:=Eb rv;subst e1;have hl:0<ps.length:=by
  grind
 have el:(ps.map λp=>Value.int p.1 p.2).toArray=intItems ps.toArray:=by unfold intItems;simp
 have pl:=p.isList;rw[el] at pl;refine min_intList (I.ok.hd hc) pl (by simpa using hl) λv h' tk hv hk=>?_
 obtain⟨b1,b2⟩:=argBest_lt (numAt ps.toArray) (ps.toArray.size - 1);generalize argBest (λi j=>decide (numAt ps.toArray i<numAt ps.toArray j)) (ps.toArray.size - 1)=n at *
 have hn:n<ps.length:=by simp at b1;lia
 have oF:∀j (hj:j<ps.length),numAt ps.toArray j=(ps[j]).1:=λj hj=>by unfold numAt;simp[hj]
 have GN:v=Value.int (ps[n]).1 (ps[n]).2:=by
  unfold intItems at hv;simp[hn] at hv;exact hv.symm
 have hm:eZ is=(ps[n]).1:=by
  obtain⟨m1,m2⟩:=xg gw;have i1:(ps[n]).1∈is:=by rw[<-e2];exact yu (f:=(·.1)) (ua hn)
  have c1:=m2 _ i1;rw[<-e2] at m1;obtain⟨pp,GK,Am⟩:=dF.mp m1;obtain⟨j,hj,ej⟩:=DR.mp GK;have c2:=b2 j (by simp;lia)
  rw[oF n hn,oF j hj,ej] at c2;rw[e2] at Am;lia
 rw[GN];exact⟨.int (eZ is),H,I.kept (h':=h') (t':=tk) λb o e=>hk b o e,⟨(ps[n]).2,by rw[hm]⟩,q⟩
noncomputable def iF:List D->ah (List Int)
 |[]=>some []
 |.int i::ds=>(iF ds).map λis=>i::is
 |_=>none
theorem Ei:∀is:List Int,iF (is.map .int)=some is
 |[]=>rfl
 |i::is=>by rw[c_];show(iF (is.map .int)).map _=_;rw[Ei is];rfl
theorem JI:∀{ds:List D} {is:List Int},iF ds=some is->ds=is.map .int
 |[],is,e=>by cases e;rfl
 |d::ds,is,e=>by
  cases d with
  |int i=>
   obtain⟨js,e1,e2⟩:=cS.mp (show(iF ds).map _=some is from e);rw[<-e2,JI e1];rfl
  |_=>cases e
theorem I_{F:Kn}:∀{ws:List V} {is:List Int},af K F ws (is.map .int)->ws=is.map .int
 |[],[],_=>rfl
 |[],_::_,h=>by have:=h.length;simp at this
 |_::_,[],h=>by have:=h.length;simp at this
 |w::ws,i::is,h=>by
  rw[c_] at h;have h1:=h.inv.1;have h2:=I_ h.inv.2;rw[h2,c_];rw[h1.aL rfl]
end
def iH(is:List Int):Int := -eZ (is.map λi => -i)
def JJ{is:List Int}(h:is≠[]):iH is∈is/\∀y∈is,y<=iH is:=by
 obtain⟨h1,h2⟩:=xg (xs:=is.map λi => -i) (by simpa using h)
 unfold iH;constructor
 .obtain⟨i,m,e⟩:=dF.mp h1;rw[<-e,Int.neg_neg];exact m
 .intro y m;have:=h2 (-y) (dF.mpr ⟨y,m,rfl⟩);lia
section
variable{X:Cx}{K:aH}
def QS(K:aH)(hc:X.calm=true:=by rfl)(hK:X.K=K:=by rfl):bD X (.builtin "max") (λxs H Q=>∃(a:aj) (is:List Int),xs=[.ref a]/\cI K H a (is.map V.int)/\is≠[]/\Q (.int (iH is)) H):=by
 subst hK;intro ae s Z H xs us Q I r h;obtain⟨a,is,rfl,hs,gw,q⟩:=h;obtain⟨u,rfl,ru⟩:=vals1 r;cases ru;obtain⟨aA,rv,p,hz⟩:=I.list hs;obtain⟨ps,e1,e2⟩:=Eb rv;subst e1;have hl:0<ps.length:=by
  grind
 have el:(ps.map λp=>Value.int p.1 p.2).toArray=intItems ps.toArray:=by unfold intItems;simp
 have pl:=p.isList;rw[el] at pl;refine max_intList (I.ok.hd hc) pl (by simpa using hl) λv h' tk hv hk=>?_
 obtain⟨b1,b2⟩:=argBest_lt (λi => -numAt ps.toArray i) (ps.toArray.size - 1)
 have ef:(λi j=>decide (-numAt ps.toArray i < -numAt ps.toArray j))=λi j=>decide (numAt ps.toArray i > numAt ps.toArray j):=by
  lia
 rw[ef] at b1 b2;generalize argBest (λi j=>decide (numAt ps.toArray i > numAt ps.toArray j)) (ps.toArray.size - 1)=n at *
 have hn:n<ps.length:=by simp at b1;lia
 have oF:∀j (hj:j<ps.length),numAt ps.toArray j=(ps[j]).1:=λj hj=>by unfold numAt;simp[hj]
 have GN:v=Value.int (ps[n]).1 (ps[n]).2:=by
  unfold intItems at hv;simp[hn] at hv;exact hv.symm
 have hm:iH is=(ps[n]).1:=by
  obtain⟨m1,m2⟩:=JJ gw;have i1:(ps[n]).1∈is:=by rw[<-e2];exact yu (f:=(·.1)) (ua hn)
  have c1:=m2 _ i1;rw[<-e2] at m1;obtain⟨pp,GK,Am⟩:=dF.mp m1;obtain⟨j,hj,ej⟩:=DR.mp GK;have c2:=b2 j (by simp;lia)
  rw[oF n hn,oF j hj,ej] at c2;rw[e2] at Am;lia
 rw[GN];exact⟨.int (iH is),H,I.kept (h':=h') (t':=tk) λb o e=>hk b o e,⟨(ps[n]).2,by rw[hm]⟩,q⟩
end
end L2
namespace L2
open PySem PySem.Spec PySem.W PyProof.Rows
section
variable{X:Cx}{K:aH}
noncomputable def H9(k:String):Bool:=k == "tuple" || k == "list"
def tY(K:eU):List V->Hp->VK->Prop:=λxs H Q=>∃x k q,xs=[x,.ref q]/\zq K H x k/\fy K H q [.ty "tuple",.ty "list"]/\Q (.bl (H9 k)) H
def PU(K:eU)(hK:X.K=K:=by rfl):bD X (.builtin "isinstance") (tY K):=by
 subst hK;intro ae s Z H xs us Q I r h;obtain⟨x,k,q,rfl,hk,hq,qq⟩:=h;obtain⟨u,w',rfl,rx,ry⟩:=vals2 r;cases ry;obtain⟨aA,rv,⟨ot,h1,h2,n,h3⟩,_⟩:=I.tuple hq;obtain⟨oc,odd,odt,mf⟩:=ot;dsimp only at h2 h3;subst h2;subst h3;obtain⟨u1,u2,rfl,r1,r2⟩:=vals2 rv;cases r1;cases r2;have fin:∀b,b=H9 k->∀tk,EP X ae Z Q (.bool b) { s with toks:=tk}:=λb e tk=>qE (I.tok _) qq e.symm
 cases x with
 |aR=>
  cases rx;have hk:k="NoneType":=hk;subst hk;exact kia_tup (b:=false) kitx_none I.lG mF h1 (by rfl) (λz=>nomatch z) (fin _ rfl)
 |bl b=>
  cases rx;have hk:k="bool":=hk;subst hk;exact kia_tup (b:=false) kitx_bool I.lG mF h1 (by rfl) (λz=>nomatch z) (fin _ rfl)
 |int i=>
  obtain⟨t,rfl⟩:=rx;have hk:k="int":=hk;subst hk;exact kia_tup (b:=false) kitx_int I.lG mF h1 (by rfl) (λz=>nomatch z) (fin _ rfl)
 |str z=>
  obtain⟨t,rfl⟩:=rx;have hk:k="str":=hk;subst hk;exact kia_tup (b:=false) kitx_str I.lG mF h1 (by rfl) (λz=>nomatch z) (fin _ rfl)
 |ref a=>
  cases rx;rcases hk with⟨hk,ys,hs⟩|⟨hk,ys,hs⟩
  .subst hk;obtain⟨aA,_,⟨o,n,e,hc,_⟩,_⟩:=I.list hs;exact kia_tup (b:=true) kitx_list I.lG ⟨o,e,hc⟩ h1 (by rfl) (λz=>nomatch z) (fin _ rfl)
  .subst hk;obtain⟨aA,_,⟨o,e,hc,_⟩,_⟩:=I.tuple hs;exact kia_tup (b:=true) kitx_tuple I.lG ⟨o,e,hc⟩ h1 (by rfl) (λz=>nomatch z) (fin _ rfl)
 |uR _=>exact False.elim hk
 |zX _=>exact False.elim hk
 |ty _=>exact False.elim hk
end
end L2
namespace L2
open PySem PySem.Spec PyProof.Rows
variable{A:cy}{E:ai->au->Prop}{s:au}{ep:Nat}
theorem OP{Q:Bool->au->Prop}{P:cL}{w:bX}{d:aj}(hT:s.TypeIs (.ref d) "dict")(h:Q false s):wpAny (model P w) A (Builtin.List.listLengthHint (.ref d)) Q E s:=by
 unfold Builtin.List.listLengthHint;refine aE (wpAny_specialOf hT F.slot_dict_len.lookup ?_);dsimp only;rw[show splitId "dict.__len__"=some ("dict","__len__") from by decide +kernel]
 dsimp only;refine aE (wpAny_isInstance (b:=true) hT (by rw[isSubtype_type];kernel_rfl) ?_)
 rw[aO (by decide)]
 refine wpAny_ite_true (by decide +kernel) (aE (wpAny_typeOf hT ?_))
 exact a_ h
section
variable{P:cL}{w:bX}{A:cy}{E:ai->au->Prop}{s:au}
def PV{n:Nat}{ob:Obj}{xs:Array DictEntry}(hh:A.handled=none)(J d:aj)(gw:d≠J)(g2:ob.data=.dict xs ep)(hl:xs.size=n):
  Walks P w A J [J,d] [J] n (λi v=>xs[i]?.map (·.key)=some v) (λi h=>h.IsKeyIter J d i n ep/\h.get? d=some ob) where
 sub:=λb hb=>by simp at hb;simp[hb]
 frame:=λ_ _ _ st hk=>⟨st.1.at λo e=>hk J (by simp) o e,hk d (by simp) _ st.2⟩
 item:=λi s Q E hi st hQ=>by
  have lt:i<xs.size:=by lia
  refine Jh st.2 g2 hl st.1 lt λh' AA sb=>?_
  exact hQ _ h' s.toks (by rw[pF lt];rfl) ⟨AA,(sb.2 d gw).trans st.2⟩ λb o hb e=>sb.extBut b o (λh=>hb (by simp[h])) e
 done:=λs Q E st hQ=>JA hh st.2 g2 hl st.1 (bC _) λh' Dl=>hQ h' s.toks λb o hb e=>Dl b o (λh=>hb (by simp[h])) e
 self:=λ_ _ _ _ st hQ=>wpAny_pyIter_keyiter st.1 hQ
end
theorem K7:∀{ys:List V} {us:List ai},ys.length=us.length->(∀(j:Nat) (y:V) (u:ai),ys[j]?=some y->us[j]?=some u->RelV y u)->Vals ys us
 |[],[],_,_=>.nil
 |y::ys,u::us,hl,h=>.cons (h 0 y u rfl rfl) (K7 (by simpa using hl) λj y' u' e1 e2=>h (j+1) y' u' (by simpa using e1) (by simpa using e2))
 |[],_::_,h,_=>by simp at h
 |_::_,[],h,_=>by simp at h
section
variable{X:Cx}{ae:List (aj×Obj)}{Z:St}{H:Hp}
theorem Ov{d:aj}{es:List (TK×V×V)}{Q:ai->au->Prop}(hh:A.handled=none)(I:Inv X ae Z H s)(hd:H d=some (.dG es ep))
  (hQ:∀s',(∀b u,s.heap.get? b=some u->s'.heap.get? b=some u)->s'={ s with heap:=s'.heap,toks:=s'.toks}->(∃aA c,Vals (es.map (·.2.1)) aA/\s'.heap.get? s.heap.objs.size=some { cls:=.type "list",data:=.seq aA.toArray c})->Q (.ref s.heap.objs.size) s') :
  wpAny (mX X) A (call (.type "list") [.ref d]) Q E s:=by
 obtain⟨hz,z,ob,xs,g1,g5,g2,g3,g4⟩:=(jP I hd);have hl:xs.size=es.length:=by have:=Paired.length g3;simpa using this.symm
 have ld:d<s.heap.objs.size:=cQ g1;refine callType_codes (Q₁:=λobj s₁=>obj=.ref s.heap.objs.size/\s₁={ s with heap:=s.heap.push { cls:=.type "list",data:=.seq #[]}}) F.called_list (F.typeCall_list_1 _) F.entry_list_init (code_list_new _ ⟨rfl,rfl⟩) λobj s₁ q₁=>?_
 obtain⟨rfl,rfl⟩:=q₁;have gS:(s.heap.push { cls:=.type "list",data:=.seq #[]}).get? s.heap.objs.size=some { cls:=.type "list",data:=.seq #[]}:=jD _ rfl;refine⟨⟨_,gS,rfl⟩,F.args_list_init_2 _ _,?_⟩;show wpAny _ _ (do let old <-Builtin.List.listItems (.ref s.heap.objs.size);Builtin.List.listUpdate (.ref s.heap.objs.size) (λ_=>#[]);letGo old.toList.reverse;Builtin.List.listExtendWith (.ref s.heap.objs.size) (.ref d) .none) _ _ _
 refine aE ?_;unfold Builtin.List.listItems;refine aE (wpAny_seqItems gS rfl (a_ ?_));show wpAny _ _ (updateSeq s.heap.objs.size (λ_=>#[]) >>= λ_=>letGo (#[]:Array ai).toList.reverse >>= λ_=>Builtin.List.listExtendWith (.ref s.heap.objs.size) (.ref d) .none) _ _ _
 refine aE (wpAny_updateSeq gS rfl ?_);have gT:=nu (Obj.mapSeq (λ_=>(#[]:Array ai))) gS rfl
 refine aE (wpAny_letGo ?_);have nS:∀b u,s.heap.get? b=some u->b≠s.heap.objs.size:=λb u e z=>by rw[z] at e;exact jl _ (cQ e)
 have k1:∀b u,s.heap.get? b=some u->((s.heap.push { cls:=.type "list",data:=.seq #[]}).update s.heap.objs.size (Obj.mapSeq (λ_=>(#[]:Array ai)))).get? b=some u:=
  λb u e=>(ny _ _ (Ne.symm (nS b u e))).trans (dU _ e)
 have yh:((s.heap.push { cls:=.type "list",data:=.seq #[]}).update s.heap.objs.size (Obj.mapSeq (λ_=>(#[]:Array ai)))).objs.size=s.heap.objs.size+1:=by simp[Heap.update,Heap.push]
 generalize(s.heap.push { cls:=.type "list",data:=.seq #[]}).update s.heap.objs.size (Obj.mapSeq (λ_=>(#[]:Array ai)))=h1 at *
 have I1:Inv X ae Z H { s with heap:=h1,toks:=s.toks}:=I.kept k1;have YE:Shared.TypeIs { s with heap:=h1} (.ref d) "dict":=⟨ob,k1 _ _ g1,g5.1⟩;unfold Builtin.List.listExtendWith;refine aE (wpAny_typeOf YE ?_);have ne:s.heap.objs.size≠d:=λe=>jl _ (e ▸ ld)
 have c1:Builtin.List.listSameRef (.ref s.heap.objs.size) (.ref d)=false:=by simp[Builtin.List.listSameRef,ne]
 have c2:(Value.type "dict" == Value.type "list")=false:=by decide
 have c3:(Value.type "dict" == Value.type "tuple")=false:=by decide
 simp only[c1,c2,c3,Bool.or_false,jE,iY];refine aE (J7 I1 hd ?_);have Gf:Shared.TypeIs { s with heap:=h1.push { cls:=.type "dict_keyiterator",data:=.fields #[.ref d,.int 0 0,.int es.length 0,.int ep 0]}} (.ref d) "dict":=⟨ob,dU _ (k1 _ _ g1),g5.1⟩;refine aE (jH (OP Gf ?_));refine wpAny_ite_true (by decide +kernel) (aE (wpAny_rule (aE ?_)))
 show wpAny _ _ (updateSeq s.heap.objs.size (·.push .none) >>= λ_=>updateSeq s.heap.objs.size (·.pop)) _ _ _
 have gU:=dU { cls:=.type "dict_keyiterator",data:=.fields #[.ref d,.int 0 0,.int es.length 0,.int ep 0]} gT;refine aE (wpAny_updateSeq gU rfl ?_);have gV:=nu (Obj.mapSeq (·.push Value.none)) gU rfl
 refine wpAny_updateSeq (hz:=by seq_fits) gV rfl ?_
 have gW:=nu (Obj.mapSeq (·.pop)) gV rfl
 have gJ:(h1.push { cls:=.type "dict_keyiterator",data:=.fields #[.ref d,.int 0 0,.int es.length 0,.int ep 0]}).get? h1.objs.size=some { cls:=.type "dict_keyiterator",data:=.fields #[.ref d,.int 0 0,.int es.length 0,.int ep 0]}:=jD _ rfl;have Hs:∀b o,b≠s.heap.objs.size->(h1.push { cls:=.type "dict_keyiterator",data:=.fields #[.ref d,.int 0 0,.int es.length 0,.int ep 0]}).get? b=some o->
   (((h1.push { cls:=.type "dict_keyiterator",data:=.fields #[.ref d,.int 0 0,.int es.length 0,.int ep 0]}).update s.heap.objs.size (Obj.mapSeq (·.push Value.none))).update s.heap.objs.size (Obj.mapSeq (·.pop))).get? b=some o:=
  λb o hb e=>(ny _ _ (Ne.symm hb)).trans ((ny _ _ (Ne.symm hb)).trans e)
 have hJ:h1.objs.size≠s.heap.objs.size:=by rw[yh];exact Nat.succ_ne_self _
 have dJ:d≠h1.objs.size:=iP (by rw[yh];exact Bw ld)
 have W:=(PV (P:=X.prog) (w:=X.w) (A:=A.in1.in1) (n:=es.length) (ep:=ep) hh h1.objs.size d dJ g2 hl).toS;have YC:s.heap.objs.size∉[h1.objs.size,d]:=λm=>by
  grind
 refine a_ ⟨plainId_quiet F.plain_extend_loop _,codeAny_extend_loopS W hz _ YC _ es.length 0 _ _ _ rfl (k7 _) ⟨⟨_,Hs _ _ hJ gJ,rfl,rfl⟩,Hs _ _ (Ne.symm ne) (dU _ (k1 _ _ g1))⟩ gW (ItemsOf.nil _) λs' zp c' hm YB qX=>?_⟩
 obtain⟨m1,m2,m3,m4,m5⟩:=hm;have es':s'={ s with heap:=s'.heap,toks:=s'.toks}:=by
  cases s'
  lia
 refine⟨rfl,hQ s' (λb u e=>m1 b u (λq=>?_) (Hs b u (nS b u e) (dU _ (k1 b u e)))) es' ⟨zp.toList,c',?_,by simpa using YB⟩⟩
 .rcases y06.mp q with q|q
  .exact nS b u e q
  .rw[dW] at q;have:=cQ e
   lia
 .have h2:zp.size=es.length:=qX.1;refine K7 (by simp[h2]) λj y u e1 e2=>?_
  rw[gn] at e1;obtain⟨e,e3,rfl⟩:=cS.mp e1;obtain⟨x,x1,x2⟩:=yZ j g3 e3;have h3:=qX.2 j u (by rw[<-uc];exact e2)
  have x1:xs[j]?=some x:=by rw[<-uc];exact x1
  have h3:Option.map (λx=>x.key) xs[j]?=some u:=h3
  rw[x1] at h3;cases h3;exact x2.2.1
def N5(K:aH):List V->Hp->VK->Prop:=λxs H Q=>∃d es ep,xs=[.ref d]/\H d=some (.dG es ep)/\∀l,H l=none->Q (.ref l) (upd H l (.lst (es.map (·.2.1))))
def OZ(hc:X.calm=true):bD X (.type "list") (N5 X.K):=by
 intro ae s Z H xs us Q I r h;obtain⟨d,es,ep,rfl,hd,q⟩:=h;obtain⟨u,rfl,ru⟩:=vals1 r;cases ru;refine Ov (I.ok.hd hc) I hd λs' kp es' hh=>?_
 obtain⟨aA,c,rv,g⟩:=hh;have hz:=(jP I hd).1;rw[es'];exact⟨.ref s.heap.objs.size,_,I.laid kp (bC _) (show cu X.prog X.w _ s'.heap _ (.lst (es.map (·.2.1))) from⟨by rw[aW];exact hz,aA,c,rv,g⟩),rfl,q _ (I.bL.fresh (bC _))⟩
end
section
variable{X:Cx}{K:aH}
def pb(r:V->List V->Hp->VK->Prop):List V->Hp->VK->Prop:=λvs H Q=>∃x xs,vs=x::xs/\r x xs H Q
noncomputable def iN:List D->ah (List Str)
 |[]=>some []
 |.str x::ds=>(iN ds).map λxs=>x::xs
 |_=>none
theorem JK:∀xs:List Str,iN (xs.map .str)=some xs
 |[]=>rfl
 |i::is=>by rw[c_];show(iN (is.map .str)).map _=_;rw[JK is];rfl
theorem JL:∀{ds:List D} {xs:List Str},iN ds=some xs->ds=xs.map .str
 |[],xs,e=>by cases e;rfl
 |d::ds,xs,e=>by
  cases d with
  |str i=>
   obtain⟨js,e1,e2⟩:=cS.mp (show(iN ds).map _=some xs from e);rw[<-e2,JL e1];rfl
  |_=>cases e
theorem Ja{F:Kn}:∀{ws:List V} {xs:List Str},af K F ws (xs.map .str)->ws=xs.map .str
 |[],[],_=>rfl
 |[],_::_,h=>by have:=h.length;simp at this
 |_::_,[],h=>by have:=h.length;simp at this
 |w::ws,i::is,h=>by
  rw[c_] at h;have h1:=h.inv.1;have h2:=Ja h.inv.2;rw[h2,c_];rw[h1.aL rfl]
theorem Jj:∀{xs:List Str} {aA:List ai},Vals (xs.map V.str) aA->∃ps:List (Str×Tok),aA=ps.map (λp=>Value.str p.1 p.2)/\ps.map (·.1)=xs
 |[],aA,h=>by
  rw[Bv] at h;cases h;exact⟨[],rfl,rfl⟩
 |i::is,aA,h=>by
  rw[c_] at h;cases h with
  |cons r t=>
   obtain⟨ps,e1,e2⟩:=Jj t;obtain⟨tk,rfl⟩:=r;exact⟨(i,tk)::ps,by rw[e1];rfl,by rw[c_,e2]⟩
noncomputable def dO:List D->ah (List Bool)
 |[]=>some []
 |.bl b::ds=>(dO ds).map λbs=>b::bs
 |_=>none
theorem Jk:∀{ds:List D} {bs:List Bool},dO ds=some bs->ds=bs.map .bl
 |[],bs,e=>by cases e;rfl
 |d::ds,bs,e=>by
  cases d with
  |bl i=>
   obtain⟨js,e1,e2⟩:=cS.mp (show(dO ds).map _=some bs from e);rw[<-e2,Jk e1];rfl
  |_=>cases e
theorem Jl{F:Kn}:∀{ws:List V} {bs:List Bool},af K F ws (bs.map .bl)->ws=bs.map .bl
 |[],[],_=>rfl
 |[],_::_,h=>by have:=h.length;simp at this
 |_::_,[],h=>by have:=h.length;simp at this
 |w::ws,i::is,h=>by
  rw[c_] at h;have h1:=h.inv.1;have h2:=Jl h.inv.2;rw[h2,c_];rw[h1.aL rfl]
def PX(K:aH)(hc:X.calm=true:=by rfl)(hK:X.K=K:=by rfl):bD X (.builtin "any") (λxs H Q=>∃(a:aj) (bs:List Bool),xs=[.ref a]/\cI K H a (bs.map V.bl)/\Q (.bl (bs.any id)) H):=hK ▸ Po hc
def PY(K:aH)(hc:X.calm=true:=by rfl)(hK:X.K=K:=by rfl):bD X (.builtin "all") (λxs H Q=>∃(a:aj) (bs:List Bool),xs=[.ref a]/\cI K H a (bs.map V.bl)/\Q (.bl (bs.all id)) H):=hK ▸ Pn hc
noncomputable def E'(z:Str):ai->Bool
 |.str y _=>y == z
 |_=>false
def Mi(K:aH):V->List V->Hp->VK->Prop:=λx xs H Q=>∃(a:aj) (ys:List Str) (z:Str) (j:Nat),x=.ref a/\xs=[.str z]/\cI K H a (ys.map V.str)/\ys[j]?=some z/\(∀i y,i<j->ys[i]?=some y->y≠z)/\Q (.int (j:Nat)) H
theorem QT(K:aH)(hK:X.K=K:=by rfl):BI X "list.index" (Mi K):=by
 subst hK;intro ae s Z H x xs v us Q I rx rs h;refine kY λkz=>?_
 obtain⟨a,ys,z,j,rfl,rfl,hq,hj,gw,q⟩:=h;cases rx;obtain⟨u,rfl,ru⟩:=vals1 rs;obtain⟨t,rfl⟩:=ru;obtain⟨aA,rv,p,hz⟩:=I.list hq;obtain⟨ps,e1,e2⟩:=Jj rv;subst e1;obtain⟨ob,n,eo,Dj,hdi,YN⟩:=p;have hlen:ps.length=ys.length:=by rw[<-e2,aW]
 have Gv:j<ys.length:=(cK.mp hj).1;have hit:∀i (hi:i<ps.length),(ps.map λp=>Value.str p.1 p.2)[i]?=some (Value.str ps[i].1 ps[i].2):=λi hi=>by simp[hi]
 have Zf:∀i (hi:i<ps.length),ys[i]?=some ps[i].1:=λi hi=>by rw[<-e2];simp[hi]
 have hsz:(ps.map λp=>Value.str p.1 p.2).toArray.size=ps.length:=by simp
 have YU:ps[j].1=z:=by
  simp_all
 obtain⟨cl,di,da,sl⟩:=ob;cases Dj;cases YN;have hz':ys.length<=16777216:=by rw[aW,sizeLine_eq] at hz;exact hz
 refine kz ?_;refine call_meets F.slot_list_index ⟨_,eo,rfl⟩ F.entry_list_index (F.args_list_index_2 _ _) (SeqAt.list_indexAt a _ n di sl (.str z t) (E' z) j (by rw[hsz];lia) (by lia) ?_ ?_) ⟨eo,?_,?_⟩
 .simp[E',YU]
 .intro i hi Gu;rw[hsz] at hi;have:=gw i _ Gu (Zf i hi);simp[E'];exact this
 .intro y hy;simp at hy;obtain⟨b,t',_,rfl⟩:=hy;exact SeqAt.EqAt.str_str b t' z t
 .exact⟨.int (j:Nat),H,I.tok _,⟨_,rfl⟩,q⟩
def findS(ys:List Str)(z:Str):ah Nat:=ys.findIdx? (· == z)
def Jm{ys:List Str}{z:Str}{j:Nat}(e:findS ys z=some j):ys[j]?=some z/\∀i y,i<j->ys[i]?=some y->y≠z:=by
 unfold findS at e;rw[List.findIdx?_eq_some_iff_getElem] at e;obtain⟨h,h1,h2⟩:=e;refine⟨by rw[gp h];congr 1;exact eq_of_beq h1,λi y hi ey=>?_⟩
 have:=h2 i hi;obtain⟨hl,e3⟩:=cK.mp ey;rw[e3] at this;intro z';subst z';simp at this
end
end L2
namespace L2
open PySem PySem.Spec PySem.W PyProof.Rows
end L2
namespace L2
open PySem PySem.Spec PyProof.Rows
end L2
namespace L2
open PySem PySem.Spec PySem.W PyProof.Rows
end L2
namespace L2
open PySem PySem.Spec PyProof.Rows
def J9{P:cL}{w:bX}{H:Hp}(h:bJ)(hb:sysModules<h.objs.size):cu P w H (h.push { cls:=.type "dict",data:=.dict #[]}) h.objs.size (.dG [] 0):=
 ⟨k7 _,nA.mpr (Ne.symm (iP hb)),_,#[],jD _ rfl,⟨rfl,rfl,rfl⟩,rfl,.nil,wJ⟩
def V_:TE:=λ_ H Q=>∀p,H p=none->Q (.ref p) (upd H p (.dG [] 0))
end L2
namespace L2
open PySem PySem.Spec PySem.W PyProof.Rows
def kP(es:List (TK×V×V))(ps:List (TK×V×V)):List (TK×V×V):=ps.foldl (λes p=>cY es p.1 p.2.1 p.2.2) es
section
variable{X:Cx}{ae:List (aj×Obj)}{Z:St}{H:Hp}
def O0(K:aH){H:Hp}{ps:List (TK×V×V)}(h:∀p∈ps,aQ K H [p.2.1] [p.1.d]):∀{es:List (TK×V×V)},aQ K H (es.map (·.2.1)) (es.map (·.1.d))->aQ K H ((kP es ps).map (·.2.1)) ((kP es ps).map (·.1.d)):=by
 induction ps with
 |nil=>exact λr=>r
 |cons p ps ih=>
  intro es r;refine ih (λq m=>h q (.tail _ m)) ?_
  have hp:=h p (.head _);clear ih h
  induction es with
  |nil=>exact hp
  |cons e es ih=>
   obtain⟨r1,r2⟩:=af.inv r;show aQ K H ((if e.1=p.1 then(e.1,e.2.1,p.2.2)::es else e::cY es p.1 p.2.1 p.2.2).map (·.2.1)) ((if e.1=p.1 then(e.1,e.2.1,p.2.2)::es else e::cY es p.1 p.2.1 p.2.2).map (·.1.d))
   split
   .exact .cons r1 r2
   .exact .cons r1 (ih r2)
end
end L2
namespace L2
open PySem PySem.Spec PySem.W PySem.Calls PyProof.Rows
end L2
namespace L2
open PySem PySem.Spec PySem.W PyProof.Rows
end L2
set_option autoImplicit false
namespace L2
open PySem PySem.Spec PySem.W PySem.Calls PyProof.Rows
def wx(kvs:List (TK×D)):Bool:=kvs.all λp=>tL p.1
section
variable{K:eU}{W:XW}{q:Nat}{g:GE}{fz:Bool}{Z:St}{H:Hp}{R:It->Hp->Prop}{k:Kn}{es:List (TK×V×V)}{kvs:List (TK×D)}
def XH(h1:es.map (·.1)=kvs.map (·.1))(h2:af K k (es.map (·.2.1)) (kvs.map (·.1.d)))(h:wx kvs=true):mI es:=Mf h1 (by rw[kL];exact h2) (by rw[yr];exact h)
end
end L2
namespace L2
open PySem PySem.Spec PyProof.Rows
section
variable{X:Cx}{K:aH}{k:Kn}{H:Hp}{x:V}{d:D}
def Top.txt{kvs:List (TK×D)}(t:Top K k H x (.aP kvs))(le:ay k.F H)(h:wx kvs=true):∃p es ep,x=.ref p/\H p=some (.dG es ep)/\mI es/\es.map (·.1)=kvs.map (·.1)/\af K k (es.map (·.2.1)) (kvs.map (·.1.d))/\af K k (es.map (·.2.2)) (kvs.map (·.2)):=by
 obtain⟨p,es,ep,rfl,h1,h2,h3,h4⟩:=t.aP le;exact⟨p,es,ep,rfl,h1,XH h2 h3 h,h2,h3,h4⟩
def A0(K:aH):List V->Hp->VK->Prop:=λxs H Q=>(∃p ys,xs=[.ref p]/\(cI K H p ys\/fy K H p ys)/\Q (.int ys.length) H)\/(∃z,xs=[.str z]/\z.length<=sizeLine/\Q (.int z.length) H)\/∃p es ep,xs=[.ref p]/\H p=some (.dG es ep)/\mI es/\Q (.int es.length) H
def PZ(hK:X.K=K):bD X (.builtin "len") (A0 K):=(Ox K hK).or (jN.or (by
 intro ae s Z H xs us Q I r h;refine kY λkz=>?_
 obtain⟨p,es,ep,rfl,hp,ht,q⟩:=h;obtain⟨u,rfl,ru⟩:=vals1 r;cases ru;obtain⟨kvs,D1,D2,D3,D4,lo⟩:=SX I hp ht;have l1:kvs.length=es.length:=by have:=congrArg List.length D3;simpa using this
 refine kz ?_;refine call_len_dict lo D1.dictOf (by rw[sizeLine_eq] at D4;lia) ?_
 rw[l1];exact⟨.int es.length,H,I.tok _,⟨_,rfl⟩,q⟩))
def br:D->ah Rv
 |.lst ds=>some (rd (.int ds.length))
 |.tup ds=>some (rd (.int ds.length))
 |.str z=>if z.length<=1000000 then some (rd (.int z.length)) else none
 |.aP kvs=>if wx kvs=true then some (rd (.int kvs.length)) else none
 |_=>none
def V':bP K (A0 K) (o1 br):=vM λk H x a y Q le t e res=>by
 unfold br at e;split at e
 .cases e;obtain⟨p,ws,rfl,q,r⟩:=t.lst le;exact .inl ⟨p,ws,rfl,.inl q,by rw[r.length];exact res.flat le rfl⟩
 .cases e;obtain⟨p,ws,rfl,q,r⟩:=t.tup le;exact .inl ⟨p,ws,rfl,.inr q,by rw[r.length];exact res.flat le rfl⟩
 .split at e
  .cases e;cases t.flat rfl;exact .inr (.inl ⟨_,rfl,ml (by assumption),res.flat le rfl⟩)
  .cases e
 .split at e
  .cases e;obtain⟨p,es,ep,rfl,h1,h2,h3,h4,h5⟩:=t.txt le (by assumption)
   refine .inr (.inr ⟨p,es,ep,rfl,h1,h2,?_⟩);have:=h5.length;rw[aW,aW] at this;rw[this];exact res.flat le rfl
  .cases e
 .cases e
noncomputable def oU:D->ah String
 |.aR=>some "NoneType"
 |.bl _=>some "bool"
 |.int _=>some "int"
 |.str _=>some "str"
 |.lst _=>some "list"
 |.tup _=>some "tuple"
 |_=>none
def J_{n:String}(le:ay k.F H)(t:Top K k H x d)(e:oU d=some n):zq K H x n:=by
 cases d with
 |lst _=>cases e;obtain⟨p,ws,rfl,q,r⟩:=t.lst le;exact .inl ⟨rfl,_,q⟩
 |tup _=>cases e;obtain⟨p,ws,rfl,q,r⟩:=t.tup le;exact .inr ⟨rfl,_,q⟩
 |_=>cases e <;> cases t.flat rfl <;> rfl
def AX(K:aH):List V->Hp->VK->Prop:=λxs H Q=>(∃x k T,xs=[x,.ty T]/\zq K H x k/\(T="int"\/T="str"\/T="bool"\/T="list"\/T="tuple")/\Q (.bl (mT k T)) H)\/tY K xs H Q
def P1(hK:X.K=K):bD X (.builtin "isinstance") (AX K):=(Pu K hK).or (PU K hK)
noncomputable def vB:List D->Bool
 |[.ty a,.ty b]=>decide (a="tuple"/\b="list")
 |_=>false
def S8{ds:List D}(h:vB ds=true):ds=[.ty "tuple",.ty "list"]:=by
 unfold vB at h;split at h
 .obtain⟨rfl,rfl⟩:=pI h;rfl
 .cases h
def bM(a t:D):ah Rv:=match t with
 |.ty T=>if T="int"\/T="str"\/T="bool"\/T="list"\/T="tuple" then(oU a).map λk=>rd (.bl (mT k T)) else none
 |.tup ds=>if vB ds=true then(oU a).map λk=>rd (.bl (H9 k)) else none
 |_=>none
def Wa:bP K (AX K) (o2 bM):=vN λk H x z a b y Q le t1 t2 e res=>by
 unfold bM at e;split at e
 .split at e
  .obtain⟨n,h,rfl⟩:=cS.mp e;cases t2.flat rfl;exact .inl ⟨x,n,_,rfl,J_ le t1 h,by assumption,res.flat le rfl⟩
  .cases e
 .split at e
  .rename_i ht
   cases S8 ht;refine kY λkz=>?_
   obtain⟨n,h,rfl⟩:=cS.mp e;obtain⟨p,ws,rfl,q,r⟩:=t2.tup le;obtain⟨w1,us,rfl,r1,r2⟩:=r.cx;obtain⟨w2,us,rfl,r3,r4⟩:=r2.cx;cases r4.eS;cases r1.aL rfl;cases r3.aL rfl;refine kz ?_;exact .inr ⟨x,n,p,rfl,J_ le t1 h,q,res.flat le rfl⟩
  .cases e
 .cases e
def iE:D->ah Rv
 |.int i=>some (rd (.int i))
 |.bl b=>some (rd (.int (if b then 1 else 0)))
 |_=>none
def S9:bP K (λxs H Q=>(∃i,xs=[.int i]/\Q (.int i) H)\/∃k,xs=[.bl k]/\Q (.int (if k then 1 else 0)) H) (o1 iE):=vM λk H x a y Q le t e res=>by
 unfold iE at e;split at e
 .cases e;cases t.flat rfl;exact .inl ⟨_,rfl,res.flat le rfl⟩
 .cases e;cases t.flat rfl;exact .inr ⟨_,rfl,res.flat le rfl⟩
 .cases e
def tZ(K:aH):List V->Hp->VK->Prop:=λxs H Q=>(∃p ys,xs=[.ref p]/\(cI K H p ys\/fy K H p ys)/\∀l,H l=none->Q (.ref l) (upd H l (.lst ys)))\/N5 K xs H Q
def O1(hc:X.calm=true)(hK:X.K=K):bD X (.type "list") (tZ K):=(Oy K hK).or (hK ▸ OZ hc)
noncomputable def fS:D->ah Rv
 |.lst ds=>some (.o (.lst ds))
 |.tup ds=>some (.o (.lst ds))
 |.aP kvs=>some (.o (.lst (kvs.map (·.1.d))))
 |_=>none
def S_:bP K (tZ K) (o1 fS):=vM λk H x a y Q le t e res=>by
 unfold fS at e;split at e
 .cases e;obtain⟨p,ws,rfl,q,r⟩:=t.lst le;exact .inl ⟨p,ws,rfl,.inl q,λl hl=>res.lst le r hl⟩
 .cases e;obtain⟨p,ws,rfl,q,r⟩:=t.tup le;exact .inl ⟨p,ws,rfl,.inr q,λl hl=>res.lst le r hl⟩
 .cases e;obtain⟨p,es,ep,rfl,h1,h2,h3,h4⟩:=t.aP le;exact .inr ⟨p,es,ep,rfl,h1,λl hl=>res.lst le h3 hl⟩
 .cases e
def uI(q:List Bool->Bool):D->ah Rv
 |.lst ds=>(dO ds).map λbs=>rd (.bl (q bs))
 |_=>none
def J'(q:List Bool->Bool):bP K (λxs H Q=>∃(a:aj) (bs:List Bool),xs=[.ref a]/\cI K H a (bs.map V.bl)/\Q (.bl (q bs)) H) (o1 (uI q)):=vM λk H x a y Q le t e res=>by
 unfold uI at e;split at e
 .obtain⟨bs,h,rfl⟩:=cS.mp e;obtain⟨p,ws,rfl,s,r⟩:=t.lst le;rw[Jk h] at r;cases Jl r;exact⟨p,bs,rfl,s,res.flat le rfl⟩
 .cases e
def iw(f:List Int->Int):D->ah Rv
 |.lst ds=>(iF ds).bind λis=>if is=[] then none else some (rd (.int (f is)))
 |_=>none
def K8(f:List Int->Int):bP K (λxs H Q=>∃(a:aj) (is:List Int),xs=[.ref a]/\cI K H a (is.map V.int)/\is≠[]/\Q (.int (f is)) H) (o1 (iw f)):=vM λk H x a y Q le t e res=>by
 unfold iw at e;split at e
 .obtain⟨is,h,e⟩:=cC.mp e;split at e
  .cases e
  .cases e;obtain⟨p,ws,rfl,s,r⟩:=t.lst le;rw[JI h] at r;cases I_ r;exact⟨p,is,rfl,s,by assumption,res.flat le rfl⟩
 .cases e
noncomputable def iD:D->ah Int
 |.int i=>some i
 |_=>none
def vD:List D->ah (Int×Int)
 |[a,b,_]=>(iD a).bind λi=>(iD b).map λj=>(i,j)
 |_=>none
noncomputable def cn{α:Type}:List (TK×α)->TK->α->List (TK×α)
 |[],k,v=>[(k,v)]
 |(j,w)::r,k,v=>if j=k then(j,v)::r else(j,w)::cn r k v
theorem b2i{j:TK}{y v:V}{e:D}(ry:af K k [y] [j.d])(rv:af K k [v] [e]):∀{ws:List (TK×V×V)} {kvs:List (TK×D)},ws.map (·.1)=kvs.map (·.1)->af K k (ws.map (·.2.1)) (kvs.map (·.1.d))->af K k (ws.map (·.2.2)) (kvs.map (·.2))->
  (cY ws j y v).map (·.1)=(cn kvs j e).map (·.1)/\af K k ((cY ws j y v).map (·.2.1)) ((cn kvs j e).map (·.1.d))/\af K k ((cY ws j y v).map (·.2.2)) ((cn kvs j e).map (·.2))
 |[],[],_,_,_=>⟨rfl,ry,rv⟩
 |w::ws,p::kvs,h,r1,r2=>by
  obtain⟨h1,h2⟩:=List.cons.inj (show w.1::ws.map (·.1)=p.1::kvs.map (·.1) from h)
  obtain⟨a1,a2⟩:=af.inv r1;obtain⟨b1,b2⟩:=af.inv r2;unfold cY cn;by_cases q:p.1=j
  .rw[aU (h1.trans q),aU q];exact⟨congr (congrArg List.cons h1) h2,.cons a1 a2,.cons rv b2⟩
  .rw[aO (λz=>q (h1.symm.trans z)),aO q]
   obtain⟨c1,c2,c3⟩:=b2i ry rv h2 a2 b2;exact⟨congr (congrArg List.cons h1) c1,.cons a1 c2,.cons b1 c3⟩
 |[],_::_,h,_,_=>nomatch h
 |_::_,[],h,_,_=>nomatch h
def sr(K:aH)(k:Kn)(q:TK×V×V)(p:TK×D):Prop:=q.1=p.1/\af K k [q.2.1] [q.1.d]/\af K k [q.2.2] [p.2]
def Ta{qs:List (TK×V×V)}{ps:List (TK×D)}(p:Paired (sr K k) qs ps):∀{ws:List (TK×V×V)} {kvs:List (TK×D)},ws.map (·.1)=kvs.map (·.1)->af K k (ws.map (·.2.1)) (kvs.map (·.1.d))->af K k (ws.map (·.2.2)) (kvs.map (·.2))->
  (kP ws qs).map (·.1)=(ps.foldl (λkvs p=>cn kvs p.1 p.2) kvs).map (·.1)/\af K k ((kP ws qs).map (·.2.1)) ((ps.foldl (λkvs p=>cn kvs p.1 p.2) kvs).map (·.1.d))/\af K k ((kP ws qs).map (·.2.2)) ((ps.foldl (λkvs p=>cn kvs p.1 p.2) kvs).map (·.2)):=by
 induction p with
 |nil=>exact λa b c=>⟨a,b,c⟩
 |@cons q p qs ps h _ ih=>
  intro ws kvs a b c;obtain⟨h1,h2,h3⟩:=h;obtain⟨j1,j2,j3⟩:=b2i h2 h3 a b c;rw[h1] at j1 j2 j3;have:=ih (ws:=cY ws p.1 q.2.1 q.2.2) (kvs:=cn kvs p.1 p.2) j1 j2 j3;rw[show kP ws (q::qs)=kP (cY ws p.1 q.2.1 q.2.2) qs by unfold kP;rw[Bz,h1],Bz]
  exact this
noncomputable def NO:D->ah String
 |.str _=>some "str"
 |.lst _=>some "list"
 |.aP _=>some "dict"
 |_=>none
def Wb{T:String}(le:ay k.F H)(t:Top K k H x d)(e:NO d=some T):Bl K T x H:=by
 cases d with
 |str _=>cases e;cases t.flat rfl;rfl
 |lst _=>cases e;obtain⟨p,ws,rfl,q,r⟩:=t.lst le;exact .inl ⟨rfl,_,q⟩
 |aP _=>cases e;obtain⟨p,es,ep,rfl,h1,h2⟩:=t.aP le;exact .inr (.inr (.inl ⟨rfl,.inr (.inr ⟨es,ep,h1⟩)⟩))
 |_=>cases e
def Fb(T:String)(o:List D->ah Rv)(f:GE)(g:GA):GE:=λU S=>bd (f U S) λr S1=>if(kU S1 (jA r)).bind NO=some T then bd (g U S1) λvs S2=>(rL S2 (jA r::vs)).bind λds=>(o ds).map λy=>.ok y S2 else none
def QU{W:XW}{q:Nat}{T:String}{o:List D->ah Rv}{r:V->List V->Hp->VK->Prop}{f:GE}{g:GA}{Z:St}{H:Hp}{Q:VK}(bL:bP K (pb r) o)(t:tE K W q (Fb T o f g) Z H Q):HN K T r (tE K W q f) (fD K W q g) Z H Q:=by
 obtain⟨k,U,S,res,ok,gk,e,w⟩:=t;refine tX.bd ok gk e w λr S1 x k1 H1 bq g1 r1 e1 w1 _=>?_
 obtain⟨k2,u2,cR,r2⟩:=nX bq r1;split at e1
 .rename_i hT
  obtain⟨d,h1,h2⟩:=cC.mp hT;refine⟨Wb cR.le (CL cR r2 h1) h2,tX.bd cR (g1.up (u2 q)) e1 (w1.up (u2 q)) λvs S3 xs k3 H3 iI g3 r3 e3 w3 u3=>?_⟩
  obtain⟨ds,e4,e5⟩:=cC.mp e3;obtain⟨y,e6,rfl⟩:=cS.mp e5;obtain⟨x',xs',z,rr⟩:=bL k3 H3 (x::xs) ds y Q iI.le (KL iI (.cons (r2.up u3) r3) e4) e6 (.fin iI w3)
  lia
 .cases e1
def eY:D->D->ah Rv
 |.lst ds,.str z=>(iN ds).bind λys=>(findS ys z).map λj=>rd (.int (j:Nat))
 |_,_=>none
def QV:bP K (pb (Mi K)) (o2 eY):=vN λk H x z a b y Q le t1 t2 e res=>by
 unfold eY at e;split at e
 .obtain⟨ys,e1,e2⟩:=cC.mp e;obtain⟨j,e3,rfl⟩:=cS.mp e2;obtain⟨p,ws,rfl,s,r⟩:=t1.lst le;rw[JL e1] at r;cases Ja r;cases t2.flat rfl;obtain⟨s1,s2⟩:=Jm e3;exact⟨_,_,rfl,p,ys,_,j,rfl,rfl,s,s1,s2,res.flat le rfl⟩
 .cases e
end
variable{k:Kn}{v:V}
noncomputable def Cell.box:Cell->ah Bx
 |.o b=>some b
 |_=>none
def mM(S:ba):Val->ah Bx
 |.c n=>(S.s[n]?).bind Cell.box
 |.d (.ref n)=>(S.r[n]?).bind Cell.box
 |_=>none
noncomputable def setB(S:ba)(b:Bx):Val->ba
 |.c n=>⟨S.s.set n (.o b),S.r⟩
 |.d (.ref n)=>⟨S.s,S.r.set n (.o b)⟩
 |_=>S
def Val.mb(v:Val)(n:Nat):Bool:=match v with
 |.d (.ref m)=>m != n
 |_=>true
noncomputable def Bx.mb(q:Nat)(v:Val)(b:Bx):Bool:=match q with
 |0=>true
 |1=>match b with
  |.lst _=>true
  |_=>false
 |2=>false
 |n+3=>v.mb n
def Bx.ty:Bx->String
 |.lst _=>"list"
 |.aP _=>"dict"
section
variable{K:aH}{k:Kn}{H:Hp}{S:ba}{x:V}{v:Val}{b:Bx}{a:aj}
def Mj{c:Cell}(h:c.box=some b):c=.o b:=by
 cases c <;> cases h;rfl
def Mk{q:Nat}(h:cM K k H a b)(m:b.mb q v=true)(h3:∀n,v.mb n=true->k.A[n]?≠some a):∀o,H a=some o->¬lH k.A a o q:=by
 intro o e z
 match q,z with
 |1,⟨es,ep,z⟩=>
  subst z;cases b with
  |lst xs=>obtain⟨ws,e1,_⟩:=h;rw[e] at e1;cases e1
  |aP kvs=>cases m
 |2,_=>cases m
 |n+3,z=>exact h3 n m z
def zb(ok:bO K k H S)(r:de K k x v)(e:mM S v=some b):∃a,x=.ref a/\cM K k H a b/\∀q b' H',jn H H' a->b.mb q v=true->cM K k H' a b'->bO K k H' (setB S b' v)/\Up q k H k H':=by
 cases v with
 |c n=>
  obtain⟨a,rfl,h1⟩:=r;obtain⟨c,h2,h3⟩:=cC.mp e;cases Mj h3;obtain⟨h4,h5⟩:=ok.s.at' n a _ h1 h2;exact⟨a,rfl,h5,λq b' H' o m h=>ok.HG h1 o h4 (Mk h5 m λ_ _ z=>(k8.mp ok.nd).2.2 a (kg z) a (kg h1) rfl) (c:=.o b') ⟨h4,h⟩⟩
 |d y=>
  cases y with
  |ref n=>
   obtain⟨a,rfl,h1⟩:=af.isRef r;obtain⟨c,h2,h3⟩:=cC.mp e;cases Mj h3;obtain⟨h4,h5⟩:=ok.r.at' n a _ h1 h2;exact⟨a,rfl,h5,λq b' H' o m h=>ok.HF h1 o h4 (Mk h5 m λm' y z=>(bne_iff_ne.mp y) (Es (k8.mp ok.nd).1 h1 z)) (c:=.o b') ⟨h4,h⟩⟩
  |_=>cases e
def XI{T:String}(h:cM K k H a b)(e:b.ty=T):Bl K T (.ref a) H:=by
 cases b with
 |lst xs=>obtain⟨ws,h1,_⟩:=h;exact .inl ⟨e.symm,ws,.inl (.inl h1)⟩
 |aP kvs=>obtain⟨es,ep,h1,_⟩:=h;exact .inr (.inr (.inl ⟨e.symm,.inr (.inr ⟨es,ep,h1⟩)⟩))
end
def jm(K:aH)(r:V->List V->Hp->VK->Prop)(m:Bx->List D->ah (Bx×D)):Prop:=∀k H a b ds b' d xs Q,ay k.F H->cM K k H a b->af K k xs ds->m b ds=some (b',d)->(∀x o',cM K k (upd H a o') a b'->af K k [x] [d]->Q x (upd H a o'))->r (.ref a) xs H Q
def cv(q:Nat)(T:String)(m:Bx->List D->ah (Bx×D))(f:GE)(g:GA):GE:=λU S=>bd (f U S) λr S1=>if(mM S1 (jA r)).map Bx.ty=some T then bd (g U S1) λvs S2=>(mL vs S2).bind λp=>(mM p.2 (jA r)).bind λb=>if b.mb q (jA r)=true then(m b p.1).map λz=>.ok (rd z.2) (setB p.2 z.1 (jA r)) else none else none
section
variable{X:Cx}{K:aH}{W:XW}{q:Nat}{T:String}{m:Bx->List D->ah (Bx×D)}{r:V->List V->Hp->VK->Prop}{f:GE}{g:GA}{Z:St}{H:Hp}{Q:VK}
def Ml(hm:jm K r m)(t:tE K W q (cv q T m f g) Z H Q):HN K T r (tE K W q f) (fD K W q g) Z H Q:=by
 obtain⟨k,U,S,res,ok,gk,e,w⟩:=t;refine tX.bd ok gk e w λr S1 x k1 H1 bq g1 r1 e1 w1 _=>?_
 obtain⟨k2,u2,cR,r2⟩:=nX bq r1;split at e1
 .rename_i hT
  obtain⟨b0,h1,h2⟩:=cS.mp hT;obtain⟨a0,ea,h3,_⟩:=zb cR r2 h1;refine⟨ea ▸ XI h3 h2,tX.bd cR (g1.up (u2 q)) e1 (w1.up (u2 q)) λvs S3 xs k3 H3 iI g3 r3 e3 w3 u3=>?_⟩
  obtain⟨⟨ds,S4⟩,e4,e5⟩:=cC.mp e3;obtain⟨k4,u4,qg,r4⟩:=Cw iI r3 e4;obtain⟨b,e6,e7⟩:=cC.mp e5;obtain⟨a,rfl,h4,h5⟩:=zb qg ((r2.up u3).up (u4 q)) e6;split at e7
  .rename_i hb
   obtain⟨⟨b',d⟩,e8,rfl⟩:=cS.mp e7;refine hm k4 H3 a b ds b' d xs Q qg.le h4 r4 e8 λy o' h6 h7=>?_
   obtain⟨lI,u5⟩:=h5 q b' _ Ca hb h6;exact(w3.up (u4 q)) y k4 _ u5 lI h7
  .cases e7
 .cases e1
def Tb(hm:jm K r m)(t:tE K W q (cv q T m f gN) Z H Q):Ba K T r (tE K W q f) Z H Q:=lY (Ml hm t) λx H1 h=>⟨h.1,xw h.2⟩
noncomputable def jL:Bx->List D->ah (Bx×D)
 |.lst xs,[d]=>if xs.length<1000000 then some (.lst (xs++[d]),.aR) else none
 |_,_=>none
def wd:af K k [.aR] [.aR]:=.flat rfl .nil
def K9{xs:List V}{d:D}(h:af K k xs [d]):∃x,xs=[x]/\af K k [x] [d]:=by
 obtain⟨x,us,rfl,h1,h2⟩:=h.cx;cases h2.eS;exact⟨x,rfl,h1⟩
def P4:jm K KD jL:=by
 intro k H a b ds b' d xs Q le hb r e h;unfold jL at e;split at e
 .split at e
  .rename_i hl
   cases e;obtain⟨ws,h1,h2⟩:=hb;obtain⟨y,rfl,r1⟩:=K9 r;exact⟨a,ws,y,rfl,rfl,h1,eO (by rw[h2.length];exact hl) (by decide),h .aR _ ⟨_,aN,h2.append r1⟩ wd⟩
  .cases e
 .cases e
noncomputable def qC:Bx->List D->ah (Bx×D)
 |.lst xs,[.int i,d]=>if 0<=i/\i<2^62/\xs.length<1000000 then some (.lst (xs.take i.toNat++d::xs.drop i.toNat),.aR) else none
 |_,_=>none
def P5:jm K KH qC:=by
 intro k H a b ds b' d xs Q le hb r e h;unfold qC at e;split at e
 .split at e
  .rename_i hl
   cases e;obtain⟨ws,h1,h2⟩:=hb;obtain⟨y,us,rfl,r1,r2⟩:=r.cx;obtain⟨z,rfl,r3⟩:=K9 r2;cases r1.aL rfl;refine⟨a,ws,_,z,rfl,rfl,h1,hl.1,hl.2.1,eO (by rw[h2.length];exact hl.2.2) (by decide),h .aR _ ⟨_,aN,?_⟩ wd⟩
   have:∀(n:Nat) (l:List V),mR l n z=l.take n++z::l.drop n:=λn l=>by unfold mR;rfl
   rw[this];exact(h2.take _).append (.cons r3 (h2.drop _))
  .cases e
 .cases e
noncomputable def xA:Bx->List D->ah (Bx×D)
 |.lst _,[]=>some (.lst [],.aR)
 |_,_=>none
def QW:jm K L9 xA:=by
 intro k H a b ds b' d xs Q le hb r e h;unfold xA at e;split at e
 .cases e;obtain⟨ws,h1,h2⟩:=hb;cases r.eS;exact⟨a,ws,rfl,rfl,h1,h .aR _ ⟨[],aN,.nil⟩ wd⟩
 .cases e
end
def mz(K:aH):mH:=λo i v H Q=>t5 o i v H Q\/∃a H4,o=.ref a/\uk K H a i v H4/\Q H4
def MZ{X:Cx}(hu:X.A.units+41<cLine):qu X (mz X.K):=by
 intro ae s Z H o i v ov iv u Q I ro ri rv h;rcases h with h|⟨a,H4,rfl,g,q⟩
 .exact Qx ae s Z H o i v ov iv u Q I ro ri rv h
 .cases ro;exact PN (by lia) I g ri rv λs4 I4=>⟨H4,I4,q⟩
def rM(b:Bx)(i v:D):ah Bx:=match b with
 |.lst xs=>(intD i).bind λk=>(qb xs.length k).map λj=>.lst (xs.set j v)
 |.aP kvs=>(f' i).bind λj=>if kvs.length<1000000 then some (.aP (cn kvs j v)) else none
section
variable{X:Cx}{K:aH}{W:XW}{q:Nat}{fv fo fi:GE}{o e i:Expr}{pos pos':Pos}{Z:St}{H:Hp}
def Tc{ws:List V}{ds:List D}{d:D}(h:af K k ws ds)(r:af K k [v] [d])(j:Nat):af K k (ws.set j v) (ds.set j d):=by
 induction ds generalizing ws j with
 |nil=>rw[h.eS];exact .nil
 |cons x ds ih=>
  obtain⟨w,us,rfl,h1,h2⟩:=h.cx;cases j with
  |zero=>exact .cons r h2
  |succ j=>exact .cons h1 (ih h2 j)
def Mm{a:aj}{b b':Bx}{di dv:D}{y:V}{Q:Hp->Prop}(le:ay k.F H)(hb:cM K k H a b)(ri:af K k [y] [di])(rv:af K k [v] [dv])(e:rM b di dv=some b')(h:∀o',cM K k (upd H a o') a b'->Q (upd H a o')):mz K (.ref a) y v H Q:=by
 unfold rM at e;split at e
 .obtain⟨j,h1,e⟩:=cC.mp e;obtain⟨n,h2,rfl⟩:=cS.mp e;cases CA h1;cases ri.aL rfl;obtain⟨ws,h3,h4⟩:=hb;exact .inl ⟨a,ws,j,n,rfl,rfl,h3,by rw[h4.length];exact h2,h _ ⟨_,aN,Tc h4 rv n⟩⟩
 .obtain⟨j,h1,e⟩:=cC.mp e;split at e
  .rename_i hl
   cases e;obtain⟨es,ep,h2,h3,h4,h5⟩:=hb;obtain⟨k1,k2⟩:=xq h1;have ry:af K k [y] [j.d]:=by rw[k1];exact ri
   obtain⟨p1,p2,p3⟩:=b2i ry rv h3 h4 h5;have Ai:es.length<sizeLine:=by
    have:=h5.length;rw[aW,aW] at this;rw[this];exact eO hl (by decide)
   exact .inr ⟨a,_,rfl,⟨es,ep,j,h2,K2 h3 h4 le,q_ (k:=k.all H) j (ry.all le),k2,Ai,rfl⟩,h _ ⟨_,_,aN,p1,p2,p3⟩⟩
  .cases e
def cV(q:Nat)(fv fo fi:GE):GS:=λU S=>i7 U (gK fv (gK fo (gK fi gN)) U S) λvs S1=>match vs with
 |[v,o,i]=>(mL [v,i] S1).bind λp=>(mM p.2 o).bind λb=>if b.mb q o=true then(match p.1 with
  |[dv,di]=>(rM b di dv).map λb'=>.nx U (setB p.2 b' o)
  |_=>none) else none
 |_=>none
def Wc{D:Ends}(t:tS K W q (cV q fv fo fi) D Z H):tE K W q fv Z H λv H1=>tE K W q fo Z H1 λo H2=>tE K W q fi Z H2 λi H3=>mz K o i v H3 λH4=>D.nx Z H4:=by
 have t1:fD K W q (gK fv (gK fo (gK fi gN))) Z H λxs H3=>∃v o i,xs=[v,o,i]/\mz K o i v H3 λH4=>D.nx Z H4:=by
  obtain⟨k,U,S,fr,ok,gk,e,w⟩:=t;refine tS.bd ok gk e w λvs S1 xs k1 H1 bq g1 r1 e1 w1=>?_
  split at e1
  .obtain⟨xv,_,rfl,rv,t⟩:=Paired.wA r1;obtain⟨xo,_,rfl,ro,t⟩:=Paired.wA t;obtain⟨xi,_,rfl,ri,t⟩:=Paired.wA t;cases t;refine⟨xv,xo,xi,rfl,?_⟩;obtain⟨⟨ds,S2⟩,e2,e3⟩:=cC.mp e1;obtain⟨k2,u2,cR,r2⟩:=Cw bq (.cons rv (.cons ri .nil)) e2;obtain⟨b,e4,e5⟩:=cC.mp e3;obtain⟨a,rfl,h4,h5⟩:=zb cR (ro.up (u2 q)) e4;split at e5
   .rename_i hb
    obtain _|⟨dv,_|⟨di,_|⟨_,_⟩⟩⟩:=ds
    .cases e5
    .cases e5
    .obtain⟨b',e6,rfl⟩:=cS.mp e5;obtain⟨s1,s2⟩:=r2.inv;refine Mm cR.le h4 s2 s1 e6 λo' h6=>?_
     obtain⟨lI,u5⟩:=h5 q b' _ Ca hb h6;exact bK.now (bK.up (bK.up w1 (u2 q)) u5) lI ((g1.up (u2 q)).up u5)
    .cases e5
   .cases e5
  .cases e1
 refine lY (qA t1) λv H1 h=>lY (qA h) λo H2 h=>lY (qA h) λi H3 h=>?_
 obtain⟨v',o',i',e,h⟩:=xw h;cases e;exact h
def We(he:PE X e (tE K W q fv))(ho:PE X o (tE K W q fo))(hi:PE X i (tE K W q fi))(hu:X.A.units+41<cLine)(hK:X.K=K)
  (ha:∀v,assign (.Subscript o i pos') X.env v=(do
   let ov <-holding [v] (eval o X.env)
   let iv <-holding [v,ov] (eval i X.env)
   standAt pos'
   holding [v,ov,iv] (setItem ov iv v)
   release [v,ov,iv] []))
  (hs:swapsWithSole [.Subscript o i pos'] e pos.line X.env=pure false) (hw:swappedStores [.Subscript o i pos'] e X.env=pure none)
  (h1:(assignEach [.Subscript o i pos'] X.env).map (·.2)=[assign (.Subscript o i pos') X.env]):PS X (.Assign [.Subscript o i pos'] e pos) (tS K W q (cV q fv fo fi)):=by
 subst hK;exact(L5 he (Vj ho hi (MZ hu) ha) hs hw h1).mono λD Z H t=>Wc t
end
end L2
namespace L2
open PySem PySem.Spec PySem.W PyProof.Rows
section
variable{X:Cx}{K:eU}{W:XW}{q:Nat}{pos:Pos}{ae:List (aj×Obj)}{Z:St}
def o5:PE X (.Dict [] [] pos) V_:=λae s Z H Q I h=>
 wpAny_Dict_empty ⟨.ref s.heap.objs.size,_,I.laid (a:=s.heap.objs.size) (o:=.dG [] 0) (t':=s.toks) (λ_ _ q=>dU _ q) (bC _) (J9 s.heap I.big),rfl,h _ (I.bL.fresh (bC _))⟩
noncomputable def CQ:GE:=λ_ S=>some (.ok (.o (.aP [])) S)
def n5:PE X (.Dict [] [] pos) (tE K W q CQ):=o5.mono λZ H Q t p hp=>by
 obtain⟨k,U,S,res,ok,gk,e,w⟩:=t;cases e;exact iS.aP (.fin ok w) ok.le rfl .nil .nil hp
def lV(K:eU)(F:Hp)(e:TK×V×V):Prop:=aQ K F [e.2.1] [e.1.d]/\e.1.ok 8=true
def Mn(K:eU)(rS:List (TE×TE)):TE:=λZ H Q=>∀p,H p=none->CJ rS Z (upd H p (.dG [] 0)) λps H2=>(∃e0,H2 p=some (.dG [] e0))/\∃(F:Hp) (qs:List (TK×V×V)),F p=none/\ay F H2/\ps=qs.map (·.2)/\(∀e∈qs,lV K F e)/\qs.length<=15/\∀ep,Q (.ref p) (upd H2 p (.dG (kP [] qs) ep))
def QX{F:Hp}{qs:List (TK×V×V)}(h:∀e∈qs,lV K F e):∀{es:List (TK×V×V)},aQ K F (es.map (·.2.1)) (es.map (·.1.d))->aQ K F ((kP es qs).map (·.2.1)) ((kP es qs).map (·.1.d)):=λ{es} r=>O0 K (λp m=>(h p m).1) r
theorem JM{A:cy}{E:ai->au->Prop}{F H2:Hp}{p:aj}(hF:F p=none)(le:ay F H2)(hu:A.units+8<cLine){Q:Unit->au->Prop}:∀{qs:List (TK×V×V)} {ws:List (ai×ai)} {es:List (TK×V×V)} {ep:Nat} {s:au},VV (qs.map (·.2)) ws->(∀e∈qs,lV X.K F e)->aQ X.K F (es.map (·.2.1)) (es.map (·.1.d))->es.length+qs.length<=1000->Inv X ae Z (upd H2 p (.dG es ep)) s->(∀ep s,Inv X ae Z (upd H2 p (.dG (kP es qs) ep)) s->Q () s)->
  wpAny (mX X) A (forIn ws () λ(x:ai×ai) _=>do dictSet p x.1 x.2;pure (ForInStep.yield ())) Q E s
 |[],_,es,ep,s,v,_,_,_,I,h=>by
  rw[Bv] at v;cases v;rw[List.forIn_nil];exact a_ (h ep s I)
 |e::qs,_,es,ep,s,v,hk,r,hl,I,h=>by
  rw[c_] at v;cases v with
  |cons rv v=>
   rw[List.forIn_cons];have sm:ay F (upd H2 p (.dG es ep)):=λb o z=>by rw[dj (λy=>by rw[y,hF] at z;cases z)];exact le b o z
   have Gy:=hk e (.head _);rw[dg] at hl;refine aE (aE (JH (by lia) I ⟨es,ep,e.1,aN,r.Oc sm,Gy.1.Oc sm,Gy.2,by rw[sizeLine_eq];lia,rfl⟩ rv.1 rv.2 λs' I'=>a_ ?_))
   rw[RT] at I';have Ds:=D8 e.1 e.2.1 e.2.2 es;have e3:(kP es [e]).length=(cY es e.1 e.2.1 e.2.2).length:=rfl;exact JM (es:=kP es [e]) hF le hu v (λe m=>hk e (.tail _ m)) (QX (qs:=[e]) (λx m=>by cases dW.mp m;exact Gy) r) (by lia) I' h
def QY{keys:List (ah Expr)}{values:List Expr}{rS:List (TE×TE)}(h:sk X pos keys values rS)(hu:X.A.units+41<cLine)(gZ:keys.all (·.isSome)=true)(hl:keys.length=values.length)(h0:keys≠[])(vf:keys.length<=15):PE X (.Dict keys values pos) (Mn X.K rS):=by
 intro ae s Z H Q I q;have hn:=I.bL.fresh (bC s.heap.objs.size);have I1:=I.laid (a:=s.heap.objs.size) (o:=.dG [] 0) (h':=s.heap.push { cls:=.type "dict",data:=.dict #[]}) (t':=s.toks) (λ_ _ q=>dU _ q) (bC _) (J9 s.heap I.big)
 have lp:∀(ks:List (ah Expr)) (vs:List Expr),ks.all (·.isSome)=true->ks.length=vs.length->(pairTrees ks vs X.env pos).length=ks.length:=by
  intro ks
  induction ks with
  |nil=>intro vs _ e;cases vs with
   |nil=>rfl
   |cons _ _=>cases e
  |cons k ks ih=>
   intro vs a e;rw[k9,m6] at a;cases k with
   |none=>cases a.1
   |some k=>cases vs with
    |nil=>cases e
    |cons v vs=>exact congrArg (·+1) (ih vs a.2 (Nat.succ.inj e))
 have G8:=lp keys values gZ hl;rw[arm_eval_Dict,zip_pairTrees keys values X.env pos gZ hl,dictDisplay_pairs _ (λz=>h0 (List.eq_nil_of_length_eq_zero (by rw[<-G8,z];rfl))) (by rw[G8];lia)]
 refine aE (wpAny_standAt (aE ?_));unfold subDict;refine aE (wpAny_alloc (aE (jH ?_)));rw[aU (by rw[G8];exact vf)]
 refine aE (bz (h ae _ Z _ _ I1 (q _ hn)) λws s2 hh=>?_)
 refine kY λkz=>?_
 obtain⟨ps,H2,I2,rel,⟨e0,e⟩,F,qs,hF,le,ep,hk,hq,q2⟩:=hh;subst ep;refine kz ?_;refine jH (aE ?_);have eu:upd H2 s.heap.objs.size (.dG [] e0)=H2:=by
  grind [aN,dj]
 refine JM hF le (by show X.A.units+8<cLine;lia) rel hk .nil (by rw[nz];lia) (eu ▸ I2) λep s' I'=>?_
 exact a_ (a_ (a_ ⟨.ref _,_,I',rfl,q2 ep⟩))
def Fc:List D->ah (List (TK×D))
 |[]=>some []
 |a::b::ds=>(f' a).bind λj=>(Fc ds).map λps=>(j,b)::ps
 |_=>none
def ju(g:GA):GE:=λU S=>bd (g U ⟨S.s++[.o (.aP [])],S.r⟩) λvs S1=>(mL vs S1).bind λz=>if z.2.s.length=S.s.length+1 then(match z.2.s[S.s.length]? with
 |some (.o (.aP []))=>(Fc z.1).bind λps=>if ps.length<=15 then some (.ok (.o (.aP (ps.foldl (λkvs p=>cn kvs p.1 p.2) []))) ⟨z.2.s.take S.s.length,z.2.r⟩) else none
 |_=>none) else none
def sL:List (GE×GE)->GA
 |[]=>gN
 |p::r=>gK p.1 (gK p.2 (sL r))
noncomputable def oj:List (V×V)->List V
 |[]=>[]
 |p::r=>p.1::p.2::oj r
noncomputable abbrev yi(K:eU)(W:XW)(q:Nat)(gs:List (GE×GE)):List (TE×TE):=gs.map λp=>(tE K W q p.1,tE K W q p.2)
def QZ{gs:List (GE×GE)}:∀{H:Hp} {Q:List (V×V)->Hp->Prop},fD K W q (sL gs) Z H (λxs H2=>∀ps,oj ps=xs->Q ps H2)->CJ (yi K W q gs) Z H Q:=by
 induction gs with
 |nil=>intro H Q t;exact xw t [] rfl
 |cons p gs ih=>intro H Q t;exact lY (qA t) λx H1 t=>lY (qA t) λy H2 t=>ih (lY t λxs H3 h ps e=>h _ (by rw[<-e];rfl))
theorem K_{k:Kn}:∀{ps:List (V×V)} {ds:List D} {es:List (TK×D)},Fc ds=some es->af K k (oj ps) ds->∃qs:List (TK×V×V),ps=qs.map (·.2)/\(∀e∈qs,lV K k.F e)/\Paired (sr K k) qs es
 |[],ds,es,e,r=>by
  cases ds with
  |nil=>cases e;exact⟨[],rfl,(λ_ m=>nomatch m),.nil⟩
  |cons _ _=>have:=r.length;cases this
 |p::ps,ds,es,e,r=>by
  cases ds with
  |nil=>have:=r.length;cases this
  |cons a ds=>cases ds with
   |nil=>have:=r.length;cases this
   |cons b ds=>
    refine kY λkz=>?_
    obtain⟨j,q1,e⟩:=cC.mp e;obtain⟨ps',q2,rfl⟩:=cS.mp e;obtain⟨r1,r⟩:=af.inv r;obtain⟨r2,r⟩:=af.inv r;obtain⟨qs,h1,h2,h3⟩:=K_ q2 r;have rk:af K k [p.1] [j.d]:=by rw[(xq q1).1];exact r1
    refine kz ?_;refine⟨(j,p.1,p.2)::qs,by rw[h1];rfl,λe m=>?_,.cons ⟨rfl,rk,r2⟩ h3⟩
    rcases y06.mp m with rfl|m
    .exact⟨q_ (k:=k) j rk,(xq q1).2⟩
    .exact h2 e m
def P6{α:Type}{l:List α}{n:Nat}{p:α}(h:l.length=n+1)(e:l[n]?=some p):l=l.take n++[p]:=by
 conv=>lhs;rw[<-BA n l]
 congr 1
 obtain⟨hn,e⟩:=cK.mp e;rw[DJ hn,e,DS (by lia)]
def Td{gs:List (GE×GE)}{H:Hp}{Q:VK}(t:tE K W q (ju (sL gs)) Z H Q):Mn K (yi K W q gs) Z H Q:=by
 intro p hp;refine kY λkz=>?_
 obtain⟨k,U,S,res,ok,gk,e,w⟩:=t;have sm:ay H (upd H p (.dG [] 0)):=pQ hp;obtain⟨fx,nx⟩:=ok.fresh hp;have cR:bO K k _ S:=ok.new (ay.refl _) (λa _ o z=>sm a o z) (ok.le.trans sm) λ_ _ z=>z
 obtain⟨iI,u3⟩:=cR.pushS (b:=.aP []) fx nx ⟨[],0,aN,rfl,.nil,.nil⟩;have u4:Up q k H ⟨k.F,k.A,k.T++[p]⟩ (upd H p (.dG [] 0)):=(Up.of (ay.refl _) sm).trans (u3 q);refine kz ?_;refine QZ ?_;refine tX.bd (R':=RE K) (Q':=Q) iI (gk.up u4) e (w.up u4) λvs S1 xs k1 H1 bq g1 r1 e1 w1 u1 ps0 e0=>?_
 subst e0;refine kY λkz=>?_
 obtain⟨z,e2,e1⟩:=cC.mp e1;obtain⟨k2,u2,lI,r5⟩:=Cw bq r1 e2;refine kz ?_;split at e1
 .rename_i hl
  split at e1
  .rename_i hc
   obtain⟨ps,e3,e1⟩:=cC.mp e1;split at e1
   .rename_i vf
    cases e1;have ep:k2.T[S.s.length]?=some p:=CK (u2 q).t (CK u1.t (by rw[<-ok.s.ln];exact EM))
    refine kY λkz=>?_
    obtain⟨hF,es,e0,hH,hk,_,_⟩:=lI.s.at' _ _ _ ep hc;refine kz ?_;cases es with
    |cons _ _=>cases hk
    |nil=>
     obtain⟨qs,h1,h2,h3⟩:=K_ e3 r5;have YX:k2.T.length=S.s.length+1:=lI.s.ln.trans hl;have eT:=P6 YX ep;have np:p∉k2.A++k2.T.take S.s.length:=by
      have nd:=lI.nd;rw[eT,<-g_] at nd;exact λm=>(k8.mp nd).2.2 p m p (List.mem_singleton_self _) rfl
     refine⟨⟨e0,hH⟩,k2.F,qs,hF,lI.le,h1,h2,by rw[Paired.length h3];exact vf,λmK=>?_⟩
     obtain⟨o1,o2,o3⟩:=Ta h3 (ws:=[]) (kvs:=[]) rfl .nil .nil;have ho:jn H1 (upd H1 p (.dG (kP [] qs) mK)) p:=Ca;have Hm:=lI.take S.s.length;have Zx:bO K ⟨k2.F,k2.A,k2.T.take S.s.length⟩ (upd H1 p (.dG (kP [] qs) mK)) ⟨z.2.s.take S.s.length,z.2.r⟩:=Hm.new (ay.refl _) (λa m o y=>by rw[ho a λy=>np (y ▸ m)];exact y) (λb o y=>by rw[ho b λy'=>by rw[y',hF] at y;cases y];exact lI.le b o y) λ_ _ y=>y
     have uu:=u4.trans (u1.trans (u2 q));refine w (.ref p) ⟨k2.F,k2.A,k2.T.take S.s.length⟩ _ ⟨uu.f,uu.a,J5 uu.t (DQ ok.s.ln),λa o y1 y2=>?_⟩ Zx ⟨p,rfl,hF,np,_,mK,aN,o1,af.mono (k:=k2) ⟨ay.refl k2.F,iX k2.A⟩ o2,af.mono (k:=k2) ⟨ay.refl k2.F,iX k2.A⟩ o3⟩
     rw[ho a λy=>by rw[y,hp] at y2;cases y2]
     exact uu.h a o y1 y2
   .cases e1
  .cases e1
 .cases e1
def Te{keys:List (ah Expr)}{values:List Expr}{gs:List (GE×GE)}(hK:X.K=K)(h:sk X pos keys values (yi K W q gs))(hu:X.A.units+41<cLine)(gZ:keys.all (·.isSome)=true)(hl:keys.length=values.length)(h0:keys≠[])(vf:keys.length<=15):PE X (.Dict keys values pos) (tE K W q (ju (sL gs))):=(QY h hu gZ hl h0 vf).mono λZ H Q t=>by
 rw[hK];exact Td t
end
end L2
namespace L2
open PySem PySem.Spec PyProof.Rows
abbrev TJ:=Str->St->Hp->(Str->Hp->Prop)->Prop
abbrev GJ:=Str->Gx Str
variable{op:Operator}{h:Int->Int->Int}
def yw(K:aH)(atr:List (aj×Str)):Prop:=∀p∈atr,Oh K p.1/\Vs K p.1 p.2
section
variable{X:Cx}{K:aH}{W:XW}{q:Nat}{atr:List (aj×Str)}{g:Str}{f fv fo fe fi:GE}{e o value i:Expr}{pos pos' iO:Pos}{Z:St}{H:Hp}
def xD(q:Nat)(h:Int->Int->Int)(fo fi fe:GE):GS:=λU S=>i7 U (fo U S) λr1 S1=>i7 U (fi U S1) λr2 S2=>(match jA r2,mM S2 (jA r1) with
 |.d di,some (.aP kvs)=>(f' di).bind λj=>(match bt kvs j with
  |some (.int a)=>i7 U (fe U S2) λr3 S3=>r3.int.bind λb=>(mM S3 (jA r1)).bind λc=>if c.mb q (jA r1)=true then(match c with
   |.aP oV=>if oV.length<1000000 then some (.nx U (setB S3 (.aP (cn oV j (.int (h a b)))) (jA r1))) else none
   |_=>none) else none
  |_=>none)
 |_,_=>none)
def Q0(hu:X.A.units+41<cLine):yD X (λo i H Q=>∃a v,o=.ref a/\fX X.K H a i (some v)/\Q v H):=by
 intro ae s Z H o i ov iv Q I ro ri h;obtain⟨p,v,rfl,g,q⟩:=h;cases ro;exact JG (by lia) I g ri λw' s3 I3 ph=>⟨v,H,I3,ph,q⟩
def Tf(vo:sj X op (x9 h))(ho:PE X o (tE K W q fo))(hi:PE X i (tE K W q fi))(hv:PE X value (tE K W q fe))(hu:X.A.units+41<cLine)(hK:X.K=K)
  (ha:∀ov iv new,augStore i ov iv new=(do holding [new,ov,iv] (setItem ov iv new);release [new,ov,iv] [];pure .next)):PS X (.AugAssign (.Subscript o i iO) op value pos) (tS K W q (xD q h fo fi fe)):=by
 subst hK;refine(R0 ho hi (Q0 hu) hv vo (MZ hu) ha).mono λD Z H t=>?_
 refine kY λkz=>?_
 obtain⟨k,U,S,fr,ok,gk,e,w⟩:=t;refine kz ?_;refine tS.bd ok gk e w λr1 S1 x k1 H1 bq g1 q1 e1 w1=>?_
 obtain⟨k2,u2,cR,q2⟩:=nX bq q1;refine tS.Fh cR (g1.up (u2 q)) e1 (w1.up (u2 q)) λr2 S2 y k3 H3 iI g3 r3 e2 w3 u3=>?_
 obtain⟨k4,u4,qg,q4⟩:=nX iI r3;have q5:=(q2.up u3).up (u4 q);split at e2
 case h_2=>cases e2
 rename_i hd hg
 rw[hd] at q4;refine kY λkz=>?_
 obtain⟨j,e3,e4⟩:=cC.mp e2;obtain⟨a,rfl,hb,_⟩:=zb qg q5 hg;refine kz ?_;split at e4
 case h_2=>cases e4
 rename_i Ao
 rename Int=>iv
 have tp:Top X.K k4 H3 (.ref a) _:=.inr ⟨a,.aP _,rfl,rfl,hb⟩;refine kY λkz=>?_
 obtain⟨p,o,z,g,hh⟩:=wB qg.le tp (.inl q4) e3;cases z;refine kz ?_;rcases hh with⟨_,z⟩|⟨v,d,rfl,z,rv⟩
 .rw[Ao] at z;cases z
 rw[Ao] at z;cases z;cases rv.aL rfl;refine⟨a,_,rfl,g,tS.Fh qg (g3.up (u4 q)) e4 (w3.up (u4 q)) λr5 S5 y5 k5 H5 lI g5 q6 e5 w5 u5=>?_⟩
 refine kY λkz=>?_
 obtain⟨b,e6,e7⟩:=cC.mp e5;cases Rv.f_ e6;cases(show af X.K k5 [y5] [.int b] from q6).aL rfl;obtain⟨c,e8,e9⟩:=cC.mp e7;obtain⟨a',z,Di,Ia⟩:=zb lI (q5.up u5) e8;cases z;refine kz ?_;split at e9
 case isFalse=>cases e9
 rename_i hm
 cases c with
 |lst _=>cases e9
 |aP oV=>
  dsimp only at e9;split at e9
  case isFalse=>cases e9
  rename_i hl
  cases e9;refine⟨_,_,rfl,rfl,Mm (b:=.aP oV) (dv:=.int (h iv b)) (b':=.aP (cn oV j (.int (h iv b)))) lI.le Di ((show de X.K k4 y (.d di) from q4).up u5) (.flat rfl .nil) ?_ λo' h6=>?_⟩
  .unfold rM;dsimp only;rw[e3,qk,aU hl]
  .obtain⟨Hm,u6⟩:=Ia q _ _ Ca hm h6;exact bK.now (bK.up w5 u6) Hm (g5.up u6)
def zt(h:Int->Int->Int)(i:Nat)(fe:GE):GS:=λU S=>(match(U[i]?).join with
 |some (.d (.int a))=>i7 U (fe U S) λr S1=>r.int.bind λb=>if i<U.length then some (.nx (U.set i (some (.d (.int (h a b))))) S1) else none
 |_=>none)
def Tg{i:Nat}{x:Str}{pos':Pos}(vo:sj X op (x9 h))(hN:X.N.Nodup)(hi:X.N[i]?=some x)(hx:Loc X.env.scope x)(he:PE X e (tE K W q fe))(hf:X.fn x=true\/X.env.scope.names.lookup x=some .local):PS X (.AugAssign (.Name x pos') op e pos) (tS K W q (zt h i fe)):=(Vl hN hi hx he vo hf).mono λD Z H t=>by
 obtain⟨k,U,S,fr,ok,gk,e,w⟩:=t;unfold zt at e;split at e
 case h_2=>cases e
 rename_i a hj
 obtain⟨v,h1,h2⟩:=gk.at' i _ (Eg hj);cases(show af K k [v] [.int a] from h2).aL rfl;refine⟨_,h1,tS.bd ok gk e w λr S1 y k1 H1 bq g1 r1 e1 w1=>?_⟩
 obtain⟨b,e2,e3⟩:=cC.mp e1;cases Rv.f_ e2;cases(show af K k1 [y] [.int b] from r1).aL rfl;split at e3
 .cases e3;exact⟨_,_,rfl,rfl,bK.now w1 bq (g1.set (v:=.d (.int (h a b))) (af.flat rfl .nil) (by assumption))⟩
 .cases e3
end
end L2
namespace L2
open PySem PySem.Spec PySem.W PyProof.Rows
variable{k k':Int->Int->Bool}{op:CmpOp}{T:String}{m:Str}{o':Bx->List D->ah (Bx×D)}
def cN.le{k k':Nat}{A:PySem.Around}(h:cN k A)(e:k'<=k:=by decide):cN k' A:=h.mono e
def rF{X:Cx}:jo X W0:=λ_ _ _ _ _ _ _ _ _ _ _ z=>z.elim
noncomputable def tO:List Str->Bool
 |[]=>true
 |x::l => !l.contains x&&tO l
theorem xE:∀{l:List Str},tO l=true->l.Nodup
 |[],_=>.nil
 |x::l,h=>by
  obtain⟨h1,h2⟩:=r_.mp h;rw[Bool.not_eq_true',<-Iy,BB] at h1;exact gA.mpr ⟨h1,xE h2⟩
section
variable{X:Cx}{K:eU}{W:XW}{q:Nat}{a b c e o:Expr}{es rest:List Expr}{f g h:GE}{fs:GA}{ft fu:GT}{pos p apos cO:Pos}{x:Str}
def xv(i:Nat)(hN:X.N[i]?=some x)(hv:BL X.env.scope x)(hd:(x == ("__debug__":Str))=false)(oz:(x == ("__classdict__":Str))=false):PE X (.Name x pos) (tE K W q (om i)):=VE (U9 hN hv hd oz)
def xi{i:Int}{j}:PE X (.Constant (.int i) j pos) (tE K W q (gC (.int i))):=xP U_
def xs{i:Str}{j}:PE X (.Constant (.str i) j pos) (tE K W q (gC (.str i))):=xP Vb
def xb{i:Bool}{j}:PE X (.Constant (.bool i) j pos) (tE K W q (gC (.bl i))):=xP Xj
def xn{j}:PE X (.Constant .none j pos) (tE K W q (gC .aR)):=xP Va
def Γ{n:String}(hm:X.mg x=none)(hv:bootBuiltins x=some (.type n))(hg:Gl X x)(hn:x≠"__name__")(hd:(x == ("__debug__":Str))=false):PE X (.Name x pos) (tE K W q (gC (.ty n))):=xP (Xx hg hm hv hn hd)
def lh(K:eU)(op:Operator)(o:List D->ah Rv):Prop:=∀X:Cx,X.K=K->∃r,dh X (binaryOp op) r/\bP K (j5 r) o
def Ij:lh K .Add (o2 uL):=λX h=>⟨_,SR K h,V1⟩
def Io:lh K .Sub (o2 (eI t9 λi j=>.int (i - j))):=λX h=>⟨_,Vo,V2⟩
def Im:lh K .Mult (o2 rn):=λX h=>⟨_,SV,V4⟩
def Bp:lh K .FloorDiv (o2 (eI (λ_ j=>decide (0<j/\j<1073741824)) λi j=>.int (i / j))):=λX h=>⟨_,R4,SU⟩
def Il:lh K .Mod (o2 (eI (λ_ j=>decide (0<j)) λi j=>.int (i%j))):=λX h=>⟨_,Vp,V3⟩
def xo{op:Operator}{o:List D->ah Rv}(c:lh K op o)(ha:PE X a (tE K W q f))(hb:PE X b (tE K W q g))(hK:X.K=K):PE X (.BinOp a op b pos) (tE K W q (gO o (aV f g))):=by
 obtain⟨r,h1,h2⟩:=c X hK;exact Xy h1 h2 ha hb
def Ir(ha:PE X a (tE K W q f)):PE X (.UnaryOp .USub a pos) (tE K W q (gO (o1 mV) (aX f))):=Xz Vq V5 ha
def iZ(K:eU)(op:CmpOp)(o:List D->ah Rv):Prop:=∀X:Cx,X.K=K->X.A.units+41<cLine->∃r,dh X (compareOp op) r/\bP K (j5 r) o
def To:iZ K .Eq (o2 (p6 false)):=λX h u=>⟨_,Mg K (by lia) h,XC⟩
def Tt:iZ K .NotEq (o2 (p6 true)):=λX h u=>⟨_,V7 K (by lia) h,XD⟩
def Ts:iZ K .Lt (o2 (eI t9 λi j=>.bl (decide (i<j)))):=λX h u=>⟨_,tQ,Me⟩
def Tp:iZ K .Gt (o2 (eI t9 λi j=>.bl (decide (j<i)))):=λX h u=>⟨_,Xo,Me⟩
def Tq:iZ K .In (o2 (x8 false)):=λX h u=>⟨_,V8 K u h,MX false⟩
def Fv:iZ K .NotIn (o2 (x8 true)):=λX h u=>⟨_,PQ K u h,MX true⟩
def Tr:iZ K .Is (o2 (x_ false)):=λX h u=>⟨_,V9,MY false⟩
def Fu:iZ K .IsNot (o2 (x_ true)):=λX h u=>⟨_,S6,MY true⟩
def xc{o:List D->ah Rv}(c:iZ K op o)(ha:PE X a (tE K W q f))(hb:PE X b (tE K W q g))(hu:X.A.units+41<cLine)(hK:X.K=K)(hm:behindInMarks op b=false):PE X (.Compare a [op] [b] pos) (tE K W q (gO o (aV f g))):=by
 obtain⟨r,h1,h2⟩:=c X hK hu;exact VF h1 h2 ha hb hm
def yc{o:List D->ah Rv}(c:iZ K op o)(ha:PE X a (tE K W q f))(hb:PE X b (tE K W q g))(hu:X.A.units+41<cLine)(hK:X.K=K)(hm:behindInMarks op b=false):PT X (.Compare a [op] [b] pos) (tT K W q (gB (gO o (aV f g)))):=by
 obtain⟨r,h1,h2⟩:=c X hK hu;exact Ni (R5 h1 ha hb hm) λ_ _ _ t=>zJ (sR h2 t)
def CS(c c':Int->Int->Bool)(f g h:GE):GE:=λU S=>bd (f U S) λr1 S1=>bd (g U S1) λr2 S2=>r1.int.bind λi=>r2.int.bind λj=>if c i j=true then bd (h U S2) λr3 S3=>r3.int.map λl=>.ok (rd (.bl (c' j l))) S3 else some (.ok (rd (.bl false)) S2)
def Q1{Z:St}{H:Hp}{Q:VK}(t:tE K W q (CS k k' f g h) Z H Q):L7 (mW λi j=>.bl (k i j)) (mW λi j=>.bl (k' i j)) (tE K W q f) (tE K W q g) (tE K W q h) Z H Q:=by
 refine kY λkz=>?_
 obtain⟨n,U,S,res,ok,gk,e,w⟩:=t;refine kz ?_;refine tX.bd ok gk e w λr1 S1 x k1 H1 bq g1 q1 e1 w1 _=>tX.bd bq g1 e1 w1 λr2 S2 y k2 H2 cR g2 q2 e2 w2 _=>?_
 refine kY λkz=>?_
 obtain⟨i,h1,e3⟩:=cC.mp e2;obtain⟨j,h2,e4⟩:=cC.mp e3;cases Rv.f_ h1;cases Rv.f_ h2;cases(show af K k1 [x] [.int i] from q1).aL rfl;cases(show af K k2 [y] [.int j] from q2).aL rfl;refine kz ?_;refine⟨i,j,rfl,rfl,k i j,rfl,?_⟩;split at e4
 .rename_i hk
  rw[hk];refine oP (tX.bd cR g2 e4 w2 λr3 S3 z k3 H3 iI g3 q3 e5 w3 _=>?_)
  obtain⟨l,h3,rfl⟩:=cS.mp e5;cases Rv.f_ h3;cases(show af K k3 [z] [.int l] from q3).aL rfl;exact⟨_,_,rfl,rfl,w3.now iI (show af K k3 [_] [_] from .flat rfl .nil)⟩
 .rename_i hk
  cases e4;rw[Iy] at hk;rw[hk];exact oO (w2.now cR (show af K k2 [_] [_] from .flat rfl .nil))
def Θ{vL:CmpOp}(h1:∀X:Cx,dh X (compareOp op) (mW λi j=>.bl (k i j)))(h2:∀X:Cx,dh X (compareOp vL) (mW λi j=>.bl (k' i j)))(ha:PE X a (tE K W q f))(hb:PE X b (tE K W q g))(hc:PE X c (tE K W q h))(hm:lastMarks [op,vL] [b,c]=false):PT X (.Compare a [op,vL] [b,c] pos) (tT K W q (gB (CS k k' f g h))):=Ni (Qs (h1 X) (h2 X) ha hb hc hm) λ_ _ _ t=>Q1 t
def yt(ha:PE X a (tE K W q f))(hK:X.K=K)(ht:∀whole,isTrue a X.env whole=(do let v <-whole;standAt a.pos;holding [v] (truthy v))):PT X a (tT K W q (bH f)):=VG hK ha ht
def Δ(h:PT X a (tT K W q ft)):PW X (.BoolOp .And [a] pos) (tT K W q ft):=RX h
def Ξ(h:PT X a (tT K W q ft)):PW X (.BoolOp .Or [a] pos) (tT K W q ft):=Vc h
def Z9(ha:PE X a (tE K W q f))(hb:PE X b (tE K W q g))(hu:X.A.units+41<cLine)(hK:X.K=K)(hs:EK b):PE X (.Subscript a b pos) (tE K W q (gO (o2 q9) (aV f g))):=XA (GP K hu hK) XF ha hb hs
def Z_{lo hi:ah Expr}{p2:Pos}{fl fh}(he:PE X e (tE K W q f))(hl:PO X lo (tX wQ K W q fl))(hu:PO X hi (tX wQ K W q fh))(hK:X.K=K):PE X (.Subscript e (.Slice lo hi none p2) pos) (tE K W q (qH f fl fh)):=QQ he hl hu hK
def zc{g:GE}{h:GA}(ha:PE X e (tE K W q g))(hr:PA X es (fD K W q h))(hs:starEach (e::es) X.env=(false,eval e X.env)::starEach es X.env):PA X (e::es) (fD K W q (gK g h)):=Sm ha hr hs
def xd{keys:List (ah Expr)}{values:List Expr}{gs:List (GE×GE)}(h:sk X pos keys values (yi K W q gs))(hu:X.A.units+41<cLine)(hK:X.K=K)(gZ:keys.all (·.isSome)=true)(hl:keys.length=values.length)(h0:keys≠[])(vf:keys.length<=15):PE X (.Dict keys values pos) (tE K W q (ju (sL gs))):=Te hK h hu gZ hl h0 vf
def pM(K:eU)(v:ai)(o:List D->ah Rv):Prop:=∀X:Cx,X.K=K->X.calm=true->X.A.units+41<cLine->∃r,bD X v r/\bP K r o
def GW:pM K (.builtin "len") (o1 br):=λX h c u=>⟨_,PZ h,V'⟩
def GV:pM K (.builtin "isinstance") (o2 bM):=λX h c u=>⟨_,P1 h,Wa⟩
def GQ:pM K (.builtin "all") (o1 (uI λbs=>bs.all id)):=λX h c u=>⟨_,PY K c h,J' _⟩
def GR:pM K (.builtin "any") (o1 (uI λbs=>bs.any id)):=λX h c u=>⟨_,PX K c h,J' _⟩
def GY:pM K (.builtin "min") (o1 (iw eZ)):=λX h c u=>⟨_,QR K c h,K8 _⟩
def GX:pM K (.builtin "max") (o1 (iw iH)):=λX h c u=>⟨_,QS K c h,K8 _⟩
def GU:pM K (.type "int") (o1 iE):=λX h c u=>⟨_,Pd,S9⟩
def AD:pM K (.type "list") (o1 fS):=λX h c u=>⟨_,O1 c h,S_⟩
def xB{id:String}{o:List D->ah Rv}(k:pM K (.builtin id) o)(hm:X.mg x=none)(hv:bootBuiltins x=some (.builtin id))(ha:PA X (e::es) (fD K W q fs))(hu:X.A.units+41<cLine)(hc:X.calm=true)(hK:X.K=K)(hg:Gl X x)(hn:x≠"__name__")(lE:(x == ("__debug__":Str))=false)
  (he:starEach (e::es) X.env=(false,eval e X.env)::starEach es X.env) (g8:(backTo pos (starEach es X.env)).any (·.1)=false):PE X (.Call (.Name x p) (e::es) [] pos) (tE K W q (gO o fs)):=by
 obtain⟨r,h1,h2⟩:=k X hK hc hu;exact(Qu h1 hg hm hv ha hn lE he g8).mono λ_ _ _ t=>sR h2 t
def xT{o:List D->ah Rv}(k:pM K (.type T) o)(hm:X.mg x=none)(hv:bootBuiltins x=some (.type T))(ha:PA X (e::es) (fD K W q fs))(hu:X.A.units+41<cLine)(hc:X.calm=true)(hK:X.K=K)(hg:Gl X x)(hn:x≠"__name__")(lE:(x == ("__debug__":Str))=false)
  (he:starEach (e::es) X.env=(false,eval e X.env)::starEach es X.env) (g8:(backTo pos (starEach es X.env)).any (·.1)=false):PE X (.Call (.Name x p) (e::es) [] pos) (tE K W q (gO o fs)):=by
 obtain⟨r,h1,h2⟩:=k X hK hc hu;exact(Pf h1 hg hm hv ha hn lE he g8).mono λ_ _ _ t=>sR h2 t
def IQ(K:eU)(T:String)(m:Str)(o:List D->ah Rv):Prop:=∀X:Cx,X.K=K->X.A.units+41<cLine->∃id r,PlainAttrs T/\Slot T m id/\typeOf (.builtin id)=pure (.type "method_descriptor")/\BJ X id r/\bP K (pb r) o
def vH:IQ K "list" "index" (o2 eY):=λX h u=>⟨_,_,PySem.F.plainAttrs_list,PySem.F.slot_list_index,PySem.F.type_list_index,QT K h,QV⟩
def xM{o':List D->ah Rv}(k:IQ K T m o')(ho:PE X o (tE K W q f))(ha:PA X (e::es) (fD K W q fs))(hu:X.A.units+41<cLine)(hK:X.K=K)
  (fQ:attributeBase o m X.env (eval o X.env)=eval o X.env)
  (oA:((backTo cO (starEach (e::es) X.env)).all (λx => !x.1)&&(backToKw cO (keywordEach [] X.env)).all (λx=>x.1.isSome) && decide ((e::es).length+([]:List Keyword).length+(if([]:List Keyword).isEmpty then 0 else 1)<30))=true)
  (fR:(apos.endLine == cO.line)=true) (hs:starEach (e::es) X.env=(false,eval e X.env)::starEach es X.env) (iC:(backTo cO (starEach es X.env)).any (·.1)=false):PE X (.Call (.Attribute o m apos) (e::es) [] cO) (tE K W q (Fb T o' f fs)):=by
 subst hK;obtain⟨id,r,h1,h2,h3,h4,h5⟩:=k X rfl hu;exact(MW h1 h2 h3 h4 ho ha fQ oA fR hs iC).mono λ_ _ _ t=>QU h5 t
def yB(K:eU)(T:String)(m:Str)(o:Bx->List D->ah (Bx×D)):Prop:=∀X:Cx,X.K=K->∃id r,PlainAttrs T/\Slot T m id/\typeOf (.builtin id)=pure (.type "method_descriptor")/\BJ X id r/\jm K r o
def rW:yB K "list" "append" jL:=λX h=>⟨_,_,PySem.F.plainAttrs_list,PySem.F.slot_list_append,PySem.F.type_list_append,Pg,P4⟩
def rX:yB K "list" "insert" qC:=λX h=>⟨_,_,PySem.F.plainAttrs_list,PySem.F.slot_list_insert,PySem.F.type_list_insert,Pp,P5⟩
def wz:yB K "list" "clear" xA:=λX h=>⟨_,_,PySem.F.plainAttrs_list,PySem.F.slot_list_clear,PySem.F.type_list_clear,Qy,QW⟩
def xU(k:yB K T m o')(ho:PE X o (tE K W q f))(ha:PA X (e::es) (fD K W q fs))(hK:X.K=K)
  (fQ:attributeBase o m X.env (eval o X.env)=eval o X.env)
  (oA:((backTo cO (starEach (e::es) X.env)).all (λx => !x.1)&&(backToKw cO (keywordEach [] X.env)).all (λx=>x.1.isSome) && decide ((e::es).length+([]:List Keyword).length+(if([]:List Keyword).isEmpty then 0 else 1)<30))=true)
  (fR:(apos.endLine == cO.line)=true) (hs:starEach (e::es) X.env=(false,eval e X.env)::starEach es X.env) (iC:(backTo cO (starEach es X.env)).any (·.1)=false):PE X (.Call (.Attribute o m apos) (e::es) [] cO) (tE K W q (cv q T o' f fs)):=by
 subst hK;obtain⟨id,r,h1,h2,h3,h4,h5⟩:=k X rfl;exact(MW h1 h2 h3 h4 ho ha fQ oA fR hs iC).mono λ_ _ _ t=>Ml h5 t
def Z8(k:yB K T m o')(ho:PE X o (tE K W q f))(hK:X.K=K)(fQ:attributeBase o m X.env (eval o X.env)=eval o X.env)(fR:(apos.endLine == cO.line)=true):PE X (.Call (.Attribute o m apos) [] [] cO) (tE K W q (cv q T o' f gN)):=by
 subst hK;obtain⟨id,r,h1,h2,h3,h4,h5⟩:=k X rfl;exact(Vz h1 h2 h3 h4 ho fQ fR).mono λ_ _ _ t=>Tb h5 t
end
section
variable{X:Cx}{K:eU}{W:XW}{q k n:Nat}{e o:Expr}{es:List Expr}{f:GE}{fs:GA}{m:GM}{pos p apos:Pos}{x y z:Str}{st:Stmt}{fa C:aj}{fd:jF}{ps:List Str}
def xC(D:se K X.mg x st fa fd ps)(F:eV X.prog X.w X.K X.mg X.base (lT X.prog X.w) k fa fd ps (yH K q n m))(ha:PA X (e::es) (fD K W q fs))(hr:cN k X.A)(hm:nK m n)(hp:jo X W)(hK:X.K=K)(hg:Gl X x)(lE:(x == ("__debug__":Str))=false)
  (he:starEach (e::es) X.env=(false,eval e X.env)::starEach es X.env) (g8:(backTo pos (starEach es X.env)).any (·.1)=false):PE X (.Call (.Name x p) (e::es) [] pos) (tE K W q (ak m fs)):=by
 subst hK;exact(R6 F hr hg D.mg D.fn.kp D.bd .nil (AS hp) ha lE he g8).mono λ_ _ _ t=>Sr hm t
end
section
variable{X:Cx}{K:eU}{W:XW}{q:Nat}{a b c e o l tg:Expr}{es:List Expr}{f g:GE}{fz:Bool}{pos p apos cO:Pos}
def ZA(i:Nat){x:Str}(hN:tO X.N=true)(hi:X.N[i]?=some x)(hx:Loc X.env.scope x)(hf:X.fn x=true\/X.env.scope.names.lookup x=some .local):PG X (.Name x pos) (l5 i):=RZ (xE hN) hi hx hf
def ZC{es:List Expr}{k:Nat}{t:pO}{n:Nat}(h:yE X es t)(hn:(assignEach es X.env).length=n)(lF:(assignEach es X.env).findIdx? (·.1)=none)(hc:X.calm=true)(hK:X.K=K):PG X (.Tuple es k pos) (ve K n t):=hK ▸ Vi hc h hn lF
def qt(X:Cx)(K:eU)(W:XW)(q:Nat)(tg iter:Expr)(src:jI):Prop:=∃wi,PI X tg iter wi/\∀Z H R,tX (RI K q) K W q src Z H R->wi Z H R
def sA(he:PE X l (tE K W q g))(hK:X.K=K):qt X K W q tg l (bp fz dB g):=⟨_,VT he,λ_ _ _ t=>by rw[hK];exact VU t⟩
def HC(hm:X.mg "reversed"=none)(he:PE X l (tE K W q g))(hK:X.K=K)(hg:Gl X "reversed")(hs:starEach [l] X.env=[(false,eval l X.env)]):qt X K W q tg (.Call (.Name "reversed" p) [l] [] pos) (bp fz wc g):=⟨_,VN hg hm (Cv he jZ (by rw[hs,starEach])) hs,λ_ _ _ t=>by rw[hK];exact SD t⟩
def ZK{elts:List Expr}{x1:Nat}{iO:Pos}(hm:X.mg "enumerate"=none)(he:PE X l (tE K W q g))(hK:X.K=K)(hg:Gl X "enumerate")(hs:starEach [l] X.env=[(false,eval l X.env)]):qt X K W q (.Tuple elts x1 iO) (.Call (.Name "enumerate" p) [l] [] pos) (bp fz kd g):=⟨_,Sw hg hm (Cv he jZ (by rw[hs,starEach])) hs,λ_ _ _ t=>by rw[hK];exact VW t⟩
def ZL{fs:GA}(hm:X.mg "range"=none)(ha:PA X [a] (fD K W q fs))(hg:Gl X "range")(hs:starEach [a] X.env=[(false,eval a X.env)]):qt X K W q tg (.Call (.Name "range" p) [a] [] pos) (dz je fs):=⟨_,O' hg hm ha hs,λ_ _ _ t=>SE t⟩
def ZM{fs:GA}(hm:X.mg "range"=none)(ha:PA X [a,b] (fD K W q fs))(hg:Gl X "range")(hs:starEach [a,b] X.env=[(false,eval a X.env),(false,eval b X.env)])(p_:starEach [b] X.env=[(false,eval b X.env)]):qt X K W q tg (.Call (.Name "range" p) [a,b] [] pos) (dz jg fs):=⟨_,Pa hg hm ha hs p_,λ_ _ _ t=>SG t⟩
def yn:m8 X [] (tT K W0 q (f7 true)):=λae s Z H Q I t=>Se ae s Z H Q I (by
 obtain⟨k,U,S,res,ok,gk,e,w⟩:=t;cases e;exact w.now ok rfl)
def y1{ft:GT}(h:PT X c (tT K W0 q ft)):m8 X [c] (tT K W0 q ft):=Sg h
end
variable{x:Str}{mu:Bool}{i:Nat}{px jh:Pos}{op:Operator}{h:Int->Int->Int}{mg:Str->ah ai}{tab:List (Str×aj)}{B0 C:aj}
section
variable{X:Cx}{K:eU}{W:XW}{q:Nat}{tg iter elt:Expr}{ifs:List Expr}{scope:Scope}{t:TG}{gg:GG}{tt:Nat->GT}{te:Nat->GE}{src:jI}{pos:Pos}{M:List Str}{n:Nat}{cF:List Nat}
def Fw(h:dP scope.names X.env.scope.names X.N M n cF=true)(hk:scope.kind=.function):du X scope M n cF:=.of _ _ h rfl rfl hk
def xL(M:List Str)(s:qt X K W q tg iter src)(ht:fI K t gg)(hg:∀C s H fp,PG (dH X scope M C s H fp) tg t)(hT:∀m C s H fp,m8 (dH X scope M C s H fp) ifs (tT K W0 m (tt m)))(hE:∀m C s H fp,PE (dH X scope M C s H fp) elt (tE K W0 m (te m)))
  (ok:dP scope.names X.env.scope.names X.N M n cF=true) (hk:scope.kind=.function) (hc:X.calm=true) (hs:∀x,foldedSetIterable iter X.env x=pure x):PE X (.ListComp elt [⟨tg,iter,ifs,0⟩] scope pos) (tE K W q (bA q src gg tt te n cF)):=by
 obtain⟨wi,h1,h2⟩:=s;exact SJ hc (Fw ok hk) h1 h2 ht hg hT hE hs
def wL(M:List Str)(s:qt X K W q tg iter src)(ht:fI K t gg)(hg:∀C s H fp,PG (dH X scope M C s H fp) tg t)(hT:∀m C s H fp,m8 (dH X scope M C s H fp) ifs (tT K W0 m (tt m)))(hE:∀m C s H fp,PE (dH X scope M C s H fp) elt (tE K W0 m (te m)))
  (ok:dP scope.names X.env.scope.names X.N M n cF=true) (hN:tO X.N=true) (hk:scope.kind=.function) (qY:X.N[i]?=some x) (hx:Loc X.env.scope x) (hc:X.calm=true) (vt:swapsWith (.ListComp elt [⟨tg,iter,ifs,0⟩] scope pos) (some (.Name x px)) jh.line X.env=pure true) (hs:∀x,foldedSetIterable iter X.env x=pure x) (hf:X.fn x=true\/X.env.scope.names.lookup x=some .local) :
  PS X (.Assign [.Name x px] (.ListComp elt [⟨tg,iter,ifs,0⟩] scope pos) jh) (tS K W q (ag i mu (bA q src gg tt te n cF))):=by
 obtain⟨wi,h1,h2⟩:=s;exact KR (λ_ _ _ h=>h) hc (Fw ok hk) (xE hN) qY hx h1 h2 ht hg hT hE vt hs hf
def Od(M:List Str)(s:qt X K W q tg iter src)(ht:fI K t gg)(hg:∀C s H fp,PG (dH X scope M C s H fp) tg t)(hT:∀m C s H fp,m8 (dH X scope M C s H fp) ifs (tT K W0 m (tt m)))(hE:∀m C s H fp,PE (dH X scope M C s H fp) elt (tE K W0 m (te m)))
  (ok:dP scope.names X.env.scope.names X.N M n cF=true) (hN:tO X.N=true) (hk:scope.kind=.function) (qY:X.N[i]?=some x) (hx:Loc X.env.scope x) (hc:X.calm=true) (vt:swapsWith (.ListComp elt [⟨tg,iter,ifs,0⟩] scope pos) (some (.Name x px)) jh.line X.env=pure true) (hs:∀x,foldedSetIterable iter X.env x=pure x) (hf:X.fn x=true\/X.env.scope.names.lookup x=some .local) :
  PS X (.Assign [.Name x px] (.ListComp elt [⟨tg,iter,ifs,0⟩] scope pos) jh) (tS K W q (ag i mu (dy (bA q src gg tt te n cF)))):=by
 obtain⟨wi,h1,h2⟩:=s;exact KR (λ_ _ _=>KJ) hc (Fw ok hk) (xE hN) qY hx h1 h2 ht hg hT hE vt hs hf
end
section
variable{X:Cx}{K:eU}{W:XW}{q:Nat}{tg iter e o i value:Expr}{body:List Stmt}{t:TG}{gg:GG}{src:jI}{pos pos' iO:Pos}{f fv fo fi fe:GE}{x:Str}
def wF{fb:Nat->GS}(s:qt X K W q tg iter src)(ht:fI K t gg)(hg:PG X tg t)(hb:∀n,ij X body (tS K W n (fb n)))(hp:PassesOwn (mX X) X.A X.env X.xe)(hc:X.calm=true)(hs:∀x,foldedSetIterable iter X.env x=pure x):PS X (.For tg iter body [] pos) (tS K W q (aY q src gg fb)):=by
 obtain⟨wi,h1,h2⟩:=s;exact VX hp hc h1 h2 hg ht hb hs
def wS{i:Nat}(he:PE X e (tE K W q f))(hN:tO X.N=true)(hi:X.N[i]?=some x)(hx:Loc X.env.scope x)(hs:swapsWith e (some (.Name x pos')) pos.line X.env=pure false)(hf:X.fn x=true\/X.env.scope.names.lookup x=some .local):PS X (.Assign [.Name x pos'] e pos) (tS K W q (ag i mu f)):=VJ (xE hN) hi hx he hs hf
def wU(he:PE X e (tE K W q f))(ht:fI K t gg)(hg:PG X tg t)(hs:swapsWithSole [tg] e pos.line X.env=pure false)(hw:swappedStores [tg] e X.env=pure none)(h1:(assignEach [tg] X.env).map (·.2)=[assign tg X.env]):PS X (.Assign [tg] e pos) (tS K W q (oq f gg)):=VL he hg ht hs hw h1
def wE(he:PE X e (tE K W q f))(hs:swapsWith e none pos.line X.env=pure false):PS X (.Expr e pos) (tS K W q (dY f)):=Ss he hs
def wP(he:PE X e (tE K W q fv))(ho:PE X o (tE K W q fo))(hi:PE X i (tE K W q fi))(hu:X.A.units+41<cLine)(hK:X.K=K)
  (ha:∀v,assign (.Subscript o i pos') X.env v=(do
   let ov <-holding [v] (eval o X.env)
   let iv <-holding [v,ov] (eval i X.env)
   standAt pos'
   holding [v,ov,iv] (setItem ov iv v)
   release [v,ov,iv] []))
  (hs:swapsWithSole [.Subscript o i pos'] e pos.line X.env=pure false) (hw:swappedStores [.Subscript o i pos'] e X.env=pure none)
  (h1:(assignEach [.Subscript o i pos'] X.env).map (·.2)=[assign (.Subscript o i pos') X.env]):PS X (.Assign [.Subscript o i pos'] e pos) (tS K W q (cV q fv fo fi)):=We he ho hi hu hK ha hs hw h1
def Z0(vo:∀X:Cx,sj X op (x9 h))(ho:PE X o (tE K W q fo))(hi:PE X i (tE K W q fi))(hv:PE X value (tE K W q fe))(hu:X.A.units+41<cLine)(hK:X.K=K)
  (ha:∀ov iv new,augStore i ov iv new=(do holding [new,ov,iv] (setItem ov iv new);release [new,ov,iv] [];pure .next)):PS X (.AugAssign (.Subscript o i iO) op value pos) (tS K W q (xD q h fo fi fe)):=Tf (vo X) ho hi hv hu hK ha
def Z4{j:Nat}(vo:∀X:Cx,sj X op (x9 h))(he:PE X e (tE K W q fe))(hN:tO X.N=true)(hi:X.N[j]?=some x)(hx:Loc X.env.scope x)(hf:X.fn x=true\/X.env.scope.names.lookup x=some .local):PS X (.AugAssign (.Name x pos') op e pos) (tS K W q (zt h j fe)):=Tg (vo X) (xE hN) hi hx he hf
structure qr (K:eU) (mg:Str->ah ai) (tab:List (Str×aj)) (B0:aj):Prop where
 all:∀p∈tab,mg p.1=some (.ref p.2)/\km K p.2 (.ref B0::pV) none/\keepIn K (.ref p.2)=true
 G0:km K B0 pV none
 mg0:mg "CarryError"=some (.ref B0)
def qr.ix(E:qr K mg tab B0){i:Nat}{n:Str}(h:tab[i]?=some (n,C)):mg n=some (.ref C)/\km K C (.ref B0::pV) none/\keepIn K (.ref C)=true:=E.all (n,C) (kg h)
def wX{p cp:Pos}(j:Nat)(E:qr K X.mg tab B0)(he:PE X e (tE K W q fe))(hp:jo X W)(hj:tab[j]?=some (x,C))(hc:X.calm=true)(hg:Gl X x)(lE:(x == ("__debug__":Str))=false)
  (lF:starEach [e] X.env=(false,eval e X.env)::starEach [] X.env) (hK:X.K=K):PS X (.Raise (some (.Call (.Name x p) [e] [] cp)) none pos) (tS K W q (ER C fe)):=by
 obtain⟨h1,h2,h4⟩:=E.ix hj;exact QM h2 E.G0 h4 h1 hp he hc hg lE lF hK
end
def Th{P:cL}{w:bX}{K:eU}{base:bJ}{k:Nat}{f:aj}{fd:jF}{m:GM}(F:eV P w K mg base (lT P w) k f fd [x] (yH K 0 1 m)){n:Nat}(h:∀ns:List Int,ns.length<=n->∃S,m [.d (.lst (ns.map D.int))] ⟨[],[]⟩=some (.ok (.v (.d (.bl true))) S)):
  eV P w K mg base (lT P w) k f fd [x] (λvs H Q _=>∃(a:aj) (ns:List Int),vs=[.ref a]/\cI K H a (ns.map V.int)/\ns.length<=n/\∀H',Q (.bl true) H'):=⟨λvs H Q E h=>by obtain⟨a,ns,rfl,_⟩:=h;rfl,λA outer s H args us vs Q E hr e0 hb r hq=>by
 obtain⟨a,ns,rfl,hs,hl,q⟩:=hq;obtain⟨S,e⟩:=h ns hl;refine F.run A outer s H args us [.ref a] Q E hr e0 hb r ⟨rfl,⟨H,[],[]⟩,[.d (.lst (ns.map D.int))],⟨[],[]⟩,_,⟨ay.refl _,.nil,⟨rfl,λ_ _ _ z=>nomatch z⟩,⟨rfl,λ_ _ _ z=>nomatch z⟩⟩,.cons (show af K ⟨H,[],[]⟩ [.ref a] [.lst (ns.map D.int)] from .lst hs ?_ .nil) .nil,e,λv k' H' u ok r'=>?_⟩
 .exact QG ns
 .cases(show af K k' [v] [.bl true] from r').aL rfl;exact q H'⟩
def FW{N P:List Str}{sc:Scope}(h1:sc.kind=.function:=by rfl)(h2:sc.isCoroutine=false:=by rfl)(h3:sc.isGenerator=false:=by rfl)(h4:N.Nodup:=by decide +kernel)(h5:N.take P.length=P:=by rfl)(h6:∀x∈P,sc.names.lookup x=some .local \/ sc.names.lookup x=some .cell:=by decide +kernel)(h7:∀y∈sc.names,y.2≠.free:=by decide +kernel):fG N P sc:=⟨h1,h2,h3,h4,h5,h6,h7⟩
def Ti{A:PySem.Around}{k:Nat}(hr:cN k A):A.units+41<PySem.cLine:=Nat.lt_of_le_of_lt (Nat.add_le_add_left (by decide:41<=64) _) hr.units
section
variable{X:Cx}{K:eU}{W:XW}{q:Nat}{pos:Pos}{x:Str}
def xk{z:Str}(hm:∃t,X.mg x=some (.str z t))(hg:Gl X x)(hd:(x == ("__debug__":Str))=false):PE X (.Name x pos) (tE K W q (gC (.str z))):=xP (v:=.str z) (by
 intro ae s Z H Q I h;obtain⟨t,hm⟩:=hm;exact EI I hg hm ⟨.str z,H,I,⟨t,rfl⟩,h⟩ hd)
end
abbrev bh:=o2 uL
abbrev jM:=o2 (eI t9 λi j=>.int (i - j))
abbrev ku:=o2 rn
abbrev jr:=o2 (eI (λ_ j=>decide (0<j/\j<1073741824)) λi j=>.int (i / j))
abbrev i6:=o2 (eI (λ_ j=>decide (0<j)) λi j=>.int (i%j))
abbrev iL:=o2 (p6 false)
abbrev mw:=o2 (p6 true)
abbrev Aq:Int->Int->Bool:=λi j=>decide (i<j)
abbrev Zg:Int->Int->Bool:=λi j=>decide (j<i)
abbrev vx:Int->Int->Int:=λi j=>i+j
abbrev Au:Int->Int->Int:=λi j=>i - j
abbrev mr:=o2 (eI t9 λi j=>.bl (Aq i j))
abbrev nq:=o2 (eI t9 λi j=>.bl (Zg i j))
abbrev rK:=o2 (x8 false)
abbrev eK:=o2 (x8 true)
abbrev ZF:=o2 (x_ false)
abbrev vY:=o2 (x_ true)
abbrev Hx:List Bool->Bool:=λbs=>bs.all id
abbrev vX:List Bool->Bool:=λbs=>bs.any id
noncomputable def Mo(e:DictEntry):Bool:=match e.key with|.str _ _=>true|_=>false
def errC_mk{K:eU}{C:aj}{bm:List ai}{Dv:ah ai}{nm q:Str}{N:aj}{bs:List ai}{sn:List Str}{sub:List ai}{ab:Bool}{col:ah Bool}{dd:ah aj}{k0 k1 k2 k3 k5:ah ai}{on:ai}{AM:ah aj}{es:Array DictEntry}{ep:Nat}{A6:Array (ah ai)}
  (l:K.lookup C=some (excClassObj nm q C N bs bm true sn sub ab col dd k0 k1 k2 k3 k5 "ValueError.__new__")) (d:K.lookup N=some ⟨on,AM,.dict es ep,A6⟩) (s:es.toList.all Mo=true) (i:nsFind es "__init__"=Dv):km K C bm Dv:=by
 refine⟨_,_,_,_,_,_,_,_,_,_,_,_,_,_,_,_,_,_,_,l,d,λe he=>?_,i⟩
 have:=gF.1 s e (Array.mem_toList_iff.2 he);unfold Mo at this;split at this
 .exact⟨_,_,by assumption⟩
 .cases this
instance instGE (n:Nat):OfNat GE n:=⟨om n⟩
abbrev gI(n:Int):GE:=gC (.int n)
abbrev gX(a b:GE):GE:=gO (o2 q9) (aV a b)
abbrev bj(o:List D->ah Rv)(a b:GE):GE:=gO o (aV a b)
abbrev fV(a b c:GE):GA:=gK a (aV b c)
abbrev fW(a b c d:GE):GA:=gK a (fV b c d)
abbrev gR(a:GS):GS:=cA a fO
abbrev gY(a b:GS):GS:=cA a (gR b)
abbrev kE(a b c:GS):GS:=cA a (gY b c)
abbrev l7(a b c d:GS):GS:=cA a (kE b c d)
abbrev kf(a b c d e:GS):GS:=cA a (l7 b c d e)
instance instGG (n:Nat):OfNat GG n:=⟨ao n⟩
abbrev cG(f:GT)(g:GS):GS:=kF f (gR g) fO
abbrev gQ(o:List D->ah Rv)(a b:GE):GT:=gB (bj o a b)
def bI(p n:Nat)(m:Nat->GS)(q:Nat):GM:=runM p n (m q)
end L2
namespace L2
open PySem Lean Meta
variable{C:aj}{l:ah Int}{S:ba}{z:List D}
def oh(e:Lean.Expr)(i:Nat)(k:Lean.Expr->ah (Lean.Expr×Bool)):SimpM Simp.Step:=do
 let a:=e.getAppArgs
 let r0 <-Simp.simp a[i]!
 let x:=(<-instantiateMVars r0.expr).cleanupAnnotations.headBeta
 let pr <-match r0.proof? with
  |none=>pure none
  |some p=>pure (some (<-mkCongrArg (.lam `z (<-inferType a[i]!) (mkAppN e.getAppFn (a.set! i (.bvar 0))) .default) p))
 match k x with
 |some (y,true)=>return .visit { expr:=y.headBeta,proof?:=pr}
 |some (y,false)=>return .done { expr:=y.headBeta,proof?:=pr}
 |none=>return .done { expr:=mkAppN e.getAppFn (a.set! i x),proof?:=pr}
def isOk(x:Lean.Expr):ah (Lean.Expr×Lean.Expr):=if x.isAppOfArity ``Option.some 2&&x.appArg!.isAppOfArity ``Rs.ok 3 then some (x.appArg!.appFn!.appArg!,x.appArg!.appArg!) else none
def zT(n:Name):Bool:=(n.getRoot == `L2 && !(#[``cB,``findS,``iN,``dO,``iF,``ly,``bM,``ba.cut,``bt,``cj,``cn,``cZ,``cU,``eZ,``iH,``aF,``bx,``aw,``bd,``i7,``pU,``eY,``runM].contains n)) || (n.getRoot == `List&&n != ``List.toArray) || n.getRoot == `Option || n.getRoot == `Prod || n.getRoot == `GetElem? || n.getRoot == `OfNat || n.getRoot == `Nat || n.getRoot == `BEq || n == ``ite || n == ``dite || n.getRoot == `Bool || n.getRoot == `Decidable || n == ``and || n == ``or || n == ``not || n.getRoot == `id || n.getRoot == `HAppend || n.getRoot == `Append || n.getRoot == `instHAppendOfAppend
def Wf(e:Lean.Expr):MetaM Lean.Expr:=withCanUnfoldPred (λ_ c=>return zT c.name || c.name.isInternal || (<-isInstance c.name) || (<-isMatcher c.name)) (withDefault (whnf e))
def Mp(e:Lean.Expr):MetaM Bool:=do
 if e.isFVar || e.isLit then return true
 let .const n _:=e.getAppFn|return false
 if n == ``OfNat.ofNat then return true
 if n == ``Nat.succ then return false
 return (<-getEnv).isConstructor n
simproc_decl ev (_):=λe=>do
 let .const n ls:=e.getAppFn|return .continue
 let a:=e.getAppArgs
 if n == ``OfNat.ofNat&&a.size>=3&&(a[2]!.isAppOf ``instGG || a[2]!.isAppOf ``instGE) then return .visit { expr:=mkAppN (mkApp (mkConst (if a[2]!.isAppOf ``instGG then ``ao else ``om)) a[1]!) (a.extract 3 a.size)}
 if n == ``Option.bind&&a.size == 4 then
  return <-oh e 2 λx=>if x.isAppOfArity ``Option.some 2 then some (mkApp a[3]! x.appArg!,true) else if x.isAppOfArity ``Option.none 1 then some (mkApp (.const ``Option.none (ls.drop 1)) a[1]!,false) else none
 if n == ``Option.map&&a.size == 4 then
  return <-oh e 3 λx=>if x.isAppOfArity ``Option.some 2 then some (mkApp2 (.const ``Option.some (ls.drop 1)) a[1]! (mkApp a[2]! x.appArg!).headBeta,true) else if x.isAppOfArity ``Option.none 1 then some (mkApp (.const ``Option.none (ls.drop 1)) a[1]!,false) else none
 if(n == ``bd || n == ``pU || n == ``i7)&&a.size == 4 then
  return <-oh e 2 λx=>match isOk x with
   |some (v,S)=>some (mkApp2 a[3]! v S,true)
   |none=>if n != ``pU&&x.isAppOfArity ``Option.some 2&&x.appArg!.isAppOfArity ``Rs.ex 4 then
     let b:=x.appArg!.getAppArgs
     if n == ``i7 then some (mkApp2 (.const ``Option.some [0]) (.const ``Fr []) (mkApp4 (.const ``Fr.ex []) b[1]! b[2]! a[1]! b[3]!),true) else some (mkApp2 (.const ``Option.some [0]) (mkApp (.const ``Rs []) a[1]!) (mkApp4 (.const ``Rs.ex []) a[1]! b[1]! b[2]! b[3]!),true)
    else none
 if n == ``ite then return <-reduceIte e
 if n == ``List.length&&a.size == 2 then
  let some (_,vs):=a[1]!.listLit?|return .continue
  return .done { expr:=mkNatLit vs.length}
 if n == ``runM&&a.size == 5 then
  let some (_,vs):=a[3]!.listLit?|return .continue
  let (some p,some k):=(a[0]!.nat?,a[1]!.nat?)|return .continue
  unless vs.length == p do return .continue
  let V:=mkConst ``Val
  let G <-mkListLit (mkApp (.const ``Option [0]) V) (vs.map (λv=>mkApp2 (.const ``Option.some [0]) V v)++List.replicate (k - p) (mkApp (.const ``Option.none [0]) V))
  let f <-mkAppM ``leave #[<-mkAppM ``List.length #[<-mkAppM ``ba.s #[a[4]!]]]
  return .visit { expr:=<-mkAppM ``Option.bind #[(mkApp2 a[2]! G a[4]!).headBeta,f]}
 if n.getRoot == `Nat || n.getRoot == `OfNat || n.getRoot == `BEq || n.getRoot == `Decidable || n == ``dite then return .continue
 unless zT n || n == ``getElem? || n == ``HAppend.hAppend do return .continue
 if <-isMatcher n then return .continue
 if(<-getEnv).isConstructor n then return .continue
 if n.getRoot == `L2&&(<-isReducible n) then
  let some e' <-withDefault (unfoldDefinition? e)|return .continue
  return .visit { expr:=e'.headBeta}
 let t <-whnfR (<-inferType e)
 if t.isAppOfArity ``Option 1&&n.getRoot == `L2 then
  let some e' <-withDefault (unfoldDefinition? e)|return .continue
  let e' <-whnfCore e'
  if(<-isMatcherApp e') then return .continue
  return .visit { expr:=e'}
 if t.isForall then return .continue
 let e' <-Wf e
 if e' != e&&(<-Mp e') then return .visit { expr:=e'}
 return .continue
def FU:List Simp.DSimproc:=[Nat.reduceAdd,Nat.reduceSub,Nat.reduceMul,Nat.reduceDiv,Nat.reduceMod,Int.reduceAdd,Int.reduceSub,Int.reduceMul,Int.reduceDiv,Int.reduceMod,Int.reduceNeg,Int.reduceToNat,Int.reduceBEq,Nat.reduceBEq]
def FV:List Simp.Simproc:=[reduceCtorEq,Nat.reduceLT,Nat.reduceLeDiff,Nat.reduceEqDiff,Int.reduceLT,Int.reduceLE,Int.reduceEq]
def Yg(e:Lean.Expr):MetaM (ah Lean.Expr):=do
 let .const n _:=e.getAppFn|return none
 let a:=e.getAppArgs
 unless (n == ``BEq.beq&&a.size == 4&&a[2]!.isAppOf ``Str.ofString&&a[3]!.isAppOf ``Str.ofString) || (n == ``List.contains&&a.size == 4 && !a[3]!.hasFVar) || (n == ``List.lookup&&a.size == 5&&a[3]!.isAppOf ``Str.ofString) do return none
 match Kernel.whnf (<-getEnv) (<-getLCtx) e with
 |.ok r=>if(<-Mp r)&&r != e then return some r else return none
 |_=>return none
def zU{α β:Type}{f:α->ba->ah (Rs β)}:bd (some (.ex C l S)) f=some (.ex C l S):=rfl
def vd{α:Type}{f:α->ba->ah Fr}{U:Gm}:i7 U (some (.ex C l S)) f=some (.ex C l U S):=rfl
section
variable{α:Type}{l L M:List α}{c:α}{j:Nat}{S:ba}{r L':List Cell}
def Tz:S.cut S.s.length=S:=by unfold ba.cut;rw[List.take_length]
def TB{s:List Cell}:ba.cut ⟨s++L',r⟩ s.length=⟨s,r⟩:=by unfold ba.cut;rw[Iz]
def Jt:(l++L)[l.length]?=L[0]?:=by rw[gE (bC _),kh]
def ZO:(l++L).set l.length c=l++L.set 0 c:=by rw[IA _ _ (bC _),kh]
def Zn:(l++L).length=l.length+L.length:=b_
def OH:(l++L)++M=l++(L++M):=g_ _ _ _
def Zo:(l.length<l.length)=False:=eq_false (jl _)
def Np{a b:Int}:cj (.int a) (.int b)=(a == b):=rfl
def Dc{a b:Str}:cj (.str a) (.str b)=(a == b):=rfl
def Zi{z:Str}:bM (.str z) (.ty "str")=some (rd (.bl true)):=rfl
def Zj:bM (.tup z) (.ty "tuple")=some (rd (.bl true)):=rfl
def Zk{z:Str}:bM (.str z) (.ty "tuple")=some (rd (.bl false)):=rfl
def Zl:bM (.lst z) (.ty "list")=some (rd (.bl true)):=rfl
def Zm:bM (.tup z) (.ty "str")=some (rd (.bl false)):=rfl
def OB{a:α}:cB (a::l) 0=some a:=kO (j:=0) rfl
def OC{a b:α}:cB (a::b::l) 1=some b:=kO (j:=1) rfl
def OE{a b c:α}:cB (a::b::c::l) 2=some c:=kO (j:=2) rfl
def OF{a b c d:α}:cB (a::b::c::d::l) 3=some d:=kO (j:=3) rfl
end
def Yh:List (Name×Name):=[(``Eq,``jE),(``Eq,``decide_eq_true_eq),(``Decidable.decide,``decide_true),(``Decidable.decide,``decide_false),(``BEq.beq,``qm),(``Bool.not,``wH),(``Bool.not,``Bool.not_false),(``And,``and_self),(``And,``true_and),(``And,``and_true),(``Nat.max,``Nat.max_self),(``Max.max,``Nat.max_self),(``Option.any,``Option.any_some),(``bd,``zU),(``i7,``vd),(``ba.cut,``Tz),(``ba.cut,``TB),(``getElem?,``Jt),(``GetElem?.getElem?,``Jt),(``List.set,``ZO),(``List.length,``Zn),(``HAppend.hAppend,``OH),(``LT.lt,``Zo),(``cj,``Np),(``cj,``Dc),(``bM,``Zi),(``bM,``Zj),(``bM,``Zk),(``bM,``Zl),(``bM,``Zm),(``cB,``OB),(``cB,``OC),(``cB,``OE),(``cB,``OF)]
simproc_decl aK (_):=λe=>do
 if let some r <-Yg e then return .done { expr:=r,proof?:=some (<-mkExpectedTypeHint (<-mkEqRefl r) (<-mkEq e r))}
 for p in FU do
  match <-p e with
  |.done x=>return .done { expr:=x}
  |.visit x=>return .visit { expr:=x}
  |.continue (some x)=>return .continue (some { expr:=x})
  |_=>pure ()
 for p in FV do
  match <-p e with
  |.continue none=>pure ()
  |r=>return r
 let .const n _:=e.getAppFn|return .continue
 for (k,t) in Yh do
  if k == n then
   for s in <-mkSimpTheoremFromConst t do
    if let some r <-Simp.tryTheorem? e s then return .visit r
 return .continue
end L2
namespace L2
open PySem
section
variable{α:Type}{gg:GG}{tt:GT}{te:GE}{S:ba}{f:α->D}{U cs:Gm}{a:ah Val}
theorem CT(h:α->ah D)(G:Gm->Prop):∀(xs:List α) (U:Gm) (bB:List D),G U->bB.length+xs.length<=1000000->(∀x∈xs,∀U,G U->∃U',gg (f x) U=some U'/\G U'/\((h x=none/\tt U' S=some (.ok false S))\/∃r d,h x=some d/\tt U' S=some (.ok true S)/\te U' S=some (.ok r S)/\jA r=.d d))->
  bx gg tt te (xs.map f) U S bB=some (.ok (bB++xs.filterMap h) S)
 |[],U,bB,_,_,_=>by rw[List.filterMap_nil,lQ];rfl
 |x::xs,U,bB,g,hl,hx=>by
  obtain⟨U',e1,g',e2⟩:=hx x (.head _) U g;rw[dg] at hl;rw[c_];unfold bx;rw[e1,qk];rcases e2 with⟨e2,e3⟩|⟨r,d,e2,e3,e4,e5⟩
  .rw[e3,List.filterMap_cons_none e2];exact CT h G xs U' bB g' (by lia) λy m=>hx y (.tail _ m)
  .have e6:gD te U' S=some (.ok d S):=by unfold gD bd;rw[e4];show(i_ S (jA r)).map _=_;rw[e5];rfl
   rw[e3,List.filterMap_cons_some e2];show pU (gD te U' S) _=_;rw[e6];show(if bB.length<1000000 then _ else _)=_
   rw[aU (by lia),CT h G xs U' (bB++[d]) g' (by rw[b_,iW];lia) λy m=>hx y (.tail _ m),g_]
   rfl
def Yr{d:D}:ao 0 d (a::cs)=some (some (.d d)::cs):=by
 rfl
def uS(h:α->ah D)(xs:List α)(hl:xs.length<=1000000)(hx:∀x∈xs,(h x=none/\tt (some (.d (f x))::cs) S=some (.ok false S))\/∃r d,h x=some d/\tt (some (.d (f x))::cs) S=some (.ok true S)/\te (some (.d (f x))::cs) S=some (.ok r S)/\jA r=.d d):bx (ao 0) tt te (xs.map f) (a::cs) S []=some (.ok (xs.filterMap h) S):=by
 rw[CT h (λU=>∃a,U=a::cs) xs _ [] ⟨a,rfl⟩ (by rw[nz];lia) λx m U ⟨a,hU⟩=>⟨_,by rw[hU];exact Yr,⟨_,rfl⟩,hx x m⟩,wK]
def qM(h:α->D)(xs:List α)(hl:xs.length<=1000000)(hx:∀x∈xs,∃r,te (some (.d (f x))::cs) S=some (.ok r S)/\jA r=.d (h x)):bx (ao 0) (f7 true) te (xs.map f) (a::cs) S []=some (.ok (xs.map h) S):=by
 rw[uS (λx=>some (h x)) xs hl λx m=>.inr (let ⟨r,h1,h2⟩:=hx x m;⟨r,_,rfl,rfl,h1,h2⟩),List.filterMap_eq_map']
theorem Mq{body:GS}(I:List α->Gm->ba->Prop):∀(xs dn:List α) (U:Gm) (S:ba),I dn U S->(∀d x r,dn++xs=d++x::r->∀U S,I d U S->∃U1 U' S',gg (f x) U=some U1/\(body U1 S=some (.nx U' S')\/body U1 S=some (.ct U' S'))/\I (d++[x]) U' S')->∃U' S',aF gg body (xs.map f) U S=some (.nx U' S')/\I (dn++xs) U' S'
 |[],dn,U,S,i,_=>⟨U,S,rfl,by rw[lQ];exact i⟩
 |x::xs,dn,U,S,i,hx=>by
  refine kY λkz=>?_
  obtain⟨U1,U',S',e1,e2,i'⟩:=hx dn x xs rfl U S i;obtain⟨U2,S2,e3,i2⟩:=Mq I xs (dn++[x]) U' S' i' λd y r e=>hx d y r (by rw[<-e,g_];rfl)
  refine kz ?_;refine⟨U2,S2,?_,by rw[g_] at i2;exact i2⟩
  rw[c_];unfold aF;rw[e1,qk];rcases e2 with e2|e2
  .rw[e2];exact e3
  .rw[e2];exact e3
def ir(gg:GG)(body:GS)(f:α->D)(S:ba)(I:List α->Gm->ba->Prop)(xs:List α)(i:I [] U S)(hx:∀d x r,xs=d++x::r->∀U S,I d U S->∃U1 U' S',gg (f x) U=some U1/\(body U1 S=some (.nx U' S')\/body U1 S=some (.ct U' S'))/\I (d++[x]) U' S'):∃U' S',aF gg body (xs.map f) U S=some (.nx U' S')/\I xs U' S':=Mq I xs [] U S i λd x r e=>hx d x r e
def Wg(enc:α->D)(xs:List α):cU (xs.map enc)=((List.range xs.length).zip xs).map λ(p:Nat×α)=>D.tup [.int (p.1:Nat),enc p.2]:=by
 unfold cU;rw[aW];refine IB λi=>?_
 rw[gn,gn];by_cases h:i<xs.length
 .have z:((List.range xs.length).zip xs)[i]?=some (i,xs[i]):=List.getElem?_zip_eq_some.mpr ⟨DU h,gp h⟩;rw[DU h,z];simp[h]
 .rw[DK (by simp;lia),DK (by simp;lia)]
  rfl
def XJ{body:GS}(enc:α->D)(I:List α->Gm->ba->Prop)(xs:List α)(i:I [] U S)(hx:∀d x r,xs=d++x::r->∀U S,I d U S->∃U1 U' S',gg (.tup [.int (d.length:Nat),enc x]) U=some U1/\body U1 S=some (.nx U' S')/\I (d++[x]) U' S'):∃U' S',aF gg body (cU (xs.map enc)) U S=some (.nx U' S')/\I xs U' S':=by
 have hs:((List.range xs.length).zip xs).map Prod.snd=xs:=by rw[List.map_snd_zip];simp
 rw[Wg];obtain⟨U',S',e,p⟩:=ir gg body (λ(p:Nat×α)=>D.tup [.int (p.1:Nat),enc p.2]) S (λpre U S=>I (pre.map Prod.snd) U S) ((List.range xs.length).zip xs) i (by
  intro q x post e U S p;have vv:xs=q.map Prod.snd++x.2::post.map Prod.snd:=by
   simp_all
  have hi:x.1=(q.map Prod.snd).length:=by
   have:((List.range xs.length).zip xs)[q.length]?=some x:=by rw[e,gE (bC _)];simp
   rw[List.getElem?_zip_eq_some] at this;have h1:=this.1;rw[cK] at h1;obtain⟨hl,h1⟩:=h1;rw[List.getElem_range] at h1;rw[aW];exact h1.symm
  obtain⟨U1,U2,S2,a,b,c⟩:=hx _ _ _ vv U S p;exact⟨U1,U2,S2,by rw[hi];exact a,.inl b,by rw[gq];exact c⟩)
 exact⟨U',S',e,by rw[hs] at p;exact p⟩
theorem La{body:GS}{rv:Rv}{S':ba}(I:List α->Gm->ba->Prop){x:α}{r:List α}:∀(d dn:List α) (U:Gm) (S:ba),I dn U S->(∀d' y r',dn++d=d'++y::r'->∀U S,I d' U S->∃U1 U' S',gg (f y) U=some U1/\(body U1 S=some (.nx U' S')\/body U1 S=some (.ct U' S'))/\I (d'++[y]) U' S')->(∀U S,I (dn++d) U S->∃U1,gg (f x) U=some U1/\body U1 S=some (.rt rv S'))->aF gg body ((d++x::r).map f) U S=some (.rt rv S')
 |[],dn,U,S,i,_,hs=>by
  obtain⟨U1,e1,e2⟩:=hs U S (by rw[lQ];exact i)
  rw[wK,c_];unfold aF;rw[e1,qk,e2];rfl
 |y::d,dn,U,S,i,hp,hs=>by
  obtain⟨U1,U',S',e1,e2,i'⟩:=hp dn y d rfl U S i;have e3:=La I (x:=x) (r:=r) d (dn++[y]) U' S' i' (λd' z r' e=>hp d' z r' (by rw[<-e,g_];rfl)) (λU S h=>hs U S (by rw[g_] at h;exact h))
  grind [aF]
end
end L2
namespace L2
open PySem PySem.Spec PySem.W PyProof.Rows
end L2
namespace L2
open PySem PySem.Spec PyProof.Rows
variable{m j i n:Nat}{k:TK}{A:cy}{E:ai->au->Prop}{s:au}{Q:Bool->au->Prop}{hp:bJ}{ks:List TK}{vs:List ai}{S l:aj}{p p1 kJ:Pos}
def kT(m:Nat):Nat->Nat×Nat->Nat×Nat
 |0,q=>q
 |n+1,q=>kT m n (SetTable.leap m q.1 q.2)
theorem Lb{m:Nat}:∀(a b:Nat) (q:Nat×Nat),kT m (a+b) q=kT m b (kT m a q)
 |0,b,q=>by rw[yv];rfl
 |a+1,b,q=>by rw[Nat.succ_add];exact Lb a b _
def AB(m:Nat):Nat->Nat->Nat
 |0,x=>x
 |n+1,x=>AB m n ((x*5+1)%(m+1))
theorem NP{m:Nat}:∀n x,(kT m n (x,0)).1=AB m n x
 |0,_=>rfl
 |n+1,x=>by show(kT m n ((x*5+1+0 / 32)%(m+1),0 / 32)).1=_;rw[Nat.zero_div,Nat.add_zero,NP n];rfl
def sG:Nat->Nat
 |0=>0
 |n+1=>5*sG n+1
theorem CU(a:Nat):∀b,sG (a+b)=5^b*sG a+sG b
 |0=>by simp[sG]
 |b+1=>by
  show 5*sG (a+b)+1=5^(b+1)*sG a+(5*sG b+1);rw[CU a b,BC]
  grind
theorem Mr{m:Nat}:∀n x,x<=m->AB m n x=(5^n*x+sG n)%(m+1)
 |0,x,h=>by
  show x=(1*x+0)%(m+1);rw[IC,Nat.add_zero,Nat.mod_eq_of_lt (by lia)]
 |n+1,x,h=>by
  show AB m n ((x*5+1)%(m+1))=_;rw[Mr n _ (DL (Nat.mod_lt _ (Nat.succ_pos _))),Nat.add_mod,Nat.mul_mod,Nat.mod_mod,<-Nat.mul_mod,<-Nat.add_mod,Nat.add_comm n 1,CU,Nat.pow_add]
  congr 1
  show _=5^1*5^n*x+(5^n*(5*0+1)+sG n)
  grind
theorem jG:∀k,∃c d,5^2^k=1+2^k*(4*c)/\sG (2^k)=2^k*(1+2*d)
 |0=>⟨1,0,rfl,rfl⟩
 |k+1=>by
  obtain⟨c,d,h1,h2⟩:=jG k;have e:2^(k+1)=2^k+2^k:=by rw[BC,Nat.mul_two]
  rw[e,CU,Nat.pow_add,h1,h2];generalize 2^k=M;exact⟨c+M*(2*c*c),d+M*c+2*M*c*d,by grind,by grind⟩
theorem Ag:∀k x y,∃n,n<2^k/\(5^n*x+sG n)%2^k=y%2^k
 |0,_,_=>⟨0,Nat.one_pos,by simp[Nat.mod_one]⟩
 |k+1,x,y=>by
  obtain⟨n,h1,h2⟩:=Ag k x y;obtain⟨c,d,h3,h4⟩:=jG k;have e:5^(n+2^k)*x+sG (n+2^k)=5^2^k*(5^n*x+sG n)+sG (2^k):=by rw[CU,Nat.pow_add];grind
  have hp:0<2^k:=Nat.two_pow_pos k;by_cases q:(5^n*x+sG n)%2^(k+1)=y%2^(k+1)
  .exact⟨n,by rw[BC];lia,q⟩
  .refine⟨n+2^k,by rw[BC];lia,?_⟩
   rw[e,h3,h4];rw[BC] at q ⊢;generalize 5^n*x+sG n=z at *;generalize 2^k=M at *;rw[show(1+M*(4*c))*z+M*(1+2*d)=z+M+M*2*(2*c*z+d) by grind,Nat.add_mul_mod_self_left,ID,ID,Nat.add_mod_right,Nat.add_div_right _ hp,h2]
   rw[ID,ID,h2] at q;have:z / M%2≠y / M%2:=λw=>q (by rw[w])
   rw[show(z / M).succ%2=y / M%2 by lia]
theorem Lc{m:Nat}:∀n (q:Nat×Nat),(kT m n q).2=q.2 / 32^n
 |0,q=>(Nat.div_one _).symm
 |n+1,q=>by
  show(kT m n _).2=_;rw[Lc n];show q.2 / 32 / _=_;rw[Nat.div_div_eq_div_mul,BC,Nat.mul_comm]
theorem M0{m:Nat}:∀n (q:Nat×Nat),q.1<=m->(kT m n q).1<=m
 |0,_,h=>h
 |n+1,q,_=>M0 n _ (DL (Nat.mod_lt _ (Nat.succ_pos _)))
abbrev nE(m:Nat):Prop:=m+1=2^3\/m+1=2^5\/m+1=2^7\/m+1=2^9\/m+1=2^11\/m+1=2^13
abbrev tU(m:Nat)(h:Int):Nat×Nat:=(SetTable.bits h%(m+1),SetTable.bits h)
def Ld(hm:nE m)(h:Int)(hj:j<=m):∃L,L<m+14/\(kT m L (tU m h)).1=j:=by
 have hb:SetTable.bits h<2^64:=by
  unfold SetTable.bits;have h1:=IE h (show(0:Int)<2^64 by decide)
  have h2:=IF h (show(2^64:Int)≠0 by decide)
  lia
 have hp:(kT m 13 (tU m h)).2=0:=by
  rw[Lc];exact Nat.div_eq_of_lt (eO hb (by decide))
 have hi:(kT m 13 (tU m h)).1<=m:=M0 13 _ (DL (Nat.mod_lt _ (Nat.succ_pos _)));have key:∃n,n<m+1/\AB m n (kT m 13 (tU m h)).1=j:=by
  obtain⟨k,hk⟩:∃k,m+1=2^k:=by rcases hm with e|e|e|e|e|e <;> exact⟨_,e⟩
  obtain⟨n,h1,h2⟩:=Ag k (kT m 13 (tU m h)).1 j;rw[<-hk] at h1 h2;exact⟨n,h1,by rw[Mr n _ hi,h2,Nat.mod_eq_of_lt (Nat.lt_succ_of_le hj)]⟩
 obtain⟨n,hn,e⟩:=key;refine⟨13+n,by lia,?_⟩
 rw[Lb,<-e,<-NP,<-hp]
theorem Le:∀(n:Nat) (l:List Nat),(∀j,j<n->j∈l)->n<=l.length
 |0,_,_=>k7 _
 |n+1,l,h=>by
  have m:=h n (by lia)
  have:=Le n (l.erase n) λj hj=>(List.mem_erase_of_ne (by lia)).mpr (h j (by lia))
  rw[List.length_erase_of_mem m] at this;have:=List.length_pos_of_mem m;lia
section
variable{t:ql}
def iK(t:ql):Nat->SetTable.Probe->SetTable.Probe
 |0,p=>p
 |n+1,p=>iK t n (t.advance p)
theorem Ka:∀(a b:Nat) (p:SetTable.Probe),iK t (a+b) p=iK t b (iK t a p)
 |0,b,q=>by rw[yv];rfl
 |a+1,b,q=>by rw[Nat.succ_add];exact Ka a b _
def yg(m:Nat)(q:Nat×Nat):SetTable.Probe:=⟨q.1,SetTable.runEnd m q.1 - q.1,q.1,q.2,none⟩
theorem Lf:∀(m:Nat) (p:SetTable.Probe),p.more=m->p.dummy=none->iK t (m+1) p=yg t.mask (SetTable.leap t.mask p.i p.perturb)
 |0,⟨j,_,i,u,_⟩,rfl,rfl=>rfl
 |m+1,⟨j,_,i,u,_⟩,rfl,rfl=>Lf m ⟨j+1,m,i,u,none⟩ rfl rfl
theorem Lg:∀(L:Nat) (q:Nat×Nat),∃n,n<=10*L/\iK t n (yg t.mask q)=yg t.mask (kT t.mask L q)
 |0,q=>⟨0,bC _,rfl⟩
 |L+1,q=>by
  obtain⟨n,h1,h2⟩:=Lg L (SetTable.leap t.mask q.1 q.2);refine⟨SetTable.runEnd t.mask q.1 - q.1+1+n,?_,?_⟩
  .unfold SetTable.runEnd;split <;> lia
  .rw[Ka,show iK t (SetTable.runEnd t.mask q.1 - q.1+1) (yg t.mask q)=_ from Lf _ _ rfl rfl];exact h2
def vi(hd:t.dummies=#[])(j:Nat):SetTable.has t.dummies j=false:=by unfold SetTable.has;rw[hd];simp
def Tj(hd:t.dummies=#[])(h:j∉t.place.toList):t.slot j=.empty:=by
 unfold SetTable.slot;dsimp only;rw[vi hd,aO]
 .rfl
 .intro e;obtain⟨hl,e⟩:=ub.mp (beq_iff_eq.mp e);exact h (by rw[<-e];exact Array.getElem_mem_toList hl)
def Tn(hd:t.dummies=#[]):t.slot j≠.dummy:=by
 unfold SetTable.slot;dsimp only;rw[vi hd];split <;> simp
def TC(h:t.slot j=.live i):i<t.place.size:=by
 unfold SetTable.slot at h;dsimp only at h;split at h
 .rename_i e
  cases h;exact(ub.mp (beq_iff_eq.mp e)).1
 .split at h <;> cases h
def hole(hm:nE t.mask)(hd:t.dummies=#[])(hl:t.place.size<=t.mask)(h:Int):∃N,N<10*SetTable.turns t.mask/\t.slot (iK t N (t.probeStart h)).j=.empty:=by
 have:∃j,j<t.mask+1/\j∉t.place.toList:=by
  apply kj;intro c;have:=Le (t.mask+1) t.place.toList λj hj=>kj λq=>c ⟨j,hj,q⟩
  rw[Bt] at this;lia
 obtain⟨j,hj,hn⟩:=this;obtain⟨L,h1,h2⟩:=Ld hm h (DL hj);obtain⟨n,h3,h4⟩:=Lg (t:=t) L (tU t.mask h);refine⟨n,by unfold SetTable.turns;lia,?_⟩
 rw[show t.probeStart h=yg t.mask (tU t.mask h) from rfl,h4,show(yg t.mask _).j=_ from h2];exact Tj hd hn
theorem M1(hd:t.dummies=#[]){ha:Nat->Int}{h:Int}:∀(fuel d:Nat) (p:SetTable.Probe),d<fuel->p.dummy=none->t.slot (iK t d p).j=.empty->
  (∃j,SetTable.probe.go t ha h fuel p=some (.empty j none))\/∃j i c r,SetTable.probe.go t ha h fuel p=some (.candidate j i r)/\t.slot j=.live i/\c<d/\r.dummy=none/\t.slot (iK t c r).j=.empty
 |0,_,_,hf,_,_=>bG hf (wM _)
 |fuel+1,d,p,hf,hp,hs=>by
  unfold SetTable.probe.go;have ad:(t.advance p).dummy=none:=by unfold SetTable.advance;split <;> exact hp
  cases q:t.slot p.j with
  |empty=>exact .inl ⟨p.j,by rw[hp]⟩
  |dummy=>exact bG q (Tn hd)
  |live i=>
   cases d with
   |zero=>exact bG (q.symm.trans hs) (by simp)
   |succ d=>
    dsimp only;split
    .exact .inr ⟨_,_,d,_,rfl,q,r9 _,ad,hs⟩
    .rcases M1 hd fuel d (t.advance p) (by lia) ad hs with z|⟨j,i,c,r,h1,h2,h3,h4⟩
     .exact .inl z
     .exact .inr ⟨j,i,c,r,h1,h2,Bw h3,h4⟩
end
section
variable{m:Nat}{ow:Array (ah Nat)}
theorem Lh:∀(fuel:Nat) (q:Nat×Nat),(∃L,L<fuel/\(ow.getD (kT m L q).1 (some 0)).isNone=true)->∃j,SetTable.layClean.free m ow fuel q.1 q.2=some j/\(ow.getD j (some 0)).isNone=true
 |0,_,⟨_,h,_⟩=>bG h (wM _)
 |fuel+1,q,⟨L,h1,h2⟩=>by
  unfold SetTable.layClean.free;cases e:(List.range (SetTable.runEnd m q.1+1 - q.1)).find? λk=>(ow.getD (q.1+k) (some 0)).isNone with
  |some k=>exact⟨_,rfl,(List.find?_some e :)⟩
  |none=>
   cases L with
   |zero=>exact bG h2 (List.find?_eq_none.mp e 0 (k6.mpr (by unfold SetTable.runEnd;split <;> lia)))
   |succ L=>exact Lh fuel _ ⟨L,by lia,h2⟩
structure nD (m k:Nat) (ow:Array (ah Nat)):Prop where
 sz:ow.size=m+1
 ct:ow.toList.countP Option.isSome=k
 lt:∀v,some v∈ow.toList->v<k
def ES(mask:Nat)(bB:ah (Array (ah Nat)×Nat))(h:Int):ah (Array (ah Nat)×Nat):=do
 let (ow,k) <-bB
 let j <-SetTable.layClean.free mask ow (SetTable.turns mask) (SetTable.bits h%(mask+1)) (SetTable.bits h)
 pure (ow.setIfInBounds j (some k),k+1)
def nD.next{k:Nat}(I:nD m k ow)(hm:nE m)(hk:k<=m)(h:Int):∃AR,ES m (some (ow,k)) h=some (AR,k+1)/\nD m (k+1) AR:=by
 have hole:∃j,j<m+1/\ow[j]?=some none:=by
  apply kj;intro c;have:ow.toList.countP Option.isSome=ow.toList.length:=List.countP_eq_length.mpr λa ha=>by
   obtain⟨j,hj,e⟩:=List.getElem_of_mem ha;cases a with
   |some _=>rfl
   |none=>exact bG ⟨j,by rw[<-I.sz];simpa using hj,by rw[<-uc,gp hj,e]⟩ c
  rw[I.ct,Bt,I.sz] at this;lia
 obtain⟨j0,YT,e0⟩:=hole;obtain⟨L,h1,h2⟩:=Ld hm h (DL YT);obtain⟨j,g1,g2⟩:=Lh (m:=m) (ow:=ow) (SetTable.turns m) (tU m h) ⟨L,by unfold SetTable.turns;lia,by rw[h2,Array.getD_eq_getD_getElem?,e0];rfl⟩
 have ej:ow[j]?=some none:=by
  rw[Array.getD_eq_getD_getElem?] at g2;cases q:ow[j]? with
  |none=>rw[q] at g2;cases g2
  |some x=>rw[q] at g2;cases x with|none=>rfl|some _=>cases g2
 obtain⟨hj,ej⟩:=ub.mp ej;refine⟨ow.setIfInBounds j (some k),?_,by rw[Array.size_setIfInBounds,I.sz],?_,λv hv=>?_⟩
 .unfold ES;show(SetTable.layClean.free m ow _ _ _).bind _=_;rw[g1];rfl
 .rw[Array.toList_setIfInBounds,List.countP_set (by simpa using hj),I.ct]
  simp[ej]
 .rw[Array.toList_setIfInBounds] at hv;rcases List.mem_or_eq_of_mem_set hv with z|z
  .exact Bw (I.lt v z)
  .cases z;exact r9 _
theorem Kb(hm:nE m):∀(hs:List Int) {k:Nat} {ow:Array (ah Nat)},nD m k ow->k+hs.length<=m+1->∃AR,hs.foldl (ES m) (some (ow,k))=some (AR,k+hs.length)/\nD m (k+hs.length) AR
 |[],k,ow,I,_=>⟨ow,rfl,I⟩
 |h::hs,k,ow,I,hl=>by
  rw[dg] at hl;obtain⟨o1,e1,I1⟩:=I.next hm (by lia) h
  obtain⟨o2,e2,I2⟩:=Kb hm hs I1 (by lia)
  rw[show k+1+hs.length=k+(h::hs).length by simp;lia] at e2 I2
  exact⟨o2,by rw[Bz,e1,e2],I2⟩
def TF{fg mv:Nat}{ld pl:Bool}(hm:nE m)(es:Array (Int×ai))(hl:es.size<=m):
  ∃t order,SetTable.laid m fg mv ld pl (es.map (·.1))=some (t,order)/\(order.filterMap (es[·]?)).size=es.size/\(∀e,e∈(order.filterMap (es[·]?)).toList->e∈es.toList)/\t.mask=m/\t.dummies=#[]/\t.place.size=es.size:=by
 obtain⟨ow,e,I⟩:=Kb hm (es.map (·.1)).toList (k:=0) (ow:=Array.replicate (m+1) none) ⟨Array.size_replicate,by simp,λv hv=>by simp at hv⟩ (by simp;lia)
 rw[show(es.map (·.1)).toList.length=es.size by simp,yv] at e I
 have el:SetTable.layClean m (es.map (·.1))=some ow:=by
  unfold SetTable.layClean;rw[<-Array.foldl_toList];have e:(es.map (·.1)).toList.foldl _ (some (Array.replicate (m+1) none,0))=_:=e
  erw [e]
  rfl
 have eo:ow.toList=(List.range (m+1)).map λj=>ow.getD j none:=by
  refine List.ext_getElem (by simp[I.sz]) λi h1 h2=>?_
  have h1:i<ow.size:=by simpa using h1
  rw[List.getElem_map,List.getElem_range,Array.getD_eq_getD_getElem?,pF h1];rfl
 generalize hL:(List.range (m+1)).filterMap (λj=>(ow.getD j none).map (j,·))=L
 have ln:L.length=es.size:=by
  rw[<-hL,List.length_filterMap_eq_countP,<-I.ct,eo,List.countP_map];refine List.countP_congr λx _=>?_
  simp
 have lt:∀p∈L,p.2<es.size:=λp hp=>by
  rw[<-hL] at hp;obtain⟨j,h1,h2⟩:=wC.mp hp;obtain⟨v,e1,e2⟩:=cS.mp h2;rw[<-e2];exact I.lt v (by rw[eo,<-e1];exact dF.mpr ⟨j,h1,rfl⟩)
 refine⟨⟨m,(L.map (·.1)).toArray,#[],fg,ld,mv,pl⟩,(L.map (·.2)).toArray,?_,?_,λe he=>?_,rfl,rfl,by simp[ln]⟩
 .unfold SetTable.laid;rw[el];rw[<-hL];rfl
 .rw[<-Bt,Array.toList_filterMap,List.length_filterMap_eq_countP];rw[List.countP_eq_length.mpr]
  .simp[ln]
  .intro v hv;obtain⟨p,hp,rfl⟩:=dF.mp hv;simp[lt p hp]
 .rw[Array.toList_filterMap] at he;obtain⟨v,_,e2⟩:=wC.mp he;exact kg (by rw[uc];exact e2)
end
structure D5 (P:cL) (w:bX) (A:cy) (E:ai->au->Prop) (s:au) (a:aj) (o:Obj) (es:Array (Int×ai)) (ep:Nat) (t:ql) (x:ai):Prop where
 ho:s.heap.get? a=some o
 hd:o.data=.set es ep t
 zN:t.dummies=#[]
 sz:t.place.size=es.size
 mo:nE t.mask
 lt:es.size<t.mask
 rf:∀e,e∈es.toList->∃b,e.2=.ref b
 eqs:∀e,e∈es.toList->∀(R:Bool->au->Prop),R false s->wpAny (model P w) A (eqBool e.2 x) R E s
 seen:∀(l:List ai),(∀y,y∈l->∃e,e∈es.toList/\e.2=y)->∀(R:Bool->au->Prop),R false s->wpAny (model P w) A (searchCouldBeSeen x l) R E s
def TH{α:Type}{M:Model}{c:Prop}[Decidable c]{m:Sem Bool}{u r:Sem α}{Q:α->au->Prop}(h1:∀(R:Bool->au->Prop),R false s->wpAny M A m R E s)(h:wpAny M A r Q E s):
  wpAny M A (if c then m >>= λb=>if b=true then u else r else r) Q E s:=by
 split
 .exact aE (h1 _ (by rw[aO (by decide)];exact h))
 .exact h
section
variable{P:cL}{w:bX}{A:cy}{E:ai->au->Prop}{s:au}{a:aj}{o:Obj}{es:Array (Int×ai)}{ep:Nat}{t:ql}{x:ai}{h:Int}
def ET(d:t.dummies=#[])(z:t.place.size=n)(l:n<=t.mask):t.fits n=true:=by
 unfold SetTable.fits SetTable.fill;rw[d,z];simpa using l
def Wh(m:nE t.mask):t.gaveWay=false:=by
 unfold SetTable.gaveWay;rcases m with e|e|e|e|e|e <;> rw[Nat.succ.inj e] <;> rfl
def C3(S:D5 P w A E s a o es ep t x){Q:(Array (Int×ai)×Nat×ql)->au->Prop}(q:Q (es,ep,t) s):wpAny (model P w) A (setState a) Q E s:=wpAny_setState_of S.ho S.hd (ET S.zN S.sz (Br S.lt)) q
theorem Jb(S:D5 P w A E s a o es ep t x){R:SetFound->au->Prop}(q:∀j,R (.free j false) s):∀(fuel d:Nat) (pq:ah SetTable.Probe) (p:SetTable.Probe),pq.getD (t.probeStart h)=p->d<fuel->d<10*SetTable.turns t.mask->p.dummy=none->t.slot (iK t d p).j=.empty->
  wpAny (model P w) A (setSearchFrom a x h true fuel pq) R E s
 |0,_,_,_,_,hf,_,_,_=>bG hf (wM _)
 |fuel+1,d,pq,p,hs,hf,ht,hp,hh=>by
  show wpAny _ _ (setState a >>= _) _ _ _;refine aE (C3 S ?_);dsimp only;rw[Wh S.mo];simp only[jE,iY];rw[hs];rcases M1 S.zN (ha:=λi=>(es[i]?.map (·.1)).getD 0) (h:=h) (10*SetTable.turns t.mask) d p ht hp hh with⟨j,g⟩|⟨j,i,c,r,g,sl,hc,hr,hz⟩
  .have g:t.probe (λi=>(es[i]?.map (·.1)).getD 0) h p=_:=g
   erw [g]
   exact a_ (q j)
  .have g:t.probe (λi=>(es[i]?.map (·.1)).getD 0) h p=_:=g
   have hl:i<es.size:=by rw[<-S.sz];exact TC sl
   have ei:es[i]?=some es[i]:=pF hl;have he:es[i]∈es.toList:=Array.getElem_mem_toList hl;obtain⟨b,hb⟩:=S.rf _ he
   erw [g]
   dsimp only;refine TH (λR hR=>S.seen _ (λy hy=>?_) R hR) ?_
   .obtain⟨f,hf,rfl⟩:=dF.mp hy;have hf:f∈es/\f.1=h:=by simpa using hf
    exact⟨f,by simpa using hf.1,rfl⟩
   rw[ei];dsimp only;refine aE (jH (S.eqs _ he _ ?_));refine aE (C3 S ?_);dsimp only;simp only[By,jE,iY];rw[show t.sameMemory t.moves t.mask=some true by unfold SetTable.sameMemory;simp]
   dsimp only;rw[aU rfl,sl];dsimp only;rw[ei];dsimp only;rw[hb];refine aE (wpAny_isSame_ref_self (aE (a_ ?_)));rw[aU rfl];dsimp only;exact Jb S q fuel c _ r rfl (by lia) (by lia) hr hz
def Ms{es':Array (Int×ai)}{t':ql}(ho:hp.get? a=some o)(hd:o.data=.set es ep t):(hp.update a (Obj.putSet es' t')).get? a=some { o with data:=.set es' (ep+1) t'}/\Heap.SameBut a hp (hp.update a (Obj.putSet es' t')):=by
 have z:=nu (Obj.putSet es' t') ho (by rw[putSet_of es' t' hd];rfl)
 rw[putSet_of es' t' hd] at z;exact⟨z,Heap.SameBut.update _ a _⟩
def TL(hm:nE m)(h1:n*5<m*3)(h2:m*3<=(n+1)*5)(h3:n<4096):∃m',nE m'/\SetTable.sizeAbove (SetTable.grown (n+1)) - 1=m'/\(n+1)*5<m'*3/\SetTable.grown (n+1)<=10000:=by
 unfold nE at hm;have:n=4\/n=18\/n=76\/n=306\/n=1228:=by lia
 rcases this with rfl|rfl|rfl|rfl|rfl <;> exact⟨_,by decide +kernel,rfl,by decide +kernel,by decide +kernel⟩
abbrev ui(t:ql)(n:Nat):Prop:=t.dummies=#[]/\t.place.size=n/\nE t.mask/\n*5<t.mask*3
def Wi(S:D5 P w A E s a o es ep t x)(T:ui t es.size)(h8:es.size<4096)(hx:∃b,x=.ref b)(hv:∀(R:Bool->au->Prop),(∀b,R b s)->wpAny (model P w) A (hashByValue 8 x) R E s)
  (q:∀(es':Array (Int×ai)) (mK:Nat) (t':ql),ui t' es'.size->es'.size=es.size+1->(∀e,e∈es'.toList->e=(h,x)\/e∈es.toList)-> ∀h',Heap.SameBut a s.heap h'->h'.get? a=some { o with data:=.set es' mK t'}->Q true { s with heap:=h'}):wpAny (model P w) A (setAddHashed a x h) Q E s:=by
 obtain⟨b,rfl⟩:=hx;unfold setAddHashed setAddHashedIn;refine jH (aE (C3 S ?_));dsimp only;have hb:byScan (.ref b) es=false:=rfl;rw[hb];simp only[jE,iY];obtain⟨N,hN,hh⟩:=hole S.mo S.zN (by rw[S.sz];exact Br S.lt) h
 have hM:10*SetTable.turns t.mask<100000:=by unfold SetTable.turns;rcases S.mo with e|e|e|e|e|e <;> lia
 refine aE (Jb S (λj=>?_) 100000 N none _ rfl (by lia) hN rfl hh)
 dsimp only;refine aE (C3 S ?_);dsimp only;have ip:=SetTable.insertAt_perm es (t.put j).2 (h,Value.ref b);have p1:(t.put j).1.dummies=#[]/\(t.put j).1.place.size=es.size+1/\(t.put j).1.mask=t.mask:=by
  unfold SetTable.put;dsimp only;rw[vi S.zN,<-S.sz];have:=(SetTable.insertAt_perm t.place (SetTable.below t.place j) j).length_eq;exact⟨S.zN,by simpa using this,rfl⟩
 generalize t.put j=tp at *;obtain⟨t1,p⟩:=tp;dsimp only at *;have yh:(SetTable.insertAt es p (h,Value.ref b)).size=es.size+1:=by simpa using ip.length_eq
 have im:∀e,e∈(SetTable.insertAt es p (h,Value.ref b)).toList->e=(h,Value.ref b)\/e∈es.toList:=λe he=>by
  have:=ip.mem_iff.mp he;rw[Array.toList_push,dD,dW] at this;exact this.symm
 generalize SetTable.insertAt es p (h,Value.ref b)=p7 at *;have step:∀t2:ql,t2.dummies=#[]->t2.place.size=es.size+1->t2.mask=t.mask->wpAny (model P w) A (do
   storeSet a p7 t2
   if !false&&t2.tooFull then setRelay a (SetTable.grown (es.size+1))
   return true) Q E s:=by
  intro t2 d2 z2 m2;have k0:p7.size<=sizeLine:=by rw[sizeLine_eq];lia
  refine aE (wpAny_storeSet_of S.ho S.hd ?_ k0);obtain⟨g1,t6⟩:=Ms (es':=p7) (t':=t2) S.ho S.hd;have fl:t2.tooFull=decide (t.mask*3<=(es.size+1)*5):=by unfold SetTable.tooFull SetTable.fill;rw[d2,z2,m2];rfl
  rw[fl];by_cases c:t.mask*3<=(es.size+1)*5
  .rw[eP c];simp only[Bool.not_false,Bool.and_self,wN];obtain⟨mk,gm,g5,g6,g7⟩:=TL S.mo T.2.2.2 c h8;obtain⟨t3,order,el,ez,em,e1,e2,e3⟩:=TF (m:=mk) (fg:=t2.finger) (mv:=t2.movedTo mk) (ld:=t2.led) (pl:=t2.plain) gm p7 (by lia)
   refine aE ?_;unfold setRelay;refine aE (wpAny_setState_of g1 rfl (ET d2 (z2.trans yh.symm) (by have:=S.lt;lia)) ?_)
   dsimp only;have er:t2.relaid (p7.map (·.1)) (SetTable.grown (es.size+1))=some (t3,order):=by
    unfold SetTable.relaid;rw[g5];exact el
   rw[er,aO (by rw[sizeLine_eq];lia)]
   refine aE ?_;show wpAny _ _ (if(order.filterMap (p7[·]?)).size != p7.size then _ else pure (order.filterMap (p7[·]?),t3)) _ _ _
   rw[ez];simp only[bne_self_eq_false,jE,iY];generalize order.filterMap (p7[·]?)=Nq at *
   refine a_ ?_;dsimp only;refine wpAny_storeSet_of g1 rfl ?_ (by rw[ez];exact k0)
   obtain⟨g3,A5⟩:=Ms (es':=Nq) (t':=t3) g1 rfl;exact a_ (q Nq _ t3 ⟨e2,by rw[e3,ez],by rw[e1];exact gm,by rw[e1];lia⟩ (ez.trans yh) (λe he=>im e (em e he)) _ (t6.trans A5) g3)
  .rw[eC c];simp only[By,jE,iY];exact a_ (q p7 _ t2 ⟨d2,by lia,by rw[m2];exact S.mo,by rw[m2];lia⟩ yh im _ t6 g1)
 split
 .refine aE (hv _ λb1=>?_)
  cases b1 with
  |true=>exact step t1 p1.1 p1.2.1 p1.2.2
  |false=>exact step { t1 with plain:=false} p1.1 p1.2.1 p1.2.2
 .exact aE (a_ (step t1 p1.1 p1.2.1 p1.2.2))
end
section
variable{X:Cx}{ae:List (aj×Obj)}{Z:St}{H:Hp}
theorem EU{P:ai->Prop}:∀{l:List TK} {ws:List V} {aA:List ai},(∀k,k∈l->∀y u,aQ X.K H [y] [k.d]->RelV y u->P u)->aQ X.K H ws (TK.dl l)->Vals ws aA->∀v∈aA,P v
 |[],_,_,_,r,rv,v,m=>by
  simp only[TK.dl] at r;cases r;cases rv;cases m
 |k::l,_,_,h,r,rv,v,m=>by
  simp only[TK.dl] at r;cases rv with
  |nil=>cases m
  |cons u us=>
   obtain⟨r1,r2⟩:=r.inv;rcases y06.mp m with rfl|m
   .exact h k (pD ..) _ _ r1 u
   .exact EU (λk m=>h k (mD _ m)) r2 us v m
def Cc{y:V}{u:ai}(r:aQ X.K H [y] [k.d])(ru:RelV y u)(hk:∀l,k≠.tp l):ofAClassStatement n u=pure false/\∃b,hashByValue n u=pure b:=by
 cases k with
 |tp l=>exact bG rfl (hk l)
 |_=>simp only[TK.d] at r;cases r.one with|flat q=>cases q;(first|obtain⟨t,rfl⟩:=ru|cases ru);exact⟨by cases n <;> rfl,_,by cases n <;> rfl⟩
def Li(I:Inv X ae Z H s):∀(n:Nat) {k:TK} {y:V} {u:ai},aQ X.K H [y] [k.d]->k.ok n=true->RelV y u->∀{Q:Bool->au->Prop},Q false s->wpAny (model X.prog X.w) A (ofAClassStatement n u) Q E s:=by
 intro n
 induction n with
 |zero=>
  intro k y u r ok ru Q h;rw[(Cc r ru λl e=>by rw[e] at ok;simp[TK.ok] at ok).1]
  exact a_ h
 |succ n ih=>
  intro k y u r ok ru Q h;cases k with
  |tp l=>
   obtain⟨a,ws,rfl,q,i⟩:=af.isTup r;cases ru;obtain⟨aA,rv,pl,_⟩:=I.tuple q;have ok:l.all (TK.ok n)=true:=by simpa only[TK.ok] using ok
   have al:=EU (P:=λv=>∀{Q:Bool->au->Prop},Q false s->wpAny (model X.prog X.w) A (ofAClassStatement n v) Q E s) (λk m y u r ru Q h=>ih r (gF.mp ok k m) ru h) i rv
   have hT:s.TypeIs (.ref a) "tuple":=pl.typeIs;obtain⟨o,g1,g2,nn,g3⟩:=pl;unfold ofAClassStatement;refine aE (wpAny_typeOf hT ?_);dsimp only;rw[aU (by decide)]
   refine aE (a_ ?_);simp only[wH,jE,iY];refine aE (wpAny_seqItems g1 g3 (aE ?_));show wpAny _ _ (forIn aA.toArray _ _) _ _ s;rw[<-Iv];refine wpAny_forIn_list _ (λrest r s'=>r.1=none/\s'=s/\∀v∈rest,v∈aA) _ ?_ ?_ _ _ ⟨rfl,rfl,λv m=>m⟩
   .rintro v rest r s' ⟨hr,rfl,hm⟩;refine aE (al v (hm v (pD ..)) ?_);simp only[jE,iY];exact a_ ⟨rfl,rfl,λv m=>hm v (mD _ m)⟩
   .rintro⟨r1,r2⟩ s' ⟨hr,rfl,_⟩;cases(show r1=none from hr);exact a_ h
  |_=>rw[(Cc r ru λl=>by simp).1];exact a_ h
theorem TM(I:Inv X ae Z H s):∀(n:Nat) {k:TK} {y:V} {u:ai},aQ X.K H [y] [k.d]->k.ok n=true->RelV y u->∀{Q:Bool->au->Prop},(∀b,Q b s)->wpAny (model X.prog X.w) A (hashByValue n u) Q E s:=by
 intro n
 induction n with
 |zero=>
  intro k y u r ok ru Q h;obtain⟨b,e⟩:=(Cc (n:=0) r ru λl e=>by rw[e] at ok;simp[TK.ok] at ok).2
  rw[e];exact a_ (h b)
 |succ n ih=>
  intro k y u r ok ru Q h;cases k with
  |tp l=>
   obtain⟨a,ws,rfl,q,i⟩:=af.isTup r;cases ru;obtain⟨aA,rv,pl,_⟩:=I.tuple q;have ok:l.all (TK.ok n)=true:=by simpa only[TK.ok] using ok
   have al:=EU (P:=λv=>∀{Q:Bool->au->Prop},(∀b,Q b s)->wpAny (model X.prog X.w) A (hashByValue n v) Q E s) (λk m y u r ru Q h=>ih r (gF.mp ok k m) ru h) i rv
   have hT:s.TypeIs (.ref a) "tuple":=pl.typeIs;obtain⟨o,g1,g2,nn,g3⟩:=pl;show wpAny _ _ (specialOf (.ref a) "__hash__" >>= _) _ _ _;refine aE (wpAny_specialOf hT F.slot_tuple_hash.lookup ?_);dsimp only;refine aE (wpAny_seqItems g1 g3 (aE ?_));show wpAny _ _ (forIn aA.toArray _ _) _ _ s;rw[<-Iv];refine wpAny_forIn_list _ (λrest r s'=>s'=s/\∀v∈rest,v∈aA) _ ?_ ?_ _ _ ⟨rfl,λv m=>m⟩
   .rintro v rest r s' ⟨rfl,hm⟩;refine aE (al v (hm v (pD ..)) λb=>?_)
    cases b with
    |true=>exact a_ ⟨rfl,λv m=>hm v (mD _ m)⟩
    |false=>exact a_ (a_ (h _))
   .rintro⟨r1,r2⟩ s' ⟨rfl,_⟩;cases r1 <;> exact a_ (h _)
  |_=>obtain⟨b,e⟩:=(Cc (n:=n+1) r ru λl=>by simp).2;rw[e];exact a_ (h b)
structure BF (X:Cx) (H:Hp) (ks:List TK) (vs:List ai):Prop where
 len:vs.length=ks.length
 nd:ks.Nodup
 at_:∀(j:Nat) (k:TK),ks[j]?=some k->∃a l,vs[j]?=some (.ref a)/\aQ X.K H [.ref a] [k.d]/\k=.tp l/\k.ok 8=true
def kK(es:Array (Int×ai))(ep:Nat)(t:ql):Obj:={ cls:=.type "set",dict:=none,data:=.set es ep t}
def jJ(S:aj)(vs:List ai)(i:Nat)(hp:bJ):Prop:=∃es ep t,hp.get? S=some (kK es ep t)/\ui t es.size/\es.size=i/\∀e∈es.toList,∃j,j<i/\vs[j]?=some e.2
def TN{v:ai}(L:BF X H ks vs)(I:Inv X ae Z H s)(hu:A.units+9<cLine)(Zq:jJ S vs i s.heap)(hi:i<4096)
  (ev:vs[i]?=some v)  (q:∀(b:Bool) (h':bJ) (t':Nat),Heap.SameBut S s.heap h'->jJ S vs (i+1) h'->Q b { s with heap:=h',toks:=t'}):wpAny (model X.prog X.w) A (setAdd S v) Q E s:=by
 have key:∀(j:Nat) (u:ai),vs[j]?=some u->∃k a l,ks[j]?=some k/\u=.ref a/\aQ X.K H [.ref a] [k.d]/\k=.tp l/\k.ok 8=true:=λj u e=>by
  have hj:=(cK.mp e).1;have ek:ks[j]?=some (ks[j]'(by rw[<-L.len];exact hj)):=gp _
  obtain⟨a,l,h1,h2,h3,h5⟩:=L.at_ j _ ek;rw[e] at h1;cases h1;exact⟨_,a,l,ek,rfl,h2,h3,h5⟩
 obtain⟨k,b,l,ek,rfl,rb,rfl,ok⟩:=key i v ev;obtain⟨es,ep,t,g1,T,g4,g6⟩:=Zq;subst g4;unfold setAdd;refine jH (aE (Eu 8 I rb ok rfl (by lia) λtk=>?_))
 have I':=I.tok tk;have lt:es.size<t.mask:=by have:=T.2.2.2;rcases T.2.2.1 with e|e|e|e|e|e <;> lia
 refine Wi (P:=X.prog) (w:=X.w) (s:={ s with toks:=tk}) (x:=.ref b) (o:=kK es ep t) ⟨g1,rfl,T.1,T.2.1,T.2.2.1,lt,λe he=>?_,λe he R hR=>?_,λst lF R hR=>?_⟩ T hi ⟨b,rfl⟩ (λR hR=>TM I' 8 rb ok rfl hR) λes' mK t' T' z' me h' sb gh=>q true h' tk sb ⟨es',mK,t',gh,T',z',λe he=>?_⟩
 .obtain⟨j,_,e1⟩:=g6 e he;obtain⟨_,a,_,_,e2,_⟩:=key j _ e1;exact⟨a,e2⟩
 .obtain⟨j,hj,e1⟩:=g6 e he;obtain⟨k',a,l',e2,e3,ra,_,oa⟩:=key j _ e1;rw[e3];refine(xx I' 8 8 ra rb (qB 8 oa) (qB 8 ok) rfl rfl (by lia)).1 X.prog X.w E R ?_
  rw[za,eC λz=>?_]
  .exact hR
  .rw[z,<-ek] at e2;exact bG ((List.getElem?_inj (cK.mp ek).1 L.nd).mp e2.symm) (by lia)
 .unfold searchCouldBeSeen;refine aE (wpAny_forIn_list _ (λrest r s'=>r.1=none/\s'={ s with toks:=tk}/\∀y,y∈rest->∃e,e∈es.toList/\e.2=y) _ ?_ ?_ _ _ ⟨rfl,rfl,lF⟩)
  .rintro y rest r s' ⟨hr,rfl,hy⟩;obtain⟨e,he,rfl⟩:=hy _ (pD ..);obtain⟨j,hj,e1⟩:=g6 e he;obtain⟨k',a,l',e2,e3,ra,rfl,oa⟩:=key j _ e1;have NW:∀y,y∈rest->∃e,e∈es.toList/\e.2=y:=λy m=>hy y (mD _ m)
   rw[e3];dsimp only;split
   .exact a_ ⟨rfl,rfl,NW⟩
   .refine aE (B6 8 I' rb ok rfl ?_);simp only[wH,jE,iY];refine aE (B6 8 I' ra oa rfl ?_);simp only[wH,jE,iY];refine aE (Li I' 8 rb ok rfl ?_);simp only[jE,iY];refine aE (Li I' 8 ra oa rfl ?_);simp only[jE,iY];exact a_ ⟨rfl,rfl,NW⟩
  .rintro⟨r1,r2⟩ s' ⟨hr,rfl,_⟩;cases(show r1=none from hr);exact a_ hR
 .rcases me e he with z|z
  .exact⟨es.size,r9 _,by rw[z];exact ev⟩
  .obtain⟨j,hj,e1⟩:=g6 e z;exact⟨j,Bw hj,e1⟩
structure nB (z s:au):Prop where
 eq:s={ z with heap:=s.heap,toks:=s.toks}
 keep:∀b u,z.heap.get? b=some u->s.heap.get? b=some u
def jJ.move{NL:bJ}(Zq:jJ S vs i hp)(k:∀u,hp.get? S=some u->NL.get? S=some u):jJ S vs i NL:=by
 obtain⟨es,ep,t,g,r⟩:=Zq;exact⟨es,ep,t,k _ g,r⟩
theorem eg{R:Result->au->Prop}{J:aj}{z:au}(L:BF X H ks vs)(I:Inv X ae Z H z)(hu:A.units+10<cLine)(hh:A.handled=none)(hn:vs.length<=4096)(nS:z.heap.get? S=none)(nJ:z.heap.get? J=none)(Ge:S≠J)(hl:z.heap.IsList l vs.toArray)
  (fin:∀s,nB z s->jJ S vs vs.length s.heap->R (.ok (.ret .none)) s) :
  ∀(d i:Nat) (s:au),vs.length - i=d->i<=vs.length->nB z s->s.heap.IsListIter J l i->jJ S vs i s.heap->codeAny (model X.prog X.w) A (.builtin "set.update.loop" ⟨[.ref S,.ref J],[]⟩) R s:=by
 intro d
 induction d with
 |zero=>
  intro i s hd hi g it Zq;have e:i=vs.length:=by lia
  subst e;refine codeAny_builtin F.entry_set_update_loop ?_;rw[Around.under_plainId F.plain_set_update_loop _];show wpAny _ A.in1 (pyNext (.ref J) >>= _) _ _ s;refine aE (wpAny_pyNext_list_end hh it (hl.at λo e=>g.keep _ _ e) (by simp) λh' Dl=>?_)
  refine a_ (fin _ ⟨by rw[g.eq],λb u e=>Dl b u (λq=>by rw[q,nJ] at e;cases e) (g.keep b u e)⟩ (Zq.move λu e=>Dl S u Ge e))
 |succ d ih=>
  intro i s hd hi g it Zq;have lt:i<vs.length:=by lia
  refine codeAny_builtin F.entry_set_update_loop ?_;rw[Around.under_plainId F.plain_set_update_loop _];show wpAny _ A.in1 (pyNext (.ref J) >>= _) _ _ s;refine aE (wpAny_pyNext_list_item it (hl.at λo e=>g.keep _ _ e) (x:=vs[i]) (by simp[lt]) λh' AA sb=>?_)
  have g':nB z { s with heap:=h'}:=⟨by rw[g.eq],λb u e=>(sb.extBut b u (λq=>by rw[q,nJ] at e;cases e) (g.keep b u e))⟩
  have I2:Inv X ae Z H { s with heap:=h'}:=by rw[g'.eq];exact I.kept g'.keep
  show wpAny _ A.in1 (holding [vs[i]] (setAdd S vs[i]) >>= _) _ _ _;refine aE (jH (TN L I2 (show A.in1.units+9<cLine from ?_) (Zq.move λu e=>sb.extBut S u Ge e) (by lia) (gp lt) λb h2 t2 s2 Z2=>?_))
  .have e:A.in1.units=A.units+1:=rfl;lia
  .refine a_ ⟨plainId_quiet F.plain_set_update_loop _,ih (i+1) _ (by lia) lt ⟨by rw[g.eq],λb u e=>?_⟩ ?_ Z2⟩
   .rw[s2.2 b (λq=>by rw[q,nS] at e;cases e)]
    exact g'.keep b u e
   .exact AA.at λo e=>by rw[s2.2 J (Ne.symm Ge)];exact e
def Kc{b:aj}(h:hp.objs.size<=b):hp.get? b=none:=by
 cases q:hp.get? b with
 |none=>rfl
 |some u=>exact bG (cQ q) (Nat.not_lt.mpr h)
def Wj:bootBuiltins "set"=some (.type "set"):=by decide +kernel
theorem Oz{Q:ai->au->Prop}(L:BF X H ks vs)(I:Inv X ae Z H s)(hu:A.units+20<cLine)(hh:A.handled=none)(hn:vs.length<=4096)(hl:s.heap.IsList l vs.toArray)
  (q:∀s',nB s s'->jJ s.heap.objs.size vs vs.length s'.heap->Q (.ref s.heap.objs.size) s'):wpAny (model X.prog X.w) A (call (.type "set") [.ref l]) Q E s:=by
 obtain⟨c,tl,cm⟩:=F.called_set.mro;have ma:=F.called_set.made;have su:=F.called_set.sub;refine wpAny_call (codeAny_of_tree ?_);show wpAny _ _ (callAny (.type "set") _) _ _ _;refine a_ ⟨Code.quiet_builtin _ (by decide +kernel),codeAny_builtin F.entry_type_call ?_⟩
 rw[Around.under_plain (weight_type_call_type "set" [.ref l] []) rfl];have h1:=F.called_set.notType;have h2:=F.called_set.canCreate;have h3:=F.typeCall_set_1 (.ref l)
 repeat (any_goals (first|assumption|wp_step))
 refine codeAny_mono (code_set_new_1 (.ref l) (E:=E) (Q₁:=λob z=>∃ld:Bool,ob=.ref s.heap.objs.size/\z={ s with heap:=s.heap.push (kK #[] 0 (.fresh 0 0 ld))}) λld=>⟨ld,rfl,rfl⟩) λr z hr=>?_
 cases r with
 |error e=>exact hr
 |ok fl=>
  cases fl with
  |ret ob=>
   obtain⟨ld,rfl,rfl⟩:=hr;have gS:(s.heap.push (kK #[] 0 (.fresh 0 0 ld))).get? s.heap.objs.size=some (kK #[] 0 (.fresh 0 0 ld)):=jD _ rfl;have hT:Shared.TypeIs { s with heap:=s.heap.push (kK #[] 0 (.fresh 0 0 ld))} (.ref s.heap.objs.size) "set":=⟨_,gS,rfl⟩;have h4:=F.called_set.init.lookup;have h5:=F.called_set.init.bind (.ref s.heap.objs.size)
   repeat (any_goals (first|assumption|wp_step))
   refine codeAny_mono (codeAny_call_builtin (R:=wants (λr z=>r=.none/\nB s z/\jJ s.heap.objs.size vs vs.length z.heap) E) F.called_set.init.plain F.entry_set_init (check_set_init_1 hT ?_)) λr z hr=>?_
   .have gl:(s.heap.push (kK #[] 0 (.fresh 0 0 ld))).IsList l vs.toArray:=hl.push _;obtain⟨ol,Y5,Dj,nl,ND⟩:=gl;obtain⟨ocls,odict,odata,oslots⟩:=ol;simp only at Dj ND;subst Dj;subst ND;have k1:=F.sub_list_set;have k2:=F.sub_list_frozenset;have k3:(Value.type "list" == Value.type "dict")=false:=by decide
    unfold Builtin.«set.__init__» noKeywords Builtin.Frozenset.updateFrom;unfold kK at *;generalize Yy:pyIter=PI
    wp_walk
    subst Yy;refine wpAny_pyIter_list ⟨_,Y5,rfl,nl,rfl⟩ ?_;refine aE (wpAny_runValue ?_);have sz:(s.heap.push { cls:=.type "set",dict:=none,data:=.set #[] 0 (.fresh 0 0 ld)}).objs.size=s.heap.objs.size+1:=by simp[Heap.push]
    refine eg (A:=A.in1.in1) (J:=(s.heap.push { cls:=.type "set",dict:=none,data:=.set #[] 0 (.fresh 0 0 ld)}).objs.size) L I ?_ (show A.in1.in1.handled=none from hh) hn (Kc (bC _)) (Kc (by rw[sz];exact yo _)) (iP (by rw[sz];exact r9 _)) hl (λz g Zq=>?_) (vs.length - 0) 0 _ rfl (k7 _) ?_ ?_ ?_
    .simp only[Around.in1_units];lia
    .refine a_ ?_;show wpAny _ _ (ret Value.none) _ _ _;exact a_ ⟨rfl,g,Zq⟩
    .exact⟨rfl,λb u e=>dU _ (dU _ e)⟩
    .exact⟨_,jD _ rfl,rfl,rfl⟩
    .exact⟨#[],0,_,dU _ gS,⟨rfl,rfl,.inl rfl,by simp[SetTable.fresh]⟩,rfl,λe m=>by simp at m⟩
   .cases r with
    |error e=>exact hr
    |ok fl=>
     cases fl with
     |ret r=>
      obtain⟨rfl,g,Zq⟩:=hr
      repeat (any_goals (first|assumption|wp_step))
      exact q _ g Zq
     |_=>exact hr.elim
  |_=>exact hr.elim
def wt:TK->Bool
 |.tp l=>l.all (TK.ok 7)
 |_=>false
def Mu(h:wt k=true):k.ok 8=true:=by
 cases k with
 |tp l=>simp only[TK.ok];exact h
 |_=>cases h
def Lj(K:aH):List V->Hp->VK->Prop:=λvs H Q=>∃a ws ks,vs=[.ref a]/\cI K H a ws/\aQ K H ws (TK.dl ks)/\ks.Nodup/\ks.all wt=true/\ks.length<=4096/\Q (.int ks.length) H
def P7{l:Expr}{ta:TA}{pos:Pos}(Gq:Gl X "len")(GD:X.mg "len"=none)(hg:Gl X "set")(hm:X.mg "set"=none)(ha:PA X [l] ta)(hc:X.calm=true)(hu:X.A.units+41<cLine)(hs:starEach [l] X.env=[(false,eval l X.env)])
  (p_:starEach [.Call (.Name "set" p1) [l] [] kJ] X.env=[(false,eval (.Call (.Name "set" p1) [l] [] kJ) X.env)]):PE X (.Call (.Name "len" p) [.Call (.Name "set" p1) [l] [] kJ] [] pos) (HP (Lj X.K) ta):=by
 intro ae s Z H Q I h;refine Call_ (qD I Gq GD nZ (PyProof.Rows.callWith_builtin1 ?_ p_ rfl));rw[p_];show wpAny _ _ (spliced ((false,eval (.Call (.Name "set" p1) [l] [] kJ) X.env)::[])) _ _ s;refine Calls.spliced_cons (Call_ (qD I hg hm Wj (PyProof.Rows.callWith_type1 (bz (ha kJ ae s Z H _ I h) λus s1 ⟨vs,H1,I1,r1,q1⟩=>?_) hs rfl)))
 obtain⟨a,ws,ks,e,hq,rk,nd,ok,hn,q⟩:=q1;subst e;obtain⟨u,rfl,ru⟩:=vals1 r1;cases ru;obtain⟨aA,rv,pl,hz⟩:=I1.list hq;rw[xy] at rk;have hl:aA.length=ks.length:=by have:=rk.length;have:=rv.length;simp at *;lia
 have L:BF X H1 ks aA:=⟨hl,nd,λj k e=>by
  obtain⟨y,h1,h2⟩:=rk.get (i:=j) (d:=k.d) (by rw[gn,e];rfl)
  obtain⟨u,u1,u2⟩:=yZ j rv h1;have o:=gF.mp ok k (kg e);cases k with
  |tp l=>
   obtain⟨a,ws,rfl,q,i⟩:=af.isTup h2;cases u2;exact⟨a,l,u1,.tup q i .nil,rfl,Mu o⟩
  |_=>cases o⟩
 refine Oz L I1 (by lia) (I1.ok.hd hc) (by rw[hl];exact hn) pl.isList λs' g ⟨es,ep,t,g1,T,g4,_⟩=>Calls.spliced_nil ?_
 refine call_len_set g1 ⟨rfl,rfl,rfl⟩ rfl (ET T.1 T.2.1 (by have:=T.2.2.2;lia)) (by lia) ?_
 rw[g4,hl];have I2:Inv X ae Z H1 s':=by rw[g.eq];exact I1.kept g.keep
 exact⟨.int ks.length,H1,I2.tok _,⟨_,rfl⟩,q⟩
end
def rh:D->ah Rv
 |.lst l=>(fj l).bind λks=>if ks.Nodup/\ks.all wt=true/\ks.length<=4096 then some (rd (.int ks.length)) else none
 |_=>none
section
variable{X:Cx}{K:aH}{W:XW}{q:Nat}
def TQ:bP K (Lj K) (o1 rh):=vM λk H x a y Q le t e res=>by
 unfold rh at e;split at e
 .obtain⟨ks,q1,e⟩:=cC.mp e;split at e
  .rename_i hn
   cases e;obtain⟨p,ws,rfl,s,r⟩:=t.lst le;have el:=j_ q1;refine⟨p,ws,ks,rfl,s,?_,hn.1,hn.2.1,hn.2.2,res.flat le rfl⟩;rw[el];refine Top.Ho (n:=8) r le ?_;rw[<-el,xy,yr,gF];intro k m;exact qB 8 (Mu (gF.mp hn.2.1 k m))
  .cases e
 .cases e
def Z5{l:Expr}{fs:GA}{pos:Pos}(GD:X.mg "len"=none)(hm:X.mg "set"=none)(ha:PA X [l] (fD K W q fs))(hu:X.A.units+41<cLine)(hc:X.calm=true)(hK:X.K=K)(Gq:Gl X "len")(hg:Gl X "set")(hs:starEach [l] X.env=[(false,eval l X.env)])
  (p_:starEach [.Call (.Name "set" p1) [l] [] kJ] X.env=[(false,eval (.Call (.Name "set" p1) [l] [] kJ) X.env)]):PE X (.Call (.Name "len" p) [.Call (.Name "set" p1) [l] [] kJ] [] pos) (tE K W q (gO (o1 rh) fs)):=by
 subst hK;exact(P7 Gq GD hg hm ha hc hu hs p_).mono λ_ _ _ t=>sR TQ t
end
def nY:D->D->ah Rv
 |.tup (x::xs),.tup (y::ys)=>if(x::xs).length+(y::ys).length<=1000000 then some (rd (.tup ((x::xs)++(y::ys)))) else none
 |_,_=>none
section
variable{X:Cx}{K:aH}{W:XW}{q:Nat}
def TR:bP K (j5 (tW K)) (o2 nY):=rC λk H x z a b y Q le t1 t2 e res=>by
 unfold nY at e;split at e
 .split at e
  .cases e;obtain⟨a1,Of,rfl,s1,r1⟩:=t1.tup le;obtain⟨a2,yk,rfl,s2,r2⟩:=t2.tup le;obtain⟨_,_,rfl,_⟩:=r1.cx;obtain⟨_,_,rfl,_⟩:=r2.cx;exact⟨a1,a2,_,_,rfl,rfl,s1,s2,IG _ _,ml (by rw[r1.length,r2.length];assumption),λz=>bG z (IG _ _),λ_ p hp=>res.tup le (r1.append r2) hp⟩
  .cases e
 .cases e
def Bo:lh K .Add (o2 nY):=λX h=>⟨_,h ▸ R_,TR⟩
end
abbrev zD:=o2 nY
def j7(S:ba):Nat->D->ah D
 |0,d=>if bR 9 d=true then some d else none
 |n+1,.tup ds=>(ds.mapM (j7 S n)).map .tup
 |n+1,.ref i=>(S.r[i]?).bind λc=>match c with
  |.o (.lst xs)=>(xs.mapM (j7 S n)).map .lst
  |_=>none
 |_+1,d=>if bR 9 d=true then some d else none
def zY(f g:GE):GE:=λU S=>bd (aV f g U S) λvs S1=>match vs with
 |[.d a,.d b]=>(j7 S1 2 a).bind λa'=>(j7 S1 2 b).bind λb'=>(p6 false a' b').map λr=>.ok r S1
 |_=>none
section
variable{X:Cx}{K:aH}{W:XW}{q:Nat}{k:Kn}{H:Hp}{S:ba}
theorem pk{f:D->ah D}(hf:∀d d' x,af K k [x] [d]->f d=some d'->aQ K H [x] [d']):∀{ds xQ:List D} {ws:List V},af K k ws ds->ds.mapM f=some xQ->aQ K H ws xQ
 |[],xQ,ws,r,e=>by
  rw[List.mapM_nil] at e;cases e;rw[r.eS];exact .nil
 |d::ds,xQ,ws,r,e=>by
  obtain⟨x,us,rfl,r1,r2⟩:=r.cx;rw[IH] at e;obtain⟨d1,e1,e⟩:=cC.mp e;obtain⟨ds1,e2,e⟩:=cC.mp e;cases e;exact .cons (hf _ _ _ r1 e1) (pk hf r2 e2)
def Lk(ok:bO K k H S):∀(n:Nat) (d d':D) (x:V),af K k [x] [d]->j7 S n d=some d'->aQ K H [x] [d']:=by
 have fl:∀{d d':D} {x:V},af K k [x] [d]->(if bR 9 d=true then some d else none)=some d'->aQ K H [x] [d']:=λr e=>by
  split at e
  .rename_i z
   cases e;exact Top.rB (.inl r) ok.le z
  .cases e
 intro n
 induction n with
 |zero=>exact λd d' x r e=>fl r e
 |succ n ih=>
  intro d d' x r e;cases d with
  |tup ds=>
   obtain⟨xQ,e1,rfl⟩:=cS.mp (show(ds.mapM (j7 S n)).map _=_ from e);obtain⟨p,ws,rfl,q,r1⟩:=r.isTup;exact .tup (ok.le.A8 q) (pk ih r1 e1) .nil
  |ref i=>
   obtain⟨c,h1,e1⟩:=cC.mp (show(S.r[i]?).bind _=_ from e);obtain⟨p,rfl,h2⟩:=af.isRef r;split at e1
   .obtain⟨xQ,e2,rfl⟩:=cS.mp e1;obtain⟨_,ws,h3,r1⟩:=ok.r.at' i p _ h2 h1;exact .lst (.inl (.inl h3)) (pk ih r1 e2) .nil
   .cases e1
  |_=>exact fl r e
def Ik{a b:Expr}{pos:Pos}{f g:GE}(ha:PE X a (tE K W q f))(hb:PE X b (tE K W q g))(hu:X.A.units+41<cLine)(hK:X.K=K)(hm:behindInMarks .Eq b=false):PE X (.Compare a [.Eq] [b] pos) (tE K W q (zY f g)):=(Kz (Mg K (by lia) hK) ha hb hm).mono λZ H Q t=>zJ (r:=λx y H1=>vZ K x y H1 Q) (by
 obtain⟨k,U,S,res,ok,gk,e,w⟩:=t;refine tX.bd ok gk e w λvs S1 xs k1 H1 bq g1 r1 e1 w1 _=>?_
 split at e1
 .obtain⟨xv,_,rfl,rv,t⟩:=Paired.wA r1;obtain⟨xo,_,rfl,ro,t⟩:=Paired.wA t;cases t;obtain⟨a',e2,e3⟩:=cC.mp e1;obtain⟨b',e4,e5⟩:=cC.mp e3;obtain⟨y,e6,rfl⟩:=cS.mp e5;unfold p6 at e6;split at e6
  .rename_i h
   obtain⟨h1,h2⟩:=r_.mp h;cases e6;exact⟨xv,xo,rfl,a',b',Lk bq 2 _ _ _ rv e2,Lk bq 2 _ _ _ ro e4,h1,h2,(iS.fin bq w1).flat bq.le rfl⟩
  .cases e6
 .cases e1)
end
end L2
namespace L2
open PySem PySem.Spec PySem.W PyProof.Rows
def ZE{X:Cx}{K:aH}{W:XW}{q:Nat}{pos:Pos}{k v:Expr}{ks:List (ah Expr)}{vs:List Expr}{a b:GE}{gs:List (GE×GE)}(hk:PE X k (tE K W q a))(hv:PE X v (tE K W q b))(hr:sk X pos ks vs (yi K W q gs)):sk X pos (some k::ks) (v::vs) (yi K W q ((a,b)::gs)):=Qz hk hv hr
end L2
namespace L2
open PySem Lean Meta
def Xw:List Name:=[``u7,``qV,``zM,``u9,``wL,``Od,``wS,``wU,``wE,``wP,``Z0,``Z4,``wX,``wF,``n6,``xv,``xi,``xs,``xb,``xn,``Γ,``xk,``xo,``Ir,``xc,``Ik,``Z9,``Z_,``xd,``xB,``xT,``xM,``xU,``Z8,``xC,``xL,``u0,``uY,``n5,``qR,``zL,``uZ,``uX,``vS,``zc,``uW,``PW.pt,``zR,``va,``u_,``yc,``Θ,``yt,``Δ,``Ξ,``yn,``y1,``qU,``qT,``ZE,``rH,``ZA,``ZC,``o6,``rG,``rO,``wq,``pB,``rQ,``sA,``HC,``ZK,``ZL,``ZM,``Ij,``Bo,``Io,``Im,``Bp,``Il,``To,``Tt,``Ts,``Tp,``Tq,``Fv,``Tr,``Fu,``GW,``GV,``GQ,``GR,``GY,``GX,``GU,``AD,``vH,``rW,``rX,``wz,``nZ,``PyProof.Rows.Boot.min,``PyProof.Rows.Boot.sum,``tQ,``vy,``vA,``Z5,``AU,``cN.le,``mZ,``rE,``rF]
def Xu(tg N cF:Lean.Expr):MetaM Lean.Expr:=do
 let nm (e:Lean.Expr):=e.getArg! 0
 let ts:=if tg.isAppOf ``Expr.Name then[nm tg] else((tg.getArg! 0).listLit?.map (·.2.map nm)).getD []
 let ns:=(((<-whnf N).listLit?).map (·.2)).getD []
 let cs:=((cF.listLit?.map (·.2)).getD []).map λi=>ns.getD ((i.nat?).getD 0) (mkNatLit 0)
 mkListLit (mkConst ``Str) (ts++cs)
def jR{α:Type}(f:α->MetaM Bool):List α->MetaM Bool
 |[]=>return false
 |x::l=>do if <-f x then return true else jR f l
def n9(x:MetaM Unit):MetaM Bool:=do
 let s <-saveState
 try
  x
  return true
 catch _=>
  s.restore
  return false
def sX(g:MVarId)(s:MetaM Syntax):MetaM Bool:=n9 do
 unless (<-Lean.Elab.runTactic g (<-s)).1.isEmpty do failure
def n8(f:Lean.Expr->MetaM Unit):List Lean.Expr->MetaM Unit
 |[]=>return
 |m::l=>do
  unless <-m.mvarId!.isAssigned do f m
  n8 f l
def zQ(k:MVarId->MetaM Unit)(g:MVarId)(t:Lean.Expr)(fix:Lean.Expr->MetaM Unit)(f:Lean.Expr):MetaM Bool:=n9 do
 let y <-whnfR (<-inferType f)
 unless y.getForallBody.getAppFn.constName? == t.getAppFn.constName? do failure
 let (ms,_,ty) <-forallMetaTelescope y
 unless <-isDefEq ty t do failure
 n8 fix ms.toList
 n8 (λm=>do if <-isProp (<-inferType m) then k m.mvarId!) ms.toList
 g.assign (mkAppN f ms)
abbrev yI:=(Lean.Expr->MetaM Unit)->Lean.Expr->MetaM Bool
def zO(u:yI):Lean.Expr->MetaM Bool:=u λ_=>pure ()
def Ng(u:yI)(p:Name×ConstantInfo):MetaM Bool:=do
 if p.1.getPrefix == `Carry then
  if(<-whnfR p.2.type).getForallBody.isAppOf ``eV then return <-zO u (<-mkConstWithFreshMVarLevels p.1)
 return false
def Xs(u:yI)(d:LocalDecl)(f:Name):MetaM Bool:=do
 let p <-mkProjection d.toExpr f
 if(<-whnfR (<-inferType p)).isForall then
  if <-jR (λj=>zO u (mkApp p (mkNatLit j))) (List.range 99) then return true
 zO u p
def Xt(u:yI)(d:LocalDecl):MetaM Bool:=do
 if d.isImplementationDetail then return false
 if <-zO u d.toExpr then return true
 let some s:=d.type.getAppFn.constName?|return false
 let env <-getEnv
 if isStructure env s&&s.getPrefix == `Carry then jR (Xs u d) (getStructureFields env s).toList else return false
def Xv(u:yI)(t:Lean.Expr)(r:Name):MetaM Bool:=do
 let f <-mkConstWithFreshMVarLevels r
 if r == ``wX then
  jR (λj=>u (λm=>do if(<-inferType m).isConstOf ``Nat then m.mvarId!.assign (mkNatLit j)) f) (List.range 12)
 else u (λm=>do
  if r == ``xL || r == ``wL || r == ``Od then
   if(<-instantiateMVars (<-inferType m)).isAppOf ``List then
    let some lc:=t.find? (·.isAppOf ``Expr.ListComp)|failure
    let some gc:=t.find? (·.isAppOf ``bA)|failure
    let some co:=((lc.getArg! 1).listLit?.bind (·.2.head?))|failure
    m.mvarId!.assign (<-Xu (co.getArg! 0) (<-mkAppM ``Cx.N #[t.getArg! 0]) gc.appArg!)) f
def zP:Nat->MVarId->MetaM Unit
 |0,_=>failure
 |n+1,g0=>do
  let (_,g) <-g0.intros
  g.withContext do
  let t:=(<-instantiateMVars (<-g.getType)).cleanupAnnotations.headBeta
  let u:=zQ (zP n) g t
  let c:=t.getAppFn.constName?.getD .anonymous
  if c == ``Eq then
   let l:=t.appFn!.appArg!
   if l.isAppOf ``tO || l.isAppOf ``dP then
    if <-sX g `(tactic| kernel_rfl) then return
   if <-n9 g.refl then return
  let loc:=(<-getLCtx).decls.toList.filterMap id
  if c == ``eV then
   if <-jR (λd=>if d.isImplementationDetail then return false else zO u d.toExpr) loc then return
   let m:=(<-getEnv).constants
   if <-jR (Ng u) m.map₂.toList then return
   if <-jR (Ng u) m.map₁.toList then return
   failure
  if <-jR (Xt u) loc then return
  if <-jR (Xv u t) Xw then return
  unless <-sX g `(tactic| first|rfl|exact Or.inl rfl|exact Or.inr rfl|exact Or.inr (Or.inl rfl)|exact Or.inr (Or.inr rfl)|decide|(intro _ _;rfl)|with_unfolding_all rfl) do failure
def Nh:Nat->Lean.Expr->MetaM (List Lean.Expr)
 |0,_=>failure
 |n+1,e=>do
  let a:=(<-whnf e).getAppArgs
  if a.size<3 then return []
  return (<-whnfCore a[1]!)::(<-Nh n a[2]!)
simproc_decl dv (ij _ _ _):=λe=>do
 let a:=e.getAppArgs
 let b <-withDefault (whnf a[1]!)
 let N <-mkListLit (mkConst ``Str) (<-withDefault (Nh 99 (a[0]!.getArg! 6)))
 let m <-mkFreshExprMVar (mkApp3 e.getAppFn (mkAppN a[0]!.getAppFn (a[0]!.getAppArgs.set! 6 N)) b a[2]!)
 withDefault (zP 200 m.mvarId!)
 return .done { expr:=mkConst ``True,proof?:=<-mkEqTrue (<-mkExpectedTypeHint (<-instantiateMVars m) e)}
end L2
namespace L2
open PySem PySem.Spec PyProof.Rows
variable{K:aH}{C:ah aj}{x:Str}{f:aj}
noncomputable def fA (K:aH) (C:ah aj) (x:Str):aj:=Classical.epsilon λf=>C.elim (PySem.W.nsIn K mainGlobals x) (λC=>PySem.W.findIn K (.ref C) x)=some (some (.ref f))
noncomputable def fF (K:aH) (f:aj):jF:=Classical.epsilon λd=>∃oc od mf,K.lookup f=some ⟨oc,od,.func d,mf⟩
abbrev AV(st:Stmt):List Str:=(xp st).args.map (·.arg)
abbrev Zw(st:Stmt):List Str:=((mJ st).names.filter λp=>p.2.casesOn true true false false false).map (·.1)
abbrev Df(K:aH)(mg:Str->ah ai)(x:Str)(st:Stmt):Prop:=se K mg x st (fA K none x) (fF K (fA K none x)) (AV st)
def zS{A:Type}{p:A->Prop}(a:A)(h:p a)(u:∀b,p b->a=b):@Classical.epsilon A ⟨a⟩ p=a:=(u _ (@Classical.epsilon_spec_aux A ⟨a⟩ p ⟨a,h⟩)).symm
def XM(a:C.elim (PySem.W.nsIn K mainGlobals x) (λC=>PySem.W.findIn K (.ref C) x)=some (some (.ref f))):fA K C x=f:=zS f a λb e=>by cases a.symm.trans e;rfl
def XN{y:Str}{st:Stmt}{fd:jF}(F:sg K x y st f fd):fF K f=fd:=by
 obtain⟨oc,od,_,_,_,_,_,_,mf,_,l,_⟩:=F.ex;exact zS fd ⟨oc,od,mf,l⟩ λb ⟨_,_,_,e⟩=>by cases l.symm.trans e;rfl
seal fA fF
abbrev IS(Tx:aH->(Str->ah ai)->Prop)(C:ah aj)(x:Str)(st:Stmt)(k p:Nat)(M:Nat->GM):Prop:=∀{P:cL} {w:bX} {K:aH} {mg:Str->ah ai} {base:bJ} (T:Tx K mg) (q:Nat),eV P w K mg base (lT P w) k (fA K C x) (fF K (fA K C x)) (AV st) (yH K q p (M q))
def d4{Tx:aH->(Str->ah ai)->Prop}{k p n:Nat}{qual:Str}{st:Stmt}{m:Nat->GS}(F:∀{K:aH} {mg:Str->ah ai},Tx K mg->sg K x qual st (fA K C x) (fF K (fA K C x)):=by first|exact λT=>(T.F _).fn|exact λT=>(T.G _).fn|exact λT=>(T.H _).fn)(N:List Str:=Zw st)
  (hb:∀{P:cL} {w:bX} {K:aH} {mg:Str->ah ai} {base:bJ} (T:Tx K mg) (q:Nat) (eF:ai) (A:cy) (outer:List Env) (s:au) (H:Hp) (E:XK),cN k (A.deeper (envOfC qual (mJ st) s.heap.objs.size (fA K C x) eF))->(A.deeper (envOfC qual (mJ st) s.heap.objs.size (fA K C x) eF)).units+41<cLine->ij (jO (lT P w) P w K mg base N qual (mJ st) (fA K C x) eF A outer s H E) (uA st) (tS K (WF E) q (m q)):=by intros;simp only[dv])
  (S:fG N (AV st) (mJ st):=by exact FW) (hp:(AV st).length=p:=by rfl) (hn:N.length=n:=by rfl):IS Tx C x st (k+1) p (bI p n m):=λT q=>VM (F T) S hp hn λeF A outer s H E hr=>hb T q eF A outer s H E hr (Ti hr)
end L2
namespace L2
open PySem PySem.Spec PySem.W PyProof.Rows
section
variable{K:eU}{mg:Str->ah ai}{h:bJ}{x y:Str}{st:Stmt}{f C:aj}{fd:jF}{ps:List Str}
abbrev Wk(x y:Str)(st:Stmt)(ps:List Str):Prop:=∀(kV doc pm:ai) (an:ah aj) (eF ct:ai) (us:List ai),us.length=ps.length->bindArgs (PySem.W.fnOf x y (xp st) (uA st) (mJ st) .none kV doc pm an eF ct) ⟨us,[]⟩=pure (ps.zip us)
def dM(X:K.In h)(G:h.Ns mainGlobals mg)(a:nsIn K mainGlobals x=some (some (.ref f)))(F:sg K x x st f fd)(b:Wk x x st (AV st)):Df K mg x st:=by
 unfold Df;rw[XM (C:=none) a,XN F];exact⟨F,mg_of X G a,F.binds b⟩
def kM{v:Tok->ai}{t:Tok}(X:K.In h)(G:h.Ns mainGlobals mg)(a:nsIn K mainGlobals x=some (some (v t))):∃t,mg x=some (v t):=⟨t,mg_of X G a⟩
end
end L2
namespace Carry
open PySem L2
structure aM where
 name:Str
 long:Int
 ring:Bool
 outs:List Str
structure av where
 aq:List aM
 aB:List Str
noncomputable def mQ(xs:List Str)(k:Nat)(y:Str):List Str:=xs.take k++y::xs.drop k
theorem Q3(xs:List Str)(k:Nat)(y:Str):(mQ xs k y).length=xs.length+1:=by
 unfold mQ;rw[b_,dg,r6,wD];lia
theorem Q4{xs:List Str}{k:Nat}{y z:Str}:z∈mQ xs k y↔z=y\/z∈xs:=by
 unfold mQ;rw[dD,y06];constructor
 .rintro(h|h|h)
  .exact .inr (List.mem_of_mem_take h)
  .exact .inl h
  .exact .inr (List.mem_of_mem_drop h)
 .rintro(h|h)
  .exact .inr (.inl h)
  .rw[<-BA k xs,dD] at h;rcases h with h|h
   .exact .inl h
   .exact .inr (.inr h)
end Carry
namespace L2
abbrev ax(x:D):ah Val:=some (.d x)
noncomputable abbrev dI(x:PySem.Str):ah Val:=some (.d (.str x))
abbrev bN(x:Int):ah Val:=some (.d (.int x))
abbrev bF(n:Nat):ah Val:=some (.c n)
abbrev fm(x:PySem.Str):Val:=.d (.str x)
abbrev jC(x:Int):Val:=.d (.int x)
noncomputable abbrev vT(x:PySem.Str)(i:Int):D:=.tup [.str x,.int i]
end L2
namespace Carry
open PySem L2
seal PE PA PT PS ij
noncomputable def top(i:Nat):Stmt:=PySem.Challenge.pw_carry_k36_soonest_walked.main.body.getD i (.Pass ⟨0,0,0,0⟩)
noncomputable abbrev errTab:List (Str×aj):=[("NoWay",37)]
noncomputable abbrev ED:List (aj×Str):=[]
noncomputable abbrev fnT(j:Nat):=[("lay",4),("fill",5),("search",6),("push",7),("belt_of",9),("steps",11),("moves",12),("far",13),("begins",14),("in_time",18),("into",19),("lay_net",20),("lay_spot",21),("followed",22),("taken",23),("soonest",25),("check_ways",26),("_law_feed",28),("_law_draw",29),("_law_name",30),("_law_outs",31),("_law_house",32),("_law_cells",33),("_law_steps",34),("_law_copied",35),("_law_whole",36),("_law_goes",37),("_law_together",38),("_law_sets",39),("_law_places",40),("_law_ways_right",41),("_law_is_spot",42),("_law_cut_right",43),("_law_comes",44),("_law_told",45),("law",46)].getD j ("lay",4)
noncomputable abbrev bnT(j:Nat):=["len","isinstance","int","bool","str","list","tuple","range","enumerate","reversed","all","any","max","min","set"].getD j "len"
structure Txt (K:aH) (mg:Str->ah ai):Prop where
 F:∀j,Df K mg (fnT j).1 (top (fnT j).2)
 atr:yw K ED
 er:qr K mg errTab 24
 B:∀j,mg (bnT j)=none
 c_START:∃t,mg "START"=some (.str "the start" t)
 c_END:∃t,mg "END"=some (.str "the end" t)
abbrev OD(j:Nat):=IS Txt none (fnT j).1 (top (fnT j).2)
def uD(n1:Nat):GS:=gR (cG (gQ eK 4 0) (cV n1 (dy CQ) 0 4))
def pT:=bI 4 5 λq=>kE (aY q (bp true dB (aI true (aV 1 2))) 4 uD)
 (cV q 3 (gX 0 1) 2)
 (cV q (gI 0) (gX 0 2) 1)
theorem e1q:OD 0 1 4 pT:=d4
def w9(n2:Nat):GS:=gR (kF (cJ (gQ nq (gX (gX 0 5) 6) (gI 0)) (gQ eK 6 2)) (gY (cV n2 5 2 6) (dY (cv n2 "list" jL 4 (aX 6)))) fO)
def B1(n1:Nat):GS:=gR (aY n1 (bp true dB (gX 0 5)) 6 w9)
def B2(q:Nat):GS:=kE (ag 4 true (aI false gN))
 (aY q (bp true dB 3) 5 B1)
 (ag 3 false 4)
def qz:=bI 2 7 λq=>l7 (ag 2 true (ju (sL [(1,(gC .aR))])))
 (ag 3 false (aI false (aX 1)))
 (aw (bH 3) (B2 q) 1000000)
 (az 2)
theorem d6r:OD 2 1 2 qz:=d4
def xj(q:Nat):GS:=l7 (ag 4 false (gX 1 3))
 (xD q Au (gX 0 4) 3 (gI 1))
 (xD q vx (gX 0 3) 4 (gI 1))
 (ag 3 false 4)
def xF:=bI 3 5 λq=>gY (ag 3 false 2)
 (aw (gQ vY (gX 1 3) (gC .aR)) (xj q) 1000000)
theorem e0q:OD 3 1 3 xF:=d4
def wZ(n1:Nat):GS:=gR (cG (gQ iL (gX 2 (gI 0)) 1) (az (aI true (fW (gX 2 (gI 0)) (gX 2 (gI 1)) (gX 2 (gI 2)) (gO (o1 fS) (aX (gX 2 (gI 3))))))))
def B7:=bI 2 3 λq=>gY (aY q (bp true dB (gX 0 (gI 0))) 2 wZ)
 (az (gC .aR))
theorem d3c:OD 4 1 2 B7:=d4
def Ec(n2:Nat):GT:=gQ rK 0 1
def Ed(n2:Nat):GE:=gX 1 0
def w_(n1:Nat):GS:=gY (ag 7 false (bA n1 (bp false dB 6) 0 Ec Ed 1 [2]))
 (cG (bH 7) (cV n1 (bj bh 4 (gO (o1 (iw eZ)) (aX 7))) 2 3))
def Ce:=bI 2 8 λq=>kE (ag 2 true (ju (sL [(1,(gI 0))])))
 (aY q (bp true wc (gX 0 (gI 0))) (dX [3,4,5,6]) w_)
 (az 2)
theorem d6s:OD 8 1 2 Ce:=d4
def pS:=bI 2 2 λq=>gR (az (aI true (aV (aI true (fV (gX 0 (gI 0)) (gX 0 (gI 1)) 1)) (gC (.str "into")))))
theorem e0r:OD 10 1 2 pS:=d4
def B8(n1:Nat):GT:=gQ nq (gX (gX 2 0) 1) (gI 0)
def B9(n1:Nat):GE:=0
def xr:=bI 2 3 λq=>gY (ag 2 false (bA q (bp false dB (gX 0 1)) 0 B8 B9 1 [1,0]))
 (az (gX 2 (gI 0)))
theorem d9o:OD 14 1 2 xr:=d4
def ux:=bI 1 2 λq=>gY (ag 1 false (bj bh (qH 0 sN (sO (gI 2))) (aI false (aV (gI 0) (gI 0)))))
 (az (aI false (gK (qH 0 sN (sO (gI 63))) (fW (gI 0) (gI 0) (bj i6 (gX 1 (gI 0)) (gI 2)) (gX 1 (gI 1))))))
theorem d6t:OD 17 1 1 ux:=d4
def eE:=bI 2 5 λq=>cA (kF (gQ iL (gX 0 (gI 3)) (gI 1)) (kE (ag 2 false (bj i6 (gX 0 (gI 4)) 1)) (cV q (bj jr (gX 0 (gI 4)) 1) 0 (gI 4)) (az 2)) fO)
 (kf (ag 3 false (gX 0 (gI 1))) (cV q (bj bh 3 (gI 1)) 0 (gI 1)) (ag 4 false 3) (cG (gQ nq (gO (o1 br) (aX (gX 0 (gI 0)))) (gI 0)) (ag 4 false (bj bh (gX (gX 0 (gI 0)) (bj i6 3 (gO (o1 br) (aX (gX 0 (gI 0)))))) (bj ku (bj jr 3 (gO (o1 br) (aX (gX 0 (gI 0))))) (gI 31))))) (az (bj i6 (bj i6 (bj ku (bj i6 (bj bh (bj ku 4 (gI 48271)) (bj ku (gI 31) 3)) (gI 1000003)) (gI 69621)) (gI 999983)) 1)))
theorem d6u:OD 18 1 2 eE:=d4
def y9:=bI 2 3 λq=>l7 (ag 2 false (gX (gC (.str "abcdefghijk")) (bj i6 (bj bh (bj ku 1 (gI 4)) 0) (gI 11))))
 (cG (gQ iL (bj i6 0 (gI 3)) (gI 0)) (az (bj bh (bj bh (bj ku (gC (.str "q")) (bj i6 (bj jr 0 (gI 3)) (gI 3))) 2) (qH (gC (.str "zq")) sN (sO (bj jr 0 (gI 9)))))))
 (cG (gQ iL (bj i6 0 (gI 3)) (gI 1)) (az (zZ (gQ mr 1 (gI 8)) (bj ku (gC (.str "b")) (bj bh 1 (gI 1))) (bj ku (gC (.str "c")) (bj jM 1 (gI 7))))))
 (az 2)
theorem d6v:OD 19 1 2 y9:=d4
def Jc(n2:Nat):GE:=aI true (aV 1 0)
def BU(n1:Nat):GS:=gR (ag 1 false (bj bh 1 (bA n1 (dz je (aX 3)) 0 (λ_=>f7 true) Jc 1 [2])))
def sD:=bI 1 6 λq=>kE (ag 1 false (aI false gN))
 (aY q (bp true dB (gX 0 (gI 0))) (dX [2,3,4,5]) BU)
 (az 1)
theorem d3d:OD 22 1 1 sD:=d4
def Jd(n1:Nat):GE:=gX 0 (gI 0)
def BV(n1:Nat):GS:=gR (dY (cv n1 "list" jL 7 (aX (zZ (gQ rK 8 2) (aI true (aV 8 (gI 0))) 8))))
def qx:=bI 2 9 λq=>cA (ag 2 false (bA q (bp false dB (gX 0 (gI 0))) 0 (λ_=>f7 true) Jd 1 []))
 (cA (oq (gX (gX 0 (gI 0)) (Fb "list" (o2 eY) 2 (aX (gX 1 (gI 0))))) (dX [3,4,5,6])) (kf (cG (gQ mr (bj bh (gX 1 (gI 1)) (gI 1)) 4) (az (aI false (aX (aI true (aV 3 (bj bh (gX 1 (gI 1)) (gI 1)))))))) (ag 7 true (aI false gN)) (aY q (bp true dB 6) 8 BV) (cG (bH 5) (dY (cv q "list" jL 7 (aX (aI true (aV 3 (gI 0))))))) (az 7)))
theorem d3e:OD 23 1 2 qx:=d4
def BP(n1:Nat):GE:=aI true (fW 0 1 2 (gO (o1 fS) (aX 3)))
def yU:=bI 1 1 λq=>gR (az (aI true (aV (bA q (bp false dB (gX 0 (gI 0))) (dX [0,1,2,3]) (λ_=>f7 true) BP 4 []) (gO (o1 fS) (aX (gX 0 (gI 1)))))))
theorem d0i:OD 24 1 1 yU:=d4
def uv:=bI 1 1 λq=>gR (az (kD (gO (o2 bM) (aV 0 (gC (.ty "int")))) (z6 (gO (o2 bM) (aV 0 (gC (.ty "bool")))))))
theorem d3f:OD 25 1 1 uv:=d4
def wV(n2:Nat):GS:=gR (cG (bu (bH (gO (o2 bM) (aV (gX 2 3) (gC (.ty "str")))))) (dY (cv n2 "list" jL 1 (aX (aI true (aV 3 (gX 2 3)))))))
def yM(n1:Nat):GS:=gR (aY n1 (dz je (aX (gO (o1 br) (aX 2)))) 3 wV)
def yO:=bI 1 4 λq=>kE (ag 1 true (aI false gN))
 (aY q (bp true dB 0) 2 yM)
 (az (bj iL (gO (o1 rh) (aX 1)) (gO (o1 br) (aX 1))))
theorem c3p:OD 27 1 1 yO:=d4
def xl(q:Nat):GS:=gY (dY (ak (xF q) (fV 0 3 2)))
 (ag 3 false (ak (qz q) (aV 0 1)))
def zu:=bI 3 4 λq=>kE (ag 3 false (ak (qz q) (aV 0 1)))
 (aw (gQ rK 2 3) (xl q) 1000000)
 (az 3)
theorem e0s:OD 1 2 3 zu:=d4
def Ej(n1:Nat):GE:=zZ (gQ rK 0 (gX 1 (gI 1))) 0 (aI true (aV 0 (gI 0)))
def CB:=bI 2 4 λq=>kf (ag 2 false (ak (B7 q) (aV 0 (gX 1 (gI 0)))))
 (cG (gQ mr (bj bh (gX 1 (gI 1)) (gI 1)) (gX 2 (gI 1))) (az (aI false (aX (aI true (aV (gX 1 (gI 0)) (bj bh (gX 1 (gI 1)) (gI 1))))))))
 (ag 3 true (bA q (bp false dB (gX 2 (gI 3))) 0 (λ_=>f7 true) Ej 1 [0]))
 (cG (bH (gX 2 (gI 2))) (dY (cv q "list" jL 3 (aX (aI true (aV (gX 1 (gI 0)) (gI 0)))))))
 (az 3)
theorem d9p:OD 5 2 2 CB:=d4
def uM:=bI 3 4 λq=>kE (ag 3 false (ak (Ce q) (aV 0 2)))
 (cG (gQ eK (gX 1 (gI 0)) 3) (az (gC .aR)))
 (az (bj jM (gX 3 (gX 1 (gI 0))) (gX 1 (gI 1))))
theorem e1r:OD 7 2 3 uM:=d4
def qw(q:Nat):GS:=kE (ag 5 false (gX 4 (gI 0)))
 (dY (cv q "list" jL 3 (aX (aI true (aV (gX 5 (gI 0)) (gX 5 (gI 1)))))))
 (ag 4 false (ak (xr q) (aV 0 (aI true (aV 5 (gC (.str "out of")))))))
def xa:=bI 3 6 λq=>l7 (ag 3 true (aI false gN))
 (ag 4 false 1)
 (aw (gQ mw 4 (gC (.str "the end"))) (qw q) 1000000)
 (az (bj bh 3 (aI false (aX 2))))
theorem d0j:OD 13 2 3 xa:=d4
def yV(n1:Nat):GS:=gR (cG (gQ iL (ak (eE n1) (aV 0 (gI 3))) (gI 0)) (dY (cv n1 "list" qC 4 (aV (ak (eE n1) (aV 0 (bj bh (gO (o1 br) (aX 4)) (gI 1)))) (gX 1 5)))))
def B3(n1:Nat):GE:=bj rK (gX 2 0) 1
def y_:=bI 4 6 λq=>kf (ag 4 true (aI false gN))
 (aY q (dz jg (aV (bj bh 2 (gI 1)) (gO (o1 br) (aX 1)))) 5 yV)
 (cG (cJ (gQ mr (bj bh 2 (gI 1)) 3) (cJ (gQ nq (ak (eE q) (aV 0 (gI 4))) (gI 0)) (gQ eK (gX 1 (bj bh 2 (gI 1))) 4))) (dY (cv q "list" qC 4 (aV (ak (eE q) (aV 0 (bj bh (gO (o1 br) (aX 4)) (gI 1)))) (gX 1 (bj bh 2 (gI 1)))))))
 (cG (cJ (gQ eK (gX 1 3) 4) (bu (bH (gO (o1 (uI vX)) (aX (bA q (dz jg (aV (bj bh 2 (gI 1)) 3)) 0 (λ_=>f7 true) B3 1 [4,1])))))) (dY (cv q "list" qC 4 (aV (ak (eE q) (aV 0 (bj bh (gO (o1 br) (aX 4)) (gI 1)))) (gX 1 3)))))
 (az 4)
theorem d6w:OD 20 2 4 y_:=d4 (N:=["_law_feed_here","_law_names","_law_k","_law_many","_law_outs_here","_law_j"])
def yW(n1:Nat):GS:=gY (cG (bH (gO (o2 bM) (aV (gX 3 (bj jM 4 (gI 1))) (gC (.ty "str"))))) (az (gC (.bl false))))
 (cG (cJ (gQ mw (gX 3 4) (gX 3 (bj jM 4 (gI 1)))) (gQ eK (gX 3 4) (ak (qx n1) (aV 0 (gX 3 (bj jM 4 (gI 1))))))) (az (gC (.bl false))))
def sI:=bI 4 5 λq=>kE (cG (cW (gQ mr (gO (o1 br) (aX 3)) (gI 2)) (cW (gQ mw (gX 3 (gI 0)) 1) (gQ mw (gX 3 (gO (o1 mV) (aX (gI 1)))) 2))) (az (gC (.bl false))))
 (aY q (dz jg (aV (gI 1) (gO (o1 br) (aX 3)))) 4 yW)
 (az (gC (.bl true)))
theorem d6x:OD 26 2 4 sI:=d4
def Ee(n1:Nat):GT:=gQ eK (aI true (fV (gX 0 (gI 0)) (gX 0 (gI 1)) (gI 0))) 1
def Ef(n1:Nat):GE:=0
def xf(n3:Nat):GS:=gY (cG (gQ iL 10 2) (az (gC .aR)))
 (cG (cJ (bu (bH (gO (o2 bM) (aV 10 (gC (.ty "str")))))) (cJ (gQ eK 10 8) (gQ eK (bj zD 10 (aI true (aX 7))) 4))) (dY (cv n3 "list" jL 8 (aX 10))))
def yX(n2:Nat):GS:=gR (aY n2 (bp true dB (bj bh (aI false (aX 9)) (ak (qx n2) (aV 0 9)))) 10 xf)
def B4(n1:Nat):GS:=l7 (ag 8 true (aI false gN))
 (aY n1 (bp true dB 5) 9 yX)
 (ag 5 false 8)
 (dY (cv n1 "list" jL 6 (aX 5)))
def Cf:=bI 5 11 λq=>l7 (ag 5 false (bA q (bp false dB 1) 0 Ee Ef 1 [4]))
 (ag 6 true (aI false (aX 5)))
 (aY q (dz jg (aV (gI 1) (bj bh 3 (gI 1)))) 7 B4)
 (az 6)
theorem d6y:OD 28 2 5 Cf:=d4 (N:=["_law_house_here","_law_places_here","_law_cart","_law_turns","_law_cut","_law_now","_law_sets_here","_law_moment","_law_behind","_law_place","_law_step"])
def BQ(n1:Nat):GS:=gY (ag 6 false (gX 3 (ak (eE n1) (aV 0 (gO (o1 br) (aX 3))))))
 (cG (gQ eK 6 4) (dY (cv n1 "list" qC 4 (aV (ak (eE n1) (aV 0 (bj bh (gO (o1 br) (aX 4)) (gI 1)))) 6))))
def yY:=bI 3 7 λq=>l7 (ag 3 false (ak (sD q) (aX 1)))
 (ag 4 true (aI false gN))
 (aY q (dz je (aX (ak (eE q) (aV 0 (bj bh 2 (gI 1)))))) 5 BQ)
 (az 4)
theorem d0k:OD 29 2 3 yY:=d4
def yN(n1:Nat):GE:=ak (uv n1) (aX 0)
def uo:=bI 2 2 λq=>gY (cG (cW (bu (bH (gO (o2 bM) (aV 0 (gC (.ty "tuple")))))) (cW (gQ mw (gO (o1 br) (aX 0)) 1) (bu (bH (gO (o2 bM) (aV (gX 0 (gI 0)) (gC (.ty "str")))))))) (az (gC (.bl false))))
 (az (gO (o1 (uI Hx)) (aX (bA q (bp false dB (qH 0 (sO (gI 1)) sN)) 0 (λ_=>f7 true) yN 1 []))))
theorem c6h:OD 31 2 2 uo:=d4
def m9(n1:Nat):GS:=gY (cG (gQ iL 5 2) (az (gC (.bl true))))
 (cG (cJ (bu (bH (gO (o2 bM) (aV 5 (gC (.ty "str")))))) (gQ eK 5 3)) (dY (cv n1 "list" jL 3 (aX 5))))
def pP(q:Nat):GS:=gY (aY q (bp true dB (ak (qx q) (aV 0 (gX 3 4)))) 5 m9)
 (ag 4 false (bj bh 4 (gI 1)))
def y0:=bI 3 6 λq=>l7 (ag 3 true (aI false (aX 1)))
 (ag 4 false (gI 0))
 (aw (gQ mr 4 (gO (o1 br) (aX 3))) (pP q) 1000000)
 (az (gC (.bl false)))
theorem d3g:OD 33 2 3 y0:=d4
def xt:=bI 2 2 λq=>gR (az (bj bh (ak (CB q) (aV 0 1)) (aI false (aX 1))))
theorem d9q:OD 6 3 2 xt:=d4
def BM(n1:Nat):GS:=gR (cG (gQ ZF (ak (uM n1) (fV 0 3 2)) (gC .aR)) (ER 37 (gC (.str "from one of the places the cart can never be come to"))))
def wW:=bI 3 4 λq=>gR (aY q (bp true dB 1) 3 BM)
theorem c3q:OD 16 3 3 wW:=d4
def yP(n1:Nat):GE:=ak (y9 n1) (aV 1 0)
def w6(n1:Nat):GS:=kE (ag 8 false (bj iL (ak (eE n1) (aV 0 (gI 3))) (gI 0)))
 (ag 9 false (bj bh (bj bh (gI 1) (gO (o1 iE) (aX 8))) (ak (eE n1) (aV 0 (bj jM 2 (gO (o1 iE) (aX 8)))))))
 (dY (cv n1 "list" jL 6 (aX (aI true (fW (gX 5 7) 9 8 (ak (y_ n1) (fW 0 5 7 1)))))))
def uw:=bI 1 10 λq=>cA (ag 1 false (bj bh (gI 1) (ak (eE q) (aV 0 (gI 4)))))
 (cA (ag 2 false (gI 4)) (cA (ag 3 false (ak (eE q) (aV 0 (gI 8)))) (cA (kF (gQ iL 3 (gI 5)) (gY (ag 1 false (gI 6)) (ag 2 false (gI 5))) fO) (cA (kF (gQ iL 3 (gI 6)) (gY (ag 1 false (bj bh (gI 1) (bj jr 1 (gI 3)))) (ag 2 false (gI 14))) fO) (kf (ag 4 false (ak (eE q) (aV 0 (gI 27)))) (ag 5 false (bA q (dz je (aX (bj bh (bj bh 1 (gI 1)) (ak (eE q) (aV 0 (gI 3)))))) 0 (λ_=>f7 true) yP 1 [4])) (ag 6 true (aI false gN)) (aY q (dz je (aX 1)) 7 w6) (az (aI true (aV 6 (qH 5 (sO 1) sN)))))))))
theorem d3h:OD 21 3 1 uw:=d4 (N:=["_law_feed_here","_law_many","_law_long","_law_great","_law_style","_law_names","_law_belts","_law_k","_law_ring","_law_cells_here"])
def yJ(n2:Nat):GS:=gR (cG (cJ (bu (bH (gO (o2 bM) (aV 7 (gC (.ty "str")))))) (bu (bH (ak (uo n2) (aV 7 (gI 2)))))) (az (gC (.bl false))))
def yK(n1:Nat):GS:=kf (cG (cW (bu (bH (gO (o2 bM) (aV 6 (gC (.ty "tuple")))))) (cW (gQ mw (gO (o1 br) (aX 6)) (gI 2)) (cW (bu (bH (ak (uv n1) (aX (gX 6 (gI 0)))))) (bu (bH (gO (o2 bM) (aV (gX 6 (gI 1)) (gC (.ty "list"))))))))) (az (gC (.bl false))))
 (cG (cW (bu (gB (CS Aq Aq 5 (gX 6 (gI 0)) (gO (o1 br) (aX 1))))) (gQ nq (gO (o1 br) (aX (gX 6 (gI 1)))) (bj bh 3 (gI 1)))) (az (gC (.bl false))))
 (ag 5 false (gX 6 (gI 0)))
 (aY n1 (bp true dB (gX 6 (gI 1))) 7 yJ)
 (cG (bu (bH (ak (sI n1) (fW 0 (gX 1 5) 2 (gX 6 (gI 1)))))) (az (gC (.bl false))))
def D7(n1:Nat):GE:=gX 0 (gI 1)
def BN:=bI 5 8 λq=>l7 (cG (bu (bH (gO (o2 bM) (aV 4 (gC (.ty "list")))))) (az (gC (.bl false))))
 (ag 5 false (gO (o1 mV) (aX (gI 1))))
 (aY q (bp true dB 4) 6 yK)
 (az (ak (yO q) (aX (bA q (bp false dB 4) 0 (λ_=>f7 true) D7 1 []))))
theorem b9i:OD 30 3 5 BN:=d4 (N:=["_law_house_here","_law_places_here","_law_cart","_law_turns","_law_ways","_law_last","_law_one","_law_spot"])
def yL(n1:Nat):GS:=gR (cG (cW (bu (bH (ak (uo n1) (aV 6 (gI 3))))) (cW (gQ eK (qH 6 sN (sO (gI 2))) 5) (gQ mr (gX 6 (gI 2)) (gI 0)))) (az (gC (.bl false))))
def BO:=bI 5 7 λq=>l7 (ag 5 false (ak (sD q) (aX 0)))
 (cG (bu (bH (gO (o2 bM) (aV 4 (gC (.ty "list")))))) (az (gC (.bl false))))
 (aY q (bp true dB 4) 6 yL)
 (az (bj vY (ak (Cf q) (gK 0 (fW 1 2 3 4))) (gC .aR)))
theorem c1u:OD 32 3 5 BO:=d4
def BR(n1:Nat):GT:=bH (gO (o2 bM) (aV 0 (gC (.ty "tuple"))))
def BS(n1:Nat):GE:=0
def wY(n1:Nat):GS:=gR (dY (ak (pT n1) (fW 0 7 (ak (pS n1) (aV 10 (bj bh 3 (gI 1)))) 5)))
def ur:=bI 6 11 λq=>cA (ag 6 false (ak (pS q) (aV 2 3)))
 (cA (ag 7 false (aI true (aV (gX 6 (gI 0)) (gC (.str "out of"))))) (cA (dY (ak (pT q) (fW 0 6 7 (gI 1)))) (kf (ag 8 false (ak (xt q) (aV 1 2))) (cG (gQ rK 4 8) (dY (ak (pT q) (fW 0 7 (gC (.str "the end")) 5)))) (ag 9 false (bA q (bp false dB 8) 0 BR BS 1 [])) (aY q (bp true dB 9) 10 wY) (az 9))))
theorem d0l:OD 12 4 6 ur:=d4 (N:=["net","house","place","moment","cart","plenty","gate","behind","goals","places","goal"])
def nQ:=bI 4 5 λq=>kf (cG (cW (bu (bH (gO (o2 bM) (aV 3 (gC (.ty "tuple")))))) (cW (gQ mw (gO (o1 br) (aX 3)) (gI 3)) (cW (bu (bH (ak (uv q) (aX (gX 3 (gI 0)))))) (gQ mr (gX 3 (gI 0)) (gI 0))))) (az (gC (.bl false))))
 (cG (gQ iL 1 (aI false gN)) (az (zY 3 (aI true (fV (gI 0) (aI false gN) (aI false gN))))))
 (ag 4 false (gX 3 (gI 0)))
 (cG (cW (bu (bH (ak (BN q) (gK 0 (fW 1 2 4 (gX 3 (gI 1))))))) (gQ mw (gO (o1 br) (aX (gX 3 (gI 1)))) (gO (o1 br) (aX 1)))) (az (gC (.bl false))))
 (az (kD (bj nq 4 (gI 0)) (kD (ak (BO q) (gK 0 (fW 1 2 (bj jM 4 (gI 1)) (gX 3 (gI 2))))) (bj mr (gO (o1 br) (aX (gX 3 (gI 2)))) (gO (o1 br) (aX 1))))))
theorem d6z:OD 34 4 4 nQ:=d4
def yQ(n1:Nat):GS:=gR (dY (ak (pT n1) (fW 0 (gC (.str "the start")) (ak (pS n1) (aV 8 (gI 0))) 5)))
def uq(n3:Nat):GS:=gR (cV n3 (gC (.bl true)) 10 11)
def yR(n2:Nat):GS:=gY (dY (cv n2 "list" jL 6 (aX (aI true (fV (gX 8 (gI 0)) (gX 8 (gI 1)) 9)))))
 (aY n2 (bp true dB (ak (ur n2) (gK 0 (gK 1 (fW 8 9 3 5))))) 11 uq)
def yS(n1:Nat):GS:=kE (ag 10 true CQ)
 (aY n1 (bp true dB 7) 8 yR)
 (ag 7 false (gO (o1 fS) (aX 10)))
def y4:=bI 5 12 λq=>cA (ag 5 false (bj bh (gO (o1 br) (aX 2)) (gI 1)))
 (kf (ag 6 true (aI false gN)) (ag 7 false 2) (aY q (bp true dB 2) 8 yQ) (aY q (dz je (aX 4)) 9 yS) (az 6))
theorem d3i:OD 11 5 5 y4:=d4
def yT(n1:Nat):GS:=gY (ag 10 false (ak (pS n1) (aV 9 (gI 0))))
 (cG (gQ nq (gX (gX 4 10) (gC (.str "the start"))) (gI 0)) (dY (cv n1 "list" jL 7 (aX (aI true (aV 8 (dy (ak (xa n1) (fV 4 10 2)))))))))
def BW(n1:Nat):GT:=cJ (gQ rK (aI true (aV 0 (gC (.str "into")))) 1) (gQ eK (aI true (aV 0 (gC (.str "out of")))) 1)
def D9(n1:Nat):GE:=0
def qy:=bI 4 12 λq=>cA (ag 4 true (ju (sL [((gC (.str "the start")),(dy CQ))])))
 (cA (ag 5 false (ak (y4 q) (gK 4 (fW 0 1 2 3)))) (kf (ag 6 false (ak (zu q) (fV 4 (gC (.str "the start")) (gC (.str "the end"))))) (ag 7 false (dy (aI false gN))) (aY q (bp true kd 1) (dX [8,9]) yT) (ag 11 false (dy (bA q (bp false dB 5) 0 BW D9 1 [6]))) (az (aI true (aV 7 11)))))
theorem d3j:OD 9 6 4 qy:=d4
def BX(n1:Nat):GE:=ak (uM n1) (fV 1 0 2)
def sC(q:Nat):GS:=kE (ag 4 false 5)
 (zt vx 3 (gI 1))
 (ag 5 false (ak (qy q) (fW 0 1 2 3)))
def sE:=bI 3 6 λq=>cA (dY (ak (wW q) (fV 0 1 2)))
 (cA (cG (bu (bH 1)) (az (aI true (fV (gI 0) (dy (aI false gN)) (dy (aI false gN)))))) (kf (ag 3 false (gO (o1 (iw iH)) (aX (bA q (bp false dB 1) 0 (λ_=>f7 true) BX 1 [0,2])))) (ag 4 false (ak (qy q) (fW 0 1 2 (bj jM 3 (gI 1))))) (ag 5 false (ak (qy q) (fW 0 1 2 3))) (aw (gQ mr (gO (o1 br) (aX (gX 5 (gI 0)))) (gO (o1 br) (aX 1))) (sC q) 1000000) (az (aI true (fV 3 (gX 5 (gI 0)) (gX 4 (gI 1)))))))
theorem d3k:OD 15 7 3 sE:=d4
def CC(n1:Nat):GT:=bH (ak (y0 n1) (fV 1 0 2))
def CD(n1:Nat):GE:=0
def uE(n1:Nat):GS:=gR (dY (cv n1 "list" xA (gX 9 (gI 1)) gN))
def FE:=bI 1 11 λq=>cA (ag 1 true (ak (ux q) (aX 0)))
 (cA (ag 2 false (ak (uw q) (aX 1))) (cA (ag 3 false (gX (gX 2 (gI 1)) (ak (eE q) (aV 1 (gO (o1 br) (aX (gX 2 (gI 1)))))))) (cA (ag 4 false (gX (aI false (aV (gI 5) (gI 3))) (gO (o1 iE) (aX (bj nq (gO (o1 br) (aX (ak (sD q) (aX 2)))) (gI 16)))))) (cA (cG (cJ (gQ iL (ak (eE q) (aV 1 (gI 8))) (gI 7)) (gQ iL 4 (gI 5))) (ag 4 false (gI 8))) (cA (ag 5 false (bA q (bp false dB (ak (yY q) (fV 1 2 4))) 0 CC CD 1 [2,3])) (cA (ag 6 false (aI true (aV (ak (yU q) (aX 2)) (gO (o1 fS) (aX 5))))) (cA (ag 7 true (ak (sE q) (fV (gX 6 (gI 0)) (gX 6 (gI 1)) 3))) (cA (cG (cW (bu (bH (ak (nQ q) (fW 2 5 3 7)))) (gQ mw 6 (aI true (aV 2 5)))) (az (gC (.bl false)))) (cA (ag 8 false (gX 7 (gI 0))) (kf (aY q (bp true dB (gX 7 (gI 1))) 9 uE) (dY (cv q "list" xA (gX 7 (gI 1)) gN)) (dY (cv q "list" jL (gX 7 (gI 2)) (aX (aI true (fV (gC (.str "q")) (gI 0) (gI 0)))))) (ag 10 false (ak (sE q) (fV (gX 6 (gI 0)) (gX 6 (gI 1)) 3))) (az (kD (ak (nQ q) (fW 2 5 3 10)) (kD (bj iL (gX 10 (gI 0)) 8) (bj iL 6 (aI true (aV 2 5))))))))))))))))
theorem Wl:OD 35 8 1 FE:=d4
variable{i n:Nat}{m:Int}
abbrev Pr(M:Nat->GM)(vs:List Val)(r:Rv):Prop:=∀q S,M q vs S=some (.ok r S)
abbrev P0(M:Nat->GM)(vs:List Val)(r:Rv):Prop:=∀S,M 0 vs S=some (.ok r S)
noncomputable abbrev t7(ns:List Int):D:=.lst (ns.map D.int)
abbrev fL(ns:List Int)(p st m n:Int):List D:=[t7 ns,.int p,.int st,.int m,.int n]
def Fd(st:Int)(F:List D):Prop:=∃(ns:List Int) (p m n:Int),F=fL ns p st m n/\ns.length<=63/\0<=p
abbrev fC(F:List D):Cell:=.o (.lst F)
theorem Mv(ds:List D)(n:Nat):cutD ds none (some (n:Int))=ds.take n:=by
 unfold cutD;have e1:HT.bW ds.length 0 none=0:=rfl;have e2:HT.bW ds.length ds.length (some (n:Int))=min n ds.length:=by
  unfold HT.bW;simp;try lia
 rw[e1,e2];simp only[List.drop_zero,Nat.sub_zero];rw[List.take_eq_take_iff];lia
theorem FD(ds:List D):cutD ds none (some 2)=ds.take 2:=Mv ds 2
theorem zI(ds:List D):cutD ds none (some 63)=ds.take 63:=Mv ds 63
theorem XO(ns:List Int):∃a b,cB ((ns.map D.int).take 2++[D.int 0,D.int 0]) 0=some (.int a)/\cB ((ns.map D.int).take 2++[D.int 0,D.int 0]) 1=some (.int b):=by
 match ns with
 |[]=>exact⟨0,0,rfl,rfl⟩
 |[x]=>exact⟨x,0,rfl,rfl⟩
 |x::y::r=>exact⟨x,y,rfl,rfl⟩
theorem ZG{α:Type _}{a:α}{l:List α}:(a::l)[0]?=some a:=rfl
theorem qq1{α:Type _}{a:α}{l:List α}:(a::l)[i+1]?=l[i]?:=rfl
theorem qq2{α:Type _}{a:α}{l:List α}:(a::l).length=l.length+1:=rfl
theorem qq3{α:Type _}:([]:List α).length=0:=rfl
theorem qq4{α:Type _}{x a:α}{l:List α}:(x::l).set 0 a=a::l:=rfl
theorem qq5{α:Type _}{x a:α}{l:List α}:(x::l).set (n+1) a=x::l.set n a:=rfl
theorem NY{α β:Type _}{f:α->β}{a:α}{l:List α}:(a::l).map f=f a::l.map f:=rfl
theorem qq7{α β:Type _}{f:α->β}:([]:List α).map f=[]:=rfl
theorem qq8{α:Type _}{a:α}:List.replicate 0 a=[]:=rfl
theorem qq9{α:Type _}{a:α}:List.replicate (n+1) a=a::List.replicate n a:=rfl
theorem qqa{α:Type _}{a:α}{l:List α}:(a::l).take (i+1)=a::l.take i:=rfl
theorem qqb{α:Type _}{a:α}{l r:List α}:(a::l)++r=a::(l++r):=rfl
theorem qqc{α:Type _}(l:List α):[]++l=l:=rfl
theorem qqd{α:Type _}{l:List α}:l.take 0=[]:=rfl
theorem qqe:(false=true)=False:=jE
theorem qqf(n:Nat):0+n=n:=yv n
theorem Wm(ns:List Int)(h:ns.length<=63):∃F,Fd 0 F/\P0 ux [.d (t7 ns)] (.o (.lst F)):=by
 obtain⟨a,b,ha,hb⟩:=XO ns;refine⟨_,⟨ns,0,a%2,b,rfl,h,sd _⟩,λS=>?_⟩
 have c2:(ns.map D.int).take 63=ns.map D.int:=yq (by rw[aW];lia)
 have c1:(((ns.map D.int).take 2).length<=999998)=True:=cg (by rw[r6];lia)
 unfold ux;simp only[↓ev,FD,aK,c1,zI,c2,ha,hb]
theorem OG{α:Type}{l:List α}{a b c d e:α}:cB (a::b::c::d::e::l) 4=some e:=kO (j:=4) rfl
theorem Rc:((4:Int)<((5:Nat):Int))=True:=cg (by decide)
theorem LH:((1:Int)<((5:Nat):Int))=True:=cg (by decide)
theorem FC{a b:Cell}{s r:List Cell}:ba.cut ⟨a::s,r⟩ (b::s).length=⟨a::s,r⟩:=by
 unfold ba.cut;rw[show(b::s).length=(a::s).length from rfl];dsimp only;rw[List.take_length]
abbrev Dr(F:List D)(m v:Int)(F':List D):Prop:=∀s rr,eE 0 [.c 0,.d (.int m)] ⟨fC F::s,rr⟩=some (.ok (rd (.int v)) ⟨fC F'::s,rr⟩)
theorem Xr{ns:List Int}{p st n:Int}(h0:(0<m)=True)(h1:(m<1073741824)=True):Dr (fL ns p st 1 n) m (n%m) (fL ns p st 1 (n / m)):=by
 intro s rr;unfold eE;simp only[↓ev,fL,aK,OG,h0,h1,Rc,FC]
theorem lZ{st:Int}{F:List D}(h:Fd st F)(h0:0<m)(h1:m<1073741824):∃v F',0<=v/\v<m/\Fd st F'/\Dr F m v F':=by
 obtain⟨ns,p,md,n,rfl,hl,hp⟩:=h;by_cases hm:md=1
 .subst hm;exact⟨_,_,IF _ (by lia),IE _ h0,⟨ns,p,1,n / m,rfl,hl,hp⟩,Xr (cg h0) (cg h1)⟩
 .have NI:(md == 1)=false:=by simpa using hm
  have m1:∀x:Int,((-(2^64)<x/\x<2^64\/(-(2^64):Int)<31/\(31:Int)<2^64)=True):=λx=>cg (.inr ⟨by decide,by decide⟩)
  have m2:∀x:Int,((-(2^64)<x/\x<2^64\/(-(2^64):Int)<48271/\(48271:Int)<2^64)=True):=λx=>cg (.inr ⟨by decide,by decide⟩)
  have m3:∀x:Int,((-(2^64)<x/\x<2^64\/(-(2^64):Int)<69621/\(69621:Int)<2^64)=True):=λx=>cg (.inr ⟨by decide,by decide⟩)
  have m4:∀x:Int,(((-(2^64):Int)<31/\(31:Int)<2^64 \/ -(2^64)<x/\x<2^64)=True):=λx=>cg (.inl ⟨by decide,by decide⟩)
  have g0:=cg h0;have g1:=cg h1;have key:∃v,Dr (fL ns p st md n) m (v%m) (fL ns (p+1) st md n):=by
   by_cases hc:(0:Int)<ns.length
   .have hs:((ns.length:Int)<1073741824)=True:=cg (by lia)
    have Gh:∃c,cB (ns.map D.int) (p%(ns.length:Int))=some (.int c):=by
     have h1:=IF p (b:=(ns.length:Int)) (by lia)
     have h2:=IE p hc;have hk:(p%(ns.length:Int)).toNat<ns.length:=by lia
     refine⟨ns[(p%(ns.length:Int)).toNat],?_⟩;have z:=kO (xs:=ns.map D.int) (j:=(p%(ns.length:Int)).toNat) (by rw[gn,gp hk];rfl)
     rwa[show(((p%(ns.length:Int)).toNat:Nat):Int)=p%(ns.length:Int) by lia] at z
    obtain⟨c,Gh⟩:=Gh;have ll:((ns.map D.int).length:Int)=ns.length:=by rw[aW]
    have hc:=cg hc;generalize(ns.length:Int)=k at *;refine⟨((c+p / k*31)*48271+31*p)%1000003*69621%999983,λs rr=>?_⟩
    unfold eE;simp only[↓ev,fL,aK,NI,LH,ll,hc,Gh,hs,m1,m2,m4,m3,g0,FC]
   .have hc:=eq_false hc;have ll:((ns.map D.int).length:Int)=ns.length:=by rw[aW]
    generalize(ns.length:Int)=k at *;refine⟨(p*48271+31*p)%1000003*69621%999983,λs rr=>?_⟩
    unfold eE;simp only[↓ev,fL,aK,NI,LH,ll,hc,m2,m4,m3,g0,FC]
  obtain⟨v,e⟩:=key;exact⟨_,_,IF _ (by lia),IE _ h0,⟨ns,p+1,md,n,rfl,hl,by lia⟩,e⟩
variable{s ri:Int}{r:Nat}
def mU(st k:Nat):Str:=ly (("abcdefghijk":Str).cps.toList.getD (((k:Int)*4+(st:Int))%11).toNat 0)
def nm(st k:Nat):Str:=
 if st%3=0 then Txt.mul "q" ((st / 3%3:Nat):Int)++mU st k++Txt.slice "zq" none (some ((st / 9:Nat):Int))
 else if st%3=1 then(if k<8 then Txt.mul "b" ((k:Int)+1) else Txt.mul "c" ((k:Int) - 7)) else mU st k
theorem Wn:∀st:Nat,st<27->∀i:Nat,i<9->∀j:Nat,j<9->nm st i=nm st j->i=j:=by decide +kernel
theorem mulQ:∀n:Nat,n<3->MulOk "q" (n:Int):=by unfold MulOk;decide +kernel
theorem Hc:∀n:Nat,n<9->MulOk "b" ((n:Int)+1):=by unfold MulOk;decide +kernel
theorem mulC:∀n:Nat,n<9->MulOk "c" ((n:Int) - 7):=by unfold MulOk;decide +kernel
theorem G5:∀n:Nat,n<3->(Txt.mul "q" (n:Int)).length<=3:=by decide +kernel
theorem lenZ:∀n:Nat,n<3->(Txt.slice "zq" none (some (n:Int))).length<=3:=by decide +kernel
theorem G2:("abcdefghijk":Str).cps.toList.length=11:=by decide +kernel
theorem Wo(st k:Nat):cB ("abcdefghijk":Str).cps.toList (((k:Int)*4+st)%11)=some (("abcdefghijk":Str).cps.toList.getD (((k:Int)*4+st)%11).toNat 0):=QD 0 (by lia) (by rw[G2];lia)
theorem M3{st:Nat}(es:s=st)(er:ri=r)(h:st%3=r):(s%3 == ri)=true:=by rw[beq_iff_eq];lia
theorem Nm{st:Nat}(es:s=st)(er:ri=r)(h:¬st%3=r):(s%3 == ri)=false:=by rw[nA];lia
theorem FF{st:Nat}(hs:st<27):st / 3%3<3/\st / 9<3:=by lia
theorem TU(s i:Int)(st k:Nat)(es:s=st)(ek:i=k)(hs:st<27)(hk:k<9):Pr y9 [.d (.int s),.d (.int i)] (rd (.str (nm st k))):=by
 intro q S;have m1:((-(2^64)<i/\i<2^64)\/((-(2^64):Int)<4/\(4:Int)<2^64))=True:=cg (.inr ⟨by decide,by decide⟩)
 have ea:=Wo st k;rw[<-es,<-ek] at ea;have el:(⟨#[("abcdefghijk":Str).cps.toList.getD ((i*4+s)%11).toNat 0]⟩:Str)=mU st k:=by unfold mU ly;rw[es,ek]
 have c0:(("abcdefghijk":Str).length<=1000000)=True:=cg (by decide +kernel)
 have ll:(mU st k).length=1:=rfl;unfold y9 nm;generalize mU st k=lt at *;generalize("abcdefghijk":Str).cps.toList.getD ((i*4+s)%11).toNat 0=ch at *;generalize("abcdefghijk":Str)=T at *;by_cases h0:st%3=0
 .rw[aU h0];have q0:(s%3 == 0)=true:=M3 es rfl h0;have e3:((st / 3%3:Nat):Int)=s / 3%3:=by lia
  have e9:((st / 9:Nat):Int)=s / 9:=by lia
  have mq:=cg (mulQ (st / 3%3) (FF hs).1);have lq:=G5 (st / 3%3) (FF hs).1;have lz:=lenZ (st / 9) (FF hs).2;rw[e3] at mq lq ⊢;rw[e9] at lz ⊢;have c1:((Txt.mul "q" (s / 3%3)).length+lt.length<=1000000)=True:=cg (by lia)
  have c2:((Txt.mul "q" (s / 3%3)++lt).length+(Txt.slice "zq" none (some (s / 9))).length<=1000000)=True:=cg (by rw[Str.length_append];lia)
  have cz:(("zq":Str).length<=1000000)=True:=cg (by decide +kernel)
  generalize("zq":Str)=Z at *;generalize("q":Str)=Q at *;simp only[↓ev,m1,aK,c0,ea,el,q0,mq,c1,cz,c2]
 .have q0:(s%3 == 0)=false:=Nm es rfl h0;rw[aO h0];by_cases h1:st%3=1
  .rw[aU h1];have q1:(s%3 == 1)=true:=M3 es rfl h1;by_cases h8:k<8
   .rw[aU h8];have F9:(i<8)=True:=cg (by lia)
    have mb:=cg (Hc k hk);rw[<-ek] at mb ⊢;generalize("b":Str)=Q at *;simp only[↓ev,m1,aK,c0,ea,el,q0,q1,F9,mb]
   .rw[aO h8];have F9:(i<8)=False:=eq_false (by lia)
    have mb:=cg (mulC k hk);rw[<-ek] at mb ⊢;generalize("c":Str)=Q at *;simp only[↓ev,m1,aK,c0,ea,el,q0,q1,F9,mb]
  .rw[aO h1];have q1:(s%3 == 1)=false:=Nm es rfl h1;simp only[↓ev,m1,aK,c0,ea,el,q0,q1]
variable{n:Nat}
noncomputable abbrev dS(xs:List Str):List D:=xs.map D.str
theorem nU(x:Str):∀xs:List Str,((dS xs).any λz=>cj z (.str x))=xs.contains x
 |[]=>rfl
 |y::r=>by
  rw[dS,c_,List.any_cons,<-dS,nU x r,List.contains_cons,Dc]
  congr 1
  exact BEq.comm
theorem ng(n:Nat)(xs:List Str):(dS xs).all (bR n)=true:=by
 rw[gF];intro d hd;obtain⟨y,_,rfl⟩:=dF.mp hd;cases n <;> rfl
theorem TV(xs:List Str)(i:Nat)(y:Str):(dS xs).take i++.str y::(dS xs).drop i=dS (mQ xs i y):=by
 unfold mQ;simp only[dS,gq,NY,List.map_take,List.map_drop]
theorem EV{xs:List Str}{k:Int}(h0:0<=k)(h1:k<xs.length):cB (dS xs) k=some (.str (xs.getD k.toNat "")):=by
 have Gw:k.toNat<xs.length:=by lia
 have e:(dS xs)[k.toNat]?=some (.str (xs.getD k.toNat "")):=by simp[Gw]
 have z:=kO e
 rwa[show((k.toNat:Nat):Int)=k by lia] at z
theorem uy{i:Nat}{d r:List Nat}(e:List.range n=d++i::r):d.length=i/\i<n:=by
 have h2:d.length<n:=by have:=congrArg List.length e;simp at this;lia
 have h1:=congrArg (λl=>l[d.length]?) e
 simp only[gE (bC _),kh,ZG] at h1;rw[DU h2] at h1;have:=Option.some.inj h1;exact⟨this,this ▸ h2⟩
theorem JN:∀bs:List Bool,dO (bs.map D.bl)=some bs
 |[]=>rfl
 |b::r=>by
  rw[c_];unfold dO;rw[JN r];rfl
structure nF (names:List Str) (k:Nat) (outs:List Str):Prop where
 sub:∀o∈outs,o∈names.drop (k+1)
 len:outs.length<=20
theorem Ew{names:List Str}{k j:Nat}(h:j<names.length)(hk:k<=j):names.getD j ""∈names.drop k:=by
 have:(names.drop k)[j - k]?=some (names.getD j ""):=by rw[List.getElem?_drop,show k+(j - k)=j by lia];simp[h]
 exact kg this
def oM(ge:GE):GS:=dY (cv 0 "list" qC 4 (aV (ak (eE 0) (aV 0 (bj bh (gO (o1 br) (aX 4)) (gI 1)))) ge))
def Aw:GS:=oM (gX 1 5)
def Ax:GS:=oM (gX 1 (bj bh 2 (gI 1)))
def Ay:GS:=oM (gX 1 3)
def oZ:GS:=cG (cJ (gQ mr (bj bh 2 (gI 1)) 3) (cJ (gQ nq (ak (eE 0) (aV 0 (gI 4))) (gI 0)) (gQ eK (gX 1 (bj bh 2 (gI 1))) 4))) Ax
def o4:GS:=cG (cJ (gQ eK (gX 1 3) 4) (bu (bH (gO (o1 (uI vX)) (aX (bA 0 (dz jg (aV (bj bh 2 (gI 1)) 3)) 0 (λ_=>f7 true) B3 1 [4,1])))))) Ay
theorem P8:y_ 0=runM 4 6 (kf (ag 4 true (aI false gN)) (aY 0 (dz jg (aV (bj bh 2 (gI 1)) (gO (o1 br) (aX 1)))) 5 yV) oZ o4 (az 4)):=rfl
section
variable{F F' F2:List D}{cb:Cell}{rr:List Cell}{names outs o2:List Str}{y:Str}{v ol ki mi st:Int}{k aJ:Nat}{a5:ah Val}
abbrev oG(names:List Str)(ki mi:Int)(a5:ah Val):Gm:=[some (.c 0),some (.d (.lst (dS names))),some (.d (.int ki)),some (.d (.int mi)),some (.c 2),a5]
abbrev oS(F:List D)(cb:Cell)(outs:List Str)(rr:List Cell):ba:=⟨[fC F,cb,.o (.lst (dS outs))],rr⟩
theorem FG{ge:GE}(hg:∀F,ge (oG names ki mi a5) (oS F cb outs rr)=some (.ok (rd (.str y)) (oS F cb outs rr)))(h:Fd st F)(hl:outs.length<=30):
  ∃o2 F2,Fd st F2/\(∀o,o∈o2↔o=y\/o∈outs)/\o2.length=outs.length+1/\oM ge (oG names ki mi a5) (oS F cb outs rr)=some (.nx (oG names ki mi a5) (oS F2 cb o2 rr)):=by
 obtain⟨w,F2,w0,w1,h2,d2⟩:=lZ h (m:=(outs.length:Int)+1) (by lia) (by lia)
 refine⟨_,F2,h2,λo=>Q4,Q3 _ w.toNat y,?_⟩
 have eo:((dS outs).length:Int)=outs.length:=by rw[aW]
 have p0:=cg w0;have p1:(w<2^62)=True:=cg (by lia)
 have p2:((dS outs).length<1000000)=True:=cg (by rw[aW];lia)
 have h2:=TV outs w.toNat y;have hg:=hg F2;generalize(outs.length:Int)=ol at *;unfold oM;simp only[↓ev,oG,oS,eo,d2,hg,p0,p1,p2,aK,h2]
theorem TX{j:Int}(h:Fd st F)(ha:cB (dS names) j=some (.str y))(hl:outs.length<=30):∃o2 F2,Fd st F2/\(∀o∈o2,o=y\/o∈outs)/\o2.length<=outs.length+1/\yV 0 (oG names ki mi (some (.d (.int j)))) (oS F cb outs rr)=some (.nx (oG names ki mi (some (.d (.int j)))) (oS F2 cb o2 rr)):=by
 obtain⟨v,F',v0,v1,h',dr⟩:=lZ h (m:=3) (by decide) (by decide)
 have eb:yV 0=gR (cG (gQ iL (ak (eE 0) (aV 0 (gI 3))) (gI 0)) Aw):=rfl;rw[eb];cases hd:v == 0 with
 |true=>
  obtain⟨o2,F2,h2,m2,l2,e2⟩:=FG (names:=names) (ki:=ki) (mi:=mi) (a5:=some (.d (.int j))) (cb:=cb) (outs:=outs) (rr:=rr) (y:=y) (ge:=gX 1 5) (λF=>by simp only[↓ev,oG,oS,ha]) h' hl
  have e2:Aw _ _=_:=e2;exact⟨o2,F2,h2,λo m=>(m2 o).mp m,by lia,by simp only[↓ev,oG,oS,dr,aK,hd,e2]⟩
 |false=>exact⟨outs,F',h',λo m=>.inr m,by lia,by simp only[↓ev,oG,oS,dr,aK,hd]⟩
theorem Hk(h:Fd st F)(hl:outs.length<=30)(ha:∀j:Nat,j<names.length->cB (dS names) (j:Int)=some (.str (names.getD j "")))(hk:aJ<names.length):∃o2 F2,Fd st F2/\(∀o∈o2,(o=names.getD (k+1) ""/\k+1<names.length)\/o∈outs)/\o2.length<=outs.length+1/\oZ (oG names k aJ a5) (oS F cb outs rr)=some (.nx (oG names k aJ a5) (oS F2 cb o2 rr)):=by
 unfold oZ;by_cases NH:k+1<aJ
 .have oC:((k:Int)+1<(aJ:Int))=True:=cg (by lia)
  have ea:=ha (k+1) (by lia)
  rw[show((k+1:Nat):Int)=(k:Int)+1 by lia] at ea
  obtain⟨v,F',v0,v1,h',dr⟩:=lZ h (m:=4) (by decide) (by decide)
  by_cases hd:0<v
  .have hd:=cg hd;cases hc:outs.contains (names.getD (k+1) "") with
   |true=>
    refine⟨outs,F',h',λo m=>.inr m,by lia,?_⟩
    generalize(k:Int)=ki at *;generalize(aJ:Int)=mi at *;simp only[↓ev,oG,oS,oC,aK,dr,hd,ea,ng,nU,hc]
   |false=>
    generalize(k:Int)=ki at *;generalize(aJ:Int)=mi at *;obtain⟨o2,F2,h2,m2,l2,e2⟩:=FG (names:=names) (ki:=ki) (mi:=mi) (a5:=a5) (cb:=cb) (outs:=outs) (rr:=rr) (y:=names.getD (k+1) "") (ge:=gX 1 (bj bh 2 (gI 1))) (λF=>by simp only[↓ev,oG,oS,ea]) h' hl
    have e2:Ax _ _=_:=e2;exact⟨o2,F2,h2,λo m=>((m2 o).mp m).imp (λe=>⟨e,by lia⟩) id,by lia,by simp only[↓ev,oG,oS,oC,aK,dr,hd,ea,ng,nU,hc,e2]⟩
  .have hd:=eq_false hd;refine⟨outs,F',h',λo m=>.inr m,by lia,?_⟩
   generalize(k:Int)=ki at *;generalize(aJ:Int)=mi at *;simp only[↓ev,oG,oS,oC,aK,dr,hd]
 .have oC:((k:Int)+1<(aJ:Int))=False:=eq_false (by lia)
  refine⟨outs,F,h,λo m=>.inr m,by lia,?_⟩
  generalize(k:Int)=ki at *;generalize(aJ:Int)=mi at *;simp only[↓ev,oG,oS,oC,aK]
theorem Q5{q:Nat}{lo:Int}(l0:0<=lo)(hn:lo+n<=names.length)(Dt:n<=1000):
  bx (ao 0) (f7 true) (B3 q) (cZ lo n) [none,some (.c 2),some (.d (.lst (dS names)))] (oS F cb outs rr) []=some (.ok (((List.range n).map λ(i:Nat)=>outs.contains (names.getD (lo+(i:Int)).toNat "")).map D.bl) (oS F cb outs rr)):=by
 unfold cZ;rw[qM (λ(i:Nat)=>D.bl (outs.contains (names.getD (lo+(i:Int)).toNat ""))) (List.range n) (by rw[kN];lia) λi m=>?_,kL]
 .rfl
 .have ea:=EV (xs:=names) (k:=lo+(i:Int)) (by lia) (by have:=k6.mp m;lia)
  generalize lo+(i:Int)=ix at *;refine⟨rd (.bl (outs.contains (names.getD ix.toNat ""))),?_,rfl⟩;unfold B3;simp only[↓ev,oS,ea,ng,aK,nU]
theorem Hl(h:Fd st F)(hl:outs.length<=30)(ha:∀j:Nat,j<names.length->cB (dS names) (j:Int)=some (.str (names.getD j "")))(hk:aJ<names.length)(Dq:k<aJ)(hn:names.length<=12):∃o2 F2,Fd st F2/\(∀o∈o2,o=names.getD aJ ""\/o∈outs)/\o2.length<=outs.length+1/\o2≠[]/\o4 (oG names k aJ a5) (oS F cb outs rr)=some (.nx (oG names k aJ a5) (oS F2 cb o2 rr)):=by
 have ea:=ha aJ hk;unfold o4;cases hc:outs.contains (names.getD aJ "") with
 |true=>
  refine⟨outs,F,h,λo m=>.inr m,by lia,λz=>?_,?_⟩
  .rw[z] at hc;cases hc
  .generalize(k:Int)=ki at *;generalize(aJ:Int)=mi at *;simp only[↓ev,oG,oS,ea,ng,nU,hc,aK]
 |false=>
  have ec:=Q5 (F:=F) (cb:=cb) (outs:=outs) (rr:=rr) (names:=names) (q:=0) (lo:=(k:Int)+1) (n:=((aJ:Int) - ((k:Int)+1)).toNat) (by lia) (by lia) (by lia)
  have b1:Nat.ble ((k:Int)+1).natAbs 1000000000000=true:=pH (by lia)
  have b2:Nat.ble (aJ:Int).natAbs 1000000000000=true:=pH (by lia)
  generalize xX:((List.range ((aJ:Int) - ((k:Int)+1)).toNat).map λ(i:Nat)=>outs.contains (names.getD ((k:Int)+1+(i:Int)).toNat ""))=bs at ec
  have eb:=JN bs;cases vh:vX bs with
  |true=>
   refine⟨outs,F,h,λo m=>.inr m,by lia,λz=>?_,?_⟩
   .obtain⟨b,hb,Gi⟩:=yp.mp vh;rw[<-xX] at hb;obtain⟨i,_,e⟩:=dF.mp hb;rw[<-e,z] at Gi;cases Gi
   .generalize(k:Int)=ki at *;generalize(aJ:Int)=mi at *;simp only[↓ev,oG,oS,ea,ng,nU,hc,aK,b1,b2,ec,eb,vh]
  |false=>
   generalize(k:Int)=ki at *;generalize(aJ:Int)=mi at *;obtain⟨o2,F2,h2,m2,l2,e2⟩:=FG (names:=names) (ki:=ki) (mi:=mi) (a5:=a5) (cb:=cb) (outs:=outs) (rr:=rr) (y:=names.getD aJ "") (ge:=gX 1 3) (λF=>by simp only[↓ev,oG,oS,ea]) h hl
   have e2:Ay _ _=_:=e2;refine⟨o2,F2,h2,λo m=>(m2 o).mp m,by lia,λz=>?_,by simp only[↓ev,oG,oS,ea,ng,nU,hc,aK,b1,b2,ec,eb,vh,e2]⟩
   have:=(m2 (names.getD aJ "")).mpr (.inl rfl);rw[z] at this;cases this
theorem Wq(h:Fd st F)(Dq:k<aJ)(hm:aJ<names.length)(hn:names.length<=12):∃outs F',Fd st F'/\nF names k outs/\outs≠[]/\y_ 0 [.c 0,.d (.lst (dS names)),.d (.int k),.d (.int aJ)] ⟨[fC F,cb],rr⟩=some (.ok (.o (.lst (dS outs))) ⟨[fC F',cb],rr⟩):=by
 have ha:∀j:Nat,j<names.length->cB (dS names) (j:Int)=some (.str (names.getD j "")):=λj hj=>EV (by lia) (by lia)
 obtain⟨U1,S1,e1,o1,F1,a5,h1,HD,l1,rfl,rfl⟩:=ir (ao 5) (yV 0) (λ(i:Nat)=>D.int ((k:Int)+1+(i:Int))) (oS F cb [] rr) (U:=oG names k aJ none) (λpre U S=>∃o1 F1 a5,Fd st F1/\(∀o∈o1,o∈names.drop (k+1))/\o1.length<=pre.length/\U=oG names k aJ a5/\S=oS F1 cb o1 rr) (List.range ((names.length:Int) - ((k:Int)+1)).toNat) ⟨[],F,none,h,λo m=>(by cases m),bC _,rfl,rfl⟩ (by
  rintro d i r eq U S ⟨o1,F1,a5,h1,HD,l1,rfl,rfl⟩;obtain⟨hq,hi⟩:=uy eq;have ea:=ha (k+1+i) (by lia)
  rw[show((k+1+i:Nat):Int)=(k:Int)+1+(i:Int) by lia] at ea
  obtain⟨o2,F2,h2,m2,l2,e2⟩:=TX (ki:=k) (mi:=aJ) (cb:=cb) (rr:=rr) h1 ea (outs:=o1) (by lia)
  refine⟨_,_,_,rfl,.inl e2,o2,F2,_,h2,λo m=>?_,by rw[b_,iW];lia,rfl,rfl⟩
  rcases m2 o m with z|z
  .rw[z];exact Ew (by lia) (by lia)
  .exact HD o z)
 rw[kN] at l1;rw[show(List.range ((names.length:Int) - ((k:Int)+1)).toNat).map (λ(i:Nat)=>D.int ((k:Int)+1+(i:Int)))=cZ ((k:Int)+1) ((names.length:Int) - ((k:Int)+1)).toNat from rfl] at e1
 obtain⟨o2,F2,h2,m2,l2,e2⟩:=Hk (k:=k) (aJ:=aJ) (a5:=a5) (cb:=cb) (rr:=rr) h1 (outs:=o1) (by lia) ha hm
 obtain⟨o3,F3,h3,m3,l3,n3,e3⟩:=Hl (k:=k) (aJ:=aJ) (a5:=a5) (cb:=cb) (rr:=rr) h2 (outs:=o2) (by lia) ha hm Dq hn
 have s2:∀o∈o2,o∈names.drop (k+1):=λo m=>by
  rcases m2 o m with⟨z,z2⟩|z
  .rw[z];exact Ew z2 (by lia)
  .exact HD o z
 refine⟨o3,F3,h3,⟨λo m=>?_,by lia⟩,n3,?_⟩
 .rcases m3 o m with z|z
  .rw[z];exact Ew hm (by lia)
  .exact s2 o z
 .have b1:Nat.ble ((k:Int)+1).natAbs 1000000000000=true:=pH (by lia)
  have b2:Nat.ble (names.length:Int).natAbs 1000000000000=true:=pH (by lia)
  have GC:((dS names).length:Int)=names.length:=by rw[aW]
  have e1:aF _ _ _ _ ⟨[fC F,cb,.o (.lst [])],rr⟩=_:=e1;rw[P8];generalize(k:Int)=ki at *;generalize(aJ:Int)=mi at *;generalize(names.length:Int)=nl at *;simp only[↓ev,aK,GC,b1,b2,e1,oG,oS,e2,e3];rfl
end
variable{S:ba}
def aT(b:aM):D:=.tup [.str b.name,.int b.long,.bl b.ring,.lst (dS b.outs)]
def bf(h:av):D:=.tup [.lst (h.aq.map aT),.lst (dS h.aB)]
def iR(aB:List Str):List aM->Prop
 |[]=>True
 |b::bs=>(∀o∈b.outs,o∈bs.map aM.name\/o∈aB)/\b.name∉bs.map aM.name/\b.name∉aB/\iR aB bs
structure pK (b:aM):Prop where
 lg:1<=b.long/\b.long<=20
 ol:b.outs.length<=20
 on:b.outs≠[]
structure dc (h:av):Prop where
 bl:0<h.aq.length/\h.aq.length<=6
 ct:0<h.aB.length/\h.aB.length<=3
 bk:∀b∈h.aq,pK b
 fwd:iR h.aB h.aq
 tl:∃L:Nat,(∀b∈h.aq,b.long<=L)/\h.aq.length*L<=30
theorem Q6(ds:List D)(n:Nat):cutD ds (some (n:Int)) none=ds.drop n:=by
 unfold cutD;have e:HT.bW ds.length 0 (some (n:Int))=min n ds.length:=by
  unfold HT.bW;simp;lia
 have e2:HT.bW ds.length ds.length none=ds.length:=rfl;rw[e,e2];by_cases h:n<=ds.length
 .rw[Nat.min_eq_left h];exact yq (by rw[wD];exact bC _)
 .rw[Nat.min_eq_right (by lia),List.drop_eq_nil_of_le (bC _),List.drop_eq_nil_of_le (by lia),List.take_nil]
theorem JO(names:List Str)(nd:names.Nodup)(aJ:Nat)(hm:aJ<=names.length):∀(bs:List aM) (j:Nat),j+bs.length=aJ->(∀i b,bs[i]?=some b->b.name=names.getD (j+i) ""/\∀o∈b.outs,o∈names.drop (j+i+1))->bs.map aM.name=(names.drop j).take bs.length/\iR (names.drop aJ) bs
 |[],j,hj,_=>⟨rfl,mF⟩
 |b::bs,j,hj,h=>by
  rw[dg] at hj;have h0:=h 0 b rfl;rw[Nat.add_zero] at h0;obtain⟨i1,i2⟩:=JO names nd aJ hm bs (j+1) (by lia) λi c e=>by
   have:=h (i+1) c (by rw[Iw];exact e)
   rw[show j+(i+1)=j+1+i by lia] at this
   exact this
  have Gv:j<names.length:=by lia
  have ed:names.drop j=names.getD j ""::names.drop (j+1):=by
   rw[DJ Gv,List.getD_eq_getElem?_getD,gp Gv];rfl
  have og:names.drop (j+1)=bs.map aM.name++names.drop aJ:=by
   rw[i1];have:=BA bs.length (names.drop (j+1));rw[List.drop_drop,show j+1+bs.length=aJ by lia] at this
   exact this.symm
  have He:(names.getD j ""::names.drop (j+1)).Nodup:=by rw[<-ed];exact nd.sublist (List.drop_sublist _ _)
  have nn:=(gA.mp He).1;rw[og] at nn;refine⟨by rw[c_,h0.1,i1,ed];rfl,⟨λo ho=>?_,λz=>nn (t_ _ (by rw[<-h0.1];exact z)),λz=>nn (m7 _ (by rw[<-h0.1];exact z)),i2⟩⟩
  have:=h0.2 o ho;rw[og] at this;exact dD.mp this
def kG:GS:=kf (ag 4 false (ak (eE 0) (aV 0 (gI 27))))
 (ag 5 false (bA 0 (dz je (aX (bj bh (bj bh 1 (gI 1)) (ak (eE 0) (aV 0 (gI 3)))))) 0 (λ_=>f7 true) yP 1 [4]))
 (ag 6 true (aI false gN))
 (aY 0 (dz je (aX 1)) 7 w6)
 (az (aI true (aV 6 (qH 5 (sO 1) sN))))
def mO(rest:GS):GS:=cA (kF (gQ iL 3 (gI 5)) (gY (ag 1 false (gI 6)) (ag 2 false (gI 5))) fO)
 (cA (kF (gQ iL 3 (gI 6)) (gY (ag 1 false (bj bh (gI 1) (bj jr 1 (gI 3)))) (ag 2 false (gI 14))) fO) rest)
theorem O2:uw 0=runM 1 10 (cA (ag 1 false (bj bh (gI 1) (ak (eE 0) (aV 0 (gI 4))))) (cA (ag 2 false (gI 4)) (cA (ag 3 false (ak (eE 0) (aV 0 (gI 8)))) (mO kG)))):=rfl
theorem P9{sv ix:Int}{z:Str}(xn:Pr y9 [.d (.int sv),.d (.int ix)] (rd (.str z))):yP 0 [some (.d (.int ix)),some (.d (.int sv))] S=some (.ok (rd (.str z)) S):=by
 unfold yP;simp only[↓ev,xn]
theorem TY(sv:Int)(st n:Nat)(lF:sv=st)(hs:st<27)(hn:n<=9):bx (ao 0) (f7 true) (yP 0) (cZ 0 n) [none,some (.d (.int sv))] S []=some (.ok (dS ((List.range n).map (nm st))) S):=by
 unfold cZ;rw[qM (λ(i:Nat)=>D.str (nm st i)) (List.range n) (by rw[kN];lia) λi m=>⟨_,P9 (TU sv (0+(i:Int)) st i lF (by lia) hs (by have:=k6.mp m;lia)),rfl⟩]
 simp only[dS,kL,Function.comp_def]
section
variable{F F' F2:List D}{rr:List Cell}{names outs:List Str}{NV:Str}{bl:List D}{rg:Bool}{v w mi li ki st ri:Int}{a3 a4 a7 a8 a9:ah Val}{aJ long k:Nat}
abbrev hG(names:List Str)(mi li:Int)(a3 a4 a7 a8 a9:ah Val):Gm:=[some (.c 0),some (.d (.int mi)),some (.d (.int li)),a3,a4,some (.d (.lst (dS names))),some (.c 1),a7,a8,a9]
theorem Wr{lg:Int}(d1:Dr F 3 v F')(hr:(v == 0)=rg)(ei:(if rg=true then(1:Int) else 0)=ri)(d2:Dr F' (li - ri) w F2)(el:1+ri+w=lg)(ha:cB (dS names) ki=some (.str NV)){F3:List D}(hx:y_ 0 [.c 0,.d (.lst (dS names)),.d (.int ki),.d (.int mi)] ⟨[fC F2,.o (.lst bl)],rr⟩=some (.ok (.o (.lst (dS outs))) ⟨[fC F3,.o (.lst bl)],rr⟩))(hb:(bl.length<1000000)=True):
  w6 0 (hG names mi li a3 a4 (some (.d (.int ki))) a8 a9) ⟨[fC F,.o (.lst bl)],rr⟩=some (.nx (hG names mi li a3 a4 (some (.d (.int ki))) (some (.d (.bl rg))) (some (.d (.int lg)))) ⟨[fC F3,.o (.lst (bl++[.tup [.str NV,.int lg,.bl rg,.lst (dS outs)]]))],rr⟩):=by
 unfold w6;simp only[↓ev,hG,d1,aK,hr,ei,d2,el,ha,hx,hb]
theorem Ws(h:Fd st F)(Dq:k<aJ)(hm:aJ<names.length)(hn:names.length<=12)(l0:4<=long)(l1:long<=14)(bs:List aM)(hb:bs.length<=100):∃(F':List D) (b:aM) (b8 b9:ah Val),Fd st F'/\b.long<=(long:Int)/\pK b/\b.name=names.getD k ""/\nF names k b.outs/\
  w6 0 (hG names aJ long a3 a4 (some (.d (.int k))) a8 a9) ⟨[fC F,.o (.lst (bs.map aT))],rr⟩=some (.nx (hG names aJ long a3 a4 (some (.d (.int k))) b8 b9) ⟨[fC F',.o (.lst ((bs++[b]).map aT))],rr⟩):=by
 obtain⟨v,F1,v0,v1,h1,d1⟩:=lZ h (m:=3) (by decide) (by decide)
 have ga:=EV (xs:=names) (k:=(k:Int)) (by lia) (by lia)
 rw[show((k:Int)).toNat=k by lia] at ga
 generalize hr:(v == 0)=rg at *;generalize ei:(if rg=true then(1:Int) else 0)=ri at *
 have hb01:ri=0\/ri=1:=by rw[<-ei];cases rg <;> simp
 obtain⟨w,F2,w0,w1,h2,d2⟩:=lZ h1 (m:=(long:Int) - ri) (by lia) (by lia)
 obtain⟨outs,F3,h3,iI,ne3,e3⟩:=Wq (cb:=.o (.lst (bs.map aT))) (rr:=rr) h2 Dq hm hn;have e:=Wr (a3:=a3) (a4:=a4) (a8:=a8) (a9:=a9) d1 hr ei d2 rfl ga e3 (cg (by rw[aW];lia))
 refine⟨F3,⟨names.getD k "",1+ri+w,rg,outs⟩,some (.d (.bl rg)),some (.d (.int (1+ri+w))),h3,?_,⟨⟨?_,?_⟩,iI.len,ne3⟩,rfl,iI,?_⟩
 .show 1+ri+w<=(long:Int);lia
 .show 1<=1+ri+w;lia
 .show 1+ri+w<=20;lia
 .rw[gq (f:=aT)];exact e
theorem Wt(h:Fd st F)(m0:1<=aJ)(m1:aJ<=6)(l0:4<=long)(l1:long<=14)(ml:aJ*long<=30):
  ∃(F':List D) (hs:av),Fd st F'/\dc hs/\kG [some (.c 0),some (.d (.int aJ)),some (.d (.int long)),a3,none,none,none,none,none,none] ⟨[fC F],rr⟩=some (.rt (rd (bf hs)) ⟨[fC F',.z (.lst (hs.aq.map aT))],rr⟩):=by
 obtain⟨sv,F1,s0,s1,h1,d1⟩:=lZ h (m:=27) (by decide) (by decide)
 obtain⟨nv,F2,n0,n1,h2,d2⟩:=lZ h1 (m:=3) (by decide) (by decide)
 obtain⟨sn,Za⟩:∃sn:Nat,sv=sn:=⟨sv.toNat,by lia⟩
 obtain⟨nx,hnx⟩:∃nx:Nat,nv=nx:=⟨nv.toNat,by lia⟩
 have bS:((aJ:Int)+1+nv).toNat=aJ+1+nx:=by lia
 have en:=λS=>TY (S:=S) sv sn (aJ+1+nx) Za (by lia) (by lia)
 rw[<-bS] at en;generalize oE:(List.range ((aJ:Int)+1+nv).toNat).map (nm sn)=names at en;have hnl:names.length=aJ+1+nx:=by rw[<-oE,aW,kN,bS]
 have nd:names.Nodup:=by
  rw[<-oE];unfold List.Nodup;rw[II];refine List.Pairwise.imp_of_mem ?_ List.nodup_range;intro i j hi hj Gu e;rw[k6] at hi hj;exact Gu (Wn sn (by lia) i (by lia) j (by lia) e)
 obtain⟨U',S',eL,F3,bs,a7,a8,a9,h3,hlen,xX,rfl,rfl⟩:=ir (ao 7) (w6 0) (λ(i:Nat)=>D.int (0+(i:Int))) ⟨[fC F2,.o (.lst [])],rr⟩ (U:=hG names aJ long a3 (some (.d (.int sv))) none none none) (λpre U S=>∃(F':List D) (bs:List aM) (a7 a8 a9:ah Val),Fd st F'/\bs.length=pre.length/\(∀i b,bs[i]?=some b->(b.long<=(long:Int)/\pK b)/\b.name=names.getD (0+i) ""/\∀o∈b.outs,o∈names.drop (0+i+1))/\U=hG names aJ long a3 (some (.d (.int sv))) a7 a8 a9/\S=⟨[fC F',.o (.lst (bs.map aT))],rr⟩) (List.range aJ) ⟨F2,[],none,none,none,h2,rfl,λi b e=>(by simp at e),rfl,rfl⟩ (by
  rintro d k r eq U S ⟨F',bs,a7,a8,a9,hF,GC,xX,rfl,rfl⟩;obtain⟨hq,hk⟩:=uy eq;obtain⟨F3,b,b8,b9,h3,bg,bo,bn,oo,e⟩:=Ws (names:=names) (a3:=a3) (a4:=some (.d (.int sv))) (a8:=a8) (a9:=a9) (rr:=rr) hF hk (by lia) (by lia) l0 l1 bs (by lia)
  rw[show(k:Int)=0+(k:Int) by lia] at e
  refine⟨_,_,_,rfl,.inl e,F3,bs++[b],_,b8,b9,h3,by rw[b_,b_,GC,iW,iW],λi c ec=>?_,rfl,rfl⟩
  by_cases hi:i<bs.length
  .rw[gj hi] at ec;exact xX i c ec
  .rw[gE (by lia)] at ec
   have YR:i - bs.length=0:=by
    have:=(cK.mp ec).1;simp at this;lia
   rw[YR] at ec;cases ec;have:0+i=k:=by lia
   rw[this];exact⟨⟨bg,bo⟩,bn,oo.sub⟩)
 rw[kN] at hlen;obtain⟨f1,f2⟩:=JO names nd aJ (by lia) bs 0 (by lia) λi b e=>(xX i b e).2
 have Dn:∀b,b∈bs->b.long<=(long:Int)/\pK b:=λb hb=>by
  obtain⟨i,hi,e⟩:=DR.mp hb;exact(xX i b (by rw[<-e];exact gp hi)).1
 refine⟨F3,⟨bs,names.drop aJ⟩,h3,⟨⟨by show 0<bs.length;lia,by show bs.length<=6;lia⟩,⟨?_,?_⟩,λb hb=>(Dn b hb).2,f2,long,λb hb=>(Dn b hb).1,?_⟩,?_⟩
 .show 0<(names.drop aJ).length;rw[wD];lia
 .show(names.drop aJ).length<=3;rw[wD];lia
 .show bs.length*long<=30;rw[hlen];exact ml
 .have b1:Nat.ble ((aJ:Int)+1+nv).natAbs 1000000000000=true:=pH (by lia)
  have b2:Nat.ble (aJ:Int).natAbs 1000000000000=true:=pH (by lia)
  have mt:cZ 0 (aJ:Int).toNat=(List.range aJ).map λ(i:Nat)=>D.int (0+(i:Int)):=by rw[show(aJ:Int).toNat=aJ by lia];rfl
  have ct:=Q6 (dS names) aJ;have ec:dS (names.drop aJ)=(dS names).drop aJ:=List.map_drop ..;unfold kG bf;dsimp only;rw[ec];generalize(aJ:Int)=mi at *;generalize(long:Int)=li at *;simp only[↓ev,d1,aK,d2,b1,en,b2,mt,eL,hG,ct]
theorem TZ(h:Fd st F):∃(F':List D) (hs:av),Fd st F'/\dc hs/\uw 0 [.c 0] ⟨[fC F],rr⟩=some (.ok (rd (bf hs)) ⟨[fC F'],rr⟩):=by
 obtain⟨v,F1,v0,v1,h1,d1⟩:=lZ h (m:=4) (by decide) (by decide)
 obtain⟨w,F2,w0,w1,h2,d2⟩:=lZ h1 (m:=8) (by decide) (by decide)
 obtain⟨mn,hmn⟩:∃mn:Nat,v=mn:=⟨v.toNat,by lia⟩
 have main:∃aJ long:Nat,1<=aJ/\aJ<=6/\4<=long/\long<=14/\aJ*long<=30/\∀rest S,mO rest [some (.c 0),some (.d (.int (1+v))),some (.d (.int 4)),some (.d (.int w)),none,none,none,none,none,none] S=rest [some (.c 0),some (.d (.int aJ)),some (.d (.int long)),some (.d (.int w)),none,none,none,none,none,none] S:=by
  by_cases h5:w=5
  .refine⟨6,5,by lia,by lia,by lia,by lia,by lia,λr S=>?_⟩
   have q5:(w == 5)=true:=by rw[h5];rfl
   have q6:(w == 6)=false:=by rw[h5];rfl
   rw[show((6:Nat):Int)=6 from rfl,show((5:Nat):Int)=5 from rfl];unfold mO;simp only[↓ev,aK,q5,q6]
  .have q5:(w == 5)=false:=by rw[nA];exact h5
   by_cases h6:w=6
   .refine⟨1+(1+mn) / 3,14,by lia,by lia,by lia,by lia,by lia,λr S=>?_⟩
    have q6:(w == 6)=true:=by rw[h6];rfl
    have d3:decide (0<(3:Int)/\(3:Int)<1073741824)=true:=by decide
    rw[show((1+(1+mn) / 3:Nat):Int)=1+(1+v) / 3 by lia,show((14:Nat):Int)=14 from rfl]
    unfold mO;simp only[↓ev,aK,q5,q6]
   .have q6:(w == 6)=false:=by rw[nA];exact h6
    refine⟨1+mn,4,by lia,by lia,by lia,by lia,by lia,λr S=>?_⟩
    rw[show((1+mn:Nat):Int)=1+v by lia,show((4:Nat):Int)=4 from rfl]
    unfold mO;simp only[↓ev,aK,q5,q6]
 obtain⟨aJ,long,m0,m1,l0,l1,ml,em⟩:=main;obtain⟨F',hs,h',ok,er⟩:=Wt (a3:=some (.d (.int w))) (rr:=rr) h2 m0 m1 l0 l1 ml;have em:=em kG ⟨[fC F2],rr⟩;rw[er] at em;refine⟨F',hs,h',ok,?_⟩;rw[O2];generalize mO kG=rest at *;simp only[↓ev,d1,aK,d2,em];rfl
end
variable{q:Nat}{n:Str}{S:ba}{b:aM}{d0:ah Val}{h:av}
noncomputable def findB(bs:List aM)(n:Str):ah aM:=bs.find? λb=>b.name == n
theorem Kd{aB:List Str}:∀{bs:List aM},iR aB bs->∀x∈bs,∀y∈bs,x.name=y.name->x=y
 |z::bs,f,x,hx,y,hy,e=>by
  rcases y06.mp hx with qa|qa
  .rcases y06.mp hy with vw|vw
   .rw[qa,vw]
   .exact bG (yu (f:=aM.name) vw) (by rw[<-e,qa];exact f.2.1)
  .rcases y06.mp hy with vw|vw
   .exact bG (yu (f:=aM.name) qa) (by rw[e,vw];exact f.2.1)
   .exact Kd f.2.2.2 x qa y vw e
theorem B_{aB:List Str}:∀{bs:List aM},iR aB bs->∀c∈aB,c∉bs.map aM.name
 |[],_,c,_,h=>by cases h
 |b::bs,f,c,hc,h=>by
  rcases y06.mp h with z|z
  .exact f.2.2.1 (by rw[<-z];exact hc)
  .exact B_ f.2.2.2 c hc z
theorem Jn{aB:List Str}:∀{bs:List aM},iR aB bs->∀b∈bs,findB bs b.name=some b
 |x::bs,f,b,hb=>by
  rcases y06.mp hb with rfl|hb
  .unfold findB;rw[wI,qm]
  .have:(x.name == b.name)=false:=by
    rw[nA];exact λe=>f.2.1 (by rw[e];exact yu (f:=aM.name) hb)
   unfold findB;rw[wI,this];exact Jn f.2.2.2 b hb
theorem Q7(b:aM):bR 3 (aT b)=true:=by
 unfold aT;show([D.str b.name,.int b.long,.bl b.ring,.lst (dS b.outs)]:List D).all (bR 2)=true;rw[k9,k9,k9,k9,List.all_nil];exact r_.mpr ⟨rfl,r_.mpr ⟨rfl,r_.mpr ⟨rfl,r_.mpr ⟨ng 1 b.outs,rfl⟩⟩⟩⟩
theorem Ey:∀(n:Nat) (d:D),bR n d=true->bR (n+1) d=true
 |0,d,h=>by cases d <;> first|(cases h;done)|rfl
 |n+1,d,h=>by
  cases d with
  |lst xs=>exact gF.mpr λx m=>Ey n x (gF.mp h x m)
  |tup xs=>exact gF.mpr λx m=>Ey n x (gF.mp h x m)
  |aP _=>cases h
  |ty _=>cases h
  |ref _=>cases h
  |_=>rfl
theorem Mw{n:Nat}{d:D}(h:bR n d=true):∀k,bR (n+k) d=true
 |0=>h
 |k+1=>Ey _ _ (Mw h k)
def qf(q:Nat):Prop:=q≠1/\q≠2
theorem C9(h:qf q)(n:Nat)(b:Bx):Bx.mb q (.c n) b=true:=by
 match q,h with
 |0,_=>rfl
 |1,h=>exact bG rfl h.1
 |2,h=>exact bG rfl h.2
 |q+3,_=>rfl
theorem Hy:qf 0:=⟨nofun,nofun⟩
theorem NX{n:Nat}:qf (n+3):=⟨by lia,by lia⟩
abbrev Pq(M:Nat->GM)(vs:List Val)(r:Rv):Prop:=∀q,qf q->∀S,M q vs S=some (.ok r S)
theorem XQ(hb:(b.name == n)=false):wZ q [d0,dI n,ax (aT b)] S=some (.nx [d0,dI n,ax (aT b)] S):=by
 unfold wZ aT;simp only[↓ev,aK,hb]
theorem Wu(hb:(b.name == n)=true):wZ q [d0,dI n,ax (aT b)] S=some (.rt (rd (aT b)) S):=by
 unfold wZ aT;simp only[↓ev,aK,hb]
theorem Jo{aB:List Str}{b:aM}{r:List aM}:∀{d:List aM},iR aB (d++b::r)->∀y∈d,(y.name == b.name)=false
 |x::d,f,y,hy=>by
  rw[nA];intro e;rcases y06.mp hy with rfl|hy
  .exact f.2.1 (by rw[e];simp)
  .exact(nA.mp (Jo f.2.2.2 y hy)) e
theorem Q8(f:iR h.aB h.aq)(hb:b∈h.aq):Pr B7 [.d (bf h),fm b.name] (rd (aT b)):=by
 intro q S;obtain⟨d,r,eq⟩:=List.append_of_mem hb;rw[eq] at f;have e:aF (ao 2) (wZ q) (h.aq.map aT) [ax (bf h),dI b.name,none] S=some (.rt (rd (aT b)) S):=by
  rw[eq];refine La (f:=aT) (λ_ U S'=>∃a,U=[ax (bf h),dI b.name,a]/\S'=S) d [] _ _ ⟨_,rfl,rfl⟩ ?_ ?_
  .rintro d' y r' e' U S' ⟨a,rfl,rfl⟩;exact⟨_,_,_,rfl,.inl (XQ (Jo f y (by rw[wK] at e';rw[e'];simp))),_,rfl,rfl⟩
  .rintro U S' ⟨a,rfl,rfl⟩;exact⟨_,rfl,Wu (qm _)⟩
 have hD:bf h=.tup [.lst (h.aq.map aT),.lst (dS h.aB)]:=rfl;rw[hD] at e ⊢;unfold B7;simp only[↓ev,aK,e]
def lC(h:av)(o:Str):D:=if h.aB.contains o=true then .str o else .tup [.str o,.int 0]
def kH(h:av)(b:aM):List D:=b.outs.map (lC h)++if b.ring=true then[.tup [.str b.name,.int 0]] else[]
def qI(h:av)(b:aM)(c:Int):List D:=if c+1<b.long then[.tup [.str b.name,.int (c+1)]] else kH h b
theorem T3{outs:List Str}(hl:outs.length<=24):bx (ao 0) (f7 true) (Ej q) (dS outs) [none,ax (bf h)] S []=some (.ok (outs.map (lC h)) S):=by
 refine qM (lC h) outs (by lia) λx m=>⟨rd (lC h x),?_,rfl⟩
 unfold Ej lC bf;cases hx:h.aB.contains x with
 |true=>simp only[↓ev,aK,ng,nU,hx]
 |false=>simp only[↓ev,aK,ng,nU,hx]
theorem T4(f:iR h.aB h.aq)(hb:b∈h.aq)(ol:b.outs.length<=24)(c:Int):Pq CB [.d (bf h),.d (vT b.name c)] (.o (.lst (qI h b c))):=by
 intro q hq S;have mb:=C9 hq;have e1:=Q8 f hb;have e2:=λq S=>T3 (h:=h) (q:=q) (S:=S) ol
 have l1:((b.outs.map (lC h)).length<1000000)=True:=cg (by rw[aW];lia)
 unfold aT at e1;unfold CB qI kH;generalize bf h=hd at *;by_cases hc:c+1<b.long
 .rw[aU hc];have hc:=cg hc;simp only[↓ev,aK,e1,hc]
 .rw[aO hc];have hc:=eq_false hc;cases hr:b.ring with
  |true=>simp only[↓ev,aK,e1,hr,hc,e2,mb,l1]
  |false=>simp only[↓ev,aK,e1,hr,hc,e2,lQ]
theorem T5(f:iR h.aB h.aq)(hb:b∈h.aq)(ol:b.outs.length<=24)(c:Int):Pq xt [.d (bf h),.d (vT b.name c)] (.o (.lst (qI h b c++[vT b.name c]))):=by
 intro q hq S;have e1:=T4 f hb ol c q hq;have l1:((qI h b c).length+1<=1000000)=True:=cg (by
  unfold qI kH;split
  .show 1+1<=1000000;lia
  .rw[b_,aW];split <;> simp <;> lia)
 unfold xt;generalize bf h=hd at *;generalize qI h b c=st at *;simp only[↓ev,e1,aK,l1]
theorem Cg{aB:List Str}:∀{bs:List aM},iR aB bs->∀b∈bs,∀o∈b.outs,o∈bs.map aM.name\/o∈aB
 |x::bs,f,b,hb,o,ho=>by
  rcases y06.mp hb with rfl|hb
  .rcases f.1 o ho with z|z
   .exact .inl (.tail _ z)
   .exact .inr z
  .rcases Cg f.2.2.2 b hb o ho with z|z
   .exact .inl (.tail _ z)
   .exact .inr z
noncomputable def bb:Str ⊕ (Str×Int)->D
 |.inl x=>.str x
 |.inr (x,i)=>.tup [.str x,.int i]
def ff(h:av)(b:aM)(c:Int):List (Str ⊕ (Str×Int)):=if c+1<b.long then[.inr (b.name,c+1)] else(b.outs.map λo=>if h.aB.contains o=true then .inl o else .inr (o,0))++if b.ring=true then[.inr (b.name,0)] else[]
theorem Ke(h:av)(b:aM)(c:Int):(ff h b c).map bb=qI h b c:=by
 unfold ff qI kH;split
 .rfl
 .rw[gq,kL]
  congr 1
  .apply IJ;intro o _;show bb (if _ then _ else _)=lC h o
   unfold lC;split <;> rfl
  .split <;> rfl
variable{as:List Sp}{h:av}{b:aM}{s:Sp}
abbrev Sp:=Str ⊕ (Str×Int)
theorem XR(x y:Str)(i j:Int):cj (.tup [.str x,.int i]) (.tup [.str y,.int j])=(x == y&&i == j):=by
 unfold cj dQ;rw[Dc];unfold dQ;rw[Np];unfold dQ;rw[Bool.and_true]
theorem uN(a b:Sp):cj (bb a) (bb b)=decide (a=b):=by
 cases a with
 |inl x=>
  cases b with
  |inl y=>
   show cj (.str x) (.str y)=_;rw[Dc];by_cases h:x=y
   .rw[h,qm,eP rfl]
   .rw[show(x == y)=false by rw[nA];exact h,eC (λz=>h (Sum.inl.inj z))]
  |inr q=>show cj (.str x) (.tup _)=_;unfold cj;rw[eC (λz=>by cases z)]
 |inr p=>
  cases b with
  |inl y=>show cj (.tup _) (.str y)=_;unfold cj;rw[eC (λz=>by cases z)]
  |inr q=>
   obtain⟨x,i⟩:=p;obtain⟨y,j⟩:=q;show cj (.tup [.str x,.int i]) (.tup [.str y,.int j])=_;rw[XR];by_cases h1:x=y
   .by_cases h2:i=j
    .rw[h1,h2,qm,qm,eP rfl];rfl
    .rw[show(i == j)=false by rw[nA];exact h2,By,eC (λz=>h2 (by cases z;rfl))]
   .rw[show(x == y)=false by rw[nA];exact h1,Bool.false_and,eC (λz=>h1 (by cases z;rfl))]
theorem XS(n:Nat)(x:Str)(i:Int):bR (n+1) (.tup [.str x,.int i])=true:=by cases n <;> rfl
theorem M4(n:Nat)(a:Sp):bR (n+1) (bb a)=true:=by
 cases a with
 |inl x=>rfl
 |inr p=>obtain⟨x,i⟩:=p;exact XS n x i
theorem Fe(n:Nat)(as:List Sp):(as.map bb).all (bR (n+1))=true:=by
 rw[gF];intro d hd;obtain⟨a,_,rfl⟩:=dF.mp hd;exact M4 n a
theorem gb{a:Sp}:bR 40 (bb a)=true:=M4 39 a
theorem iJ:(as.map bb).all (bR 40)=true:=Fe 39 as
def df(x:Sp)(as:List Sp):Bool:=as.any λa=>decide (a=x)
theorem cH{x:Sp}:df x as=true↔x∈as:=by
 unfold df;rw[yp];constructor
 .rintro⟨a,ha,e⟩;rw[Og] at e;rw[<-e];exact ha
 .exact λh=>⟨x,h,eP rfl⟩
theorem zw(x:Sp)(as:List Sp):((as.map bb).any λz=>cj z (bb x))=df x as:=by
 unfold df;rw[List.any_map]
 congr 1
 funext a;exact uN a x
def gd(h:av):Sp->List Sp
 |.inl _=>[]
 |.inr (n,c)=>match findB h.aq n with
  |some b=>ff h b c
  |none=>[]
theorem EX(f:iR h.aB h.aq)(hb:b∈h.aq)(c:Int):gd h (.inr (b.name,c))=ff h b c:=by
 show(match findB h.aq b.name with|some b=>ff h b c|none=>[])=_
 rw[Jn f b hb]
theorem P_(h:av)(b:aM)(c:Int)(ol:b.outs.length<=20):(ff h b c).length<=30:=by
 unfold ff;split
 .rw[iW];lia
 .rw[b_,aW];split
  .rw[iW];lia
  .rw[nz];lia
theorem Q9(x a:Sp)(as:List Sp):df x (as++[a])=(df x as || decide (a=x)):=by
 unfold df;rw[List.any_append];show(_ || (decide (a=x) || false))=_;rw[Bool.or_false]
abbrev lS(as:List Sp):D:=.lst (as.map bb)
def VC(h:av)(s:Sp):Prop:=∃b∈h.aq,∃c:Int,s=.inr (b.name,c)/\0<=c/\c<b.long
def fU(b:aM):List Sp:=(List.range b.long.toNat).map λ(i:Nat)=>.inr (b.name,0+(i:Int))
def eR(bs:List aM):List Sp:=bs.flatMap fU
theorem ON(bs:List aM)(b:aM):eR (bs++[b])=eR bs++fU b:=by
 unfold eR;rw[List.flatMap_append,DM,List.flatMap_nil,lQ]
theorem Ll(o:pK b):0<(fU b).length/\(fU b).length<=20:=by
 unfold fU;have:=o.lg;rw[aW,kN];lia
theorem T6:s∈fU b↔∃c:Int,s=.inr (b.name,c)/\0<=c/\c<b.long:=by
 unfold fU;rw[dF];constructor
 .rintro⟨i,hi,rfl⟩;rw[k6] at hi;exact⟨_,rfl,by lia,by lia⟩
 .rintro⟨c,rfl,c0,c1⟩;exact⟨c.toNat,k6.mpr (by lia),by rw[show(0:Int)+(c.toNat:Int)=c by lia]⟩
theorem jy:s∈eR h.aq↔VC h s:=by
 unfold eR VC;rw[DN];simp only[T6]
theorem Ek:∀{bs:List aM},(∀b∈bs,pK b)->bs.length<=(eR bs).length/\(eR bs).length<=bs.length*20
 |[],_=>⟨bC _,bC _⟩
 |b::bs,o=>by
  have ih:=Ek (bs:=bs) λx m=>o x (.tail _ m)
  have:=Ll (o b (.head _));unfold eR at *;rw[DM,b_,dg];lia
theorem Q_(o:pK b):∀q S,bx (ao 0) (f7 true) (Jc q) (cZ 0 b.long.toNat) [none,dI b.name] S []=some (.ok ((fU b).map bb) S):=λq S=>by
 have:=o.lg;unfold cZ fU;rw[qM (λ(i:Nat)=>bb (.inr (b.name,0+(i:Int)))) (List.range b.long.toNat) (by rw[kN];lia) λi m=>⟨rd (vT b.name (0+(i:Int))),by rfl,rfl⟩,kL]
 rfl
theorem P'{q:Nat}{S:ba}{cs:List Sp}{g0 a4 a5:ah Val}(o:pK b)(hc:cs.length<=200):BU q [g0,ax (lS cs),dI b.name,bN b.long,a4,a5] S=some (.nx [g0,ax (lS (cs++fU b)),dI b.name,bN b.long,a4,a5] S):=by
 have e:=Q_ o;have b1:Nat.ble b.long.natAbs 1000000000000=true:=pH (by have:=o.lg;lia)
 have c1:((cs.map bb).length+((fU b).map bb).length<=1000000)=True:=cg (by rw[aW,aW];have:=(Ll o).2;lia)
 unfold lS;rw[gq (f:=bb)];unfold BU;generalize(fU b).map bb=rs at *;simp only[↓ev,b1,e,c1,aK]
theorem EY(ok:dc h):Pr sD [.d (bf h)] (rd (lS (eR h.aq))):=by
 intro q S;obtain⟨U',S',e,a2,a3,a4,a5,rfl,rfl⟩:=ir (dX [ao 2,ao 3,ao 4,ao 5]) (BU q) aT S (U:=[ax (bf h),ax (lS []),none,none,none,none]) (λpre U S'=>∃a2 a3 a4 a5,U=[ax (bf h),ax (lS (eR pre)),a2,a3,a4,a5]/\S'=S) h.aq ⟨none,none,none,none,rfl,rfl⟩ (by
  rintro d b r eq U S ⟨a2,a3,a4,a5,rfl,rfl⟩;have bl:=ok.bl;have hl:d.length<=6:=by rw[eq,b_] at bl;lia
  have lc:=(Ek (bs:=d) λx m=>ok.bk x (by rw[eq];exact t_ _ m)).2
  refine⟨_,_,_,?_,.inl (P' (cs:=eR d) (g0:=ax (bf h)) (a4:=ax (.bl b.ring)) (a5:=ax (.lst (dS b.outs))) (ok.bk b (by rw[eq];simp)) (by lia)),dI b.name,bN b.long,ax (.bl b.ring),ax (.lst (dS b.outs)),by rw[ON],rfl⟩
  rfl)
 have e:aF _ _ _ [_,some (.d (.lst [])),none,none,none,none] _=_:=e;have hD:bf h=.tup [.lst (h.aq.map aT),.lst (dS h.aB)]:=rfl;rw[hD] at e ⊢;unfold sD;simp only[↓ev,aK,e]
theorem Qa(h:av)(hl:h.aq.length<=1000000):∀q S,bx (ao 0) (f7 true) (Jd q) (h.aq.map aT) [none] S []=some (.ok (dS (h.aq.map aM.name)) S):=λq S=>by
 rw[qM (λb=>D.str (aM.name b)) h.aq hl λb m=>⟨rd (.str b.name),by rfl,rfl⟩,dS,kL]
 rfl
theorem Ra(ok:dc h):Pr yU [.d (bf h)] (rd (bf h)):=by
 intro q S;have bl:=ok.bl;have e:∀q S,bx (dX [ao 0,ao 1,ao 2,ao 3]) (f7 true) (BP q) (h.aq.map aT) [none,none,none,none] S []=some (.ok (h.aq.map aT) S):=λq S=>by
  have:=CT (gg:=dX [ao 0,ao 1,ao 2,ao 3]) (tt:=f7 true) (te:=BP q) (S:=S) (f:=aT) (λb=>some (aT b)) (λU=>U.length=4) h.aq [none,none,none,none] [] rfl (by rw[nz];lia) λb m U hU=>by
   match U,hU with
   |[x0,x1,x2,x3],_=>exact⟨[dI b.name,bN b.long,ax (.bl b.ring),ax (.lst (dS b.outs))],rfl,rfl,.inr ⟨rd (aT b),aT b,rfl,rfl,by unfold BP aT;simp only[↓ev,aK],rfl⟩⟩
  rw[this,wK,List.filterMap_eq_map']
 have hD:bf h=.tup [.lst (h.aq.map aT),.lst (dS h.aB)]:=rfl;rw[hD];unfold yU;simp only[↓ev,aK,e]
end Carry
namespace Carry
section
variable{ν:Type}[DecidableEq ν]
def sm(f:ν->Int):List ν->Int
 |[]=>0
 |v::l=>f v+sm f l
theorem nR{f g:ν->Int}:∀{l:List ν},(∀v,v∈l->f v=g v)->sm f l=sm g l
 |[],_=>rfl
 |v::l,h=>by
  show f v+sm f l=g v+sm g l;rw[h v (.head _),nR λv m=>h v (.tail _ m)]
theorem sP(f g:ν->Int):∀l:List ν,sm (λv=>f v+g v) l=sm f l+sm g l
 |[]=>rfl
 |v::l=>by
  show f v+g v+sm _ l=f v+sm f l+(g v+sm g l);rw[sP f g l];lia
theorem Ff(f:ν->Int):∀l:List ν,sm (λv => - f v) l = - sm f l
 |[]=>rfl
 |v::l=>by
  show - f v+sm _ l = - (f v+sm f l);rw[Ff f l];lia
theorem xu{f:ν->Int}:∀{l:List ν},(∀v,v∈l->f v=0)->sm f l=0
 |[],_=>rfl
 |v::l,h=>by
  show f v+sm f l=0;rw[h v (.head _),xu λv m=>h v (.tail _ m)];rfl
theorem El{f:ν->Int}:∀{l:List ν},(∀v,v∈l->0<=f v)->0<=sm f l
 |[],_=>sd 0
 |v::l,h=>by
  have h1:=h v (.head _);have h2:=El λv m=>h v (.tail _ m)
  show 0<=f v+sm f l;lia
theorem Fg{f:ν->Int}:∀{l:List ν},(∀v,v∈l->0<=f v)->∀x,x∈l->f x<=sm f l
 |v::l,h,x,m=>by
  have h1:=h v (.head _);have h2:=El λv m=>h v (.tail _ m)
  show f x<=f v+sm f l;rcases y06.mp m with m|m
  .subst m;lia
  .have:=Fg (λv m=>h v (.tail _ m)) x m
   lia
theorem Ln(g:ν->ν->Int):∀A B:List ν,sm (λv=>sm (g v) B) A=sm (λb=>sm (λv=>g v b) A) B
 |[],B=>(xu λ_ _=>rfl).symm
 |a::A,B=>by
  show sm (g a) B+sm (λv=>sm (g v) B) A=sm (λb=>g a b+sm (λv=>g v b) A) B
  rw[Ln g A B,sP]
theorem T7{g:ν->ν->Int}(h:∀v b,g v b = - g b v)(S:List ν):sm (λv=>sm (g v) S) S=0:=by
 have e1:=Ln g S S;have e2:sm (λb=>sm (λv=>g v b) S) S = - sm (λv=>sm (g v) S) S:=by
  rw[<-Ff];exact nR λb _=>by rw[<-Ff];exact nR λv _=>h v b
 lia
theorem Ez(f:ν->Int)(p:ν->Bool):∀l:List ν,sm f l=sm f (l.filter p)+sm f (l.filter λv => !p v)
 |[]=>rfl
 |v::l=>by
  show f v+sm f l=_;rw[Ez f p l,yl,yl];cases p v with
  |true=>show _=(f v+sm f (l.filter p))+sm f (l.filter λv => !p v);lia
  |false=>show _=sm f (l.filter p)+(f v+sm f (l.filter λv => !p v));lia
theorem m_{x:ν}(d:Int):∀{l:List ν},l.Nodup->sm (λv=>if v=x then d else 0) l=if x∈l then d else 0
 |[],_=>rfl
 |v::l,nd=>by
  rw[gA] at nd;show(if v=x then d else 0)+sm _ l=_
  rw[m_ d nd.2];by_cases e:v=x
  .subst e;rw[aU rfl,aO nd.1,aU (.head _)];lia
  .rw[aO e];by_cases m:x∈l
   .rw[aU m,aU (.tail _ m)];lia
   .rw[aO m,aO λz=>by
     rcases y06.mp z with z|z
     .exact e z.symm
     .exact m z]
    rfl
structure gr (V:List ν) (s t:ν) (r0 r:ν->ν->Int):Prop where
 nn:∀v b,0<=r v b
 an:∀v b,r0 v b - r v b = - (r0 b v - r b v)
 cs:∀v,v∈V->v≠s->v≠t->sm (λb=>r0 v b - r v b) V=0
 sp:∀v b,(v∉V\/b∉V)->r0 v b=0/\r v b=0
 ns:s≠t
 ms:s∈V
 mt:t∈V
 nd:V.Nodup
def aug(r:ν->ν->Int)(a b:ν):ν->ν->Int:=λv w=>if v=a/\w=b then r v w - 1 else if v=b/\w=a then r v w+1 else r v w
def ex(V:List ν)(r0 r:ν->ν->Int)(v:ν):Int:=sm (λb=>r0 v b - r v b) V
theorem Wv{V:List ν}{r0 r:ν->ν->Int}{a b:ν}(nd:V.Nodup)(iB:a≠b)(ha:a∈V)(hb:b∈V)(v:ν):ex V r0 (aug r a b) v=ex V r0 r v+(if v=a then 1 else 0) - (if v=b then 1 else 0):=by
 have key:∀w,r0 v w - aug r a b v w=(r0 v w - r v w)+((if w=b then(if v=a then 1 else 0) else 0)+(if w=a then - (if v=b then 1 else 0) else 0)):=by
  intro w;unfold aug;by_cases h1:v=a
  .have h2:v≠b:=λz=>iB (h1.symm.trans z)
   by_cases h3:w=b
   .have h4:w≠a:=λz=>iB (z.symm.trans h3)
    simp only[h1,h3,and_self,wN];have:a≠b:=iB;simp[this,this.symm];lia
   .simp[h1,h3,iB]
  .by_cases h2:v=b
   .by_cases h3:w=a
    .simp[h2,h3,iB,iB.symm];lia
    .simp[h2,h3,iB.symm]
   .simp[h1,h2]
 unfold ex;rw[nR λw _=>key w,sP,sP]
 have e1:=m_ (x:=b) (if v=a then(1:Int) else 0) nd
 have e2:=m_ (x:=a) (- (if v=b then(1:Int) else 0)) nd
 rw[aU hb] at e1;rw[aU ha] at e2;rw[e1,e2];lia
def fZ(r:ν->ν->Int):List ν->(ν->ν->Int)
 |b::a::p=>fZ (aug r a b) (a::p)
 |_=>r
theorem Lo{r:ν->ν->Int}{a b v w:ν}(h:¬(v=a/\w=b))(h':¬(v=b/\w=a)):aug r a b v w=r v w:=by unfold aug;rw[aO h,aO h']
theorem Lp{V:List ν}{r0:ν->ν->Int}(nd:V.Nodup):∀(p:List ν) (r:ν->ν->Int) (b e:ν),(b::p).Nodup->(∀v,v∈b::p->v∈V)->(b::p).getLast?=some e->b≠e->∀v,ex V r0 (fZ r (b::p)) v=ex V r0 r v+(if v=e then 1 else 0) - (if v=b then 1 else 0)
 |[],r,b,e,_,_,hl,gw,v=>by simp at hl;exact bG hl gw
 |a::p,r,b,e,hn,hv,hl,gw,v=>by
  have iB:a≠b:=λz=>(gA.mp hn).1 (by rw[<-z];exact .head _)
  show ex V r0 (fZ (aug r a b) (a::p)) v=_;have e1:=Wv (r0:=r0) (r:=r) nd iB (hv a (.tail _ (.head _))) (hv b (.head _)) v;by_cases c:p=[]
  .subst c;have he:a=e:=by simpa using hl
   subst he;show ex V r0 (aug r a b) v=_;rw[e1]
  .have Ai:(a::p).getLast?=some e:=by
    rw[List.getLast?_cons_cons] at hl;exact hl
   have YJ:a≠e:=λz=>by
    subst z;have Dt:=gA.mp (gA.mp hn).2;have hm:a∈p:=by
     cases p with
     |nil=>exact bG rfl c
     |cons y q=>
      rw[List.getLast?_cons_cons] at Ai;exact List.mem_of_getLast? Ai
    exact Dt.1 hm
   rw[Lp nd p (aug r a b) a e (gA.mp hn).2 (λv m=>hv v (.tail _ m)) Ai YJ v,e1]
   lia
def iq(r:ν->ν->Int):List ν->Prop
 |b::a::p=>0<r a b/\iq r (a::p)
 |_=>True
theorem JP{r:ν->ν->Int}{a b:ν}:∀(p:List ν),b∉p->iq r p->iq (aug r a b) p
 |[],_,_=>mF
 |[_],_,_=>mF
 |y::x::p,hb,h=>⟨by
   rw[Lo (λz=>hb (by rw[<-z.2];exact .head _)) (λz=>hb (by rw[<-z.1];exact .tail _ (.head _)))]
   exact h.1,JP (x::p) (λm=>hb (.tail _ m)) h.2⟩
theorem Lq{V:List ν}{s t:ν}{r0:ν->ν->Int}:∀(p:List ν) (r:ν->ν->Int),p.Nodup->iq r p->(∀v b,0<=r v b)->∀v b,0<=fZ r p v b
 |[],r,_,_,h=>h
 |[_],r,_,_,h=>h
 |b::a::p,r,hn,hr,h=>Lq (V:=V) (s:=s) (t:=t) (r0:=r0) (a::p) (aug r a b) (gA.mp hn).2 (JP (a::p) (gA.mp hn).1 hr.2) λv w=>by
   have h1:=h v w;unfold aug;split
   .rename_i z
    have:=hr.1;rw[<-z.1,<-z.2] at this;lia
   .split
    .lia
    .exact h1
theorem Ww{r0 r:ν->ν->Int}{a b:ν}(iB:a≠b)(h:∀v b,r0 v b - r v b = - (r0 b v - r b v))(v w:ν):r0 v w - aug r a b v w = - (r0 w v - aug r a b w v):=by
 have h1:=h v w;unfold aug;by_cases c1:v=a/\w=b
 .have c2:¬(w=a/\v=b):=λz=>iB (c1.1.symm.trans z.2)
  rw[aU c1,aO c2,aU ⟨c1.2,c1.1⟩];lia
 .rw[aO c1];by_cases c3:v=b/\w=a
  .rw[aU c3,aU ⟨c3.2,c3.1⟩];lia
  .rw[aO c3,aO (λz=>c3 ⟨z.2,z.1⟩),aO (λz=>c1 ⟨z.2,z.1⟩)];exact h1
theorem Lr{r0:ν->ν->Int}:∀(p:List ν) (r:ν->ν->Int),p.Nodup->(∀v b,r0 v b - r v b = - (r0 b v - r b v))->∀v b,r0 v b - fZ r p v b = - (r0 b v - fZ r p b v)
 |[],r,_,h=>h
 |[_],r,_,h=>h
 |b::a::p,r,hn,h=>Lr (a::p) (aug r a b) (gA.mp hn).2 (Ww (λz=>(gA.mp hn).1 (by rw[<-z];exact .head _)) h)
theorem Lu{V:List ν}:∀(p:List ν) (r:ν->ν->Int),(∀v,v∈p->v∈V)->(∀v b,(v∉V\/b∉V)->r v b=0)->∀v b,(v∉V\/b∉V)->fZ r p v b=0
 |[],r,_,h=>h
 |[_],r,_,h=>h
 |b::a::p,r,hv,h=>Lu (a::p) (aug r a b) (λv m=>hv v (.tail _ m)) λv w z=>by
   have ha:=hv a (.tail _ (.head _));have hb:=hv b (.head _);rw[Lo (λq=>by
    rcases z with z|z
    .exact z (by rw[q.1];exact ha)
    .exact z (by rw[q.2];exact hb)) (λq=>by
    rcases z with z|z
    .exact z (by rw[q.1];exact hb)
    .exact z (by rw[q.2];exact ha))]
   exact h v w z
theorem gr.push{V:List ν}{s t:ν}{r0 r:ν->ν->Int}(F:gr V s t r0 r){p:List ν}(hn:(t::p).Nodup)(hv:∀v,v∈t::p->v∈V)(hl:(t::p).getLast?=some s)(hr:iq r (t::p)):
  gr V s t r0 (fZ r (t::p))/\ex V r0 (fZ r (t::p)) s=ex V r0 r s+1:=by
 have e:=Lp (r0:=r0) F.nd p r t s hn hv hl (Ne.symm F.ns);refine⟨⟨Lq (V:=V) (s:=s) (t:=t) (r0:=r0) _ r hn hr F.nn,Lr _ r hn F.an,λv m h1 h2=>?_,λv b z=>⟨(F.sp v b z).1,Lu _ r hv (λv b z=>(F.sp v b z).2) v b z⟩,F.ns,F.ms,F.mt,F.nd⟩,?_⟩
 .have:=e v;rw[aO h1,aO h2] at this;have h3:ex V r0 r v=0:=F.cs v m h1 h2;show ex V r0 (fZ r (t::p)) v=0;lia
 .rw[e s,aU rfl,aO F.ns];lia
theorem gr.cut{V:List ν}{s t:ν}{r0 r:ν->ν->Int}(F:gr V s t r0 r)(S:ν->Bool)(hs:S s=true)(ht:S t=false)(hc:∀v b,v∈V->b∈V->S v=true->S b=false->r v b=0):
  ex V r0 r s=sm (λv=>sm (λb=>r0 v b) (V.filter λb => !S b)) (V.filter S):=by
 have e1:sm (ex V r0 r) (V.filter S)=ex V r0 r s:=by
  have h1:∀v,v∈V.filter S->ex V r0 r v=if v=s then ex V r0 r s else 0:=λv m=>by
   obtain⟨m1,m2⟩:=gf.mp m;by_cases c:v=s
   .rw[aU c,c]
   .rw[aO c];exact F.cs v m1 c λz=>by rw[z,ht] at m2;cases m2
  rw[nR h1,m_ _ (F.nd.filter _),aU (gf.mpr ⟨F.ms,hs⟩)]
 have e2:sm (ex V r0 r) (V.filter S)=sm (λv=>sm (λb=>r0 v b - r v b) (V.filter S)) (V.filter S)+sm (λv=>sm (λb=>r0 v b - r v b) (V.filter λb => !S b)) (V.filter S):=by
  rw[<-sP];exact nR λv _=>Ez _ S V
 have e3:=T7 (g:=λv b=>r0 v b - r v b) F.an (V.filter S)
 have e4:sm (λv=>sm (λb=>r0 v b - r v b) (V.filter λb => !S b)) (V.filter S)=sm (λv=>sm (λb=>r0 v b) (V.filter λb => !S b)) (V.filter S):=nR λv mv=>nR λb mb=>by
  obtain⟨m1,m2⟩:=gf.mp mv;obtain⟨m3,m4⟩:=gf.mp mb;have m4:S b=false:=by simpa using m4
  rw[hc v b m1 m3 m2 m4];lia
 lia
end
end Carry
namespace Carry
open PySem L2
section
variable{α β γ:Type}[DecidableEq α]
def lk:List (α×β)->α->ah β
 |[],_=>none
 |e::l,k=>if e.1=k then some e.2 else lk l k
def pt:List (α×β)->α->β->List (α×β)
 |[],k,v=>[(k,v)]
 |e::l,k,v=>if e.1=k then(e.1,v)::l else e::pt l k v
theorem iT(e:α×β)(l:List (α×β))(k:α):lk (e::l) k=if e.1=k then some e.2 else lk l k:=rfl
theorem sS(k j:α)(v:β):∀l:List (α×β),lk (pt l k v) j=if k=j then some v else lk l j
 |[]=>rfl
 |e::l=>by
  show lk (if e.1=k then(e.1,v)::l else e::pt l k v) j=_
  by_cases h:e.1=k
  .rw[aU h,iT,iT];dsimp only;rw[h];split
   .rfl
   .rfl
  .rw[aO h,iT,iT,sS k j v l];by_cases h2:e.1=j
   .rw[aU h2,aO (λz=>h (h2.trans z.symm)),aU h2]
   .rw[aO h2,aO h2]
theorem bU:∀{l:List (α×β)} {k:α},(∃v,lk l k=some v)↔k∈l.map (·.1)
 |[],k=>⟨λ⟨v,h⟩=>(by cases h),λh=>(by cases h)⟩
 |e::l,k=>by
  rw[iT,c_,y06];by_cases h:e.1=k
  .rw[aU h];exact⟨λ_=>.inl h.symm,λ_=>⟨_,rfl⟩⟩
  .rw[aO h,bU];exact⟨.inr,λz=>z.resolve_left λq=>h q.symm⟩
theorem ia{l:List (α×β)}{k:α}:lk l k=none↔k∉l.map (·.1):=by
 rw[<-bU];constructor
 .rintro h ⟨v,e⟩;rw[h] at e;cases e
 .intro h;cases q:lk l k with
  |none=>rfl
  |some v=>exact bG ⟨v,q⟩ h
theorem ze(k:α)(v:β):∀l:List (α×β),(pt l k v).map (·.1)=if k∈l.map (·.1) then l.map (·.1) else l.map (·.1)++[k]
 |[]=>rfl
 |e::l=>by
  show(if e.1=k then(e.1,v)::l else e::pt l k v).map (·.1)=_
  rw[c_];by_cases h:e.1=k
  .rw[aU h,aU (by rw[h];exact .head _),c_]
  .rw[aO h,c_,ze k v l];by_cases h2:k∈l.map (·.1)
   .rw[aU h2,aU (.tail _ h2)]
   .rw[aO h2,aO (λz=>by
     rcases y06.mp z with z|z
     .exact h z.symm
     .exact h2 z)]
    rfl
theorem XT{k:α}{v:β}{l:List (α×β)}(h:(l.map (·.1)).Nodup):((pt l k v).map (·.1)).Nodup:=by
 rw[ze];split
 .exact h
 .rename_i z
  exact k8.mpr ⟨h,by simp,λa ha b hb e=>by
   rw[dW] at hb;exact z (by rw[<-hb,<-e];exact ha)⟩
theorem Mx{k:α}{v:β}:∀{l:List (α×β)},lk l k=none->pt l k v=l++[(k,v)]
 |[],h=>rfl
 |e::l,h=>by
  rw[iT] at h;show(if e.1=k then(e.1,v)::l else e::pt l k v)=_
  by_cases q:e.1=k
  .rw[aU q] at h;cases h
  .rw[aO q] at h ⊢;rw[Mx h];rfl
end
variable{n:Int}
section
variable{α β:Type}[DecidableEq α](kk:α->TK)(inj:∀a b,kk a=kk b->a=b)
def kd(f:β->D)(l:List (α×β)):List (TK×D):=l.map λe=>(kk e.1,f e.2)
include inj in
theorem EZ(f:β->D)(k:α):∀l:List (α×β),bt (kd kk f l) (kk k)=(lk l k).map f
 |[]=>rfl
 |e::l=>by
  have ih:=EZ f k l;unfold bt kd at *;rw[c_,wI,iT];dsimp only;by_cases h:e.1=k
  .rw[eP (by rw[h]:kk e.1=kk k),aU h];rfl
  .rw[eC (λz=>h (inj _ _ z)),aO h]
   exact ih
include inj in
theorem E0(f:β->D)(k:α)(v:β):∀l:List (α×β),cn (kd kk f l) (kk k) (f v)=kd kk f (pt l k v)
 |[]=>rfl
 |e::l=>by
  show cn ((kk e.1,f e.2)::kd kk f l) (kk k) (f v)=kd kk f (if e.1=k then(e.1,v)::l else e::pt l k v)
  show(if kk e.1=kk k then(kk e.1,f v)::kd kk f l else(kk e.1,f e.2)::cn (kd kk f l) (kk k) (f v))=_
  by_cases h:e.1=k
  .rw[aU h,aU (by rw[h])];rfl
  .rw[aO h,aO (λz=>h (inj _ _ z)),E0 f k v l];rfl
theorem Rb(g:β->D)(l:List (α×β)):(kd kk g l).map (·.1.d)=l.map λe=>(kk e.1).d:=by
 unfold kd;rw[kL];rfl
end
abbrev Ct:=Str×Int×Int
noncomputable def bQ(c:Ct):D:=.tup [.str c.1,.int c.2.1,.int c.2.2]
def qP(c:Ct):TK:=.tp [.inr c.1,.inl c.2.1,.inl c.2.2]
inductive Nd where
 |st|en|gi (c:Ct)|go (c:Ct)
 deriving DecidableEq
variable{a b:Nd}
def aS:Nd->D
 |.st=>.str "the start"
 |.en=>.str "the end"
 |.gi c=>.tup [bQ c,.str "into"]
 |.go c=>.tup [bQ c,.str "out of"]
def cq:Nd->TK
 |.st=>.inr "the start"
 |.en=>.inr "the end"
 |.gi c=>.tp [qP c,.inr "into"]
 |.go c=>.tp [qP c,.inr "out of"]
theorem hX(v:Nd):f' (aS v)=some (cq v):=by
 cases v with
 |st=>rfl
 |en=>rfl
 |gi c=>simp[aS,cq,bQ,qP,f',fj,kX,TK.ok]
 |go c=>simp[aS,cq,bQ,qP,f',fj,kX,TK.ok]
theorem E1{a b:Ct}(h:qP a=qP b):a=b:=by
 obtain⟨x,i,m⟩:=a;obtain⟨y,j,n⟩:=b;unfold qP at h;injection h with h;injection h with h1 h;injection h with h2 h;injection h with h3 h;injection h1 with h1;injection h2 with h2;injection h3 with h3;dsimp only at h1 h2 h3;rw[h1,h2,h3]
theorem My:("the start":Str)≠"the end":=by decide
theorem Mz:("into":Str)≠"out of":=by decide
theorem uF:∀a b:Nd,cq a=cq b->a=b:=by
 intro a b h;cases a with
 |st=>
  cases b with
  |st=>rfl
  |en=>unfold cq at h;injection h with h;exact bG h My
  |_=>unfold cq at h;cases h
 |en=>
  cases b with
  |en=>rfl
  |st=>unfold cq at h;injection h with h;exact bG h.symm My
  |_=>unfold cq at h;cases h
 |gi c=>
  cases b with
  |gi d=>unfold cq at h;injection h with h;injection h with h1 h;rw[E1 h1]
  |go d=>unfold cq at h;injection h with h;injection h with h1 h;injection h with h2 h;injection h2 with h2;exact bG h2 Mz
  |_=>unfold cq at h;cases h
 |go c=>
  cases b with
  |go d=>unfold cq at h;injection h with h;injection h with h1 h;rw[E1 h1]
  |gi d=>unfold cq at h;injection h with h;injection h with h1 h;injection h with h2 h;injection h2 with h2;exact bG h2.symm Mz
  |_=>unfold cq at h;cases h
theorem XU(v:Nd):(cq v).d=aS v:=(xq (hX v)).1
abbrev kb:=List (Nd×Int)
variable{i:kb}
abbrev Net:=List (Nd×kb)
variable{N:Net}
def f9(i:kb):List (TK×D):=kd cq (λn=>.int n) i
def rr(N:Net)(v w:Nd):Int:=((lk N v).bind λi=>lk i w).getD 0
def hZ(N:Net)(v w:Nd):Prop:=∃i,lk N v=some i/\∃n,lk i w=some n
structure ko (N:Net):Prop where
 sy:∀v w,hZ N v w->hZ N w v
 st:.st∈N.map (·.1)
 nd:(N.map (·.1)).Nodup
 ni:∀v i,lk N v=some i->(i.map (·.1)).Nodup
 nl:N.length<900000
 il:∀v i,lk N v=some i->i.length<900000
def fE(N:Net)(a b:Nd)(n:Int):Net:=match lk N a with
 |some i=>pt N a (pt i b n)
 |none=>N
theorem MA(h:lk N a=some i)(v w:Nd):hZ (fE N a b n) v w↔hZ N v w\/(v=a/\w=b):=by
 unfold fE;rw[h];dsimp only;unfold hZ;rw[sS];by_cases c:a=v
 .subst c;rw[aU rfl,h];constructor
  .rintro⟨j,e,m,e2⟩;cases e;rw[sS] at e2;by_cases c2:b=w
   .exact .inr ⟨rfl,c2.symm⟩
   .rw[aO c2] at e2;exact .inl ⟨i,rfl,m,e2⟩
  .rintro(⟨j,e,m,e2⟩|⟨_,rfl⟩)
   .cases e;refine⟨_,rfl,?_⟩;rw[sS];by_cases c2:b=w
    .exact⟨_,aU c2⟩
    .exact⟨m,by rw[aO c2];exact e2⟩
   .exact⟨_,rfl,n,by rw[sS,aU rfl]⟩
 .rw[aO c];exact⟨.inl,λz=>z.resolve_right λq=>c q.1.symm⟩
theorem C5(h:lk N a=some i)(v w:Nd):rr (fE N a b n) v w=if v=a/\w=b then n else rr N v w:=by
 unfold fE;rw[h];dsimp only;unfold rr;rw[sS];by_cases c:a=v
 .subst c;rw[aU rfl,h,qk,qk,sS];by_cases c2:b=w
  .rw[aU c2,aU ⟨rfl,c2.symm⟩];rfl
  .rw[aO c2,aO λz=>c2 z.2.symm]
 .rw[aO c,aO λz=>c z.1.symm]
theorem zf(h:lk N a=some i):(fE N a b n).map (·.1)=N.map (·.1):=by
 unfold fE;rw[h];dsimp only;rw[ze,aU (bU.mp ⟨i,h⟩)]
theorem zC(h:lk N a=some i)(v:Nd):lk (fE N a b n) v=if a=v then some (pt i b n) else lk N v:=by
 unfold fE;rw[h];exact sS ..
theorem Wx{α β:Type}[DecidableEq α]{l:List (α×β)}{k:α}{v:β}:(pt l k v).length<=l.length+1/\(k∈l.map (·.1)->(pt l k v).length=l.length):=by
 have e:=congrArg List.length (ze k v l);rw[aW] at e;constructor
 .rw[e];split <;> simp
 .intro h;rw[aU h,aW] at e;exact e
def jt:Nat->Net->List (TK×D)
 |_,[]=>[]
 |b,e::N=>(cq e.1,.ref b)::jt (b+1) N
abbrev kR(i:kb):Cell:=.o (.aP (f9 i))
abbrev dA(e:Nd×kb):Cell:=kR e.2
theorem Lv:∀{b:Nat} {N:Net},(jt b N).length=N.length
 |_,[]=>rfl
 |b,e::N=>congrArg Nat.succ (Lv (b:=b+1) (N:=N))
theorem zx{a:Nd}{i':kb}:∀{b:Nat} {N:Net},a∈N.map (·.1)->jt b (pt N a i')=jt b N
 |b,e::N,h=>by
  show jt b (if e.1=a then(e.1,i')::N else e::pt N a i')=_
  by_cases q:e.1=a
  .rw[aU q];rfl
  .rw[aO q];have h:=(y06.mp h).resolve_left λz=>q z.symm
   exact congrArg (λl=>(cq e.1,D.ref b)::l) (zx (b:=b+1) h)
theorem Fi{a:Nd}{i:kb}:∀{b:Nat} {N:Net},lk N a=some i->∃j,j<N.length/\bt (jt b N) (cq a)=some (.ref (b+j))/\(N.map dA)[j]?=some (kR i)/\∀i',(N.map dA).set j (kR i')=(pt N a i').map dA
 |b,e::N,h=>by
  rw[iT] at h;unfold jt bt;rw[wI];dsimp only;by_cases q:e.1=a
  .rw[aU q] at h;cases h;rw[eP (by rw[q]:cq e.1=cq a)]
   exact⟨0,by simp,rfl,rfl,λi'=>by show _=(if e.1=a then(e.1,i')::N else e::pt N a i').map dA;rw[aU q];rfl⟩
  .rw[aO q] at h;obtain⟨j,h1,h2,h3,h4⟩:=Fi (b:=b+1) h;rw[eC (λz=>q (uF _ _ z))]
   refine⟨j+1,by rw[dg];lia,?_,h3,λi'=>?_⟩
   .unfold bt at h2;rw[show b+(j+1)=b+1+j by lia]
    exact h2
   .show _=(if e.1=a then(e.1,i')::N else e::pt N a i').map dA
    rw[aO q];exact congrArg _ (h4 i')
theorem Kf{a:Nd}:∀{b:Nat} {N:Net},a∉N.map (·.1)->bt (jt b N) (cq a)=none
 |_,[],_=>rfl
 |b,e::N,h=>by
  rw[c_,y06,not_or] at h;have ih:=Kf (b:=b+1) h.2;show bt ((cq e.1,.ref b)::jt (b+1) N) _=_;unfold bt at *;rw[wI];dsimp only;rw[eC (λz=>h.1 (uF _ _ z).symm)]
  exact ih
theorem Lx{v:Nd}:∀{b:Nat} {N:Net},v∉N.map (·.1)->cn (jt b N) (cq v) (.ref (b+N.length))=jt b (N++[(v,[])])
 |_,[],_=>rfl
 |b,e::N,h=>by
  rw[c_,y06,not_or] at h;have ih:=Lx (b:=b+1) h.2;show(if cq e.1=cq v then _ else _)=_
  rw[aO (λz=>h.1 (uF _ _ z).symm),dg,show b+(N.length+1)=b+1+N.length by lia,ih]
  rfl
variable{S:ba}{v a b:Nd}{s t H R:List Cell}{K:List (TK×D)}{a1 a2 a3:ah Val}{N:Net}{k:Nat}{n:Int}{i:kb}
def eG(N:Net)(v:Nd):Net:=if v∈N.map (·.1) then N else N++[(v,[])]
theorem xG{α β:Type}[DecidableEq α](k:α):∀l m:List (α×β),lk (l++m) k=match lk l k with|some v=>some v|none=>lk m k
 |[],m=>rfl
 |e::l,m=>by
  rw[List.cons_append,iT,iT,xG k l m];split <;> rfl
abbrev nS(s t R X:List Cell)(N:Net):ba:=⟨s++.o (.aP (jt R.length N))::t,R++(N.map dA++X)⟩
theorem gv:kU S (.d (aS v))=some (aS v):=by cases v <;> rfl
theorem T8{d:D}(h:bt K (cq v)=some d):uD 0 [bF s.length,a1,a2,a3,ax (aS v)] ⟨s++.o (.aP K)::t,H⟩=some (.nx [bF s.length,a1,a2,a3,ax (aS v)] ⟨s++.o (.aP K)::t,H⟩):=by
 unfold uD;simp only[↓ev,gv,aK,hX,h]
theorem Ua(h:bt K (cq v)=none)(hl:(K.length<1000000)=True):uD 0 [bF s.length,a1,a2,a3,ax (aS v)] ⟨s++.o (.aP K)::t,H⟩=some (.nx [bF s.length,a1,a2,a3,ax (aS v)] ⟨s++.o (.aP (cn K (cq v) (.ref H.length)))::t,H++[kR []]⟩):=by
 unfold uD;simp only[↓ev,gv,aK,hX,h,hl];rfl
theorem Kg(hl:N.length<1000000):uD 0 [bF s.length,a1,a2,a3,ax (aS v)] (nS s t R [] N)=some (.nx [bF s.length,a1,a2,a3,ax (aS v)] (nS s t R [] (eG N v))):=by
 unfold eG;by_cases h:v∈N.map (·.1)
 .rw[aU h];obtain⟨i,e⟩:=bU.mpr h;obtain⟨j,_,h2,_⟩:=Fi (b:=R.length) e;exact T8 h2
 .rw[aO h];have e:=Ua (s:=s) (t:=t) (H:=R++(N.map dA++[])) (a1:=a1) (a2:=a2) (a3:=a3) (Kf (b:=R.length) h) (cg (by rw[Lv];exact hl))
  have el:(R++(N.map dA++[])).length=R.length+N.length:=by simp
  rw[el,Lx h] at e;rw[e];unfold nS;simp
theorem xH(N:Net)(v w:Nd):lk (eG N v) w=match lk N w with|some i=>some i|none=>if v=w then some [] else none:=by
 unfold eG;by_cases h:v∈N.map (·.1)
 .rw[aU h];cases e:lk N w with
  |some i=>rfl
  |none=>
   have:v≠w:=λz=>ia.mp e (by rw[<-z];exact h)
   dsimp only;rw[aO this]
 .rw[aO h,xG];cases lk N w <;> rfl
theorem Ly(N:Net)(v:Nd):∃i,lk (eG N v) v=some i:=by
 rw[xH];cases lk N v with
 |some i=>exact⟨i,rfl⟩
 |none=>exact⟨[],aU rfl⟩
theorem Ub(N:Net)(v:Nd):(eG N v).length<=N.length+1:=by
 unfold eG;split
 .lia
 .rw[b_];exact bC _
def cX(N:Net)(a b:Nd)(r:Int):Net:=fE (fE (eG (eG N a) b) a b r) b a 0
structure Sz (N:Net) (k:Nat):Prop where
 l:N.length<=k+1
 i:∀v i,lk N v=some i->i.length<=k
theorem CV(v:Nd)(s:Sz N k):Sz (eG N v) (k+1):=⟨by have:=Ub N v;have:=s.l;lia,λw i e=>by
 rw[xH] at e;cases q:lk N w with
 |some j=>rw[q] at e;cases e;have:=s.i w _ q;lia
 |none=>
  rw[q] at e;dsimp only at e;split at e
  .cases e;exact k7 _
  .cases e⟩
theorem FH(h:lk N a=some i)(s:Sz N k):Sz (fE N a b n) (k+1):=⟨by
  have:=congrArg List.length (zf (b:=b) (n:=n) h);rw[aW,aW] at this;have:=s.l;lia,λv j e=>by
  rw[zC h] at e;split at e
  .cases e;have:=(Wx (l:=i) (k:=b) (v:=n)).1;have:=s.i a i h;lia
  .have:=s.i v j e;lia⟩
theorem E2(r:Int):∃i j,lk (eG (eG N a) b) a=some i/\lk (fE (eG (eG N a) b) a b r) b=some j:=by
 obtain⟨i0,e0⟩:=Ly N a;obtain⟨j0,f0⟩:=Ly (eG N a) b;have e1:lk (eG (eG N a) b) a=some i0:=by rw[xH,e0]
 refine⟨i0,?_⟩;by_cases c:a=b
 .exact⟨_,e1,by rw[zC e1,aU c]⟩
 .exact⟨j0,e1,by rw[zC e1,aO c];exact f0⟩
theorem MB(a b:Nd)(r:Int)(s:Sz N k):Sz (cX N a b r) (k+4):=by
 obtain⟨i,j,e1,e2⟩:=E2 (N:=N) (a:=a) (b:=b) r;exact FH e2 (FH e1 (CV b (CV a s)))
theorem uJ{X:List Cell}(h:lk N a=some i):∃n,bt (jt R.length N) (cq a)=some (.ref n)/\(R++(N.map dA++X))[n]?=some (kR i)/\∀i',(R++(N.map dA++X)).set n (kR i')=R++((pt N a i').map dA++X):=by
 obtain⟨j,hj,h1,h2,h3⟩:=Fi (b:=R.length) h;have hl:j<(N.map dA).length:=by rw[aW];exact hj
 refine⟨_,h1,?_,λi'=>?_⟩
 .rw[gE (by lia),Nat.add_sub_cancel_left,gj hl,h2]
 .rw[IA _ _ (by lia),Nat.add_sub_cancel_left,List.set_append_left _ _ hl,h3]
theorem CW:cn (f9 i) (cq b) (.int n)=f9 (pt i b n):=E0 cq uF (λn=>.int n) b n i
theorem CY(h:i.length<1000000):((f9 i).length<1000000)=True:=cg (by unfold f9 kd;rw[aW];exact h)
theorem C6(h:lk N a=some i):fE N a b n=pt N a (pt i b n):=by unfold fE;rw[h]
section
variable{s t R X:List Cell}{N:Net}{a b:Nd}{n r:Int}{i:kb}{a4:ah Val}
theorem Hw(h:lk N a=some i)(hl:i.length<1000000):cV 0 3 (gX 0 1) 2 [bF s.length,ax (aS a),ax (aS b),bN r,a4] (nS s t R X N)=some (.nx [bF s.length,ax (aS a),ax (aS b),bN r,a4] (nS s t R X (fE N a b r))):=by
 obtain⟨m,h1,h2,h3⟩:=uJ (R:=R) (X:=X) h;have h3:=h3 (pt i b r);have hl:=CY hl;unfold nS;rw[C6 h,zx (bU.mp ⟨i,h⟩),<-h3];generalize jt R.length N=K at *;generalize R++(N.map dA++X)=H at *;simp only[↓ev,aK,gv,hX,h1,h2,hl,CW]
theorem put2(h:lk N b=some i)(hl:i.length<1000000):cV 0 (gI 0) (gX 0 2) 1 [bF s.length,ax (aS a),ax (aS b),bN r,a4] (nS s t R X N)=some (.nx [bF s.length,ax (aS a),ax (aS b),bN r,a4] (nS s t R X (fE N b a 0))):=by
 obtain⟨m,h1,h2,h3⟩:=uJ (R:=R) (X:=X) h;have h3:=h3 (pt i a 0);have hl:=CY hl;unfold nS;rw[C6 h,zx (bU.mp ⟨i,h⟩),<-h3];generalize jt R.length N=K at *;generalize R++(N.map dA++X)=H at *;simp only[↓ev,aK,gv,hX,h1,h2,hl,CW]
theorem Wz{gg:GG}{f:GS}{d1 d2:D}{U U1 U2 U3 U4:Gm}{S1 S2:ba}(h1:gg d1 U=some U1)(e1:f U1 S=some (.nx U2 S1))(h2:gg d2 U2=some U3)(e2:f U3 S1=some (.nx U4 S2)):aF gg f [d1,d2] U S=some (.nx U4 S2):=by
 unfold aF;rw[h1,qk,e1];show aF gg f [d2] U2 S1=_;unfold aF;rw[h2,qk,e2];rfl
theorem qQ{r:List Cell}{x y:Cell}:ba.cut ⟨s++x::t,r⟩ (s.length+(y::t).length)=⟨s++x::t,r⟩:=by
 unfold ba.cut;dsimp only;rw[yq (by simp)]
def AF:GS:=cV 0 3 (gX 0 1) 2
def AG:GS:=cV 0 (gI 0) (gX 0 2) 1
theorem Rf:pT 0=runM 4 5 (kE (aY 0 (bp true dB (aI true (aV 1 2))) 4 uD) AF AG):=rfl
theorem C7(sz:Sz N k)(hk:k<900000):pT 0 [.c s.length,.d (aS a),.d (aS b),jC r] (nS s t R [] N)=some (.ok (rd .aR) (nS s t R [] (cX N a b r))):=by
 have bS:=sz.l;have s1:=CV a sz;have s2:=CV b s1;obtain⟨i,j,e1,e2⟩:=E2 (N:=N) (a:=a) (b:=b) r;have s3:=FH (b:=b) (n:=r) e1 s2;have l1:=Kg (s:=s) (t:=t) (R:=R) (N:=N) (v:=a) (a1:=ax (aS a)) (a2:=ax (aS b)) (a3:=bN r) (by lia)
 have l2:=Kg (s:=s) (t:=t) (R:=R) (N:=eG N a) (v:=b) (a1:=ax (aS a)) (a2:=ax (aS b)) (a3:=bN r) (by have:=s1.l;lia)
 have p1:AF _ _=_:=Hw (s:=s) (t:=t) (R:=R) (X:=[]) (b:=b) (r:=r) (a4:=ax (aS b)) e1 (by have:=s2.i _ _ e1;lia)
 have p2:AG _ _=_:=put2 (s:=s) (t:=t) (R:=R) (X:=[]) (a:=a) (r:=r) (a4:=ax (aS b)) e2 (by have:=s3.i _ _ e2;lia)
 have eL:=Wz (gg:=ao 4) (U:=[bF s.length,ax (aS a),ax (aS b),bN r,none]) rfl l1 rfl l2;clear l1 l2;rw[Rf];unfold cX;generalize fE (fE (eG (eG N a) b) a b r) b a 0=N4 at *;generalize fE (eG (eG N a) b) a b r=N3 at *;generalize eG (eG N a) b=N2 at *;generalize eG N a=N1 at *;unfold nS at *;simp only[↓ev,aK,eL,p1,p2,qQ]
end
theorem WA(b:Str)(i m:Int):Pr pS [.d (vT b i),jC m] (rd (aS (.gi (b,i,m)))):=by
 intro q S;unfold pS aS bQ;simp only[↓ev,aK]
structure Laid (N:Net) (L:List (Nd×Nd×Int)):Prop where
 ar:∀v w,hZ N v w↔(∃r,(v,w,r)∈L)\/∃r,(w,v,r)∈L
 rm:∀v w r,(v,w,r)∈L->rr N v w=r
 rz:∀v w,(∀r,(v,w,r)∉L)->rr N v w=0
 ky:∀v,v∈N.map (·.1)↔v=.st\/∃w r,(v,w,r)∈L\/(w,v,r)∈L
 nd:(N.map (·.1)).Nodup
 ni:∀v i,lk N v=some i->(i.map (·.1)).Nodup
theorem Lz(N:Net)(u v w:Nd):hZ (eG N u) v w↔hZ N v w:=by
 unfold hZ;rw[xH];cases e:lk N v with
 |some i=>exact Iff.rfl
 |none=>
  dsimp only;constructor
  .rintro⟨i,h,n,h2⟩;split at h
   .cases h;cases h2
   .cases h
  .rintro⟨i,h,_⟩;cases h
theorem MC(N:Net)(u v w:Nd):rr (eG N u) v w=rr N v w:=by
 unfold rr;rw[xH];cases e:lk N v with
 |some i=>rfl
 |none=>
  dsimp only;split <;> rfl
theorem jK(N:Net)(u v:Nd):v∈(eG N u).map (·.1)↔v∈N.map (·.1)\/v=u:=by
 unfold eG;split
 .rename_i h
  exact⟨.inl,λz=>z.elim id λq=>by rw[q];exact h⟩
 .rw[gq,dD,k_,dW]
theorem Fj(u:Nd)(h:(N.map (·.1)).Nodup):((eG N u).map (·.1)).Nodup:=by
 unfold eG;split
 .exact h
 .rename_i z
  rw[gq];exact k8.mpr ⟨h,by simp,λa ha b hb e=>by
   rw[k_,dW] at hb;exact z (by rw[show u=b from hb.symm,<-e];exact ha)⟩
theorem MD(u:Nd)(h:∀v i,lk N v=some i->(i.map (·.1)).Nodup):∀v i,lk (eG N u) v=some i->(i.map (·.1)).Nodup:=by
 intro v i e;rw[xH] at e;cases q:lk N v with
 |some j=>rw[q] at e;cases e;exact h v _ q
 |none=>
  rw[q] at e;dsimp only at e;split at e
  .cases e;exact wJ
  .cases e
theorem M5(h:lk N a=some i)(hn:∀v i,lk N v=some i->(i.map (·.1)).Nodup):∀v j,lk (fE N a b n) v=some j->(j.map (·.1)).Nodup:=by
 intro v j e;rw[zC h] at e;split at e
 .cases e;exact XT (hn a i h)
 .exact hn v j e
theorem Laid.lay{L:List (Nd×Nd×Int)}{r:Int}(l:Laid N L)(iB:a≠b)(hf:∀r',(a,b,r')∈L->r'=r)(ha:∀r',(b,a,r')∉L):Laid (cX N a b r) (L++[(a,b,r)]):=by
 obtain⟨i,j,e1,e2⟩:=E2 (N:=N) (a:=a) (b:=b) r;have mm:∀v w q,(v,w,q)∈L++[(a,b,r)]↔(v,w,q)∈L\/(v=a/\w=b/\q=r):=λv w q=>by
  rw[dD,dW,Prod.mk.injEq,Prod.mk.injEq]
 have rl:∀v w,rr (cX N a b r) v w=if v=b/\w=a then 0 else if v=a/\w=b then r else rr N v w:=λv w=>by
  unfold cX;rw[C5 e2,C5 e1,MC,MC]
 refine⟨λv w=>?_,λv w q hm=>?_,λv w hm=>?_,λv=>?_,?_,M5 e2 (M5 e1 (MD b (MD a l.ni)))⟩
 .unfold cX;rw[MA e2,MA e1,Lz,Lz,l.ar];constructor
  .rintro((h|h)|h)
   .rcases h with⟨q,h⟩|⟨q,h⟩
    .exact .inl ⟨q,(mm ..).mpr (.inl h)⟩
    .exact .inr ⟨q,(mm ..).mpr (.inl h)⟩
   .exact .inl ⟨r,(mm ..).mpr (.inr ⟨h.1,h.2,rfl⟩)⟩
   .exact .inr ⟨r,(mm ..).mpr (.inr ⟨h.2,h.1,rfl⟩)⟩
  .rintro(⟨q,h⟩|⟨q,h⟩)
   .rcases(mm ..).mp h with h|h
    .exact .inl (.inl (.inl ⟨q,h⟩))
    .exact .inl (.inr ⟨h.1,h.2.1⟩)
   .rcases(mm ..).mp h with h|h
    .exact .inl (.inl (.inr ⟨q,h⟩))
    .exact .inr ⟨h.2.1,h.1⟩
 .rw[rl];rcases(mm ..).mp hm with h|h
  .have n1:¬(v=b/\w=a):=λz=>ha q (by rw[<-z.1,<-z.2];exact h)
   rw[aO n1];by_cases c:v=a/\w=b
   .rw[aU c];exact(hf q (by rw[<-c.1,<-c.2];exact h)).symm
   .rw[aO c];exact l.rm v w q h
  .rw[aO (λz=>iB (h.1.symm.trans z.1)),aU ⟨h.1,h.2.1⟩]
   exact h.2.2.symm
 .rw[rl];by_cases c:v=b/\w=a
  .rw[aU c]
  .rw[aO c];by_cases c2:v=a/\w=b
   .exact bG ((mm ..).mpr (.inr ⟨c2.1,c2.2,rfl⟩)) (hm r)
   .rw[aO c2];exact l.rz v w λq h=>hm q ((mm ..).mpr (.inl h))
 .unfold cX;rw[zf e2,zf e1,jK,jK,l.ky];constructor
  .rintro((h|h)|h)
   .rcases h with h|⟨w,q,h|h⟩
    .exact .inl h
    .exact .inr ⟨w,q,.inl ((mm ..).mpr (.inl h))⟩
    .exact .inr ⟨w,q,.inr ((mm ..).mpr (.inl h))⟩
   .exact .inr ⟨b,r,.inl ((mm ..).mpr (.inr ⟨h,rfl,rfl⟩))⟩
   .exact .inr ⟨a,r,.inr ((mm ..).mpr (.inr ⟨rfl,h,rfl⟩))⟩
  .rintro(h|⟨w,q,h|h⟩)
   .exact .inl (.inl (.inl h))
   .rcases(mm ..).mp h with h|h
    .exact .inl (.inl (.inr ⟨w,q,.inl h⟩))
    .exact .inl (.inr h.1)
   .rcases(mm ..).mp h with h|h
    .exact .inl (.inl (.inr ⟨w,q,.inr h⟩))
    .exact .inr h.2.1
 .unfold cX;rw[zf e2,zf e1];exact Fj b (Fj a l.nd)
theorem AE:Laid [(.st,[])] [] where
 ar v w:=by
  constructor
  .rintro⟨i,h,n,h2⟩;rw[iT] at h;split at h
   .cases h;cases h2
   .cases h
  .rintro(⟨r,h⟩|⟨r,h⟩) <;> cases h
 rm v w r h:=by cases h
 rz v w _:=by
  unfold rr;rw[iT];split <;> rfl
 ky v:=by
  rw[c_,Bv,dW];constructor
  .exact .inl
  .rintro(h|⟨w,r,h|h⟩)
   .exact h
   .cases h
   .cases h
 nd:=by simp
 ni v i h:=by
  rw[iT] at h;split at h
  .cases h;exact wJ
  .cases h
variable{N:Net}{v w h:Nd}{i:kb}
abbrev bZ:=List (Nd×ah Nd)
variable{l:bZ}
def zG:ah Nd->D
 |none=>.aR
 |some v=>aS v
def bV(l:bZ):List (TK×D):=kd cq zG l
inductive Cm (N:Net):bZ->Prop
 |base:Cm N [(.st,none)]
 |ext {l:bZ} {x y:Nd}:Cm N l->y∈l.map (·.1)->x∉l.map (·.1)->0<rr N y x->hZ N y x->Cm N (l++[(x,some y)])
theorem sF(l:bZ)(x:Nd)(y:ah Nd)(z:Nd):z∈(l++[(x,y)]).map (·.1)↔z∈l.map (·.1)\/z=x:=by
 rw[gq,dD,k_,dW]
theorem Cm.nd(c:Cm N l):(l.map (·.1)).Nodup:=by
 induction c with
 |base=>simp
 |@ext l x y h1 h2 h3 h4 h5 ih=>
  rw[gq];exact k8.mpr ⟨ih,by simp,λa ha b hb e=>by
   rw[k_,dW] at hb;exact h3 (by rw[show x=b from hb.symm,<-e];exact ha)⟩
theorem Cm.st{N:Net}{l:bZ}(c:Cm N l):.st∈l.map (·.1):=by
 induction c with
 |base=>exact .head _
 |@ext l x y h1 h2 h3 h4 h5 ih=>exact(sF ..).mpr (.inl ih)
theorem Uc(h:hZ N v w):v∈N.map (·.1):=by
 obtain⟨i,e,_⟩:=h;exact bU.mp ⟨i,e⟩
theorem Cm.sub(ok:ko N)(c:Cm N l):∀x,x∈l.map (·.1)->x∈N.map (·.1):=by
 induction c with
 |base=>intro x h;rw[k_,dW] at h;rw[h];exact ok.st
 |@ext l x y h1 h2 h3 h4 h5 ih=>
  intro z h;rcases(sF ..).mp h with h|h
  .exact ih z h
  .rw[h];exact Uc (ok.sy y x h5)
theorem nN{α:Type}[DecidableEq α]:∀{l m:List α},l.Nodup->(∀x,x∈l->x∈m)->l.length<=m.length
 |[],m,_,_=>k7 _
 |x::l,m,h,s=>by
  rw[gA] at h;have hx:=s x (.head _);have ih:=nN (m:=m.erase x) h.2 λy hy=>(List.mem_erase_of_ne (λe=>h.1 (by rw[<-e];exact hy))).mpr (s y (.tail _ hy))
  have e:=List.length_erase_of_mem hx;have p:0<m.length:=List.length_pos_of_mem hx;rw[dg];lia
theorem Cm.len(ok:ko N)(c:Cm N l):l.length<=N.length:=by
 have:=nN c.nd (c.sub ok);rw[aW,aW] at this;exact this
theorem uz:bt (bV l) (cq v)=(lk l v).map zG:=EZ cq uF zG v l
theorem uK{n:Int}(h:lk i w=some n):bt (f9 i) (cq w)=some (.int n):=by
 unfold f9;rw[EZ cq uF,h];rfl
theorem Rg(hw:w∉l.map (·.1)):cn (bV l) (cq w) (aS h)=bV (l++[(w,some h)]):=by
 unfold bV;rw[show aS h=zG (some h) from rfl,E0 cq uF,Mx (ia.mpr hw)]
structure SI (N:Net) (l0 l:bZ) (F:List Nd):Prop where
 cm:Cm N l
 sub:∀x,x∈l.map (·.1)↔x∈l0.map (·.1)\/x∈F
 len:l.length=l0.length+F.length
theorem SI.add{l0:bZ}{F:List Nd}(s:SI N l0 l F)(hh:h∈l0.map (·.1))(hw:w∉l.map (·.1))(hr:0<rr N h w)(ha:hZ N h w):SI N l0 (l++[(w,some h)]) (F++[w]):=
 ⟨.ext s.cm ((s.sub h).mpr (.inl hh)) hw hr ha,λx=>by
  rw[sF,s.sub,dD,dW,or_assoc],by
  rw[b_,b_,s.len];rfl⟩
theorem FI{β:Type}{i:List (Nd×β)}{n:β}(h:(i.map (·.1)).Nodup)(m:(w,n)∈i):lk i w=some n:=by
 induction i with
 |nil=>cases m
 |cons e i ih=>
  rw[c_,gA] at h;rw[iT];rcases y06.mp m with m|m
  .rw[<-m,aU rfl]
  .rw[aO (λz=>h.1 (by rw[z];exact dF.mpr ⟨_,m,rfl⟩))]
   exact ih h.2 m
theorem FJ{α β:Type}[DecidableEq α]:∀{i:List (α×β)} {w:α} {n:β},lk i w=some n->(w,n)∈i
 |e::i,w,n,h=>by
  rw[iT] at h;split at h
  .rename_i z;cases h;rw[<-z];exact .head _
  .exact .tail _ (FJ h)
theorem xK(e:lk N h=some i):rr N h w=(lk i w).getD 0:=by
 unfold rr;rw[e];rfl
def NA(T H:List Cell)(c:Nat)(N:Net):Prop:=∃K,T[c]?=some (.o (.aP K))/\∀a i,lk N a=some i->∃n,bt K (cq a)=some (.ref n)/\H[n]?=some (kR i)
section
variable{T H:List Cell}{c cc cf q n:Nat}{K:List (TK×D)}{N:Net}{l:bZ}{F:List Nd}{h w:Nd}{i:kb}{m:Int}{a1 a3:ah Val}
abbrev sG(c cc cf:Nat)(a1 a3 a5 a6:ah Val):Gm:=[bF c,a1,bF cc,a3,bF cf,a5,a6]
theorem Ud(hq:qf q)(hT:T[c]?=some (.o (.aP K)))(h1:bt K (cq h)=some (.ref n))(h2:H[n]?=some (kR i))(hv:bt (f9 i) (cq w)=some (.int m))(hm:(0<m)=True)(ox:T[cc]?=some (.o (.aP (bV l))))(hw:w∉l.map (·.1))(hl:((bV l).length<1000000)=True)
  (Ac:∀X,(T.set cc X)[cf]?=some (.o (.lst (F.map aS)))) (hF:((F.map aS).length<1000000)=True):w9 q (sG c cc cf a1 a3 (ax (aS h)) (ax (aS w))) ⟨T,H⟩=some (.nx (sG c cc cf a1 a3 (ax (aS h)) (ax (aS w))) ⟨(T.set cc (.o (.aP (bV (l++[(w,some h)]))))).set cf (.o (.lst ((F++[w]).map aS))),H⟩):=by
 have mb:=C9 hq;have hp:=Rg (h:=h) hw;have hn:bt (bV l) (cq w)=none:=by rw[uz,ia.mpr hw];rfl
 rw[gq,k_];unfold w9;simp only[↓ev,sG,hT,gv,hX,h1,h2,hv,hm,aK,ox,hn,mb,hl,hp,Ac,hF]
theorem Ue(hT:T[c]?=some (.o (.aP K)))(h1:bt K (cq h)=some (.ref n))(h2:H[n]?=some (kR i))(hv:bt (f9 i) (cq w)=some (.int m))(ox:T[cc]?=some (.o (.aP (bV l))))(hw:0<m->w∈l.map (·.1)):w9 q (sG c cc cf a1 a3 (ax (aS h)) (ax (aS w))) ⟨T,H⟩=some (.nx (sG c cc cf a1 a3 (ax (aS h)) (ax (aS w))) ⟨T,H⟩):=by
 unfold w9;by_cases hm:0<m
 .obtain⟨o,e⟩:=bU.mpr (hw hm);have hn:bt (bV l) (cq w)=some (zG o):=by rw[uz,e];rfl
  have hm:=cg hm;simp only[↓ev,sG,hT,gv,hX,h1,h2,hv,hm,aK,ox,hn]
 .have hm:=eq_false hm;simp only[↓ev,sG,hT,gv,hX,h1,h2,hv,hm,aK]
structure SF (N:Net) (H T0:List Cell) (c cc cf:Nat) (K:List (TK×D)):Prop where
 hc:T0[c]?=some (.o (.aP K))
 bS:∀a i,lk N a=some i->∃n,bt K (cq a)=some (.ref n)/\H[n]?=some (kR i)
 n1:c≠cc
 n2:c≠cf
 n3:cc≠cf
structure SS (T0:List Cell) (cc cf:Nat) (l:bZ) (F:List Nd) (T:List Cell):Prop where
 ln:T.length=T0.length
 ox:T[cc]?=some (.o (.aP (bV l)))
 Ac:T[cf]?=some (.o (.lst (F.map aS)))
 ot:∀j,j≠cc->j≠cf->T[j]?=T0[j]?
variable{T0:List Cell}{l0:bZ}
theorem SS.step{l':bZ}{F':List Nd}(s:SS T0 cc cf l F T)(n3:cc≠cf):SS T0 cc cf l' F' ((T.set cc (.o (.aP (bV l')))).set cf (.o (.lst (F'.map aS)))):=by
 have h1:=(cK.mp s.ox).1;have h2:=(cK.mp s.Ac).1;refine⟨by rw[mE,mE];exact s.ln,?_,?_,λj j1 j2=>?_⟩
 .rw[iU n3.symm,qh h1]
 .rw[qh (by rw[mE];exact h2)]
 .rw[iU j2.symm,iU j1.symm];exact s.ot j j1 j2
theorem zK{p:Nat}:jq 0 p=p:=by cases p <;> rfl
theorem LA:(f9 i).map (·.1.d)=i.map λe=>aS e.1:=by
 unfold f9;rw[Rb];exact IJ λe _=>XU e.1
theorem Ug(ok:ko N)(sf:SF N H T0 c cc cf K)(s:SS T0 cc cf l F T)(si:SI N l0 l F)(hh:h∈l0.map (·.1))(hk:h∈N.map (·.1))(a6:ah Val):
  ∃l' F' T' b6,SI N l0 l' F'/\(∀x,x∈l.map (·.1)->x∈l'.map (·.1))/\(∀x,0<rr N h x->x∈l'.map (·.1))/\SS T0 cc cf l' F' T'/\B1 0 (sG c cc cf a1 a3 (ax (aS h)) a6) ⟨T,H⟩=some (.nx (sG c cc cf a1 a3 (ax (aS h)) b6) ⟨T',H⟩):=by
 obtain⟨i,ei⟩:=bU.mpr hk;obtain⟨n,h1,h2⟩:=sf.bS h i ei;obtain⟨U',S',e,l',F',T',b6,ye,sb,dn,s',rfl,rfl⟩:=ir (ao 6) (w9 (n+3)) (λe:Nd×Int=>aS e.1) ⟨T,H⟩ (U:=sG c cc cf a1 a3 (ax (aS h)) a6) (λpre U S=>∃(l':bZ) (F':List Nd) (T':List Cell) (b6:ah Val),SI N l0 l' F'/\(∀x,x∈l.map (·.1)->x∈l'.map (·.1))/\(∀e∈pre,0<e.2->e.1∈l'.map (·.1))/\SS T0 cc cf l' F' T'/\U=sG c cc cf a1 a3 (ax (aS h)) b6/\S=⟨T',H⟩) i
  ⟨l,F,T,a6,si,λ_ z=>z,λ_ z=>(by cases z),s,rfl,rfl⟩ (by
   rintro d ⟨w,m⟩ r eq U S ⟨l',F',T',b6,ye,sb,dn,s',rfl,rfl⟩;have en:lk i w=some m:=FI (ok.ni h i ei) (by rw[eq];simp)
   have hT:T'[c]?=some (.o (.aP K)):=by rw[s'.ot c sf.n1 sf.n2];exact sf.hc
   by_cases z:0<m/\w∉l'.map (·.1)
   .have ll:=ye.cm.len ok;have nl:=ok.nl;have sl:=ye.len;have st:=Ud (a1:=a1) (a3:=a3) (q:=n+3) NX hT h1 h2 (uK en) (cg z.1) s'.ox z.2 (cg (by unfold bV kd;rw[aW];lia)) (λX=>by rw[iU sf.n3];exact s'.Ac) (cg (by rw[aW];lia))
    refine⟨_,_,_,rfl,.inl st,l'++[(w,some h)],F'++[w],_,_,ye.add hh z.2 (by rw[xK ei,en];exact z.1) ⟨i,ei,m,en⟩,λx y=>(sF ..).mpr (.inl (sb x y)),λe y hy=>?_,s'.step sf.n3,rfl,rfl⟩
    rw[sF];rcases dD.mp y with y|y
    .exact .inl (dn e y hy)
    .rw[dW] at y;rw[y];exact .inr rfl
   .have hn:0<m->w∈l'.map (·.1):=λy=>kj λx=>z ⟨y,x⟩
    have st:=Ue (a1:=a1) (a3:=a3) (q:=n+3) (cf:=cf) hT h1 h2 (uK en) s'.ox hn;refine⟨_,_,_,rfl,.inl st,l',F',_,_,ye,sb,λe y hy=>?_,s',rfl,rfl⟩
    rcases dD.mp y with y|y
    .exact dn e y hy
    .rw[dW] at y;rw[y] at hy ⊢;exact hn hy)
 refine⟨l',F',T',b6,ye,sb,λx hx=>?_,s',?_⟩
 .rw[xK ei] at hx;cases q:lk i x with
  |none=>rw[q] at hx;exact bG hx (Int.lt_irrefl 0)
  |some n=>rw[q] at hx;exact dn (x,n) (FJ q) hx
 .have hT:T[c]?=some (.o (.aP K)):=by rw[s.ot c sf.n1 sf.n2];exact sf.hc
  have ik:=LA (i:=i);unfold B1;simp only[↓ev,sG,hT,gv,hX,h1,h2,ik,zK,e]
end
structure WI (P0 T:List Cell) (l:bZ) (v3:Val) (R:List Nd):Prop where
 pre:∀j,j<P0.length->T[j]?=P0[j]?
 uT:T[P0.length]?=some (.o (.aP (bV l)))
 N6:v3=.d (.lst (R.map aS))\/∃cr,v3=.c cr/\P0.length<cr/\T[cr]?=some (.o (.lst (R.map aS)))
section
variable{P0 T H:List Cell}{c:Nat}{K:List (TK×D)}{N:Net}{l:bZ}{R:List Nd}{v3:Val}{a1 a4 a5 a6:ah Val}
theorem WI.kU(w:WI P0 T l v3 R):kU ⟨T,H⟩ v3=some (.lst (R.map aS)):=by
 rcases w.N6 with rfl|⟨cr,rfl,_,h⟩
 .rfl
 .show(T[cr]?).bind _=_;rw[h];rfl
theorem WI.hold(w:WI P0 T l v3 R):∃T',T'.length=T.length/\(∀j,j<=P0.length->T'[j]?=T[j]?)/\∀L,l8 true ⟨T++L,H⟩ (.v v3)=some (.ok (0,.lst (R.map aS)) ⟨T'++L,H⟩):=by
 rcases w.N6 with rfl|⟨cr,rfl,h1,h⟩
 .exact⟨T,rfl,λ_ _=>rfl,λ_=>rfl⟩
 .have hl:=(cK.mp h).1;refine⟨T.set cr (.z (.lst (R.map aS))),mE,λj hj=>iU (by lia),λL=>?_⟩
  show(i_ ⟨T++L,H⟩ (.c cr)).map _=_;unfold i_;dsimp only;rw[gj hl,h];simp only[qk,Option.map_some];rw[List.set_append_left _ _ hl];rfl
abbrev wG(c P:Nat)(a1:ah Val)(v3:Val)(a4 a5 a6:ah Val):Gm:=[bF c,a1,bF P,some v3,a4,a5,a6]
theorem WB(ok:ko N)(hK:P0[c]?=some (.o (.aP K)))(bS:∀a i,lk N a=some i->∃n,bt K (cq a)=some (.ref n)/\H[n]?=some (kR i))(w:WI P0 T l v3 R)(cm:Cm N l)(hR:∀x,x∈R->x∈l.map (·.1))(cl:∀y,y∈l.map (·.1)->y∉R->∀x,0<rr N y x->x∈l.map (·.1)):
  ∃l' F T' v4 b4 b5 b6,SI N l l' F/\(∀y,y∈l'.map (·.1)->y∉F->∀x,0<rr N y x->x∈l'.map (·.1))/\WI P0 T' l' v4 F/\B2 0 (wG c P0.length a1 v3 a4 a5 a6) ⟨T,H⟩=some (.nx (wG c P0.length a1 v4 b4 b5 b6) ⟨T',H⟩):=by
 have hc:=(cK.mp hK).1;have hp:=(cK.mp w.uT).1;obtain⟨T1,h1,h2,h3⟩:=w.hold (H:=H);have sf:SF N H (T1++[.o (.lst [])]) c P0.length T.length K:=⟨by rw[gj (by lia),h2 c (by lia),w.pre c hc];exact hK,bS,by lia,by lia,by lia⟩
 obtain⟨U',S',e,l',F,T',b5,b6,s,dn,ss,rfl,rfl⟩:=ir (ao 5) (B1 0) aS ⟨T1++[.o (.lst [])],H⟩ (U:=wG c P0.length a1 v3 (bF T.length) a5 a6) (λpre U S=>∃(l':bZ) (F:List Nd) (T':List Cell) (b5 b6:ah Val),SI N l l' F/\(∀h∈pre,∀x,0<rr N h x->x∈l'.map (·.1))/\SS (T1++[.o (.lst [])]) P0.length T.length l' F T'/\U=wG c P0.length a1 v3 (bF T.length) b5 b6/\S=⟨T',H⟩) R
  ⟨l,[],_,a5,a6,⟨cm,λx=>(by simp),rfl⟩,λ_ z=>(by cases z),⟨rfl,by rw[gj (by lia),h2 _ (bC _)];exact w.uT,by rw[<-h1,gE (bC _),kh];rfl,λ_ _ _=>rfl⟩,rfl,rfl⟩ (by
   rintro d h r eq U S ⟨l',F,T',b5,b6,s,dn,ss,rfl,rfl⟩;have hm:h∈R:=by rw[eq];simp
   obtain⟨l2,F2,T2,c6,s2,sb,d2,ZP,st⟩:=Ug (a1:=a1) (a3:=some v3) ok sf ss s (hR h hm) (cm.sub ok h (hR h hm)) b6;refine⟨_,_,_,rfl,.inl st,l2,F2,T2,_,c6,s2,λy z x hx=>?_,ZP,rfl,rfl⟩
   rcases dD.mp z with z|z
   .exact sb x (dn y z x hx)
   .rw[dW] at z;rw[z] at hx;exact d2 x hx)
 refine⟨l',F,T',.c T.length,bF T.length,b5,b6,s,λy hy hF x hx=>?_,⟨λj hj=>?_,ss.ox,.inr ⟨_,rfl,hp,ss.Ac⟩⟩,?_⟩
 .have hy:y∈l.map (·.1):=((s.sub y).mp hy).resolve_right hF
  by_cases m:y∈R
  .exact dn y m x hx
  .exact(s.sub x).mpr (.inl (cl y hy m x hx))
 .rw[ss.ot j (by lia) (by lia),gj (by lia),h2 j (by lia)]
  exact w.pre j hj
 .unfold B2;simp only[↓ev,aK,wG,h3,e]
theorem Kh(ok:ko N)(hK:P0[c]?=some (.o (.aP K)))(bS:∀a i,lk N a=some i->∃n,bt K (cq a)=some (.ref n)/\H[n]?=some (kR i)):∀(n:Nat) (l:bZ) (R:List Nd) (T:List Cell) (v3:Val) (a4 a5 a6:ah Val),WI P0 T l v3 R->Cm N l->(∀x,x∈R->x∈l.map (·.1))->(∀y,y∈l.map (·.1)->y∉R->∀x,0<rr N y x->x∈l.map (·.1))->N.length+2<=n+l.length+(if R=[] then 1 else 0)->
  ∃l' T' v4 b4 b5 b6,Cm N l'/\(∀y,y∈l'.map (·.1)->∀x,0<rr N y x->x∈l'.map (·.1))/\WI P0 T' l' v4 []/\aw (bH (om 3)) (B2 0) n (wG c P0.length a1 v3 a4 a5 a6) ⟨T,H⟩=some (.nx (wG c P0.length a1 v4 b4 b5 b6) ⟨T',H⟩)
 |0,l,R,T,v3,a4,a5,a6,w,cm,_,_,hn=>by
  have:=cm.len ok;split at hn <;> lia
 |n+1,l,R,T,v3,a4,a5,a6,w,cm,hR,cl,hn=>by
  have hs:=w.kU (H:=H);by_cases q:R=[]
  .subst q;refine⟨l,T,v3,a4,a5,a6,cm,λy hy=>cl y hy (by simp),w,?_⟩
   have ht:(([]:List Nd).map aS).isEmpty=true:=rfl;rw[aw];simp only[↓ev,wG,hs,aK]
  .obtain⟨l2,F,T2,v4,b4,b5,b6,s,Tv,w2,st⟩:=WB (a1:=a1) (a4:=a4) (a5:=a5) (a6:=a6) ok hK bS w cm hR cl;rw[aO q] at hn;obtain⟨l',T',v5,c4,c5,c6,r1,r2,r3,r4⟩:=Kh ok hK bS n l2 F T2 v4 b4 b5 b6 w2 s.cm (λx hx=>(s.sub x).mpr (.inr hx)) Tv (by
    have:=s.len;cases F with
    |nil=>rw[aU rfl];rw[nz] at this;lia
    |cons x F=>rw[dg] at this;split <;> lia)
   refine⟨l',T',v5,c4,c5,c6,r1,r2,r3,?_⟩;have ht:(R.map aS).isEmpty=false:=by
    cases R with
    |nil=>exact bG rfl q
    |cons x R=>rfl
   rw[aw];simp only[↓ev,wG,hs,ht,aK,st,r4]
theorem tR{k:TK}{d:D}:cn [] k d=[(k,d)]:=rfl
theorem Rh(ok:ko N)(hK:P0[c]?=some (.o (.aP K)))(bS:∀a i,lk N a=some i->∃n,bt K (cq a)=some (.ref n)/\H[n]?=some (kR i)):∃l,Cm N l/\(∀y,y∈l.map (·.1)->∀x,0<rr N y x->x∈l.map (·.1))/\qz 0 [.c c,.d (aS .st)] ⟨P0,H⟩=some (.ok (.o (.aP (bV l))) ⟨P0,H⟩):=by
 have hn:=ok.nl;have w:WI P0 (P0++[.o (.aP (bV [(.st,none)]))]) [(.st,none)] (.d (.lst ([Nd.st].map aS))) [.st]:=⟨λj hj=>gj hj,by rw[gE (bC _),kh];rfl,.inl rfl⟩
 obtain⟨l,T,v4,b4,b5,b6,cm,cl,w2,e⟩:=Kh (a1:=ax (aS .st)) ok hK bS 1000000 [(.st,none)] [.st] _ _ none none none w .base (λx hx=>hx) (λy hy hR=>bG hy hR) (by
  rw[iW];split <;> lia)
 refine⟨l,cm,cl,?_⟩;have e1:=w2.uT;have e2:ba.cut ⟨T,H⟩ P0.length=⟨P0,H⟩:=by
  unfold ba.cut;dsimp only
  congr 1
  refine IB λj=>?_
  by_cases hj:j<P0.length
  .rw[DP hj];exact w2.pre j hj
  .rw[List.getElem?_take_eq_none (by lia),DK (by lia)]
 have e:aw _ _ _ [_,_,_,some (.d (.lst [aS .st])),_,_,_] ⟨P0++[.o (.aP [(cq .st,.aR)])],H⟩=_:=e;unfold qz;simp only[↓ev,aK,hX,Bz,tR,List.foldl_nil,Iz,e,wG,e1,e2]
end
variable{N:Net}{v:Nd}{S:ba}{c:Nat}
def eh(N:Net):List (Nd×List Nd):=N.map λe=>(e.1,e.2.map (·.1))
theorem CZ(v:Nd):∀N:Net,lk (eh N) v=(lk N v).map (·.map (·.1))
 |[]=>rfl
 |e::N=>by
  show lk ((e.1,e.2.map (·.1))::eh N) v=_
  rw[iT,iT,CZ v N];split <;> rfl
theorem pR{w:Nd}:hZ N v w↔∃ks,lk (eh N) v=some ks/\w∈ks:=by
 rw[CZ];unfold hZ;constructor
 .rintro⟨i,e,n,e2⟩;exact⟨_,by rw[e];rfl,bU.mp ⟨n,e2⟩⟩
 .rintro⟨ks,e,m⟩;cases q:lk N v with
  |none=>rw[q] at e;cases e
  |some i=>
   rw[q] at e;cases e;exact⟨i,rfl,bU.mpr m⟩
theorem Ci(N:Net):N.map (·.1)=(eh N).map (·.1):=by
 unfold eh;rw[kL];rfl
theorem ko.same{N':Net}(ok:ko N)(h:eh N'=eh N):ko N':=by
 have hk:N'.map (·.1)=N.map (·.1):=by rw[Ci,Ci,h]
 have hl:∀v i,lk N' v=some i->∃j,lk N v=some j/\i.map (·.1)=j.map (·.1):=λv i e=>by
  have a:=CZ v N;have b:=CZ v N';rw[h,a,e] at b;cases q:lk N v with
  |none=>rw[q] at b;cases b
  |some j=>rw[q] at b;injection b with b;exact⟨j,rfl,b.symm⟩
 refine⟨λv w=>?_,by rw[hk];exact ok.st,by rw[hk];exact ok.nd,λv i e=>?_,?_,λv i e=>?_⟩
 .rw[pR,pR,h,<-pR,<-pR];exact ok.sy v w
 .obtain⟨j,e1,e2⟩:=hl v i e;rw[e2];exact ok.ni v j e1
 .have:=congrArg List.length hk;rw[aW,aW] at this;rw[this];exact ok.nl
 .obtain⟨j,e1,e2⟩:=hl v i e;have:=congrArg List.length e2;rw[aW,aW] at this;rw[this];exact ok.il v j e1
theorem ME{a:Nd}{i i':kb}(hi:i'.map (·.1)=i.map (·.1)):∀{N:Net},lk N a=some i->eh (pt N a i')=eh N
 |[],h=>by cases h
 |e::N,h=>by
  rw[iT] at h;show eh (if e.1=a then(e.1,i')::N else e::pt N a i')=_
  by_cases q:e.1=a
  .rw[aU q] at h ⊢;injection h with h;show(e.1,i'.map (·.1))::eh N=(e.1,e.2.map (·.1))::eh N
   rw[hi,h]
  .rw[aO q] at h ⊢;show(e.1,e.2.map (·.1))::eh (pt N a i')=(e.1,e.2.map (·.1))::eh N
   rw[ME hi h]
theorem MF{a b:Nd}{n m:Int}{i:kb}(h:lk N a=some i)(h2:lk i b=some m):eh (fE N a b n)=eh N:=by
 unfold fE;rw[h];exact ME (by rw[ze,aU (bU.mp ⟨m,h2⟩)]) h
def yF(l:bZ):List Nd->Prop
 |[]=>False
 |[x]=>lk l x=some none
 |x::y::p=>lk l x=some (some y)/\yF l (y::p)
theorem Cm.step{N:Net}{l:bZ}(c:Cm N l):∀x y,lk l x=some (some y)->0<rr N y x/\hZ N y x/\x≠y:=by
 induction c with
 |base=>
  intro x y h;rw[iT] at h;split at h
  .cases h
  .cases h
 |@ext l a b h1 h2 h3 h4 h5 ih=>
  intro x y h;rw[xG] at h;cases q:lk l x with
  |some z=>rw[q] at h;exact ih x y (by rw[q];exact h)
  |none=>
   rw[q] at h;have h:lk [(a,some b)] x=some (some y):=h;rw[iT] at h;split at h
   .rename_i e
    cases h;dsimp only at e;rw[<-e];exact⟨h4,h5,λz=>h3 (by rw[z];exact h2)⟩
   .cases h
theorem EA{l m:bZ}:∀{p:List Nd},(∀v,v∈p->v∈l.map (·.1))->yF l p->yF (l++m) p
 |[],_,h=>h
 |[x],hv,h=>by
  show lk (l++m) x=some none;have h:lk l x=some none:=h;rw[xG,h]
 |x::y::p,hv,h=>by
  refine⟨?_,EA (λv z=>hv v (.tail _ z)) h.2⟩
  rw[xG,h.1]
theorem Cm.path{l:bZ}(c:Cm N l):∀x,x∈l.map (·.1)->∃p,yF l (x::p)/\(x::p).Nodup/\(∀v,v∈x::p->v∈l.map (·.1))/\(x::p).getLast?=some .st/\iq (rr N) (x::p):=by
 induction c with
 |base=>
  intro x h;rw[k_,dW] at h;subst h;exact⟨[],rfl,by simp,λv z=>z,rfl,mF⟩
 |@ext l a b h1 h2 h3 h4 h5 ih=>
  intro x h;rcases(sF ..).mp h with h|h
  .obtain⟨p,q1,q2,q3,q4,q5⟩:=ih x h;exact⟨p,EA q3 q1,q2,λv z=>(sF ..).mpr (.inl (q3 v z)),q4,q5⟩
  .subst h;obtain⟨p,q1,q2,q3,q4,q5⟩:=ih b h2;refine⟨b::p,⟨?_,EA q3 q1⟩,gA.mpr ⟨λz=>h3 (q3 _ z),q2⟩,λv z=>?_,by rw[List.getLast?_cons_cons];exact q4,h4,q5⟩
   .rw[xG,ia.mpr h3];show lk [(x,some b)] x=_;rw[iT,aU rfl]
   .rw[sF];rcases y06.mp z with z|z
    .exact .inr z
    .exact .inl (q3 v z)
theorem WC:l_ (aS v)=false:=by cases v <;> rfl
section
variable{s t R X:List Cell}{N:Net}{l:bZ}{x y a b:Nd}{n:Int}{i:kb}{a2 a4:ah Val}
abbrev pG(c:Nat)(l:bZ)(a2:ah Val)(x:Nd)(a4:ah Val):Gm:=[bF c,ax (.aP (bV l)),a2,ax (aS x),a4]
def pC:GT:=gQ vY (gX 1 3) (gC .aR)
def pX:GS:=xD 0 Au (gX 0 4) 3 (gI 1)
def pY:GS:=xD 0 vx (gX 0 3) 4 (gI 1)
theorem Qc:xj 0=l7 (ag 4 false (gX 1 3)) pX pY (ag 3 false 4):=rfl
theorem WD(e:lk l x=some (some y)):pC (pG c l a2 x a4) S=some (.ok true S):=by
 have f:bt (bV l) (cq x)=some (aS y):=by rw[uz,e];rfl
 unfold pC;simp only[↓ev,pG,gv,hX,f,WC,aK]
theorem XX(e:lk l x=some none):pC (pG c l a2 x a4) S=some (.ok false S):=by
 have f:bt (bV l) (cq x)=some .aR:=by rw[uz,e];rfl
 unfold pC;simp only[↓ev,pG,gv,hX,f]
theorem EE(h:lk N y=some i)(h':lk i x=some n)(hl:i.length<1000000):pX (pG s.length l a2 x (ax (aS y))) (nS s t R X N)=some (.nx (pG s.length l a2 x (ax (aS y))) (nS s t R X (fE N y x (n - 1)))):=by
 obtain⟨m,h1,h2,h3⟩:=uJ (R:=R) (X:=X) h;have h3:=h3 (pt i x (n - 1));have hl:=CY hl;have hv:=uK h';unfold nS;rw[C6 h,zx (bU.mp ⟨i,h⟩),<-h3];generalize jt R.length N=K at *;generalize R++(N.map dA++X)=H at *;unfold pX;simp only[↓ev,pG,aK,gv,hX,h1,h2,hv,hl,CW]
theorem EF(h:lk N x=some i)(h':lk i y=some n)(hl:i.length<1000000):pY (pG s.length l a2 x (ax (aS y))) (nS s t R X N)=some (.nx (pG s.length l a2 x (ax (aS y))) (nS s t R X (fE N x y (n+1)))):=by
 obtain⟨m,h1,h2,h3⟩:=uJ (R:=R) (X:=X) h;have h3:=h3 (pt i y (n+1));have hl:=CY hl;have hv:=uK h';unfold nS;rw[C6 h,zx (bU.mp ⟨i,h⟩),<-h3];generalize jt R.length N=K at *;generalize R++(N.map dA++X)=H at *;unfold pY;simp only[↓ev,pG,aK,gv,hX,h1,h2,hv,hl,CW]
theorem Qd(ok:ko N)(e:lk l x=some (some y))(ha:hZ N y x)(gw:x≠y):∃N',eh N'=eh N/\(∀v w,rr N' v w=aug (rr N) y x v w)/\xj 0 (pG s.length l a2 x a4) (nS s t R X N)=some (.nx (pG s.length l a2 y (ax (aS y))) (nS s t R X N')):=by
 have YH:=ok.sy y x ha;obtain⟨i,e1,n,e2⟩:=ha;obtain⟨j,e3,m,e4⟩:=YH;have e5:lk (fE N y x (n - 1)) x=some j:=by rw[zC e1,aO (Ne.symm gw)];exact e3
 refine⟨fE (fE N y x (n - 1)) x y (m+1),by rw[MF e5 e4,MF e1 e2],λv w=>?_,?_⟩
 .rw[C5 e5,C5 e1];unfold aug;by_cases c1:v=y/\w=x
  .rw[aO (λz=>gw (z.1.symm.trans c1.1)),aU c1,aU c1,c1.1,c1.2,xK e1,e2];rfl
  .rw[aO c1];by_cases c2:v=x/\w=y
   .rw[aU c2,aO c1,aU c2,c2.1,c2.2,xK e3,e4];rfl
   .rw[aO c2,aO c1,aO c2]
 .have f:bt (bV l) (cq x)=some (aS y):=by rw[uz,e];rfl
  have p1:=EE (s:=s) (t:=t) (R:=R) (X:=X) (l:=l) (a2:=a2) e1 e2 (by have:=ok.il _ _ e1;lia)
  have p2:=EF (s:=s) (t:=t) (R:=R) (X:=X) (l:=l) (a2:=a2) e5 e4 (by have:=ok.il _ _ e3;lia)
  rw[Qc];generalize nS s t R X (fE (fE N y x (n - 1)) x y (m+1))=S3 at *;generalize nS s t R X (fE N y x (n - 1))=S2 at *;generalize nS s t R X N=S1 at *;simp only[↓ev,pG,gv,hX,f,aK,p1,p2]
theorem JQ:∀(p:List Nd) (x:Nd) (N:Net) (n:Nat) (a4:ah Val),ko N->yF l (x::p)->(∀x y,lk l x=some (some y)->hZ N y x/\x≠y)->p.length<n->
  ∃N' b3 b4,eh N'=eh N/\(∀v w,rr N' v w=fZ (rr N) (x::p) v w)/\aw pC (xj 0) n (pG s.length l a2 x a4) (nS s t R X N)=some (.nx [bF s.length,ax (.aP (bV l)),a2,b3,b4] (nS s t R X N'))
 |p,x,N,0,a4,ok,hp,ha,hn=>bG hn (wM _)
 |[],x,N,n+1,a4,ok,hp,ha,hn=>by
  have hp:lk l x=some none:=hp;refine⟨N,ax (aS x),a4,rfl,λ_ _=>rfl,?_⟩
  have f:=XX (a2:=a2) (a4:=a4) (S:=nS s t R X N) (c:=s.length) hp;rw[aw];generalize nS s t R X N=S1 at *;simp only[pG,↓ev,f,aK]
 |y::p,x,N,n+1,a4,ok,hp,ha,hn=>by
  obtain⟨N1,s1,r1,st⟩:=Qd (s:=s) (t:=t) (R:=R) (X:=X) ok (a2:=a2) (a4:=a4) hp.1 (ha x y hp.1).1 (ha x y hp.1).2;have f:=WD (a2:=a2) (a4:=a4) (S:=nS s t R X N) (c:=s.length) hp.1;obtain⟨N',b3,b4,s2,r2,e⟩:=JQ p y N1 n (ax (aS y)) (ok.same s1) hp.2 (λx y h=>⟨by rw[pR,s1,<-pR];exact(ha x y h).1,(ha x y h).2⟩) (Nat.lt_of_succ_lt_succ hn)
  refine⟨N',b3,b4,s2.trans s1,λv w=>?_,?_⟩
  .rw[r2];have:(rr N1)=aug (rr N) y x:=by funext v w;exact r1 v w
   rw[this];rfl
  .rw[aw];generalize nS s t R X N=S1 at *;generalize nS s t R X N1=S2 at *;generalize nS s t R X N'=S3 at *;simp only[pG,↓ev,f,st,e]
theorem Qe:xF 0=runM 3 5 (gY (ag 3 false 2) (aw pC (xj 0) 1000000)):=rfl
theorem WE(ok:ko N)(c:Cm N l)(he:.en∈l.map (·.1)):∃N' p,eh N'=eh N/\(∀v w,rr N' v w=fZ (rr N) (.en::p) v w)/\(Nd.en::p).Nodup/\(∀v,v∈Nd.en::p->v∈N.map (·.1))/\(Nd.en::p).getLast?=some .st/\iq (rr N) (.en::p)/\xF 0 [.c s.length,.d (.aP (bV l)),.d (aS .en)] (nS s t R X N)=some (.ok (rd .aR) (nS s t R X N')):=by
 obtain⟨p,q1,q2,q3,q4,q5⟩:=c.path .en he;have hl:=nN q2 q3;rw[aW,dg] at hl;have h2:=c.len ok;have h3:=ok.nl;obtain⟨N',b3,b4,sh,r,e⟩:=JQ (s:=s) (t:=t) (R:=R) (X:=X) (a2:=ax (aS .en)) p .en N 1000000 none ok q1 (λx y h=>(c.step x y h).2) (by lia)
 refine⟨N',p,sh,r,q2,λv z=>c.sub ok v (q3 v z),q4,q5,?_⟩
 rw[Qe];unfold nS at *;generalize aw pC (xj 0) 1000000=W at *;simp only[↓ev,aK,e,qQ]
end
section
variable{s t R X:List Cell}{N N1:Net}{l l1:bZ}
theorem LB(ok:ko N):∃l,Cm N l/\(∀y,y∈l.map (·.1)->∀x,0<rr N y x->x∈l.map (·.1))/\qz 0 [.c s.length,.d (aS .st)] (nS s t R X N)=some (.ok (.o (.aP (bV l))) (nS s t R X N)):=
 Rh ok (K:=jt R.length N) (by rw[gE (bC _),kh];rfl) λa i h=>let ⟨n,h1,h2,_⟩:=uJ (R:=R) (X:=X) h;⟨n,h1,h2⟩
def zW:GT:=gQ rK 2 3
theorem Qf:xl 0=gY (dY (ak (xF 0) (fV 0 3 2))) (ag 3 false (ak (qz 0) (aV 0 1))):=rfl
abbrev p8(c:Nat)(l:bZ):Gm:=[bF c,ax (aS .st),ax (aS .en),ax (.aP (bV l))]
theorem M6{S:ba}{c:Nat}(b:Bool)(hb:b=true↔.en∈l.map (·.1)):zW (p8 c l) S=some (.ok b S):=by
 have e:(bt (bV l) (cq .en)).isSome=b:=by
  rw[uz,Option.isSome_map,qj,hb,<-bU,Option.isSome_iff_exists]
 unfold zW;simp only[↓ev,p8,gv,hX,aK,e]
theorem XY{S S1:ba}{c:Nat}(h1:xF 0 [.c c,.d (.aP (bV l)),.d (aS .en)] S=some (.ok (rd .aR) S1))(h2:qz 0 [.c c,.d (aS .st)] S1=some (.ok (.o (.aP (bV l1))) S1)):xl 0 (p8 c l) S=some (.nx (p8 c l1) S1):=by
 rw[Qf];simp only[↓ev,p8,h1,h2,aK]
theorem eg{V:List Nd}{r0:Nd->Nd->Int}{B:Int}(hB:∀r,gr V .st .en r0 r->ex V r0 r .st<=B):∀(n:Nat) (N:Net) (l:bZ),ko N->(∀v,v∈N.map (·.1)->v∈V)->gr V .st .en r0 (rr N)->Cm N l->(∀y,y∈l.map (·.1)->∀x,0<rr N y x->x∈l.map (·.1))->B<ex V r0 (rr N) .st+n->
  ∃N' l',eh N'=eh N/\gr V .st .en r0 (rr N')/\Cm N' l'/\(∀y,y∈l'.map (·.1)->∀x,0<rr N' y x->x∈l'.map (·.1))/\.en∉l'.map (·.1)/\aw zW (xl 0) n (p8 s.length l) (nS s t R X N)=some (.nx (p8 s.length l') (nS s t R X N'))
 |0,N,l,ok,hV,F,c,cl,hn=>by
  have:=hB _ F;simp only[Int.natCast_zero,Int.add_zero] at hn;lia
 |n+1,N,l,ok,hV,F,c,cl,hn=>by
  by_cases he:Nd.en∈l.map (·.1)
  .obtain⟨N1,p,s1,r1,n1,v1,g1,m1,e1⟩:=WE (s:=s) (t:=t) (R:=R) (X:=X) ok c he;have er:rr N1=fZ (rr N) (.en::p):=by funext v w;exact r1 v w
   obtain⟨F1,x1⟩:=F.push n1 (λv z=>hV v (v1 v z)) g1 m1
   rw[<-er] at F1 x1;have bq:=ok.same s1;obtain⟨l1,c1,Tu,e2⟩:=LB (s:=s) (t:=t) (R:=R) (X:=X) bq;have hk:N1.map (·.1)=N.map (·.1):=by rw[Ci,Ci,s1]
   obtain⟨N',l',q1,q2,q3,q4,q5,q6⟩:=eg hB n N1 l1 bq (by rw[hk];exact hV) F1 c1 Tu (by
    rw[x1];have:((n+1:Nat):Int)=(n:Int)+1:=rfl;lia)
   refine⟨N',l',q1.trans s1,q2,q3,q4,q5,?_⟩;have f1:=M6 (S:=nS s t R X N) (c:=s.length) true ⟨λ_=>he,λ_=>rfl⟩
   have f2:=XY e1 e2;rw[aw];generalize nS s t R X N=S1 at *;generalize nS s t R X N1=S2 at *;generalize nS s t R X N'=S3 at *;simp only[p8,↓ev,f1,f2,q6]
  .refine⟨N,l,rfl,F,c,cl,he,?_⟩;have f1:=M6 (S:=nS s t R X N) (c:=s.length) false ⟨λz=>(by cases z),λz=>bG z he⟩
   rw[aw];generalize nS s t R X N=S1 at *;simp only[p8,↓ev,f1,aK]
theorem Qg:zu 0=runM 3 4 (kE (ag 3 false (ak (qz 0) (aV 0 1))) (aw zW (xl 0) 1000000) (az 3)):=rfl
theorem WG{V:List Nd}{B:Int}(ok:ko N)(hV:∀v,v∈N.map (·.1)->v∈V)(F:gr V .st .en (rr N) (rr N))(hB:∀r,gr V .st .en (rr N) r->ex V (rr N) r .st<=B)(hb:B<1000):
  ∃N' l',eh N'=eh N/\gr V .st .en (rr N) (rr N')/\Cm N' l'/\(∀y,y∈l'.map (·.1)->∀x,0<rr N' y x->x∈l'.map (·.1))/\.en∉l'.map (·.1)/\zu 0 [.c s.length,.d (aS .st),.d (aS .en)] (nS s t R X N)=some (.ok (rd (.aP (bV l'))) (nS s t R X N')):=by
 obtain⟨l,c,cl,e⟩:=LB (s:=s) (t:=t) (R:=R) (X:=X) ok;have e0:ex V (rr N) (rr N) .st=0:=xu λv _=>by lia
 obtain⟨N',l',q1,q2,q3,q4,q5,q6⟩:=eg (s:=s) (t:=t) (R:=R) (X:=X) hB 1000000 N l ok hV F c cl (by rw[e0];lia)
 refine⟨N',l',q1,q2,q3,q4,q5,?_⟩;rw[Qg];unfold nS at *;generalize aw zW (xl 0) 1000000=W at *;simp only[↓ev,e,aK,q6,p8,qQ]
end
section
variable{α:Type}[DecidableEq α](kk:α->TK)(inj:∀a b,kk a=kk b->a=b)
def jw(ks:List α):List (TK×D):=ks.map λk=>(kk k,.bl true)
def fJ(ks:List α)(c:α):List α:=if c∈ks then ks else ks++[c]
def cD(ks cs:List α):List α:=cs.foldl fJ ks
include inj in
theorem LC(c:α):∀ks:List α,cn (jw kk ks) (kk c) (.bl true)=jw kk (fJ ks c)
 |[]=>rfl
 |k::ks=>by
  have ih:=LC c ks;show(if kk k=kk c then(kk k,D.bl true)::jw kk ks else(kk k,D.bl true)::cn (jw kk ks) (kk c) (.bl true))=_
  unfold fJ at *;by_cases e:k=c
  .rw[aU (by rw[e]),aU (by rw[e];exact .head _)];rfl
  .rw[aO (λz=>e (inj _ _ z)),ih]
   by_cases m:c∈ks
   .rw[aU m,aU (.tail _ m)];rfl
   .rw[aO m,aO (λz=>by
     rcases y06.mp z with z|z
     .exact e z.symm
     .exact m z)]
    rfl
end
variable{h:av}{S:ba}{a:Sp}
section
variable{α:Type}[DecidableEq α]
theorem Ri{ks:List α}{c x:α}:x∈fJ ks c↔x∈ks\/x=c:=by
 unfold fJ;split
 .rename_i m
  exact⟨.inl,λz=>z.elim id λe=>by rw[e];exact m⟩
 .rw[dD,dW]
theorem fY:∀{cs ks:List α} {x:α},x∈cD ks cs↔x∈ks\/x∈cs
 |[],ks,x=>by show x∈ks↔_;simp
 |c::cs,ks,x=>by
  show x∈cD (fJ ks c) cs↔_;rw[fY,Ri,y06,or_assoc]
theorem O3{ks:List α}{c:α}(h:ks.Nodup):(fJ ks c).Nodup:=by
 unfold fJ;split
 .exact h
 .rename_i m
  rw[k8];exact⟨h,by simp,λa ha b hb e=>by simp at hb;subst hb e;exact m ha⟩
theorem Je:∀{cs ks:List α},ks.Nodup->(cD ks cs).Nodup
 |[],ks,h=>h
 |c::cs,ks,h=>Je (cs:=cs) (O3 h)
theorem JR(ks cs ds:List α):cD ks (cs++ds)=cD (cD ks cs) ds:=by unfold cD;rw[List.foldl_append]
theorem Em:∀{cs ks:List α},(cD ks cs).length<=ks.length+cs.length
 |[],ks=>bC _
 |c::cs,ks=>by
  have h1:=Em (cs:=cs) (ks:=fJ ks c);have h2:(fJ ks c).length<=ks.length+1:=by
   unfold fJ;split
   .exact yo _
   .simp
  show(cD (fJ ks c) cs).length<=_;rw[dg];lia
end
abbrev Pl:=Str×Int
variable{p q:Pl}
def aG(p:Pl):D:=.tup [.str p.1,.int p.2]
def jc(p:Pl):TK:=.tp [.inr p.1,.inl p.2]
theorem MG(p:Pl):f' (aG p)=some (jc p):=by
 simp[aG,jc,f',fj,kX,TK.ok]
theorem Uh(a b:Pl)(e:jc a=jc b):a=b:=by
 obtain⟨x,i⟩:=a;obtain⟨y,j⟩:=b;unfold jc at e;injection e with e;injection e with e1 e;injection e with e2 e;injection e1 with e1;injection e2 with e2;dsimp only at e1 e2;rw[e1,e2]
def eJ(h:av)(p:Pl):List Sp:=gd h (.inr p)++[.inr p]
def vU:Sp->ah Pl
 |.inl _=>none
 |.inr p=>some p
def d5(h:av)(p:Pl):List Pl:=(eJ h p).filterMap vU
theorem dk:q∈d5 h p↔Sum.inr q∈eJ h p:=by
 unfold d5;rw[wC];constructor
 .rintro⟨s,hs,e⟩;cases s with
  |inl x=>cases e
  |inr r=>cases e;exact hs
 .exact λz=>⟨_,z,rfl⟩
theorem E3:∀ss:List Sp,(ss.filter λs => !s.isLeft).map bb=(ss.filterMap vU).map aG
 |[]=>rfl
 |.inl x::ss=>E3 ss
 |.inr p::ss=>by
  show bb (.inr p)::(ss.filter λs => !s.isLeft).map bb=aG p::(ss.filterMap vU).map aG
  rw[E3 ss];rfl
def VP(h:av)(p:Pl):Prop:=∃b∈h.aq,b.name=p.1/\0<=p.2/\p.2<b.long
theorem sQ(ok:dc h){b:aM}(hb:b∈h.aq)(c:Int):eJ h (b.name,c)=ff h b c++[.inr (b.name,c)]:=by
 unfold eJ;rw[EX ok.fwd hb]
theorem CF(ok:dc h)(v:VP h p):(eJ h p).length<=31:=by
 obtain⟨n,c⟩:=p;obtain⟨b,hb,e,_⟩:=v;dsimp only at e;subst e;rw[sQ ok hb,b_,iW];have:=P_ h b c (ok.bk b hb).ol;lia
theorem CG(ok:dc h)(v:VP h p):(d5 h p).length<=31:=
 iQ (List.length_filterMap_le _ _) (CF ok v)
theorem B'(ok:dc h)(v:VP h p)(hq:q∈d5 h p):VP h q:=by
 rw[dk] at hq;obtain⟨n,c⟩:=p;obtain⟨b,hb,e,c0,c1⟩:=v;dsimp only at e c0 c1;subst e;rw[sQ ok hb] at hq;rcases dD.mp hq with hq|hq
 .unfold ff at hq;split at hq
  .rename_i hc
   rw[dW] at hq;cases hq;exact⟨b,hb,rfl,by show 0<=c+1;lia,hc⟩
  .rcases dD.mp hq with z|z
   .obtain⟨o,ho,e⟩:=dF.mp z;split at e
    .cases e
    .rename_i hc
     cases e;rcases Cg ok.fwd b hb o ho with y|y
     .obtain⟨x,hx,ex⟩:=dF.mp y;exact⟨x,hx,ex,sd 0,by have:=(ok.bk x hx).lg.1;show 0<x.long;lia⟩
     .exact bG (BB.mpr y) hc
   .split at z
    .rw[dW] at z;cases z;exact⟨b,hb,rfl,sd 0,by show 0<b.long;lia⟩
    .cases z
 .rw[dW] at hq;cases hq;exact⟨b,hb,rfl,c0,c1⟩
theorem Iq(ok:dc h)(v:VP h p):Pq xt [.d (bf h),.d (aG p)] (.o (.lst ((eJ h p).map bb))):=by
 obtain⟨n,c⟩:=p;obtain⟨b,hb,e,_⟩:=v;dsimp only at e;subst e;rw[sQ ok hb,gq,Ke];exact T5 ok.fwd hb (by have:=(ok.bk b hb).ol;lia) c
def at'(p:Pl)(m:Int):Ct:=(p.1,p.2,m)
def lL(h:av)(aa:Str)(pl:Int)(p:Pl)(m:Int):List (Nd×Nd×Int):=
 (Nd.gi (at' p m),Nd.go (at' p m),1)::((if df (.inl aa) (eJ h p)=true then[(Nd.go (at' p m),Nd.en,pl)] else[])++(d5 h p).map λq=>(Nd.go (at' p m),Nd.gi (at' q (m+1)),pl))
def aZ(N:Net)(L:List (Nd×Nd×Int)):Net:=L.foldl (λN e=>cX N e.1 e.2.1 e.2.2) N
theorem Cj(N:Net)(L M:List (Nd×Nd×Int)):aZ N (L++M)=aZ (aZ N L) M:=by unfold aZ;rw[List.foldl_append]
theorem uG:∀(L:List (Nd×Nd×Int)) {N:Net} {k:Nat},Sz N k->Sz (aZ N L) (k+4*L.length)
 |[],N,k,s=>s
 |e::L,N,k,s=>by
  have:=uG L (MB e.1 e.2.1 e.2.2 s);rw[dg,show k+4*(L.length+1)=k+4+4*L.length by lia]
  exact this
theorem Sz.mono{N:Net}{k j:Nat}(s:Sz N k)(h:k<=j):Sz N j:=⟨by have:=s.l;lia,λv i e=>by have:=s.i v i e;lia⟩
theorem Ui(ok:dc h){aa:Str}{pl:Int}{m:Int}(v:VP h p):(lL h aa pl p m).length<=33:=by
 unfold lL;rw[dg,b_,aW];have:=CG ok v;have:(if df (.inl aa) (eJ h p)=true then[(Nd.go (at' p m),Nd.en,pl)] else[]).length<=1:=by split <;> simp
 lia
theorem Fl:kU S (.d (aG p))=some (aG p):=rfl
theorem CH(p:Pl)(m:Int):Pr pS [.d (aG p),jC m] (rd (aS (.gi (at' p m)))):=WA p.1 p.2 m
theorem MH:bM (bb a) (.ty "tuple")=some (rd (.bl (!a.isLeft))):=by cases a <;> rfl
theorem kc:kU S (.d (bb a))=some (bb a):=by cases a <;> rfl
def z7(p:Pl)(m pl:Int)(q:Pl):Nd×Nd×Int:=(.go (at' p m),.gi (at' q (m+1)),pl)
theorem JS(N:Net)(L:List (Nd×Nd×Int))(e:Nd×Nd×Int):aZ N (L++[e])=cX (aZ N L) e.1 e.2.1 e.2.2:=Cj N L [e]
def lA(h:av)(aa:Str)(p:Pl)(m pl:Int):List (Nd×Nd×Int):=if df (.inl aa) (eJ h p)=true then[(Nd.go (at' p m),Nd.en,pl)] else[]
theorem Rj(h:av)(aa:Str)(p:Pl)(m pl:Int):(lA h aa p m pl).length<=1:=by unfold lA;split <;> simp
section
variable{s R:List Cell}{h:av}{aa:Str}{pl m:Int}{p:Pl}{N:Net}{k:Nat}{a8 a9 a10:ah Val}
abbrev nh(c:Nat)(h:av)(aa:Str)(pl:Int)(p:Pl)(m:Int)(a8 a9 a10:ah Val):Gm:=[bF c,ax (bf h),ax (aG p),bN m,dI aa,bN pl,ax (aS (.gi (at' p m))),ax (aS (.go (at' p m))),a8,a9,a10]
variable{t:List Cell}
theorem Qh(sz:Sz N k)(hk:k<900000)(q:Pl):wY 0 (nh s.length h aa pl p m a8 a9 (ax (aG q))) (nS s t R [] N)=some (.nx (nh s.length h aa pl p m a8 a9 (ax (aG q))) (nS s t R [] (cX N (.go (at' p m)) (.gi (at' q (m+1))) pl))):=by
 have e1:=CH q (m+1);have e2:=C7 (s:=s) (t:=t) (R:=R) (a:=.go (at' p m)) (b:=.gi (at' q (m+1))) (r:=pl) sz hk;generalize nS s t R [] (cX N (.go (at' p m)) (.gi (at' q (m+1))) pl)=S2 at *;generalize nS s t R [] N=S1 at *;unfold wY;simp only[↓ev,nh,e1,e2]
def vb:GS:=cG (gQ rK 4 8) (dY (ak (pT 0) (fW 0 7 (gC (.str "the end")) 5)))
theorem Rk(sz:Sz N k)(hk:k<900000):vb (nh s.length h aa pl p m (ax (lS (eJ h p))) a9 a10) (nS s t R [] N)=some (.nx (nh s.length h aa pl p m (ax (lS (eJ h p))) a9 a10) (nS s t R [] (aZ N (lA h aa p m pl)))):=by
 have e2:=C7 (s:=s) (t:=t) (R:=R) (a:=.go (at' p m)) (b:=.en) (r:=pl) sz hk;rw[show aS .en=.str "the end" from rfl] at e2;have e3:=zw (.inl aa) (eJ h p);rw[show bb (.inl aa)=.str aa from rfl] at e3;unfold vb lA;cases c:df (.inl aa) (eJ h p) with
 |true=>
  rw[c] at e3;rw[aU rfl];have e2:_=some (Rs.ok (rd .aR) (nS s t R [] (aZ N [(.go (at' p m),.en,pl)]))):=e2;generalize nS s t R [] (aZ N [(.go (at' p m),.en,pl)])=S2 at *;generalize nS s t R [] N=S1 at *;simp only[↓ev,nh,iJ,aK,e3,e2]
 |false=>
  rw[c] at e3;rw[aO (by decide)]
  show _=some (Fr.nx _ (nS s t R [] N));generalize nS s t R [] N=S1 at *;simp only[↓ev,nh,iJ,aK,e3]
theorem Qi(ok:dc h)(v:VP h p):∀q S,bx (ao 0) (BR q) (BS q) ((eJ h p).map bb) [none] S []=some (.ok ((d5 h p).map aG) S):=λq S=>by
 have hl:=CF ok v;rw[uS (λs:Sp=>if(!s.isLeft)=true then some (bb s) else none) (eJ h p) (by lia) λs m=>?_]
 .congr 2
  unfold d5;rw[<-E3];generalize eJ h p=l
  induction l with
  |nil=>rfl
  |cons x l ih=>cases x with
   |inl a=>exact ih
   |inr a=>exact congrArg (bb (.inr a)::·) ih
 .unfold BR BS;cases c:s.isLeft with
  |true=>exact .inl ⟨rfl,by simp only[↓ev,kc,MH,c,aK]⟩
  |false=>exact .inr ⟨rd (bb s),bb s,rfl,by simp only[↓ev,kc,MH,c,aK],by simp only[↓ev],rfl⟩
theorem Qj(sz:Sz N k)(hk:k<850000)(gs:List Pl)(hg:gs.length<=31):∃d_,aF (ao 10) (wY 0) (gs.map aG) (nh s.length h aa pl p m a8 a9 none) (nS s t R [] N)=some (.nx (nh s.length h aa pl p m a8 a9 d_) (nS s t R [] (aZ N (gs.map (z7 p m pl))))):=by
 obtain⟨U',S',e6,d_,rfl,rfl⟩:=ir (ao 10) (wY 0) aG (nS s t R [] N) (U:=nh s.length h aa pl p m a8 a9 none) (λpre U S=>∃d_:ah Val,U=nh s.length h aa pl p m a8 a9 d_/\S=nS s t R [] (aZ N (pre.map (z7 p m pl)))) gs ⟨none,rfl,rfl⟩ (by
  rintro q x post eq U S ⟨d_,rfl,rfl⟩;have hq:gs.length=q.length+(post.length+1):=by rw[eq,b_,dg]
  have sq:=uG (q.map (z7 p m pl)) sz;rw[aW] at sq;refine⟨_,_,_,rfl,.inl (Qh sq (by lia) x),ax (aG x),rfl,?_⟩
  rw[gq,k_,JS];rfl)
 exact⟨d_,e6⟩
theorem Qk:ur 0=runM 6 11 (cA (ag 6 false (ak (pS 0) (aV 2 3))) (cA (ag 7 false (aI true (aV (gX 6 (gI 0)) (gC (.str "out of"))))) (cA (dY (ak (pT 0) (fW 0 6 7 (gI 1)))) (kf (ag 8 false (ak (xt 0) (aV 1 2))) vb (ag 9 false (bA 0 (bp false dB 8) 0 BR BS 1 [])) (aY 0 (bp true dB 9) 10 wY) (az 9))))):=rfl
theorem M7{c:Ct}:q9 (aS (.gi c)) (.int 0)=some (rd (bQ c)):=rfl
theorem Dg(c:Ct):D.tup [bQ c,.str "out of"]=aS (.go c):=rfl
theorem O4(ok:dc h)(v:VP h p)(sz:Sz N k)(hk:k<800000):ur 0 [.c s.length,.d (bf h),.d (aG p),jC m,fm aa,jC pl] (nS s t R [] N)=some (.ok (rd (.lst ((d5 h p).map aG))) (nS s t R [] (aZ N (lL h aa pl p m)))):=by
 have e1:=CH p m;have e2:=C7 (s:=s) (t:=t) (R:=R) (a:=.gi (at' p m)) (b:=.go (at' p m)) (r:=1) sz (by lia)
 have s1:=MB (.gi (at' p m)) (.go (at' p m)) 1 sz;have e3:=λS=>Iq ok v 0 Hy S
 have e4:=λa9 a10=>Rk (s:=s) (t:=t) (R:=R) (h:=h) (aa:=aa) (pl:=pl) (p:=p) (m:=m) (a9:=a9) (a10:=a10) s1 (by lia)
 have s2:=(uG (lA h aa p m pl) s1).mono (j:=k+8) (by have:=Rj h aa p m pl;lia)
 have eN:aZ N (lL h aa pl p m)=aZ (aZ (cX N (.gi (at' p m)) (.go (at' p m)) 1) (lA h aa p m pl)) ((d5 h p).map (z7 p m pl)):=by
  rw[<-Cj];rfl
 rw[eN];generalize aZ (cX N (.gi (at' p m)) (.go (at' p m)) 1) (lA h aa p m pl)=N2 at e4 s2 ⊢;have e5:=Qi ok v;obtain⟨d_,e6⟩:=Qj (s:=s) (t:=t) (R:=R) (h:=h) (aa:=aa) (pl:=pl) (p:=p) (m:=m) (a8:=ax (lS (eJ h p))) (a9:=ax (.lst ((d5 h p).map aG))) s2 (by lia) (d5 h p) (CG ok v)
 generalize aZ N2 ((d5 h p).map (z7 p m pl))=N3 at e6 ⊢;generalize cX N (.gi (at' p m)) (.go (at' p m)) 1=N1 at e2 e4 ⊢;rw[Qk];unfold nS at *;simp only[↓ev,e1,aK,gv,M7,Dg,e2,e3,e4,nh,e5,e6,qQ]
end
variable{ks:List Pl}
theorem Ki{T:List Cell}{c:Nat}{x:Cell}(h:T[c]?=some x):∃s t,s.length=c/\T=s++x::t/\∀y,T.set c y=s++y::t:=by
 obtain⟨hl,e⟩:=cK.mp h;have e1:T=T.take c++x::T.drop (c+1):=by rw[<-e,<-DJ hl,BA]
 have lt:(T.take c).length=c:=by rw[r6];lia
 refine⟨T.take c,T.drop (c+1),lt,e1,λy=>?_⟩
 conv=>lhs;rw[e1]
 rw[IA _ _ (by lia),lt,kh]
 rfl
abbrev bS(R:List Cell)(N:Net):List Cell:=R++(N.map dA++[])
abbrev jz(R:List Cell)(N:Net):Cell:=.o (.aP (jt R.length N))
section
variable{T R:List Cell}{c k:Nat}{N:Net}{h:av}{aa:Str}{pl m:Int}{p:Pl}
theorem WH(hT:T[c]?=some (jz R N))(sz:Sz N k)(hk:k<900000){a b:Nd}{r:Int}:pT 0 [.c c,.d (aS a),.d (aS b),jC r] ⟨T,bS R N⟩=some (.ok (rd .aR) ⟨T.set c (jz R (cX N a b r)),bS R (cX N a b r)⟩):=by
 obtain⟨s,t,rfl,e1,e2⟩:=Ki hT;rw[e2,e1];exact C7 (R:=R) sz hk
theorem Uj(ok:dc h)(v:VP h p)(hT:T[c]?=some (jz R N))(sz:Sz N k)(hk:k<800000):ur 0 [.c c,.d (bf h),.d (aG p),jC m,fm aa,jC pl] ⟨T,bS R N⟩=some (.ok (rd (.lst ((d5 h p).map aG))) ⟨T.set c (jz R (aZ N (lL h aa pl p m))),bS R (aZ N (lL h aa pl p m))⟩):=by
 obtain⟨s,t,rfl,e1,e2⟩:=Ki hT;rw[e2,e1];exact O4 (R:=R) ok v sz hk
structure LN (T0:List Cell) (c:Nat) (R:List Cell) (N:Net) (S:List Ct) (T:List Cell):Prop where
 hn:T[c]?=some (jz R N)
 hs:T[c+1]?=some (.o (.lst (S.map bQ)))
 ot:∀j,j<c->T[j]?=T0[j]?
variable{T0:List Cell}{S:List Ct}
theorem LN.NS(l:LN T0 c R N S T)(N':Net):LN T0 c R N' S (T.set c (jz R N')):=by
 have hl:=(cK.mp l.hn).1;exact⟨qh hl,by rw[iU (by lia)];exact l.hs,λj hj=>by rw[iU (by lia)];exact l.ot j hj⟩
theorem LN.A7(l:LN T0 c R N S T)(S':List Ct):LN T0 c R N S' (T.set (c+1) (.o (.lst (S'.map bQ)))):=by
 have hl:=(cK.mp l.hs).1;exact⟨by rw[iU (by lia)];exact l.hn,qh hl,λj hj=>by rw[iU (by lia)];exact l.ot j hj⟩
theorem LN.other(l:LN T0 c R N S T){j:Nat}(hj:c+1<j)(x:Cell):LN T0 c R N S (T.set j x):=
 ⟨by rw[iU (by lia)];exact l.hn,by rw[iU (by lia)];exact l.hs,λi hi=>by rw[iU (by lia)];exact l.ot i hi⟩
theorem LN.more(l:LN T0 c R N S T)(x:Cell):LN T0 c R N S (T++[x]):=by
 have h1:=(cK.mp l.hn).1;have h2:=(cK.mp l.hs).1;exact⟨by rw[gj h1];exact l.hn,by rw[gj h2];exact l.hs,λj hj=>by rw[gj (by lia)];exact l.ot j hj⟩
end
theorem WJ{q:Pl}:cn (jw jc ks) (jc q) (.bl true)=jw jc (fJ ks q):=LC jc Uh q ks
theorem WK(h:ks.length<1000000):((jw jc ks).length<1000000)=True:=cg (by unfold jw;rw[aW];exact h)
section
variable(h:av)(P:List Pl)(aa:Str)(Tm pl:Int)
abbrev nG(c:Nat)(Q:List Pl)(a8 a9 a10 a11:ah Val):Gm:=[bF c,ax (bf h),ax (.lst (P.map aG)),dI aa,bN Tm,bN pl,bF (c+1),ax (.lst (Q.map aG)),a8,a9,a10,a11]
def mC(pl:Int)(p:Pl):Nd×Nd×Int:=(.st,.gi (at' p 0),pl)
section
variable{T0 T R:List Cell}{c k cr:Nat}{N:Net}{S:List Ct}{Q ks:List Pl}{a8 a9 a10 a11:ah Val}
theorem O5(l:LN T0 c R N S T)(sz:Sz N k)(hk:k<900000)(p:Pl):yQ 0 (nG h P aa Tm pl c Q (ax (aG p)) a9 a10 a11) ⟨T,bS R N⟩=some (.nx (nG h P aa Tm pl c Q (ax (aG p)) a9 a10 a11) ⟨T.set c (jz R (cX N .st (.gi (at' p 0)) pl)),bS R (cX N .st (.gi (at' p 0)) pl)⟩):=by
 have e1:=CH p 0;have e2:=WH l.hn sz hk (a:=.st) (b:=.gi (at' p 0)) (r:=pl);rw[show aS .st=.str "the start" from rfl] at e2;generalize bS R (cX N .st (.gi (at' p 0)) pl)=H2 at *;generalize bS R N=H1 at *;unfold yQ;simp only[↓ev,nG,e1,e2]
theorem O6(l:LN T0 c R N S T)(sz:Sz N k)(hk:k<800000)(ps:List Pl)(hp:ps.length<=100):∃T' b8,LN T0 c R (aZ N (ps.map (mC pl))) S T'/\aF (ao 8) (yQ 0) (ps.map aG) (nG h P aa Tm pl c Q none a9 a10 a11) ⟨T,bS R N⟩=some (.nx (nG h P aa Tm pl c Q b8 a9 a10 a11) ⟨T',bS R (aZ N (ps.map (mC pl)))⟩):=by
 obtain⟨U',S',e6,T',b8,l',rfl,rfl⟩:=ir (ao 8) (yQ 0) aG ⟨T,bS R N⟩ (U:=nG h P aa Tm pl c Q none a9 a10 a11) (λpre U S'=>∃(T':List Cell) (b8:ah Val),LN T0 c R (aZ N (pre.map (mC pl))) S T'/\U=nG h P aa Tm pl c Q b8 a9 a10 a11/\S'=⟨T',bS R (aZ N (pre.map (mC pl)))⟩) ps ⟨T,none,l,rfl,rfl⟩ (by
  rintro q x post eq U S' ⟨T',b8,l',rfl,rfl⟩;have hq:ps.length=q.length+(post.length+1):=by rw[eq,b_,dg]
  have sq:=uG (q.map (mC pl)) sz;rw[aW] at sq;have st:=O5 h P aa Tm pl (Q:=Q) (a9:=a9) (a10:=a10) (a11:=a11) l' sq (by lia) x
  have em:aZ N ((q++[x]).map (mC pl))=cX (aZ N (q.map (mC pl))) .st (.gi (at' x 0)) pl:=by rw[gq,k_,JS];rfl
  rw[em];exact⟨_,_,_,rfl,.inl st,_,ax (aG x),l'.NS _,rfl,rfl⟩)
 exact⟨T',b8,l',e6⟩
theorem Rl(hr:T[cr]?=some (.o (.aP (jw jc ks))))(hl:ks.length<1000000)(q:Pl){H:List Cell}:uq 0 (nG h P aa Tm pl c Q a8 a9 (bF cr) (ax (aG q))) ⟨T,H⟩=some (.nx (nG h P aa Tm pl c Q a8 a9 (bF cr) (ax (aG q))) ⟨T.set cr (.o (.aP (jw jc (fJ ks q)))),H⟩):=by
 have hl:=WK hl;have e:=WJ (q:=q) (ks:=ks);have e2:=MG q;unfold uq;simp only[↓ev,nG,hr,e2,hl,e]
theorem Rm(l:LN T0 c R N S T)(hc:c+1<cr)(hr:T[cr]?=some (.o (.aP (jw jc ks))))(gs:List Pl)(hl:ks.length+gs.length<1000000):∃T' gL,LN T0 c R N S T'/\T'.length=T.length/\T'[cr]?=some (.o (.aP (jw jc (cD ks gs))))/\aF (ao 11) (uq 0) (gs.map aG) (nG h P aa Tm pl c Q a8 a9 (bF cr) a11) ⟨T,bS R N⟩=some (.nx (nG h P aa Tm pl c Q a8 a9 (bF cr) gL) ⟨T',bS R N⟩):=by
 obtain⟨U',S',e6,T',gL,l',ln,tq,rfl,rfl⟩:=ir (ao 11) (uq 0) aG ⟨T,bS R N⟩ (U:=nG h P aa Tm pl c Q a8 a9 (bF cr) a11) (λpre U S'=>∃(T':List Cell) (gL:ah Val),LN T0 c R N S T'/\T'.length=T.length/\T'[cr]?=some (.o (.aP (jw jc (cD ks pre))))/\U=nG h P aa Tm pl c Q a8 a9 (bF cr) gL/\S'=⟨T',bS R N⟩) gs ⟨T,a11,l,rfl,hr,rfl,rfl⟩ (by
  rintro q x post eq U S' ⟨T',gL,l',ln,tq,rfl,rfl⟩;have hq:gs.length=q.length+(post.length+1):=by rw[eq,b_,dg]
  have hk:=Em (cs:=q) (ks:=ks);have st:=Rl h P aa Tm pl (c:=c) (Q:=Q) (a8:=a8) (a9:=a9) (H:=bS R N) tq (by lia) x
  have h1:=(cK.mp tq).1;refine⟨_,_,_,rfl,.inl st,_,ax (aG x),l'.other hc _,by rw[mE,ln],?_,rfl,rfl⟩
  rw[qh h1,JR];rfl)
 exact⟨T',gL,l',ln,tq,e6⟩
end
end
variable{p:Pl}{h:av}{R:List Cell}{P:List Pl}
theorem Fm:q9 (aG p) (.int 0)=some (rd (.str p.1)):=rfl
theorem Fo:q9 (aG p) (.int 1)=some (rd (.int p.2)):=rfl
theorem FA{m:Int}:D.tup [.str p.1,.int p.2,.int m]=bQ (at' p m):=rfl
theorem G1{ks:List Pl}:(jw jc ks).map (·.1.d)=ks.map aG:=by
 unfold jw;rw[kL];exact IJ λp _=>(xq (MG p)).1
section
variable(h:av)(P:List Pl)(aa:Str)(Tm pl:Int)
section
variable{T0 T R:List Cell}{c k cr:Nat}{N:Net}{S:List Ct}{Q ks:List Pl}{m:Int}{a8 a9 a10 a11:ah Val}
def Hu:GS:=dY (cv 0 "list" jL 6 (aX (aI true (fV (gX 8 (gI 0)) (gX 8 (gI 1)) 9))))
def Hv:GS:=aY 0 (bp true dB (ak (ur 0) (gK 0 (gK 1 (fW 8 9 3 5))))) 11 uq
theorem Uk:yR 0=gY Hu Hv:=rfl
theorem WL(hs:T[c+1]?=some (.o (.lst (S.map bQ))))(hS:S.length<1000000)(p:Pl){H:List Cell}:Hu (nG h P aa Tm pl c Q (ax (aG p)) (bN m) a10 a11) ⟨T,H⟩=some (.nx (nG h P aa Tm pl c Q (ax (aG p)) (bN m) a10 a11) ⟨T.set (c+1) (.o (.lst ((S++[at' p m]).map bQ))),H⟩):=by
 have c1:((S.map bQ).length<1000000)=True:=cg (by rw[aW];exact hS)
 rw[gq (f:=bQ),k_];unfold Hu;simp only[↓ev,nG,hs,Fl,Fm,Fo,aK,FA,c1]
theorem WM{S1 S2:ba}{gs:List Pl}{gL:ah Val}(e1:ur 0 [.c c,.d (bf h),.d (aG p),jC m,fm aa,jC pl] S1=some (.ok (rd (.lst (gs.map aG))) S2)){S3:ba}(e2:aF (ao 11) (uq 0) (gs.map aG) (nG h P aa Tm pl c Q (ax (aG p)) (bN m) (bF cr) a11) S2=some (.nx (nG h P aa Tm pl c Q (ax (aG p)) (bN m) (bF cr) gL) S3)):Hv (nG h P aa Tm pl c Q (ax (aG p)) (bN m) (bF cr) a11) S1=some (.nx (nG h P aa Tm pl c Q (ax (aG p)) (bN m) (bF cr) gL) S3):=by
 unfold Hv;simp only[↓ev,nG,e1,e2]
theorem Ul(ok:dc h)(l:LN T0 c R N S T)(sz:Sz N k)(hk:k<800000)(hS:S.length<1000000)(hc:c+1<cr)(hr:T[cr]?=some (.o (.aP (jw jc ks))))(hl:ks.length<900000)(p:Pl)(v:VP h p):∃T' gL,LN T0 c R (aZ N (lL h aa pl p m)) (S++[at' p m]) T'/\T'.length=T.length/\T'[cr]?=some (.o (.aP (jw jc (cD ks (d5 h p)))))/\
  yR 0 (nG h P aa Tm pl c Q (ax (aG p)) (bN m) (bF cr) a11) ⟨T,bS R N⟩=some (.nx (nG h P aa Tm pl c Q (ax (aG p)) (bN m) (bF cr) gL) ⟨T',bS R (aZ N (lL h aa pl p m))⟩):=by
 have eA:=WL h P aa Tm pl (Q:=Q) (m:=m) (a10:=bF cr) (a11:=a11) (H:=bS R N) l.hs hS p;have l1:=l.A7 (S++[at' p m]);have e1:=Uj (m:=m) (aa:=aa) (pl:=pl) ok v l1.hn sz hk;have l2:=l1.NS (aZ N (lL h aa pl p m));have gl:=CG ok v;obtain⟨T',gL,l3,ln,Y_,e2⟩:=Rm h P aa Tm pl (Q:=Q) (a8:=ax (aG p)) (a9:=bN m) (a11:=a11) (ks:=ks) l2 hc (by rw[iU (by lia),iU (by lia)];exact hr) (d5 h p) (by lia)
 refine⟨T',gL,l3,by rw[ln,mE,mE],Y_,?_⟩
 have eB:=WM h P aa Tm pl e1 e2;rw[Uk];generalize bS R (aZ N (lL h aa pl p m))=H2 at *;generalize bS R N=H1 at *;simp only[↓ev,eA,eB]
def dZ(Q:List Pl)(m:Int):List (Nd×Nd×Int):=Q.flatMap λp=>lL h aa pl p m
theorem Um(ok:dc h)(l:LN T0 c R N S T)(sz:Sz N k)(hS:S.length<100000)(hc:c+1<cr)(hr:T[cr]?=some (.o (.aP (jw jc []))))(qs:List Pl)(hv:∀p,p∈qs->VP h p)(hq:qs.length<=150)(hk:k<700000):∃T' b8 gL,LN T0 c R (aZ N (dZ h aa pl qs m)) (S++qs.map (at' · m)) T'/\T'.length=T.length/\T'[cr]?=some (.o (.aP (jw jc (cD [] (qs.flatMap (d5 h))))))/\
  aF (ao 8) (yR 0) (qs.map aG) (nG h P aa Tm pl c Q a8 (bN m) (bF cr) a11) ⟨T,bS R N⟩=some (.nx (nG h P aa Tm pl c Q b8 (bN m) (bF cr) gL) ⟨T',bS R (aZ N (dZ h aa pl qs m))⟩)/\(dZ h aa pl qs m).length<=33*qs.length/\(qs.flatMap (d5 h)).length<=31*qs.length:=by
 obtain⟨U',S',e6,T',b8,gL,l',ln,tq,rfl,rfl,l1,l2⟩:=ir (ao 8) (yR 0) aG ⟨T,bS R N⟩ (U:=nG h P aa Tm pl c Q a8 (bN m) (bF cr) a11) (λpre U S'=>∃(T':List Cell) (b8 gL:ah Val),LN T0 c R (aZ N (dZ h aa pl pre m)) (S++pre.map (at' · m)) T'/\T'.length=T.length/\T'[cr]?=some (.o (.aP (jw jc (cD [] (pre.flatMap (d5 h))))))/\U=nG h P aa Tm pl c Q b8 (bN m) (bF cr) gL/\S'=⟨T',bS R (aZ N (dZ h aa pl pre m))⟩/\(dZ h aa pl pre m).length<=33*pre.length/\(pre.flatMap (d5 h)).length<=31*pre.length) qs
  ⟨T,a8,a11,by rw[Bv,lQ];exact l,rfl,hr,rfl,rfl,bC _,bC _⟩ (by
   rintro q x post eq U S' ⟨T',b8,gL,l',ln,tq,rfl,rfl,l1,l2⟩;have hx:=hv x (by rw[eq];simp)
   have hq2:qs.length=q.length+(post.length+1):=by rw[eq,b_,dg]
   have sq:=uG (dZ h aa pl q m) sz;have Dp:=Em (cs:=q.flatMap (d5 h)) (ks:=[]);rw[nz] at Dp;obtain⟨T2,pZ,l3,ln2,Y9,st⟩:=Ul h P aa Tm pl (Q:=Q) (m:=m) (a11:=gL) ok l' sq (by lia) (by rw[b_,aW];lia) hc tq (by lia) x hx
   have g1:=CG ok hx;have g2:=Ui ok (aa:=aa) (pl:=pl) (m:=m) hx;have f1:dZ h aa pl (q++[x]) m=dZ h aa pl q m++lL h aa pl x m:=by
    unfold dZ;rw[List.flatMap_append,List.flatMap_singleton]
   have f2:(q++[x]).flatMap (d5 h)=q.flatMap (d5 h)++d5 h x:=by
    rw[List.flatMap_append,List.flatMap_singleton]
   rw[f1,f2,Cj,JR,gq,k_,<-g_,b_,b_,b_,iW];exact⟨_,_,_,rfl,.inl st,T2,ax (aG x),pZ,l3,by rw[ln2,ln],Y9,rfl,rfl,by lia,by lia⟩)
 exact⟨T',b8,gL,l',ln,tq,e6,l1,l2⟩
def yd(Q:List Pl):List Pl:=cD [] (Q.flatMap (d5 h))
theorem WN(ok:dc h)(l:LN T0 c R N S T)(sz:Sz N k)(hS:S.length<100000)(hv:∀p,p∈Q->VP h p)(hq:Q.length<=150)(hk:k<700000):∃T' b8 d_ gL,LN T0 c R (aZ N (dZ h aa pl Q m)) (S++Q.map (at' · m)) T'/\
  yS 0 (nG h P aa Tm pl c Q a8 (bN m) a10 a11) ⟨T,bS R N⟩=some (.nx (nG h P aa Tm pl c (yd h Q) b8 (bN m) d_ gL) ⟨T',bS R (aZ N (dZ h aa pl Q m))⟩)/\(dZ h aa pl Q m).length<=33*Q.length:=by
 have hl:=(cK.mp l.hs).1;obtain⟨T',b8,gL,l2,ln,hr,e,l1,_⟩:=Um h P aa Tm pl (Q:=Q) (m:=m) (a8:=a8) (a11:=a11) (cr:=T.length) ok (l.more (.o (.aP []))) sz hS hl (by rw[gE (bC _),kh];rfl) Q hv hq hk
 refine⟨T',b8,bF T.length,gL,l2,?_,l1⟩;have e2:=G1 (ks:=yd h Q);rw[show cD [] (Q.flatMap (d5 h))=yd h Q from rfl] at hr;generalize yd h Q=Q' at hr e2 ⊢;generalize bS R (aZ N (dZ h aa pl Q m))=H2 at *;generalize bS R N=H1 at *;unfold yS;simp only[↓ev,nG,aK,e,hr,e2]
end
def nw:Nat->List Pl
 |0=>P
 |m+1=>yd h (nw m)
def gP:Nat->List (Nd×Nd×Int)
 |0=>P.map (mC pl)
 |m+1=>gP m++dZ h aa pl (nw h P m) (m:Int)
def dC:Nat->List Ct
 |0=>[]
 |m+1=>dC m++(nw h P m).map (at' · (m:Int))
end
noncomputable def sU(h:av):List Pl:=h.aq.flatMap λb=>(List.range b.long.toNat).map λ(i:Nat)=>(b.name,(i:Int))
theorem Rn(v:VP h p):p∈sU h:=by
 obtain⟨b,hb,e,c0,c1⟩:=v;unfold sU;rw[DN];refine⟨b,hb,?_⟩;rw[dF];refine⟨p.2.toNat,k6.mpr (by lia),?_⟩
 obtain⟨n,c⟩:=p;dsimp only at e c0 ⊢;rw[e,Int.toNat_of_nonneg c0]
theorem Kj(L:Nat):∀bs:List aM,(∀b∈bs,b.long<=L)->(bs.flatMap λb=>(List.range b.long.toNat).map λ(i:Nat)=>(b.name,(i:Int))).length<=L*bs.length
 |[],_=>k7 _
 |b::bs,hb=>by
  have ih:=Kj L bs λb m=>hb b (.tail _ m)
  have h1:=hb b (.head _);rw[DM,b_,aW,kN,dg,Nat.mul_add];lia
theorem zy(ok:dc h){Q:List Pl}(nd:Q.Nodup)(v:∀p,p∈Q->VP h p):Q.length<=30:=by
 obtain⟨L,hL,Yt⟩:=ok.tl;have h1:=nN nd λp m=>Rn (v p m)
 have h2:=Kj L h.aq hL;rw[Nat.mul_comm] at h2;exact iQ h1 (iQ h2 Yt)
theorem uO{h:av}(ok:dc h){P:List Pl}(nd:P.Nodup)(v:∀p,p∈P->VP h p):∀m,(nw h P m).Nodup/\∀p,p∈nw h P m->VP h p
 |0=>⟨nd,v⟩
 |m+1=>by
  obtain⟨i1,i2⟩:=uO ok nd v m;refine⟨Je (by simp),λp hp=>?_⟩
  rcases fY.mp hp with z|z
  .cases z
  .obtain⟨q,hq,z⟩:=DN.mp z;exact B' ok (i2 q hq) z
theorem Ro{T0 T:List Cell}{c:Nat}{a8:ah Val}(ok:dc h)(nd:P.Nodup)(v:∀p,p∈P->VP h p)(aa:Str)(Tm pl:Int)(n:Nat)(hn:n<=160)(s0:Sz (aZ [(.st,[])] (P.map (mC pl))) 1000)(l:LN T0 c R (aZ [(.st,[])] (gP h P aa pl 0)) [] T):
  ∃T' c8 c9 pW pZ,LN T0 c R (aZ [(.st,[])] (gP h P aa pl n)) (dC h P n) T'/\aF (ao 9) (yS 0) (cZ 0 n) (nG h P aa Tm pl c P a8 none none none) ⟨T,bS R (aZ [(.st,[])] (gP h P aa pl 0))⟩=some (.nx (nG h P aa Tm pl c (nw h P n) c8 c9 pW pZ) ⟨T',bS R (aZ [(.st,[])] (gP h P aa pl n))⟩)/\Sz (aZ [(.st,[])] (gP h P aa pl n)) (1000+4000*n):=by
 obtain⟨U',S',e6,T',c8,c9,pW,pZ,l',rfl,rfl,sz,sl⟩:=ir (ao 9) (yS 0) (λ(k:Nat)=>D.int (0+(k:Int))) ⟨T,bS R (aZ [(.st,[])] (gP h P aa pl 0))⟩ (U:=nG h P aa Tm pl c P a8 none none none) (λpre U S'=>∃(T':List Cell) (c8 c9 pW pZ:ah Val),LN T0 c R (aZ [(.st,[])] (gP h P aa pl pre.length)) (dC h P pre.length) T'/\U=nG h P aa Tm pl c (nw h P pre.length) c8 c9 pW pZ/\S'=⟨T',bS R (aZ [(.st,[])] (gP h P aa pl pre.length))⟩/\Sz (aZ [(.st,[])] (gP h P aa pl pre.length)) (1000+4000*pre.length)/\(dC h P pre.length).length<=200*pre.length) (List.range n)
  ⟨T,a8,none,none,none,l,rfl,rfl,s0,bC _⟩ (by
   rintro q x post eq U S' ⟨T',c8,c9,pW,pZ,l',rfl,rfl,sz,sl⟩;obtain⟨hx,hxn⟩:=uy eq;subst hx;rw[b_,iW];obtain⟨o1,o2⟩:=uO ok nd v q.length;have hl:=zy ok o1 o2;rw[Int.zero_add];have ee:gP h P aa pl (q.length+1)=gP h P aa pl q.length++dZ h aa pl (nw h P q.length) (q.length:Int):=rfl;have es:dC h P (q.length+1)=dC h P q.length++(nw h P q.length).map (at' · (q.length:Int)):=rfl
   have en:nw h P (q.length+1)=yd h (nw h P q.length):=rfl;rw[ee,es,en,Cj];generalize(q.length:Int)=mi at *;obtain⟨T2,d8,T9,T_,l2,st,lm⟩:=WN h P aa Tm pl (m:=mi) (a8:=c8) (a10:=pW) (a11:=pZ) ok l' sz (by lia) o2 (by lia) (by lia)
   refine⟨_,_,_,rfl,.inl st,T2,d8,_,T9,T_,l2,rfl,rfl,(uG _ sz).mono (by lia),?_⟩
   rw[b_,aW];lia)
 rw[kN] at *;exact⟨T',c8,c9,pW,pZ,l',e6,sz⟩
theorem Ql{s:List Cell}(ok:dc h)(nd:P.Nodup)(v:∀p,p∈P->VP h p)(aa:Str){n:Nat}(hn:n<=160)(hP:P.length<=20){pl:Int}(g8:(P.length:Int)+1=pl):
  y4 0 [.c s.length,.d (bf h),.d (.lst (P.map aG)),fm aa,jC n] (nS s [] R [] [(.st,[])])=some (.ok (.o (.lst ((dC h P n).map bQ))) (nS s [] R [] (aZ [(.st,[])] (gP h P aa pl n))))/\Sz (aZ [(.st,[])] (gP h P aa pl n)) 700000:=by
 have N8:Sz [(Nd.st,([]:kb))] 0:=⟨bC _,λv i e=>by
  rw[iT] at e;split at e
  .cases e;exact bC _
  .cases e⟩
 have l0:LN s s.length R [(.st,[])] [] (s++[jz R [(.st,[])],.o (.lst [])]):=⟨by rw[gE (bC _),kh];rfl,by rw[gE (by lia),Nat.add_sub_cancel_left];rfl,λj hj=>gj hj⟩
 obtain⟨T1,b8,l1,e1⟩:=O6 h P aa n pl (Q:=P) (a9:=none) (a10:=none) (a11:=none) l0 N8 (by lia) P (by lia)
 have s0:=(uG (P.map (mC pl)) N8).mono (j:=1000) (by rw[aW];lia)
 obtain⟨T2,c8,c9,pW,pZ,l2,e2,sz⟩:=Ro (a8:=b8) ok nd v aa n pl n hn s0 l1;refine⟨?_,sz.mono (by lia)⟩
 have Am:((P.map aG).length:Int)+1=pl:=by rw[aW];exact g8
 have b1:Nat.ble (n:Int).natAbs 1000000000000=true:=pH (by lia)
 have ht:cZ 0 (n:Int).toNat=cZ 0 n:=rfl;have e3:=l2.hs;have e4:∀H,ba.cut ⟨T2,H⟩ (s.length+1)=⟨s++[jz R (aZ [(.st,[])] (gP h P aa pl n))],H⟩:=λH=>by
  unfold ba.cut;dsimp only
  congr 1
  refine IB λj=>?_
  by_cases hj:j<s.length
  .rw[DP (by lia),gj hj];exact l2.ot j hj
  .by_cases xZ:j=s.length
   .rw[xZ,DP (by lia),gE (bC _),kh];exact l2.hn
   .rw[List.getElem?_take_eq_none (by lia),DK (by simp;lia)]
 rw[show gP h P aa pl 0=P.map (mC pl) from rfl] at e2;unfold nS;generalize aZ [(.st,[])] (P.map (mC pl))=N1 at e1 e2;generalize aZ [(.st,[])] (gP h P aa pl n)=N2 at e2 e4 ⊢;generalize(dC h P n).map bQ=S at e3 ⊢;generalize nw h P n=Q2 at e2;generalize[(Nd.st,([]:kb))]=N0 at e1 ⊢;generalize bS R N1=H1 at *;generalize(n:Int)=ni at *;unfold y4;simp only[↓ev,Am,aK,e1,nG,b1,ht,e2,jl,e3];rw[e4]
variable{h:av}{P:List Pl}{aa:Str}{pl:Int}{n:Nat}{v w:Nd}{b b':Bool}{c:Ct}
inductive eQ (h:av) (P:List Pl) (aa:Str) (n:Nat):Nd->Nd->Bool->Prop
 |s {p:Pl}:p∈P->eQ h P aa n .st (.gi (at' p 0)) false
 |g {m:Nat} {p:Pl}:m<n->p∈nw h P m->eQ h P aa n (.gi (at' p m)) (.go (at' p m)) true
 |e {m:Nat} {p:Pl}:m<n->p∈nw h P m->df (.inl aa) (eJ h p)=true->eQ h P aa n (.go (at' p m)) .en false
 |w {m:Nat} {p q:Pl}:m<n->p∈nw h P m->q∈d5 h p->eQ h P aa n (.go (at' p m)) (.gi (at' q (m+1))) false
def cp(pl:Int)(b:Bool):Int:=if b=true then 1 else pl
theorem LD{h:av}{P:List Pl}{aa:Str}{pl:Int}{e:Nd×Nd×Int}:∀{n:Nat},e∈gP h P aa pl n↔e∈P.map (mC pl)\/∃m,m<n/\∃p∈nw h P m,e∈lL h aa pl p m
 |0=>⟨.inl,λz=>z.elim id λ⟨m,hm,_⟩=>bG hm (wM _)⟩
 |n+1=>by
  show e∈gP h P aa pl n++dZ h aa pl (nw h P n) (n:Int)↔_;rw[dD,LD,or_assoc];unfold dZ;rw[DN];constructor
  .rintro(z|⟨m,hm,z⟩|⟨p,hp,z⟩)
   .exact .inl z
   .exact .inr ⟨m,by lia,z⟩
   .exact .inr ⟨n,by lia,p,hp,z⟩
  .rintro(z|⟨m,hm,p,hp,z⟩)
   .exact .inl z
   .by_cases c:m=n
    .subst c;exact .inr (.inr ⟨p,hp,z⟩)
    .exact .inr (.inl ⟨m,by lia,p,hp,z⟩)
theorem cT{r:Int}:(v,w,r)∈gP h P aa pl n↔∃b,eQ h P aa n v w b/\r=cp pl b:=by
 rw[LD];constructor
 .rintro(z|⟨m,hm,p,hp,z⟩)
  .obtain⟨p,hp,e⟩:=dF.mp z;unfold mC at e;cases e;exact⟨false,.s hp,rfl⟩
  .unfold lL at z;rcases y06.mp z with z|z
   .cases z;exact⟨true,.g hm hp,rfl⟩
   .rcases dD.mp z with z|z
    .split at z
     .rename_i c
      rw[dW] at z;cases z;exact⟨false,.e hm hp c,rfl⟩
     .cases z
    .obtain⟨q,hq,e⟩:=dF.mp z;cases e;exact⟨false,.w hm hp hq,rfl⟩
 .rintro⟨b,e,rfl⟩;cases e with
  |@s p hp=>exact .inl (dF.mpr ⟨p,hp,rfl⟩)
  |@g m p hm hp=>exact .inr ⟨m,hm,p,hp,.head _⟩
  |@e m p hm hp c=>exact .inr ⟨m,hm,p,hp,by
    unfold lL;refine .tail _ (dD.mpr (.inl ?_));rw[aU c];exact .head _⟩
  |@w m p q hm hp hq=>exact .inr ⟨m,hm,p,hp,.tail _ (dD.mpr (.inr (dF.mpr ⟨q,hq,rfl⟩)))⟩
theorem lu{p q:Pl}{m k:Int}(e:at' p m=at' q k):p=q/\m=k:=by
 obtain⟨a,b⟩:=p;obtain⟨c,d⟩:=q;unfold at' at e;injection e with e1 e;injection e with e2 e3;dsimp only at e1 e2;rw[e1,e2];exact⟨rfl,e3⟩
section
variable{h:av}{P:List Pl}{aa:Str}{n:Nat}
theorem MI(e:eQ h P aa n v w b):v≠w:=by cases e <;> exact λz=>by cases z
def Az:Nd->Bool
 |.gi _=>true
 |_=>false
theorem FK(e:eQ h P aa n v w b):b=Az v:=by cases e <;> rfl
theorem Uo(e:eQ h P aa n v w b)(e':eQ h P aa n v w b'):b=b':=(FK e).trans (FK e').symm
theorem Ck(e:eQ h P aa n v w b)(e':eQ h P aa n w v b'):False:=by
 generalize hx:v=x at e';generalize hy:w=y at e';cases e with
 |s _=>cases e' <;> cases hx <;> cases hy
 |@g m p _ _=>
  cases e' with
  |@w m2 p2 q2 _ _ _=>
   injection hx with hx;injection hy with hy;have h1:=(lu hx).2;have h2:=(lu hy).2;lia
  |_=>first|cases hx|cases hy
 |e _ _ _=>cases e' <;> first|cases hx|cases hy
 |@w m p q _ _ _=>
  cases e' with
  |@g m2 p2 _ _=>
   injection hx with hx;injection hy with hy;have h1:=(lu hx).2;have h2:=(lu hy).2;lia
  |_=>first|cases hx|cases hy
end
theorem JT{h:av}{P:List Pl}{aa:Str}{n:Nat}{pl:Int}:∀(L' L:List (Nd×Nd×Int)) (N:Net),Laid N L->(∀v w r,(v,w,r)∈L++L'->∃b,eQ h P aa n v w b/\r=cp pl b)->Laid (aZ N L') (L++L')
 |[],L,N,l,_=>by rw[lQ];exact l
 |(a,b,r)::L',L,N,l,hs=>by
  have e:L++(a,b,r)::L'=(L++[(a,b,r)])++L':=by rw[g_];rfl
  rw[e] at hs ⊢;obtain⟨t,et,rt⟩:=hs a b r (dD.mpr (.inl (dD.mpr (.inr (.head _)))));refine JT L' (L++[(a,b,r)]) (cX N a b r) (l.lay (MI et) (λr' m=>?_) λr' m=>?_) hs
  .obtain⟨t',FT,N7⟩:=hs a b r' (dD.mpr (.inl (dD.mpr (.inl m))));rw[rt,N7,Uo et FT]
  .obtain⟨t',FT,N7⟩:=hs b a r' (dD.mpr (.inl (dD.mpr (.inl m))));exact Ck et FT
structure Nt (h:av) (P:List Pl) (aa:Str) (n:Nat) (pl:Int) (N:Net):Prop where
 ok:ko N
 ar:∀v w,hZ N v w↔(∃b,eQ h P aa n v w b)\/∃b,eQ h P aa n w v b
 rm:∀v w b,eQ h P aa n v w b->rr N v w=cp pl b
 rz:∀v w,(∀b,¬eQ h P aa n v w b)->rr N v w=0
 ky:∀v,v∈N.map (·.1)↔v=.st\/∃w b,eQ h P aa n v w b\/eQ h P aa n w v b
theorem XZ(s:Sz (aZ [(.st,[])] (gP h P aa pl n)) 700000):Nt h P aa n pl (aZ [(.st,[])] (gP h P aa pl n)):=by
 have l:=JT (h:=h) (P:=P) (aa:=aa) (n:=n) (pl:=pl) (gP h P aa pl n) [] [(.st,[])] AE λv w r m=>cT.mp (by simpa using m)
 rw[wK] at l;generalize aZ [(.st,[])] (gP h P aa pl n)=N at *;have ar:∀v w,hZ N v w↔(∃b,eQ h P aa n v w b)\/∃b,eQ h P aa n w v b:=λv w=>by
  rw[l.ar];constructor
  .rintro(⟨r,z⟩|⟨r,z⟩)
   .obtain⟨b,e,_⟩:=cT.mp z;exact .inl ⟨b,e⟩
   .obtain⟨b,e,_⟩:=cT.mp z;exact .inr ⟨b,e⟩
  .rintro(⟨b,e⟩|⟨b,e⟩)
   .exact .inl ⟨_,cT.mpr ⟨b,e,rfl⟩⟩
   .exact .inr ⟨_,cT.mpr ⟨b,e,rfl⟩⟩
 have ky:∀v,v∈N.map (·.1)↔v=.st\/∃w b,eQ h P aa n v w b\/eQ h P aa n w v b:=λv=>by
  rw[l.ky];constructor
  .rintro(z|⟨w,r,z|z⟩)
   .exact .inl z
   .obtain⟨b,e,_⟩:=cT.mp z;exact .inr ⟨w,b,.inl e⟩
   .obtain⟨b,e,_⟩:=cT.mp z;exact .inr ⟨w,b,.inr e⟩
  .rintro(z|⟨w,b,z|z⟩)
   .exact .inl z
   .exact .inr ⟨w,_,.inl (cT.mpr ⟨b,z,rfl⟩)⟩
   .exact .inr ⟨w,_,.inr (cT.mpr ⟨b,z,rfl⟩)⟩
 refine⟨⟨λv w z=>?_,(ky _).mpr (.inl rfl),l.nd,l.ni,by have:=s.l;lia,λv i e=>by have:=s.i v i e;lia⟩,ar,λv w b e=>l.rm v w _ (cT.mpr ⟨b,e,rfl⟩),λv w z=>l.rz v w λr m=>?_,ky⟩
 .rw[ar] at z ⊢;exact z.symm
 .obtain⟨b,e,_⟩:=cT.mp m;exact z b e
def VV(N:Net):List Nd:=(eG N .en).map (·.1)
section
variable{h:av}{P:List Pl}{aa:Str}{n:Nat}{pl:Int}{N:Net}
theorem Nt.off(t:Nt h P aa n pl N)(z:v∉VV N\/w∉VV N):∀b,¬eQ h P aa n v w b:=by
 intro b e;rcases z with z|z
 .exact z ((jK ..).mpr (.inl ((t.ky v).mpr (.inr ⟨w,b,.inl e⟩))))
 .exact z ((jK ..).mpr (.inl ((t.ky w).mpr (.inr ⟨v,b,.inr e⟩))))
theorem Nt.nn(t:Nt h P aa n pl N)(hp:0<=pl)(v w:Nd):0<=rr N v w:=by
 by_cases c:∃b,eQ h P aa n v w b
 .obtain⟨b,e⟩:=c;rw[t.rm v w b e];unfold cp;split <;> lia
 .rw[t.rz v w λb e=>c ⟨b,e⟩];exact sd 0
theorem Nt.Yi(t:Nt h P aa n pl N)(hp:0<=pl):gr (VV N) .st .en (rr N) (rr N) where
 nn:=t.nn hp
 an v b:=by lia
 cs v m h1 h2:=xu λb _=>by lia
 sp v b z:=⟨t.rz v b (t.off z),t.rz v b (t.off z)⟩
 ns:=λz=>by cases z
 ms:=(jK ..).mpr (.inl t.ok.st)
 mt:=(jK ..).mpr (.inr rfl)
 nd:=Fj _ t.ok.nd
theorem C8{f g:Nd->Int}:∀{l:List Nd},(∀v,v∈l->f v<=g v)->sm f l<=sm g l
 |[],_=>sd 0
 |v::l,h=>by
  have h1:=h v (.head _);have h2:=C8 λv m=>h v (.tail _ m)
  show f v+sm f l<=g v+sm g l;lia
variable{r:Nd->Nd->Int}
theorem Nt.pos(t:Nt h P aa n pl N)(F:gr (VV N) .st .en (rr N) r)(z:0<rr N v w - r v w):∃b,eQ h P aa n v w b:=by
 refine kj λc=>?_
 have e:=t.rz v w λb e=>c ⟨b,e⟩
 have:=F.nn v w;lia
theorem zz(e:eQ h P aa n (.gi c) w b):w=.go c/\b=true/\∃m p,m<n/\p∈nw h P m/\c=at' p m:=by
 generalize hx:Nd.gi c=x at e;cases e with
 |@g m p hm hp=>injection hx with hx;subst hx;exact⟨rfl,rfl,m,p,hm,hp,rfl⟩
 |_=>cases hx
theorem Nt.rR(t:Nt h P aa n pl N)(F:gr (VV N) .st .en (rr N) r){u:Nd}(z:0<rr N u (.gi c) - r u (.gi c)):rr N u (.gi c) - r u (.gi c)<=rr N (.gi c) (.go c) - r (.gi c) (.go c)/\rr N (.gi c) (.go c) - r (.gi c) (.go c)=1/\r (.gi c) (.go c)=0/\∃m p,m<n/\p∈nw h P m/\c=at' p m:=by
 obtain⟨b,e⟩:=t.pos F z;have hu:u∈VV N:=(jK ..).mpr (.inl ((t.ky u).mpr (.inr ⟨_,b,.inl e⟩)));have hc:Nd.gi c∈VV N:=(jK ..).mpr (.inl ((t.ky _).mpr (.inr ⟨_,b,.inr e⟩)));have cs:=F.cs (.gi c) hc (λz=>by cases z) (λz=>by cases z)
 have ug:u≠.go c:=λq=>by
  rw[q] at e;have hx:=MI e;generalize hx:Nd.go c=x at e;generalize hy:Nd.gi c=y at e;cases e with
  |@w m p q _ _ _=>
   injection hx with hx;injection hy with hy;have:=(lu (hx.symm.trans hy)).2;lia
  |_=>first|(cases hy;done)|(cases hx;done)
 have an:=F.an u (.gi c);have key:sm (λb=>rr N (.gi c) b - r (.gi c) b) (VV N)<=sm (λb=>(if b=.go c then rr N (.gi c) (.go c) - r (.gi c) (.go c) else 0)+(if b=u then rr N (.gi c) u - r (.gi c) u else 0)) (VV N):=C8 λb _=>by
  by_cases c1:b=.go c
  .rw[aU c1,aO (λq=>ug (q.symm.trans c1)),c1];lia
  .rw[aO c1];by_cases c2:b=u
   .rw[aU c2,c2];lia
   .rw[aO c2];refine IK.mp λq=>?_
    obtain⟨b',e'⟩:=t.pos F (v:=.gi c) (w:=b) (by lia)
    exact c1 (zz e').1
 rw[cs,sP,m_ _ F.nd,m_ _ F.nd,aU hu] at key;by_cases m:Nd.go c∈VV N
 .rw[aU m] at key;obtain⟨b',e'⟩:=t.pos F (v:=.gi c) (w:=.go c) (by lia)
  obtain⟨_,rfl,mp⟩:=zz e';have h1:=t.rm _ _ _ e';have h2:=F.nn (.gi c) (.go c);have h3:cp pl true=1:=rfl;exact⟨by lia,by lia,by lia,mp⟩
 .rw[aO m] at key;lia
theorem Nt.on(t:Nt h P aa n pl N)(F:gr (VV N) .st .en (rr N) r)(z:0<rr N (.gi c) (.go c) - r (.gi c) (.go c)):∃w,0<rr N (.go c) w - r (.go c) w:=by
 obtain⟨b,e⟩:=t.pos F z;have hc:Nd.go c∈VV N:=(jK ..).mpr (.inl ((t.ky _).mpr (.inr ⟨_,b,.inr e⟩)));have hg:Nd.gi c∈VV N:=(jK ..).mpr (.inl ((t.ky _).mpr (.inr ⟨_,b,.inl e⟩)));have cs:=F.cs (.go c) hc (λz=>by cases z) (λz=>by cases z)
 refine kj λq=>?_
 have an:=F.an (.gi c) (.go c);have key:sm (λb=>rr N (.go c) b - r (.go c) b) (VV N)<=sm (λb=>if b=.gi c then rr N (.go c) (.gi c) - r (.go c) (.gi c) else 0) (VV N):=C8 λb _=>by
  by_cases c1:b=.gi c
  .rw[aU c1,c1];exact sd _
  .rw[aO c1];exact IK.mp λy=>q ⟨b,y⟩
 rw[cs,m_ _ F.nd,aU hg] at key;lia
theorem Nt.from(t:Nt h P aa n pl N)(F:gr (VV N) .st .en (rr N) r)(w:Nd):0<=rr N .st w - r .st w:=by
 refine IK.mp λq=>?_
 have an:=F.an .st w;obtain⟨b,e⟩:=t.pos F (v:=w) (w:=.st) (by lia)
 generalize hx:Nd.st=x at e;cases e <;> cases hx
theorem WO(e:eQ h P aa n .st w b):∃p∈P,w=.gi (at' p 0):=by
 generalize hx:Nd.st=x at e;cases e with
 |@s p hp=>exact⟨p,hp,rfl⟩
 |_=>cases hx
theorem MJ{g:Nd->Int}:∀{W V:List Nd},W.Nodup->V.Nodup->(∀v,v∈W->v∈V)->(∀v,v∈V->v∉W->g v=0)->sm g V=sm g W
 |[],V,_,_,_,hz=>xu λv m=>hz v m (by simp)
 |x::W,V,nW,nV,hs,hz=>by
  rw[gA] at nW;have e:=Ez g (λv=>decide (v=x)) V
  have e1:sm g (V.filter λv=>decide (v=x))=g x:=by
   have a:sm g (V.filter λv=>decide (v=x))=sm (λv=>if v=x then g x else 0) (V.filter λv=>decide (v=x)):=nR λv m=>by
    have:=(gf.mp m).2;rw[decide_eq_true_eq] at this;rw[aU this,this]
   rw[a,m_ _ (nV.filter _),aU (gf.mpr ⟨hs x (.head _),eP rfl⟩)]
  have e2:=MJ (g:=g) (W:=W) (V:=V.filter λv => !decide (v=x)) nW.2 (nV.filter _) (λv m=>gf.mpr ⟨hs v (.tail _ m),by
   have:v≠x:=λq=>nW.1 (by rw[<-q];exact m)
   simp[this]⟩) (λv m hv=>by
   obtain⟨m1,m2⟩:=gf.mp m;have:v≠x:=by simpa using m2
   exact hz v m1 λq=>by
    rcases y06.mp q with q|q
    .exact this q
    .exact hv q)
  show sm g V=g x+sm g W;lia
def used(N:Net)(r:Nd->Nd->Int)(p:Pl):Bool:=decide (0<rr N .st (.gi (at' p 0)) - r .st (.gi (at' p 0)))
theorem Fp{α:Type}(f:α->Nd)(g:Nd->Int)(q:α->Bool):∀l:List α,(∀a,a∈l->g (f a)=if q a=true then 1 else 0)->sm g (l.map f)=((l.filter q).length:Int)
 |[],_=>rfl
 |a::l,hg=>by
  have ih:=Fp f g q l λa m=>hg a (.tail _ m)
  have h1:=hg a (.head _);show g (f a)+sm g (l.map f)=_;rw[ih,h1,yl];cases q a with
  |true=>
   show(1:Int)+_=((a::l.filter q).length:Int);rw[dg];lia
  |false=>
   show(0:Int)+_=_;rw[Int.zero_add];rfl
theorem Nt.value(t:Nt h P aa n pl N)(nd:P.Nodup)(F:gr (VV N) .st .en (rr N) r):ex (VV N) (rr N) r .st=((P.filter (used N r)).length:Int):=by
 unfold ex;have Dn:∀v,v∈P.map (λp=>Nd.gi (at' p 0))->v∈VV N:=λv m=>by
  obtain⟨p,hp,rfl⟩:=dF.mp m;exact(jK ..).mpr (.inl ((t.ky _).mpr (.inr ⟨_,_,.inr (.s hp)⟩)))
 have Y1:(P.map λp=>Nd.gi (at' p 0)).Nodup:=List.Pairwise.map _ (λa b iB e=>iB (by injection e with e;exact(lu e).1)) nd
 rw[MJ Y1 F.nd Dn λv _ hv=>?_]
 .refine Fp _ _ _ P λp hp=>?_
  have h0:=t.from F (.gi (at' p 0));unfold used;by_cases c:0<rr N .st (.gi (at' p 0)) - r .st (.gi (at' p 0))
  .rw[eP c,aU rfl];obtain⟨k1,k2,_⟩:=t.rR F c;lia
  .rw[eC c,aO (by simp)]
   lia
 .have h0:=t.from F v;refine kj λq=>?_
  obtain⟨b,e⟩:=t.pos F (v:=.st) (w:=v) (by lia)
  obtain⟨p,hp,rfl⟩:=WO e;exact hv (dF.mpr ⟨p,hp,rfl⟩)
theorem Nt.most(t:Nt h P aa n pl N)(nd:P.Nodup)(F:gr (VV N) .st .en (rr N) r):ex (VV N) (rr N) r .st<=(P.length:Int):=by
 rw[t.value nd F];have:=IL (used N r) P;lia
end
section
variable{T H:List Cell}{c:Nat}{N:Net}{a b w:Nd}{i j:kb}{x:Int}{K:List (TK×D)}
theorem Uq(hT:T[c]?=some (.o (.aP K))){n q:Nat}(h1:bt K (cq w)=some (.ref n))(h2:H[n]?=some (kR j))(e2:lk j b=some x):B8 q [ax (aS w),ax (aS b),bF c] ⟨T,H⟩=some (.ok (decide (0<x)) ⟨T,H⟩):=by
 have hv:=uK e2;unfold B8;cases z:decide (0<x) with
 |true=>
  have z:=cg (pI z);simp only[↓ev,hT,gv,hX,h1,h2,hv,z,aK]
 |false=>
  have z:=eq_false (of_decide_eq_false z);simp only[↓ev,hT,gv,hX,h1,h2,hv,z,aK]
theorem WQ{q:Nat}{a1 a2:ah Val}{S:ba}:B9 q [ax (aS w),a1,a2] S=some (.ok (rd (aS w)) S):=by
 unfold B9;simp only[↓ev]
theorem xm{α:Type}(p:α->Bool)(f:α->D):∀l:List α,(l.filterMap λe=>if p e=true then some (f e) else none)=(l.filter p).map f
 |[]=>rfl
 |e::l=>by
  rw[Bs,yl];cases p e with
  |true=>exact congrArg (f e::·) (xm p f l)
  |false=>exact xm p f l
theorem Ur(ok:ko N)(na:NA T H c N)(hw:∃w,hZ N b w/\0<rr N w b):∃w,hZ N b w/\0<rr N w b/\xr 0 [.c c,.d (aS b)] ⟨T,H⟩=some (.ok (rd (aS w)) ⟨T,H⟩):=by
 obtain⟨w0,⟨i,ei,n0,Ye⟩,Y6⟩:=hw;obtain⟨K,hT,bS⟩:=na;have il:=ok.il b i ei;obtain⟨n,h1,h2⟩:=bS b i ei;have e:∀q,bx (ao 0) (B8 q) (B9 q) (i.map λe=>aS e.1) [none,ax (aS b),bF c] ⟨T,H⟩ []=some (.ok ((i.filter λe=>decide (0<rr N e.1 b)).map λe=>aS e.1) ⟨T,H⟩):=λq=>by
  rw[uS (λe:Nd×Int=>if decide (0<rr N e.1 b)=true then some (aS e.1) else none) i (by lia) λe m=>?_,xm]
  obtain⟨w,x⟩:=e;obtain⟨j,ej,y,ey⟩:=ok.sy b w ⟨i,ei,x,FI (ok.ni b i ei) m⟩;obtain⟨m,h3,h4⟩:=bS w j ej;have st:=Uq (q:=q) hT h3 h4 ey;have er:rr N w b=y:=by rw[xK ej,ey];rfl
  dsimp only;rw[er];cases z:decide (0<y) with
  |true=>exact .inr ⟨rd (aS w),aS w,rfl,by rw[st,z],WQ,rfl⟩
  |false=>exact .inl ⟨rfl,by rw[st,z]⟩
 have f2:=LA (i:=i);cases q:i.filter λe=>decide (0<rr N e.1 b) with
 |nil=>
  have:(w0,n0)∈i.filter λe=>decide (0<rr N e.1 b):=gf.mpr ⟨FJ Ye,eP Y6⟩
  rw[q] at this;cases this
 |cons x xs=>
  obtain⟨w,y⟩:=x;have hm:(w,y)∈i.filter λe=>decide (0<rr N e.1 b):=by rw[q];exact .head _
  obtain⟨m1,m2⟩:=gf.mp hm;refine⟨w,⟨i,ei,y,FI (ok.ni b i ei) m1⟩,by simpa using m2,?_⟩
  rw[q] at e;have e:∀q,bx _ _ _ _ _ _ _=some (.ok (aS w::xs.map λe=>aS e.1) _):=e
  unfold xr;simp only[↓ev,hT,gv,hX,h1,h2,f2,zK,e,aK]
end
variable{a1 a5:ah Val}{S:ba}{w:Nd}{g:Ct}{L:Nat}
inductive pN (N:Net) (r:Nd->Nd->Int):Ct->List Pl->Prop
 |last {c:Ct}:0<rr N (.go c) .en - r (.go c) .en->pN N r c [(c.1,c.2.1)]
 |step {c d:Ct} {t:List Pl}:0<rr N (.go c) (.gi d) - r (.go c) (.gi d)->pN N r d t->pN N r c ((c.1,c.2.1)::t)
theorem Fq{h:av}{P:List Pl}{aa:Str}{n:Nat}{c:Ct}{b:Bool}(e:eQ h P aa n (.go c) w b):∃m p,m<n/\p∈nw h P m/\c=at' p m/\(w=.en/\df (.inl aa) (eJ h p)=true\/∃q∈d5 h p,w=.gi (at' q (m+1))):=by
 generalize hx:Nd.go c=x at e;cases e with
 |@e m p hm hp z=>injection hx with hx;exact⟨m,p,hm,hp,hx,.inl ⟨rfl,z⟩⟩
 |@w m p q hm hp hq=>injection hx with hx;exact⟨m,p,hm,hp,hx,.inr ⟨q,hq,rfl⟩⟩
 |_=>cases hx
section
variable{h:av}{P:List Pl}{aa:Str}{n:Nat}{pl:Int}{N N':Net}{T H:List Cell}{c:Nat}
theorem NA.more(na:NA T H c N)(L:List Cell):NA (T++L) H c N:=by
 obtain⟨K,h1,h2⟩:=na;exact⟨K,by rw[gj (cK.mp h1).1];exact h1,h2⟩
theorem Rq(na:NA T H c N')(t:Nt h P aa n pl N)(F:gr (VV N) .st .en (rr N) (rr N'))(hs:eh N'=eh N)(z:0<rr N (.gi g) (.go g) - rr N' (.gi g) (.go g)):
  ∃w,0<rr N (.go g) w - rr N' (.go g) w/\xr 0 [.c c,.d (aS (.go g))] ⟨T,H⟩=some (.ok (rd (aS w)) ⟨T,H⟩):=by
 have ha:∀v w,hZ N' v w↔hZ N v w:=λv w=>by rw[pR,pR,hs]
 obtain⟨w0,h0⟩:=t.on F z;obtain⟨b0,e0⟩:=t.pos F h0;have an0:=F.an (.go g) w0;have z0:=t.rz w0 (.go g) λb e=>Ck e0 e
 obtain⟨w,a1,a2,a3⟩:=Ur (t.ok.same hs) na (b:=.go g) ⟨w0,(ha ..).mpr ((t.ar ..).mpr (.inl ⟨b0,e0⟩)),by lia⟩
 refine⟨w,?_,a3⟩;rcases(t.ar ..).mp ((ha ..).mp a1) with⟨b,e⟩|⟨b,e⟩
 .have z1:=t.rz w (.go g) λb e'=>Ck e e'
  have an:=F.an (.go g) w;lia
 .
  have hw:w=.gi g:=by
   generalize hx:Nd.go g=x at e;cases e with
   |g _ _=>injection hx with hx;rw[hx]
   |_=>cases hx
  subst hw;have h1:=t.rm _ _ _ e;have hb:=FK e;subst hb;have h2:cp pl (Az (.gi g))=1:=rfl;lia
theorem M8{v:Nd}:bR 40 (aS v)=true:=by cases v <;> rfl
theorem X0:cj (aS (.gi g)) (.str "the end")=false:=by unfold aS cj;rfl
theorem X1:cj (aS .en) (.str "the end")=true:=by unfold aS cj;rfl
abbrev ke(c:Nat)(a1:ah Val)(aa:Str)(L:Nat)(g:Nd)(a5:ah Val):Gm:=[bF c,a1,dI aa,bF L,ax (aS g),a5]
abbrev jQ(T H:List Cell)(t:List Pl):ba:=⟨T++[.o (.lst (t.map aG))],H⟩
def sZ:GT:=gQ mw 4 (gC (.str "the end"))
theorem X3:sZ (ke c a1 aa L (.gi g) a5) S=some (.ok true S):=by
 unfold sZ;simp only[↓ev,ke,gv,M8,X0,aK]
theorem X6:sZ (ke c a1 aa L .en a5) S=some (.ok false S):=by
 unfold sZ;simp only[↓ev,ke,gv,M8,X1,aK]
theorem zA:kU S (.d (bQ g))=some (bQ g):=rfl
theorem WR:q9 (bQ g) (.int 0)=some (rd (.str g.1)):=rfl
theorem WS:q9 (bQ g) (.int 1)=some (rd (.int g.2.1)):=rfl
theorem ZD:D.tup [.str g.1,.int g.2.1]=aG (g.1,g.2.1):=rfl
theorem Us{t:List Pl}(ht:t.length<1000)(e:xr 0 [.c c,.d (aS (.go g))] (jQ T H (t++[(g.1,g.2.1)]))=some (.ok (rd (aS w)) (jQ T H (t++[(g.1,g.2.1)])))):
  qw 0 (ke c a1 aa T.length (.gi g) a5) (jQ T H t)=some (.nx (ke c a1 aa T.length w (ax (bQ g))) (jQ T H (t++[(g.1,g.2.1)]))):=by
 have c1:((t.map aG).length<1000000)=True:=cg (by rw[aW];lia)
 unfold jQ at *;rw[gq (f:=aG),k_] at *;unfold qw;simp only[↓ev,ke,gv,M7,aK,zA,WR,WS,ZD,c1,Dg,e]
theorem LF(na:NA T H c N')(t:Nt h P aa n pl N)(F:gr (VV N) .st .en (rr N) (rr N'))(hs:eh N'=eh N)(a1:ah Val):∀(j m:Nat) (p:Pl) (K:Nat) (bB:List Pl) (a5:ah Val),n=m+j->j<K->bB.length+j<1000->0<rr N (.gi (at' p m)) (.go (at' p m)) - rr N' (.gi (at' p m)) (.go (at' p m))->
  ∃w b5,pN N (rr N') (at' p m) w/\w.length<=j/\aw sZ (qw 0) K (ke c a1 aa T.length (.gi (at' p m)) a5) (jQ T H bB)=some (.nx (ke c a1 aa T.length .en b5) (jQ T H (bB++w)))
 |0,m,p,K,bB,a5,en,hK,hl,z=>by
  obtain⟨b,e⟩:=t.pos F z;obtain⟨_,_,m',p',hm,_,ec⟩:=zz e;have:=(lu ec).2;lia
 |j+1,m,p,0,bB,a5,en,hK,hl,z=>bG hK (wM _)
 |j+1,m,p,K+1,bB,a5,en,hK,hl,z=>by
  obtain⟨w,hw,ew⟩:=Rq (na.more [.o (.lst ((bB++[(p.1,p.2)]).map aG))]) t F hs z;have f1:=λS=>X3 (c:=c) (aa:=aa) (a1:=a1) (g:=at' p m) (a5:=a5) (L:=T.length) (S:=S)
  have f2:=Us (aa:=aa) (a1:=a1) (a5:=a5) (t:=bB) (by lia) ew
  obtain⟨b,e⟩:=t.pos F hw;obtain⟨m',p',hm,hp,ec,Ak⟩:=Fq e;obtain⟨rfl,em⟩:=lu ec;have em:m=m':=by lia
  subst em;rcases Ak with⟨rfl,_⟩|⟨q,hq,rfl⟩
  .refine⟨[(p.1,p.2)],ax (bQ (at' p m)),.last hw,by rw[iW];lia,?_⟩
   have f3:=λS=>X6 (c:=c) (aa:=aa) (a1:=a1) (a5:=ax (bQ (at' p m))) (L:=T.length) (S:=S)
   have f2:qw 0 (ke c a1 aa T.length (.gi (at' p m)) a5) (jQ T H bB)=some (.nx (ke c a1 aa T.length .en (ax (bQ (at' p m)))) (jQ T H (bB++[(p.1,p.2)]))):=f2;obtain⟨K',rfl⟩:∃K',K=K'+1:=⟨K - 1,by lia⟩
   generalize jQ T H (bB++[(p.1,p.2)])=S2 at *;generalize jQ T H bB=S1 at *;rw[aw];simp only[ke,↓ev,f1,f2];rw[aw];simp only[f3,↓ev,aK]
  .have ez:((m:Int)+1)=((m+1:Nat):Int):=rfl;rw[ez] at hw f2;obtain⟨_,k2,_⟩:=t.rR F hw;obtain⟨w2,b5,q1,q2,q3⟩:=LF na t F hs a1 j (m+1) q K (bB++[(p.1,p.2)]) (ax (bQ (at' p m))) (by lia) (by lia) (by rw[b_,iW];lia) (by lia)
   refine⟨(p.1,p.2)::w2,b5,.step hw q1,by rw[dg];lia,?_⟩
   have f2:qw 0 (ke c a1 aa T.length (.gi (at' p m)) a5) (jQ T H bB)=some (.nx (ke c a1 aa T.length (.gi (at' q ((m+1:Nat):Int))) (ax (bQ (at' p m)))) (jQ T H (bB++[(p.1,p.2)]))):=f2;rw[g_] at q3;have q3:aw _ _ _ _ _=some (.nx _ (jQ T H (bB++(p.1,p.2)::w2))):=q3;generalize jQ T H (bB++(p.1,p.2)::w2)=S3 at *;generalize jQ T H (bB++[(p.1,p.2)])=S2 at *;generalize jQ T H bB=S1 at *;rw[aw];simp only[ke,↓ev,f1,f2,q3]
theorem OA:xa 0=runM 3 6 (l7 (ag 3 true (aI false gN)) (ag 4 false 1) (aw sZ (qw 0) 1000000) (az (bj bh 3 (aI false (aX 2))))):=rfl
theorem O7(na:NA T H c N')(t:Nt h P aa n pl N)(F:gr (VV N) .st .en (rr N) (rr N'))(hs:eh N'=eh N)(hn:n<=160)(p:Pl)(z:0<rr N (.gi (at' p 0)) (.go (at' p 0)) - rr N' (.gi (at' p 0)) (.go (at' p 0))):
  ∃w,pN N (rr N') (at' p 0) w/\w.length<=160/\xa 0 [.c c,.d (aS (.gi (at' p 0))),fm aa] ⟨T,H⟩=some (.ok (.o (.lst (w.map aG++[D.str aa]))) ⟨T,H⟩):=by
 obtain⟨w,b5,q1,q2,q3⟩:=LF na t F hs (ax (aS (.gi (at' p 0)))) n 0 p 1000000 [] none (by lia) (by lia) (by rw[nz];lia) z
 refine⟨w,q1,by lia,?_⟩
 have q3:aw sZ (qw 0) 1000000 (ke c (ax (aS (.gi (at' p 0)))) aa T.length (.gi (at' p 0)) none) ⟨T++[.o (.lst [])],H⟩=some (.nx (ke c (ax (aS (.gi (at' p 0)))) aa T.length .en b5) (jQ T H w)):=q3;have c1:((w.map aG).length+1<=1000000)=True:=cg (by rw[aW];lia)
 rw[OA];generalize aw sZ (qw 0) 1000000=W at *;generalize at' p 0=g at *;simp only[↓ev,aK,q3,ke,jQ,c1]
end
abbrev Wy:=Int×List D
noncomputable def rZ(x:Wy):D:=.tup [.int x.1,.lst x.2]
def bY(b:Nat):List Wy->List D
 |[]=>[]
 |x::W=>.tup [.int x.1,.ref b]::bY (b+1) W
theorem JU(x:Wy):∀(b:Nat) (W:List Wy),bY b (W++[x])=bY b W++[.tup [.int x.1,.ref (b+W.length)]]
 |_,[]=>rfl
 |b,y::W=>by
  show _::bY (b+1) (W++[x])=_::(bY (b+1) W++_);rw[JU x (b+1) W,dg,show b+(W.length+1)=b+1+W.length by lia]
theorem Cn:∀{b:Nat} {W:List Wy},(bY b W).length=W.length
 |_,[]=>rfl
 |b,_::W=>congrArg Nat.succ (Cn (b:=b+1) (W:=W))
abbrev kZ(x:Wy):Cell:=.o (.lst x.2)
section
variable{h:av}{P:List Pl}{aa:Str}{Tm:Int}{T H:List Cell}{c b1 n:Nat}{N:Net}{Sd:List D}{l:bZ}{K:List (TK×D)}{v:Nd}{i:kb}{x ki:Int}{Wd ds:List D}{a8 a9 a10 a11:ah Val}
abbrev l9(h:av)(P:List Pl)(aa:Str)(Tm:Int)(c:Nat)(Sd:List D)(l:bZ)(b1:Nat)(a8 a9 a10 a11:ah Val):Gm:=[ax (bf h),ax (.lst (P.map aG)),dI aa,bN Tm,bF c,ax (.lst Sd),ax (.aP (bV l)),ax (.ref b1),a8,a9,a10,a11]
def ya:GS:=cG (gQ nq (gX (gX 4 10) (gC (.str "the start"))) (gI 0)) (dY (cv 0 "list" jL 7 (aX (aI true (aV 8 (dy (ak (xa 0) (fV 4 10 2))))))))
theorem Ut:yT 0=gY (ag 10 false (ak (pS 0) (aV 9 (gI 0)))) ya:=rfl
theorem X7(hT:T[c]?=some (.o (.aP K)))(h1:bt K (cq v)=some (.ref n))(h2:H[n]?=some (kR i))(e2:lk i .st=some x)(hx:¬0<x):ya (l9 h P aa Tm c Sd l b1 a8 a9 (ax (aS v)) a11) ⟨T,H⟩=some (.nx (l9 h P aa Tm c Sd l b1 a8 a9 (ax (aS v)) a11) ⟨T,H⟩):=by
 have hv:bt (f9 i) (.inr "the start")=some (.int x):=uK e2;have hx:=eq_false hx;unfold ya;simp only[↓ev,l9,hT,gv,hX,h1,h2,hv,hx,aK]
theorem WT(hT:T[c]?=some (.o (.aP K)))(h1:bt K (cq v)=some (.ref n))(h2:H[n]?=some (kR i))(e2:lk i .st=some x)(hx:0<x)(e3:xa 0 [.c c,.d (aS v),fm aa] ⟨T,H⟩=some (.ok (.o (.lst ds)) ⟨T,H⟩))(hw:H[b1]?=some (.o (.lst Wd)))(hl:Wd.length<1000):
  ya (l9 h P aa Tm c Sd l b1 (bN ki) a9 (ax (aS v)) a11) ⟨T,H⟩=some (.nx (l9 h P aa Tm c Sd l b1 (bN ki) a9 (ax (aS v)) a11) ⟨T,(H++[Cell.o (.lst ds)]).set b1 (Cell.o (.lst (Wd++[D.tup [.int ki,.ref H.length]])))⟩):=by
 have hv:bt (f9 i) (.inr "the start")=some (.int x):=uK e2;have hx:=cg hx;have hb:=(cK.mp hw).1;have Ze:(H++[.o (.lst ds)])[b1]?=some (.o (.lst Wd)):=by rw[gj hb];exact hw
 have hl:(Wd.length<1000000)=True:=cg (by lia)
 unfold ya;simp only[↓ev,l9,hT,gv,hX,h1,h2,hv,hx,aK,hw,e3,Ze,hl]
theorem LG{p:Pl}{S:ba}{U2:Gm}{S2:ba}(e:ya (l9 h P aa Tm c Sd l b1 a8 (ax (aG p)) (ax (aS (.gi (at' p 0)))) a11) S=some (.nx U2 S2)):yT 0 (l9 h P aa Tm c Sd l b1 a8 (ax (aG p)) a10 a11) S=some (.nx U2 S2):=by
 have e1:=CH p 0;rw[Ut];simp only[↓ev,l9,e1,aK,e]
end
def kB:Nat->List Pl->List (Nat×Pl)
 |_,[]=>[]
 |k,p::ps=>(k,p)::kB (k+1) ps
theorem E4:∀(ps:List Pl) (k:Nat),(kB k ps).map (·.2)=ps
 |[],_=>rfl
 |p::ps,k=>by
  show p::(kB (k+1) ps).map (·.2)=_
  rw[E4 ps (k+1)]
theorem LI(x:Pl):∀(k:Nat) (ps:List Pl),kB k (ps++[x])=kB k ps++[(k+ps.length,x)]
 |_,[]=>rfl
 |k,p::ps=>by
  show(k,p)::kB (k+1) (ps++[x])=(k,p)::(kB (k+1) ps++_);rw[LI x (k+1) ps,dg,show k+(ps.length+1)=k+1+ps.length by lia]
theorem LJ:∀(k:Nat) (ps:List Pl),(kB k ps).length=ps.length
 |_,[]=>rfl
 |k,_::ps=>congrArg Nat.succ (LJ (k+1) ps)
structure Way (N:Net) (r:Nd->Nd->Int) (aa:Str) (x:Nat×Pl) (d:D):Prop where
 w:∃w,pN N r (at' x.2 0) w/\d=.tup [.int (x.1:Int),.lst (w.map aG++[D.str aa])]
theorem Rr{α β:Type}{R:α->β->Prop}{a a':List α}{b b':List β}(p:Paired R a b)(q:Paired R a' b'):Paired R (a++a') (b++b'):=by
 induction p with
 |nil=>exact q
 |cons h _ ih=>exact .cons h ih
theorem Uu{h:av}{P:List Pl}{aa:Str}{n:Nat}{pl:Int}{N N':Net}{s R:List Cell}(t:Nt h P aa n pl N)(F:gr (VV N) .st .en (rr N) (rr N'))(hs:eh N'=eh N)(hn:n<=160)(hP:P.length<=20)(Tm:Int)(Sd:List D)(l:bZ){b1:Nat}(hb:b1=(bS R N').length):
  ∃W b8 b9 d_,aF (dX [ao 8,ao 9]) (yT 0) (cU (P.map aG)) (l9 h P aa Tm s.length Sd l b1 none none none none) ⟨s++[jz R N'],bS R N'++[.o (.lst [])]⟩=some (.nx (l9 h P aa Tm s.length Sd l b1 b8 b9 d_ none) ⟨s++[jz R N'],bS R N'++(.o (.lst (bY (b1+1) W))::W.map kZ)⟩)/\Paired (Way N (rr N') aa) ((kB 0 P).filter λx=>used N (rr N') x.2) (W.map rZ):=by
 obtain⟨U',S',e,W,b8,b9,d_,rfl,rfl,pr⟩:=XJ (gg:=dX [ao 8,ao 9]) (body:=yT 0) (U:=l9 h P aa Tm s.length Sd l b1 none none none none) (S:=⟨s++[jz R N'],bS R N'++[.o (.lst [])]⟩) aG (λpre U S=>∃(W:List Wy) (b8 b9 d_:ah Val),U=l9 h P aa Tm s.length Sd l b1 b8 b9 d_ none/\S=⟨s++[jz R N'],bS R N'++(.o (.lst (bY (b1+1) W))::W.map kZ)⟩/\Paired (Way N (rr N') aa) ((kB 0 pre).filter λx=>used N (rr N') x.2) (W.map rZ)) P ⟨[],none,none,none,rfl,rfl,.nil⟩ (by
  rintro q p post eq U S ⟨W,b8,b9,d_,rfl,rfl,pr⟩;have hp:p∈P:=by rw[eq];simp
  have hW:W.length<=20:=by
   have h1:=Paired.length pr;have h2:=IL (λx:Nat×Pl=>used N (rr N') x.2) (kB 0 q)
   have h3:=congrArg List.length eq;rw[b_,dg] at h3;rw[aW] at h1;rw[LJ] at h2;lia
  have e0:eQ h P aa n .st (.gi (at' p 0)) false:=.s hp;have ha:hZ N' (.gi (at' p 0)) .st:=by
   rw[pR,hs,<-pR,t.ar];exact .inr ⟨_,e0⟩
  obtain⟨i,ei,x,ex⟩:=ha;have hx:x=rr N .st (.gi (at' p 0)) - rr N' .st (.gi (at' p 0)):=by
   have h1:rr N' (.gi (at' p 0)) .st=x:=by rw[xK ei,ex];rfl
   have h2:=F.an .st (.gi (at' p 0));have h3:=t.rz (.gi (at' p 0)) .st λb e=>Ck e0 e
   lia
  have hT:(s++[jz R N'])[s.length]?=some (.o (.aP (jt R.length N'))):=by rw[gE (bC _),kh];rfl
  have eH:bS R N'++(.o (.lst (bY (b1+1) W))::W.map kZ)=R++(N'.map dA++(.o (.lst (bY (b1+1) W))::W.map kZ)):=by simp
  obtain⟨m,h1,h2,_⟩:=uJ (R:=R) (X:=.o (.lst (bY (b1+1) W))::W.map kZ) ei;rw[<-eH] at h2;rw[LI,List.filter_append,yv];by_cases c:0<x
  .have hu:used N (rr N') p=true:=eP (by rw[<-hx];exact c)
   obtain⟨_,k2,_⟩:=t.rR F (u:=.st) (c:=at' p 0) (by rw[<-hx];exact c)
   have na:NA (s++[jz R N']) (bS R N'++(.o (.lst (bY (b1+1) W))::W.map kZ)) s.length N':=⟨_,hT,λa i h=>by
    obtain⟨m,h1,h2,_⟩:=uJ (R:=R) (X:=.o (.lst (bY (b1+1) W))::W.map kZ) h;rw[<-eH] at h2;exact⟨m,h1,h2⟩⟩
   obtain⟨w,q1,q2,q3⟩:=O7 na t F hs hn p (by lia)
   have st:=LG (a10:=d_) (WT (h:=h) (P:=P) (Tm:=Tm) (Sd:=Sd) (l:=l) (ki:=((q.length:Nat):Int)) (a9:=ax (aG p)) (a11:=none) (b1:=b1) (Wd:=bY (b1+1) W) hT h1 h2 ex c q3 (by rw[hb,gE (bC _),kh];rfl) (by rw[Cn];lia))
   refine⟨_,_,_,rfl,st,W++[((q.length:Int),w.map aG++[D.str aa])],_,_,_,rfl,?_,?_⟩
   .have el:(bS R N'++(.o (.lst (bY (b1+1) W))::W.map kZ)).length=b1+1+W.length:=by
     rw[b_,<-hb,dg,aW];lia
    rw[el,JU,g_,hb,IA _ _ (bC _),kh,gq];rfl
   .rw[gq,yl,hu];exact Rr pr (.cons ⟨w,q1,rfl⟩ .nil)
  .have hu:used N (rr N') p=false:=eC (by rw[<-hx];exact c)
   have st:=LG (a10:=d_) (X7 (h:=h) (P:=P) (aa:=aa) (Tm:=Tm) (Sd:=Sd) (l:=l) (a8:=bN ((q.length:Nat):Int)) (a9:=ax (aG p)) (a11:=none) (b1:=b1) hT h1 h2 ex c);refine⟨_,_,_,rfl,st,W,_,_,_,rfl,rfl,?_⟩;rw[yl,hu];simpa using pr)
 exact⟨W,b8,b9,d_,e,pr⟩
variable{c:Ct}{l:bZ}
theorem F8:D.tup [bQ c,.str "into"]=aS (.gi c):=rfl
theorem JV{v:Nd}{b:Bool}(hb:decide (v∈l.map (·.1))=b):(bt (bV l) (cq v)).isSome=b:=by
 rw[uz,Option.isSome_map,<-hb,qj,Og,<-bU,Option.isSome_iff_exists]
theorem Rt{q:Nat}{S:ba}:BW q [ax (bQ c),ax (.aP (bV l))] S=some (.ok (decide (Nd.gi c∈l.map (·.1)) && !decide (Nd.go c∈l.map (·.1))) S):=by
 generalize h1:decide (Nd.gi c∈l.map (·.1))=x1
 generalize h2:decide (Nd.go c∈l.map (·.1))=x2
 have f1:=JV h1;have f2:=JV h2;unfold BW;cases x1 with
 |true=>
  cases x2 with
  |true=>simp only[↓ev,aK,F8,gv,hX,f1,Dg,f2]
  |false=>simp only[↓ev,aK,F8,gv,hX,f1,Dg,f2]
 |false=>simp only[↓ev,aK,F8,gv,hX,f1]
theorem WU{S:List Ct}(hS:S.length<100000):∀q St,bx (ao 0) (BW q) (D9 q) (S.map bQ) [none,ax (.aP (bV l))] St []=some (.ok ((S.filter λc=>decide (Nd.gi c∈l.map (·.1)) && !decide (Nd.go c∈l.map (·.1))).map bQ) St):=λq St=>by
 rw[uS (λc:Ct=>if(decide (Nd.gi c∈l.map (·.1)) && !decide (Nd.go c∈l.map (·.1)))=true then some (bQ c) else none) S (by lia) λc m=>?_,xm]
 have e:=Rt (l:=l) (c:=c) (q:=q) (S:=St);cases z:(decide (Nd.gi c∈l.map (·.1)) && !decide (Nd.go c∈l.map (·.1))) with
 |true=>exact .inr ⟨rd (bQ c),bQ c,rfl,by rw[e,z],by unfold D9;simp only[↓ev],rfl⟩
 |false=>exact .inl ⟨rfl,by rw[e,z]⟩
structure Told (h:av) (P:List Pl) (aa:Str) (n:Nat) (W:List D) (C:List Ct):Prop where
 ex:∃(pl:Int) (N N':Net) (l:bZ),pl=(P.length:Int)+1/\Nt h P aa n pl N/\gr (VV N) .st .en (rr N) (rr N')/\.st∈l.map (·.1)/\.en∉l.map (·.1)/\(∀y,y∈l.map (·.1)->∀x,0<rr N' y x->x∈l.map (·.1))/\
  Paired (Way N (rr N') aa) ((kB 0 P).filter λx=>used N (rr N') x.2) W/\C=(dC h P n).filter λc=>decide (Nd.gi c∈l.map (·.1)) && !decide (Nd.go c∈l.map (·.1))
theorem LK{h:av}(ok:dc h){P:List Pl}(nd:P.Nodup)(v:∀p,p∈P->VP h p):∀n,(dC h P n).length<=200*n
 |0=>bC _
 |n+1=>by
  have ih:=LK ok nd v n;obtain⟨o1,o2⟩:=uO ok nd v n;have hl:=zy ok o1 o2;show(dC h P n++(nw h P n).map (at' · (n:Int))).length<=_
  rw[b_,aW];lia
structure TW (H:List Cell) (b:Nat) (W:List Wy):Prop where
 w:H[b]?=some (.o (.lst (bY (b+1) W)))
 f:∀(j:Nat) (x:Wy),W[j]?=some x->H[b+1+j]?=some (kZ x)
theorem dw{H X:List Cell}{n:Nat}{c:Cell}(h:H[n]?=some c):(H++X)[n]?=some c:=by rw[gj (cK.mp h).1];exact h
theorem En{h:av}(ok:dc h){P:List Pl}(nd:P.Nodup)(v:∀p,p∈P->VP h p)(aa:Str)(n:Nat)(hn:n<=160)(hP:P.length<=20)(s R:List Cell):
  ∃W C X b1 b2,Told h P aa n (W.map rZ) C/\R.length<=b1/\b1+W.length<b2/\b2<(R++X).length/\TW (R++X) b1 W/\(R++X)[b2]?=some (.o (.lst (C.map bQ)))/\qy 0 [.d (bf h),.d (.lst (P.map aG)),fm aa,jC n] ⟨s,R⟩=some (.ok (rd (.tup [.ref b1,.ref b2])) ⟨s,R++X⟩):=by
 obtain⟨pl,g8⟩:∃pl:Int,(P.length:Int)+1=pl:=⟨_,rfl⟩;obtain⟨e1,sz⟩:=Ql (s:=s) (R:=R) ok nd v aa hn hP g8;have t:=XZ sz;generalize aZ [(.st,[])] (gP h P aa pl n)=N at *;have F0:=t.Yi (by lia)
 obtain⟨N',l,s1,F,c,cl,he,e2⟩:=WG (s:=s) (t:=[]) (R:=R) (X:=[]) (V:=VV N) (B:=(P.length:Int)) t.ok (λv m=>(jK ..).mpr (.inl m)) F0 (λr F=>t.most nd F) (by lia)
 have sl:=LK ok nd v n;have e4:=WU (S:=dC h P n) (l:=l) (by lia)
 obtain⟨W,b8,b9,d_,e3,pr⟩:=Uu (s:=s) (R:=R) t F s1 hn hP n ((dC h P n).map bQ) l rfl;have td:Told h P aa n (W.map rZ) _:=⟨pl,N,N',l,g8.symm,t,F,c.st,he,cl,pr,rfl⟩;generalize(dC h P n).filter (λc=>decide (Nd.gi c∈l.map (·.1)) && !decide (Nd.go c∈l.map (·.1)))=C at e4 td
 generalize(dC h P n).map bQ=Sd at e1 e3 e4;have el:(bS R N').length=R.length+N'.length:=by simp
 generalize hb:(bS R N').length=b1 at e3 el;have eX:bS R N'++(Cell.o (.lst (bY (b1+1) W))::W.map kZ++[Cell.o (.lst (C.map bQ))])=R++(N'.map dA++(Cell.o (.lst (bY (b1+1) W))::W.map kZ++[Cell.o (.lst (C.map bQ))])):=by simp
 have eL:(bS R N'++(Cell.o (.lst (bY (b1+1) W))::W.map kZ)).length=b1+1+W.length:=by
  rw[b_,hb,dg,aW];lia
 refine⟨W,C,N'.map dA++(Cell.o (.lst (bY (b1+1) W))::W.map kZ++[Cell.o (.lst (C.map bQ))]),b1,b1+1+W.length,td,by lia,by lia,?_,⟨?_,λj x e=>?_⟩,?_,?_⟩
 .rw[<-eX,b_,hb,b_,dg,aW,iW];lia
 .rw[<-eX,<-hb,gE (bC _),kh];rfl
 .rw[<-eX,gE (by lia),hb,show b1+1+j - b1=j+1 by lia,List.cons_append,Iw]
  exact dw (by rw[gn,e];rfl)
 .rw[<-eX,<-g_,<-eL,gE (bC _),kh];rfl
 .rw[<-eX,<-g_,<-eL];have e1:y4 0 _ ⟨s++[.o (.aP [(.inr "the start",.ref R.length)])],R++[.o (.aP [])]⟩=some (.ok _ ⟨s++[jz R N],bS R N⟩):=e1;have e2:zu 0 [.c s.length,.d (.str "the start"),.d (.str "the end")] ⟨s++[jz R N],bS R N⟩=some (.ok _ ⟨s++[jz R N'],bS R N'⟩):=e2;generalize(bS R N'++(Cell.o (.lst (bY (b1+1) W))::W.map kZ))=H3 at *;clear eX eL el;generalize bS R N'=H2 at *;subst hb;generalize bS R N=H1 at *;generalize jz R N=n1 at *;generalize jz R N'=n2 at *;generalize(n:Int)=ni at *;unfold qy;simp only[↓ev,aK,Bz,tR,List.foldl_nil,Iz,e1,e2,e3,l9,e4]
variable{h:av}{P:List Pl}
def qv(h:av)(P:List Pl)(C:List Ct):Nat->Pl->Prop
 |0,p=>p∈P
 |m+1,q=>∃p,qv h P C m p/\at' p (m:Int)∉C/\q∈d5 h p
def Sep(h:av)(P:List Pl)(aa:Str)(n:Nat)(C:List Ct):Prop:=∀m,m<n->∀p,qv h P C m p->at' p (m:Int)∉C->¬df (.inl aa) (eJ h p)=true
theorem rA{m:Nat}{q:Pl}:q∈nw h P (m+1)↔∃p∈nw h P m,q∈d5 h p:=by
 show q∈cD [] ((nw h P m).flatMap (d5 h))↔_;rw[fY,DN];exact⟨λz=>z.resolve_left (by simp),.inr⟩
theorem xI{h:av}{P:List Pl}{C:List Ct}:∀{m:Nat} {p:Pl},qv h P C m p->p∈nw h P m
 |0,p,z=>z
 |m+1,q,⟨p,z,_,hq⟩=>rA.mpr ⟨p,xI z,hq⟩
theorem dR{h:av}{P:List Pl}{c:Ct}:∀{n:Nat},c∈dC h P n↔∃m,m<n/\∃p∈nw h P m,c=at' p (m:Int)
 |0=>⟨λz=>(by cases z),λ⟨m,hm,_⟩=>bG hm (wM _)⟩
 |n+1=>by
  show c∈dC h P n++(nw h P n).map (at' · (n:Int))↔_
  rw[dD,dR,dF];constructor
  .rintro(⟨m,hm,z⟩|⟨p,hp,e⟩)
   .exact⟨m,by lia,z⟩
   .exact⟨n,by lia,p,hp,e.symm⟩
  .rintro⟨m,hm,p,hp,e⟩;by_cases q:m=n
   .subst q;exact .inr ⟨p,hp,e.symm⟩
   .exact .inl ⟨m,by lia,p,hp,e⟩
theorem Fs{h:av}(ok:dc h){P:List Pl}(nd:P.Nodup)(v:∀p,p∈P->VP h p):∀n,(dC h P n).Nodup
 |0=>wJ
 |n+1=>by
  show(dC h P n++(nw h P n).map (at' · (n:Int))).Nodup
  refine k8.mpr ⟨Fs ok nd v n,List.Pairwise.map _ (λa b iB e=>iB (lu e).1) (uO ok nd v n).1,λa ha b hb e=>?_⟩
  obtain⟨m,hm,p,hp,e1⟩:=dR.mp ha;obtain⟨q,hq,e2⟩:=dF.mp hb;have:=(lu (e1.symm.trans (e.trans e2.symm))).2;lia
theorem WV(W:List Nd):∀V:List Nd,sm (λv=>if v∈W then 1 else 0) V=((V.filter λv=>decide (v∈W)).length:Int)
 |V=>by
  have:=Fp (λv:Nd=>v) (λv=>if v∈W then 1 else 0) (λv=>decide (v∈W)) V λv _=>by
   by_cases c:v∈W
   .rw[aU c,eP c,aU rfl]
   .rw[aO c,eC c,aO (by simp)]
  rw[List.map_id'] at this;exact this
theorem Ru(ok:dc h)(nd:P.Nodup)(v:∀p,p∈P->VP h p){aa:Str}{n:Nat}{W:List D}{C:List Ct}(td:Told h P aa n W C):
  Sep h P aa n C/\W.length=C.length:=by
 obtain⟨pl,N,N',l,g8,t,F,ms,me,cl,pr,hC⟩:=td.ex;have val:=t.value nd F;have hW:W.length=(P.filter (used N (rr N'))).length:=by
  have h1:=Paired.length pr;have h2:((kB 0 P).filter λx=>used N (rr N') x.2).map (·.2)=P.filter (used N (rr N')):=by
   have:=List.filter_map (f:=λx:Nat×Pl=>x.2) (p:=used N (rr N')) (l:=kB 0 P)
   rw[E4] at this;exact this.symm
  rw[<-h2,aW];exact h1.symm
 have Ad:=F.cut (λv=>decide (v∈l.map (·.1))) (eP ms) (eC me) λa b _ _ ha hb=>by
  have h1:=F.nn a b;have h2:¬0<rr N' a b:=λz=>by
   have:=cl a (pI ha) b z;rw[eP this] at hb;cases hb
  lia
 have nn:=t.nn (by lia)
 have hx:∀a b,a∈VV N->b∈VV N->a∈l.map (·.1)->b∉l.map (·.1)->rr N a b<=ex (VV N) (rr N) (rr N') .st:=λa b ma mb ha hb=>by
  rw[Ad];have h1:rr N a b<=sm (λb=>rr N a b) ((VV N).filter λb => !decide (b∈l.map (·.1))):=Fg (f:=λb=>rr N a b) (λw _=>nn a w) b (gf.mpr ⟨mb,by rw[eC hb];rfl⟩)
  have h2:=Fg (f:=λv=>sm (λb=>rr N v b) ((VV N).filter λb => !decide (b∈l.map (·.1)))) (l:=(VV N).filter λv=>decide (v∈l.map (·.1))) (λw _=>El λb _=>nn w b) a (gf.mpr ⟨ma,eP ha⟩)
  lia
 have most:=t.most nd F;have go:∀a b,eQ h P aa n a b false->a∈l.map (·.1)->b∈l.map (·.1):=λa b e ha=>kj λhb=>by
  have h1:=hx a b ((jK ..).mpr (.inl ((t.ky a).mpr (.inr ⟨b,_,.inl e⟩)))) ((jK ..).mpr (.inl ((t.ky b).mpr (.inr ⟨a,_,.inr e⟩)))) ha hb;rw[t.rm a b _ e] at h1;have h2:cp pl false=pl:=rfl;lia
 have memC:∀c,c∈C↔c∈dC h P n/\Nd.gi c∈l.map (·.1)/\Nd.go c∉l.map (·.1):=λc=>by
  rw[hC,gf,m6,decide_eq_true_eq,Bool.not_eq_true',decide_eq_false_iff_not]
 have gate:∀m p,m<n->p∈nw h P m->Nd.gi (at' p (m:Int))∈l.map (·.1)->at' p (m:Int)∉C->Nd.go (at' p (m:Int))∈l.map (·.1):=λm p hm hp hg hc=>kj λz=>hc ((memC _).mpr ⟨dR.mpr ⟨m,hm,p,hp,rfl⟩,hg,z⟩)
 have ZI:∀m p,m<=n->qv h P C m p->Nd.gi (at' p (m:Int))∈l.map (·.1):=by
  intro m
  induction m with
  |zero=>intro p _ z;exact go _ _ (.s z) ms
  |succ m ih=>
   rintro q hm ⟨p,z,hc,hq⟩;exact go _ _ (.w (by lia) (xI z) hq) (gate m p (by lia) (xI z) (ih p (by lia) z) hc)
 refine⟨λm hm p z hc q=>?_,?_⟩
 .exact me (go _ _ (.e hm (xI z) q) (gate m p hm (xI z) (ZI m p (by lia) z) hc))
 .have h1:sm (λv=>if v∈C.map Nd.gi then 1 else 0) ((VV N).filter λv=>decide (v∈l.map (·.1)))=ex (VV N) (rr N) (rr N') .st:=by
   rw[Ad];refine nR λa ma=>?_
   have ha:a∈l.map (·.1):=pI (gf.mp ma).2
   by_cases c:a∈C.map Nd.gi
   .rw[aU c];obtain⟨c0,hc,rfl⟩:=dF.mp c;obtain⟨k1,k2,k3⟩:=(memC c0).mp hc;obtain⟨m,hm,p,hp,rfl⟩:=dR.mp k1;have e:eQ h P aa n (.gi (at' p m)) (.go (at' p m)) true:=.g hm hp;have h1:sm (λb=>rr N (.gi (at' p m)) b) ((VV N).filter λb => !decide (b∈l.map (·.1)))=sm (λb=>if b=.go (at' p m) then 1 else 0) ((VV N).filter λb => !decide (b∈l.map (·.1))):=nR λb _=>by
     by_cases q:b=.go (at' p m)
     .rw[aU q,q,t.rm _ _ _ e];rfl
     .rw[aO q];exact t.rz _ _ λt' e'=>q (zz e').1
    have mg:Nd.go (at' p m)∈((VV N).filter λb => !decide (b∈l.map (·.1))):=gf.mpr ⟨(jK ..).mpr (.inl ((t.ky _).mpr (.inr ⟨_,_,.inr e⟩))),by rw[eC k3];rfl⟩
    rw[h1,m_ _ (F.nd.filter _),aU mg]
   .rw[aO c];refine(xu λb mb=>t.rz _ _ λt' e=>?_).symm
    have hb:b∉l.map (·.1):=λz=>by
     have:=(gf.mp mb).2;rw[eP z] at this;cases this
    cases t' with
    |false=>exact hb (go _ _ e ha)
    |true=>
     cases e with
     |@g m p hm hp=>exact c (dF.mpr ⟨_,(memC _).mpr ⟨dR.mpr ⟨m,hm,p,hp,rfl⟩,ha,hb⟩,rfl⟩)
  rw[WV] at h1;have Hf:C.Nodup:=by rw[hC];exact(Fs ok nd v n).filter _
  have Zt:(C.map Nd.gi).Nodup:=List.Pairwise.map _ (λa b iB e=>iB (by injection e)) Hf
  have h2:=nN Zt (m:=((VV N).filter λv=>decide (v∈l.map (·.1))).filter λv=>decide (v∈C.map Nd.gi)) λx m=>by
   refine gf.mpr ⟨gf.mpr ?_,eP m⟩;obtain⟨c0,hc,rfl⟩:=dF.mp m;obtain⟨k1,k2,k3⟩:=(memC c0).mp hc;obtain⟨m,hm,p,hp,rfl⟩:=dR.mp k1;exact⟨(jK ..).mpr (.inl ((t.ky _).mpr (.inr ⟨_,_,.inl (.g hm hp)⟩))),eP k2⟩
  have h3:=nN (l:=((VV N).filter λv=>decide (v∈l.map (·.1))).filter λv=>decide (v∈C.map Nd.gi)) (m:=C.map Nd.gi) ((F.nd.filter _).filter _) λx m=>pI (gf.mp m).2
  rw[aW] at h2 h3;lia
section
variable{α:Type}
def jV(xs:List α)(k:Nat)(y:α):List α:=xs.take k++y::xs.drop k
theorem Rw{xs:List α}{k:Nat}{y x:α}:x∈jV xs k y↔x=y\/x∈xs:=by
 unfold jV;rw[dD,y06]
 conv=>rhs;rw[<-BA k xs,dD]
 constructor
 .rintro(z|z|z)
  .exact .inr (.inl z)
  .exact .inl z
  .exact .inr (.inr z)
 .rintro(z|z|z)
  .exact .inr (.inl z)
  .exact .inl z
  .exact .inr (.inr z)
theorem Rx(xs:List α)(k:Nat)(y:α):(jV xs k y).length=xs.length+1:=by
 unfold jV;rw[b_,dg,r6,wD];lia
theorem Uv{xs:List α}{k:Nat}{y:α}(h:xs.Nodup)(hy:y∉xs):(jV xs k y).Nodup:=by
 unfold jV;rw[List.perm_middle.nodup_iff,BA];exact gA.mpr ⟨hy,h⟩
theorem Uw(enc:α->D)(xs:List α)(i:Nat)(y:α):(xs.map enc).take i++enc y::(xs.map enc).drop i=(jV xs i y).map enc:=by
 unfold jV;simp only[gq,NY,List.map_take,List.map_drop]
theorem MK(enc:α->D)(xs:List α)(i:Int)(h0:0<=i)(h1:i<xs.length):∃x,x∈xs/\cB (xs.map enc) i=some (enc x):=by
 have hi:i.toNat<xs.length:=by lia
 refine⟨xs[i.toNat],ua hi,?_⟩;have z:=kO (xs:=xs.map enc) (j:=i.toNat) (by rw[gn,gp hi];rfl)
 rwa[show((i.toNat:Nat):Int)=i by lia] at z
end
def vV:GS:=dY (cv 0 "list" qC 4 (aV (ak (eE 0) (aV 0 (bj bh (gO (o1 br) (aX 4)) (gI 1)))) 6))
theorem Ry:BQ 0=gY (ag 6 false (gX 3 (ak (eE 0) (aV 0 (gO (o1 br) (aX 3)))))) (cG (gQ eK 6 4) vV):=rfl
section
variable{F F':List D}{rr:List Cell}{st:Int}{h:av}{cs pl:List Sp}{a1 a2 a5 a6:ah Val}{s:Sp}
abbrev qG(cs:List Sp)(a1 a2 a5 a6:ah Val):Gm:=[bF 0,a1,a2,ax (lS cs),bF 1,a5,a6]
abbrev qS(F:List D)(pl:List Sp)(rr:List Cell):ba:=⟨[fC F,.o (.lst (pl.map bb))],rr⟩
theorem Rz(hF:Fd st F)(hl:pl.length<=100)(nd:pl.Nodup)(hs:s∉pl):∃(F':List D) (o9:List Sp),Fd st F'/\(∀x,x∈o9↔x=s\/x∈pl)/\o9.length=pl.length+1/\o9.Nodup/\vV (qG cs a1 a2 a5 (ax (bb s))) (qS F pl rr)=some (.nx (qG cs a1 a2 a5 (ax (bb s))) (qS F' o9 rr)):=by
 obtain⟨w,F2,w0,w1,h2,d2⟩:=lZ hF (m:=(pl.length:Int)+1) (by lia) (by lia)
 refine⟨F2,jV pl w.toNat s,h2,λx=>Rw,Rx _ _ _,Uv nd hs,?_⟩
 have eo:((pl.map bb).length:Int)=pl.length:=by rw[aW]
 have p0:=cg w0;have p1:(w<2^62)=True:=cg (by lia)
 have p2:((pl.map bb).length<1000000)=True:=cg (by rw[aW];lia)
 have h2:=Uw bb pl w.toNat s;generalize(pl.length:Int)=ol at *;unfold vV;simp only[↓ev,qG,qS,eo,d2,p0,p1,p2,aK,h2]
theorem RC(hF:Fd st F)(c0:0<cs.length)(c1:cs.length<=200)(hl:pl.length<=100)(nd:pl.Nodup):∃(F':List D) (o9:List Sp) (b6:ah Val),Fd st F'/\(∀x,x∈o9->x∈pl\/x∈cs)/\o9.length<=pl.length+1/\o9.Nodup/\BQ 0 (qG cs a1 a2 a5 a6) (qS F pl rr)=some (.nx (qG cs a1 a2 a5 b6) (qS F' o9 rr)):=by
 obtain⟨w,F2,w0,w1,h2,d2⟩:=lZ hF (m:=(cs.length:Int)) (by lia) (by lia)
 obtain⟨s,ms,es⟩:=MK bb cs w w0 w1;have el:((cs.map bb).length:Int)=cs.length:=by rw[aW]
 have e2:=zw s pl;rw[Ry];cases hb:df s pl with
 |true=>
  rw[hb] at e2;refine⟨F2,pl,ax (bb s),h2,λx m=>.inl m,yo _,nd,?_⟩
  generalize(cs.length:Int)=ol at *;simp only[↓ev,qG,qS,el,d2,es,aK,kc,gb,iJ,e2]
 |false=>
  rw[hb] at e2;have hs:s∉pl:=λz=>by rw[cH.mpr z] at hb;cases hb
  obtain⟨F',o9,g',m',l',n',e3⟩:=Rz (cs:=cs) (a1:=a1) (a2:=a2) (a5:=a5) (rr:=rr) h2 hl nd hs;refine⟨F',o9,ax (bb s),g',λx m=>((m' x).mp m).elim (λe=>.inr (by rw[e];exact ms)) .inl,by lia,n',?_⟩
  generalize(cs.length:Int)=ol at *;simp only[↓ev,qG,qS,el,d2,es,aK,kc,gb,iJ,e2,e3]
theorem RF(ok:dc h)(hF:Fd st F)(a:Int)(a0:0<=a)(a1:a<=8):∃(F':List D) (pl:List Sp),Fd st F'/\(∀s∈pl,VC h s)/\(pl.length:Int)<=a/\pl.Nodup/\yY 0 [.c 0,.d (bf h),jC a] ⟨[fC F],rr⟩=some (.ok (.o (.lst (pl.map bb))) ⟨[fC F'],rr⟩):=by
 obtain⟨w,F1,w0,w1,h1,d1⟩:=lZ hF (m:=a+1) (by lia) (by lia)
 have cl:=Ek ok.bk;have bl:=ok.bl;have ec:=EY ok;obtain⟨U',S',el,F',pl,a5,a6,g',m',l',n',rfl,rfl⟩:=ir (ao 5) (BQ 0) (λk:Nat=>D.int (0+(k:Int))) (qS F1 [] rr) (U:=qG (eR h.aq) (ax (bf h)) (bN a) none none) (λpre U S=>∃(F':List D) (pl:List Sp) (a5 a6:ah Val),Fd st F'/\(∀x∈pl,x∈eR h.aq)/\pl.length<=pre.length/\pl.Nodup/\U=qG (eR h.aq) (ax (bf h)) (bN a) a5 a6/\S=qS F' pl rr) (List.range w.toNat) ⟨F1,[],none,none,h1,(λx m=>by cases m),bC _,wJ,rfl,rfl⟩ (by
  rintro q x post ex U S ⟨F',pl,a5,a6,g',m',l',n',rfl,rfl⟩;obtain⟨hq,hx⟩:=uy ex;obtain⟨F2,Ht,b6,g2,m2,l2,n2,e⟩:=RC (cs:=eR h.aq) (a1:=ax (bf h)) (a2:=bN a) (a5:=bN (0+(x:Int))) (a6:=a6) (rr:=rr) g' (by lia) (by lia) (pl:=pl) (by lia) n'
  refine⟨_,_,_,rfl,.inl e,F2,Ht,_,b6,g2,λy my=>(m2 y my).elim (m' y) id,?_,n2,rfl,rfl⟩
  rw[b_,iW];lia)
 rw[kN] at l';refine⟨F',pl,g',λs ms=>jy.mp (m' s ms),by lia,n',?_⟩
 have b1:Nat.ble w.natAbs 1000000000000=true:=pH (by lia)
 have el:aF _ _ (cZ 0 w.toNat) _ ⟨[fC F1,.o (.lst [])],rr⟩=_:=el;generalize eR h.aq=cs at *;unfold yY;simp only[↓ev,ec,aK,d1,b1,el,qG,qS];rfl
end
theorem JW{h:av}:∀{pl:List Sp},(∀s∈pl,VC h s)->pl.Nodup->∃P:List Pl,pl=P.map Sum.inr/\P.Nodup/\∀p,p∈P->VP h p
 |[],_,_=>⟨[],rfl,wJ,λp m=>(by cases m)⟩
 |s::pl,hv,nd=>by
  rw[gA] at nd;obtain⟨P,e,n,v⟩:=JW (pl:=pl) (λs m=>hv s (.tail _ m)) nd.2
  obtain⟨b,hb,c,es,c0,c1⟩:=hv s (.head _);refine⟨(b.name,c)::P,by rw[es,e];rfl,gA.mpr ⟨λm=>nd.1 ?_,n⟩,λp m=>?_⟩
  .rw[es,e];exact dF.mpr ⟨_,m,rfl⟩
  .rcases y06.mp m with m|m
   .rw[m];exact⟨b,hb,rfl,c0,c1⟩
   .exact v p m
theorem zg(P:List Pl):(P.map Sum.inr).map bb=P.map aG:=by
 rw[kL];exact IJ λp _=>rfl
variable{h:av}{b:aM}
theorem Ux(f:iR h.aB h.aq)(hb:b∈h.aq):∃j:Nat,findS (h.aq.map aM.name) b.name=some j/\h.aq[j]?=some b:=by
 cases q:findS (h.aq.map aM.name) b.name with
 |none=>
  unfold findS at q;rw[List.findIdx?_eq_none_iff] at q;have:=q b.name (yu (f:=aM.name) hb);rw[qm] at this;cases this
 |some j=>
  obtain⟨e,_⟩:=Jm q;rw[gn] at e;cases r:h.aq[j]? with
  |none=>rw[r] at e;cases e
  |some x=>
   rw[r] at e;have e:x.name=b.name:=Option.some.inj e;rw[Kd f x (kg r) b hb e] at r;exact⟨j,rfl,r⟩
theorem Uy(f:iR h.aB h.aq)(hb:b∈h.aq):∃j:Nat,eY (.lst (dS (h.aq.map aM.name))) (.str b.name)=some (rd (.int j))/\cB (h.aq.map aT) (j:Int)=some (aT b):=by
 obtain⟨j,j1,j2⟩:=Ux f hb;refine⟨j,?_,kO (by rw[gn,j2];rfl)⟩
 unfold eY;dsimp only[dS];rw[JK,qk,j1];rfl
section
variable{h:av}{b:aM}{q:Nat}{T H:List Cell}{a0 a1 a3 a4 a5 a6:ah Val}
theorem WW(f:iR h.aB h.aq)(hb:b∈h.aq){x:Str}(hx:x∈b.outs):(h.aq.map aM.name).contains x = !h.aB.contains x:=by
 rcases Cg f b hb x hx with z|z
 .have c1:(h.aq.map aM.name).contains x=true:=BB.mpr z;have c2:h.aB.contains x=false:=by
   rw[<-Iy,BB];exact λy=>B_ f x y z
  rw[c1,c2];rfl
 .have c2:h.aB.contains x=true:=BB.mpr z;have c1:(h.aq.map aM.name).contains x=false:=by
   rw[<-Iy,BB];exact B_ f x z
  rw[c1,c2];rfl
theorem Uz(hq:qf q)(f:iR h.aB h.aq)(hb:b∈h.aq)(ol:b.outs.length<=20):∃a8,aF (ao 8) (BV q) (dS b.outs) [a0,a1,ax (.lst (dS (h.aq.map aM.name))),a3,a4,a5,a6,bF T.length,none] ⟨T++[.o (.lst [])],H⟩=some (.nx [a0,a1,ax (.lst (dS (h.aq.map aM.name))),a3,a4,a5,a6,bF T.length,a8] ⟨T++[.o (.lst (b.outs.map (lC h)))],H⟩):=by
 have mb:=C9 hq;obtain⟨U',S',e,a8,rfl,rfl⟩:=ir (ao 8) (BV q) D.str ⟨T++[.o (.lst [])],H⟩ (U:=[a0,a1,ax (.lst (dS (h.aq.map aM.name))),a3,a4,a5,a6,bF T.length,none]) (λpre U S=>∃a8,U=[a0,a1,ax (.lst (dS (h.aq.map aM.name))),a3,a4,a5,a6,bF T.length,a8]/\S=⟨T++[.o (.lst (pre.map (lC h)))],H⟩) b.outs ⟨none,rfl,rfl⟩ (by
  rintro d x post eq U S ⟨a8,rfl,rfl⟩;have hx:x∈b.outs:=by rw[eq];simp
  have hl:((d.map (lC h)).length<1000000)=True:=cg (by
   have:b.outs.length=d.length+(post.length+1):=by rw[eq,b_,dg]
   rw[aW];lia)
  have cb:=WW f hb hx;refine⟨_,_,_,rfl,.inl ?_,dI x,rfl,rfl⟩;rw[gq (f:=lC h),k_];generalize d.map (lC h)=Q at *;generalize h.aq.map aM.name=ns at *;unfold BV lC;cases c:h.aB.contains x with
  |true=>
   rw[c] at cb;have cb:ns.contains x=false:=cb;simp only[↓ev,aK,ng,nU,cb,mb,hl]
  |false=>
   rw[c] at cb;have cb:ns.contains x=true:=cb;simp only[↓ev,aK,ng,nU,cb,mb,hl])
 exact⟨a8,e⟩
theorem EB(ok:dc h)(hb:b∈h.aq)(c:Int):Pq qx [.d (bf h),.d (vT b.name c)] (.o (.lst ((ff h b c).map bb))):=by
 rw[Ke];intro q hq S;obtain⟨T,H⟩:=S;have mb:=C9 hq;have ol:=(ok.bk b hb).ol;have bl:=ok.bl;have e1:=Qa h (by lia)
 obtain⟨j,ix,ea⟩:=Uy ok.fwd hb;obtain⟨a8,e2⟩:=Uz (T:=T) (H:=H) (a0:=ax (bf h)) (a1:=ax (vT b.name c)) (a3:=dI b.name) (a4:=bN b.long) (a5:=ax (.bl b.ring)) (a6:=ax (.lst (dS b.outs))) hq ok.fwd hb ol;have ea:cB (h.aq.map aT) (j:Int)=some (.tup [.str b.name,.int b.long,.bl b.ring,.lst (dS b.outs)]):=ea;have l1:((b.outs.map (lC h)).length<1000000)=True:=cg (by rw[aW];lia)
 have hD:bf h=.tup [.lst (h.aq.map aT),.lst (dS h.aB)]:=rfl;rw[hD] at e2 ⊢;generalize(j:Int)=ji at *;generalize h.aq.map aT=bd at *;generalize h.aq.map aM.name=ns at *;unfold qx qI kH;by_cases hc:c+1<b.long
 .rw[aU hc];have hc:=cg hc;simp only[↓ev,aK,e1,ix,ea,hc]
 .rw[aO hc];have hc:=eq_false hc;cases hr:b.ring with
  |true=>
   rw[hr] at e2 ea;simp only[↓ev,aK,e1,ix,ea,hc,e2,mb,l1]
  |false=>
   rw[hr] at e2 ea;simp only[↓ev,aK,e1,ix,ea,hc,e2,lQ]
end
section
variable{h:av}{P:List Pl}{aa:Str}{n:Nat}{pl:Int}{N:Net}{r:Nd->Nd->Int}
theorem ML{u:Nd}{c:Ct}{b:Bool}(e:eQ h P aa n u (.gi c) b):u≠.go c:=λq=>by
 rw[q] at e;generalize hx:Nd.go c=x at e;generalize hy:Nd.gi c=y at e;cases e with
 |@w m p q _ _ _=>
  injection hx with hx;injection hy with hy;have:=(lu (hx.symm.trans hy)).2;lia
 |_=>first|(cases hy;done)|(cases hx;done)
theorem Nt.one(t:Nt h P aa n pl N)(F:gr (VV N) .st .en (rr N) r){u v:Nd}{c:Ct}(z1:0<rr N u (.gi c) - r u (.gi c))(z2:0<rr N v (.gi c) - r v (.gi c)):u=v:=kj λZd=>by
 obtain⟨b,e⟩:=t.pos F z1;obtain⟨b2,e2⟩:=t.pos F z2;have hu:u∈VV N:=(jK ..).mpr (.inl ((t.ky u).mpr (.inr ⟨_,b,.inl e⟩)));have hv:v∈VV N:=(jK ..).mpr (.inl ((t.ky v).mpr (.inr ⟨_,b2,.inl e2⟩)));have hc:Nd.gi c∈VV N:=(jK ..).mpr (.inl ((t.ky _).mpr (.inr ⟨_,b,.inr e⟩)));have cs:=F.cs (.gi c) hc (λz=>by cases z) (λz=>by cases z)
 have ug:=ML e;have vg:=ML e2;have an:=F.an u (.gi c);have an2:=F.an v (.gi c);have th:=(t.rR F z1).2.1;have key:sm (λb=>rr N (.gi c) b - r (.gi c) b) (VV N)<=sm (λb=>((if b=.go c then rr N (.gi c) (.go c) - r (.gi c) (.go c) else 0)+(if b=u then rr N (.gi c) u - r (.gi c) u else 0))+(if b=v then rr N (.gi c) v - r (.gi c) v else 0)) (VV N):=C8 λb _=>by
  by_cases c1:b=.go c
  .rw[aU c1,aO (λq=>ug (q.symm.trans c1)),aO (λq=>vg (q.symm.trans c1)),c1];lia
  .rw[aO c1];by_cases c2:b=u
   .rw[aU c2,aO (λq=>Zd (c2.symm.trans q)),c2];lia
   .rw[aO c2];by_cases c3:b=v
    .rw[aU c3,c3];lia
    .rw[aO c3];refine IK.mp λq=>?_
     obtain⟨b',e'⟩:=t.pos F (v:=.gi c) (w:=b) (by lia)
     exact c1 (zz e').1
 rw[cs,sP,sP,m_ _ F.nd,m_ _ F.nd,m_ _ F.nd,aU hu,aU hv] at key;by_cases m:Nd.go c∈VV N
 .rw[aU m] at key;lia
 .rw[aO m] at key;lia
def ue(h:av)(aa:Str):List Pl->Prop
 |[]=>False
 |[a]=>df (.inl aa) (eJ h a)=true
 |a::b::l=>b∈d5 h a/\ue h aa (b::l)
def Yj(N:Net)(r:Nd->Nd->Int)(a b:Nd):Prop:=0<rr N a b - r a b
theorem E5(t:Nt h P aa n pl N)(F:gr (VV N) .st .en (rr N) r){c:Ct}{w:List Pl}(f:pN N r c w):∀(m:Nat) (p:Pl),c=at' p m->
  w.length+m<=n/\(∃l,w=p::l)/\(∀q,q∈w->∃k,q∈nw h P k)/\ue h aa w/\∀(i:Nat) (a b:Pl),w[i]?=some a->w[i+1]?=some b->Yj N r (.go (at' a ((m+i:Nat):Int))) (.gi (at' b ((m+i+1:Nat):Int))):=by
 induction f with
 |@last c z=>
  intro m p ec;obtain⟨b,e⟩:=t.pos F z;obtain⟨m',p',hm,hp,FO,Ak⟩:=Fq e;obtain⟨rfl,em⟩:=lu (ec.symm.trans FO);have em:m=m':=by lia
  subst em;subst ec;refine⟨by rw[iW];lia,⟨[],rfl⟩,λq mq=>?_,?_,λi a b ha hb=>by simp at hb⟩
  .rw[dW] at mq;subst mq;exact⟨m,hp⟩
  .rcases Ak with⟨_,q⟩|⟨q,_,z'⟩
   .exact q
   .cases z'
 |@step c d l z f ih=>
  intro m p ec;obtain⟨b,e⟩:=t.pos F z;obtain⟨m',p',hm,hp,FO,Ak⟩:=Fq e;obtain⟨rfl,em⟩:=lu (ec.symm.trans FO);have em:m=m':=by lia
  subst em;subst ec;rcases Ak with⟨z',_⟩|⟨q,hq,z'⟩
  .cases z'
  .injection z' with ed;have ed:d=at' q ((m+1:Nat):Int):=ed;obtain⟨i1,⟨l',rfl⟩,i3,i4,i5⟩:=ih (m+1) q ed;refine⟨by rw[dg];lia,⟨q::l',rfl⟩,λx mx=>?_,⟨hq,i4⟩,λi a b ha hb=>?_⟩
   .rcases y06.mp mx with mx|mx
    .subst mx;exact⟨m,hp⟩
    .exact i3 x mx
   .cases i with
    |zero=>
     have ha:some p=some a:=ha;have hb:some q=some b:=hb;cases ha;cases hb;rw[ed] at z;exact z
    |succ i=>
     have:=i5 i a b ha hb;rw[show m+1+i=m+(i+1) by lia] at this
     exact this
theorem RG(t:Nt h P aa n pl N)(F:gr (VV N) .st .en (rr N) r){p q:Pl}{w v:List Pl}(f1:pN N r (at' p ((0:Nat):Int)) w)(f2:pN N r (at' q ((0:Nat):Int)) v):∀(i:Nat) (a:Pl),w[i]?=some a->v[i]?=some a->p=q:=by
 obtain⟨_,⟨l1,e1⟩,_,_,g1⟩:=E5 t F f1 0 p rfl;obtain⟨_,⟨l2,e2⟩,_,_,g2⟩:=E5 t F f2 0 q rfl;intro i
 induction i with
 |zero=>
  intro a h1 h2;rw[e1] at h1;rw[e2] at h2;have h1:some p=some a:=h1;have h2:some q=some a:=h2;cases h1;cases h2;rfl
 |succ i ih=>
  intro a h1 h2;have k1:i<w.length:=by have:=(cK.mp h1).1;lia
  have k2:i<v.length:=by have:=(cK.mp h2).1;lia
  have j1:=g1 i w[i] a (gp k1) h1;have j2:=g2 i v[i] a (gp k2) h2;have:=t.one F j1 j2;injection this with this;have:=(lu this).1;exact ih w[i] (gp k1) (by rw[this];exact gp k2)
end
variable{p:Pl}{x:Str}
theorem UA{α:Type}(xs:List α)(x:α):cB (xs++[x]) (-1)=some x:=by
 unfold cB qb;have hl:(xs++[x]).length=xs.length+1:=by simp
 rw[hl];rw[aO (by decide),aU (by lia)]
 show(xs++[x])[_]?=some x;rw[show -1+((xs.length+1:Nat):Int)=(xs.length:Int) by lia]
 simp
abbrev lj:=(Str×Int)×Int
abbrev nH:=List (Str×Int)×Str
def lK(w:nH):List D:=w.1.map aG++[.str w.2]
noncomputable def ZH(w:nH):D:=.lst (lK w)
def eM(i:Nat):List (Str×Int)->List lj
 |[]=>[]
 |p::l=>(p,(i:Int))::eM (i+1) l
def mY(w:nH):List lj:=eM 0 w.1
def e_(ws:List nH):List lj:=(ws.map mY).flatten
theorem Kk(i:Nat):∀(l:List (Str×Int)) (p:Str×Int),eM i (l++[p])=eM i l++[(p,((i+l.length:Nat):Int))]
 |[],p=>rfl
 |a::l,p=>by
  show _::eM (i+1) (l++[p])=_::(eM (i+1) l++_);rw[Kk (i+1) l p,dg,show i+1+l.length=i+(l.length+1) from by lia]
theorem Co(i:Nat):∀l:List (Str×Int),(eM i l).length=l.length
 |[]=>rfl
 |a::l=>by show(eM (i+1) l).length+1=_;rw[Co (i+1) l];rfl
def qe(c:lj):D:=.tup [.int c.2,aG c.1]
def rj(c:lj):TK:=.tp [.inl c.2,.tp [.inr c.1.1,.inl c.1.2]]
theorem UB(a b:lj)(e:rj a=rj b):a=b:=by
 obtain⟨⟨x,i⟩,m⟩:=a;obtain⟨⟨y,j⟩,n⟩:=b;unfold rj at e;injection e with e;injection e with e1 e2;injection e1 with e1;injection e2 with e2 _;injection e2 with e2;injection e2 with e2 e3;injection e2 with e2;injection e3 with e3 _;injection e3 with e3;dsimp only at e1 e2 e3;rw[e1,e2,e3]
def n_(aa:Str)(x:Nat×List Pl):D:=.tup [.int (x.1:Int),ZH (x.2,aa)]
def j6(aa:Str)(w:List Pl):List Sp:=w.map Sum.inr++[.inl aa]
theorem X8(aa:Str)(w:List Pl):(j6 aa w).map bb=lK (w,aa):=by
 unfold j6 lK;rw[gq,kL];rfl
theorem MM{h:av}{aa:Str}:∀{w:List Pl},ue h aa w->∀(i:Nat) (a:Pl),w[i]?=some a->∃s,(j6 aa w)[i+1]?=some s/\df s (eJ h a)=true
 |[],l,_,_,_=>bG l id
 |[x],l,0,a,e=>by cases e;exact⟨.inl aa,rfl,l⟩
 |[x],l,i+1,a,e=>by cases e
 |x::y::w,⟨l1,_⟩,0,a,e=>by cases e;exact⟨.inr y,rfl,cH.mpr (dk.mp l1)⟩
 |x::y::w,⟨_,l2⟩,i+1,a,e=>MM l2 i a e
section
variable{h:av}{aa:Str}{q n:Nat}{T H:List Cell}{L:List D}{s1 s2:ah Val}
theorem zF:Nat.ble (1:Int).natAbs 1000000000000=true:=by decide
theorem qJ:bM (bb (.inr p)) (.ty "str")=some (rd (.bl false)):=rfl
theorem FL:bM (bb (.inl x)) (.ty "str")=some (rd (.bl true)):=rfl
theorem RJ(hq:qf q)(ok:dc h){k:Int}(v:VP h p)(s:Sp)(m:df s (eJ h p)=true)(hL:H[n]?=some (.o (.lst L)))(ea:cB L (k - 1)=some (bb (.inr p)))(eb:cB L k=some (bb s)):yW q [ax (bf h),s1,s2,ax (.ref n),bN k] ⟨T,H⟩=some (.nx [ax (bf h),s1,s2,ax (.ref n),bN k] ⟨T,H⟩):=by
 obtain⟨nm,c⟩:=p;obtain⟨b,hb,e,_⟩:=v;dsimp only at e;subst e;have e1:∀S,qx q [.d (bf h),.d (bb (.inr (b.name,c)))] S=_:=EB ok hb c q hq;have n1:=uN s (.inr (b.name,c));have m1:=zw s (ff h b c);unfold yW;by_cases z:s=.inr (b.name,c)
 .rw[eP z] at n1;simp only[↓ev,hL,ea,kc,qJ,aK,eb,gb,n1]
 .rw[eC z] at n1;rw[sQ ok hb,Q9,eC (λy=>z y.symm),Bool.or_false] at m
  rw[m] at m1;simp only[↓ev,hL,ea,kc,qJ,aK,eb,gb,n1,e1,iJ,m1]
def tf:GT:=cW (gQ mr (gO (o1 br) (aX 3)) (gI 2)) (cW (gQ mw (gX 3 (gI 0)) 1) (gQ mw (gX 3 (gO (o1 mV) (aX (gI 1)))) 2))
theorem Qm{q:Nat}:sI q=runM 4 5 (kE (cG tf (az (gC (.bl false)))) (aY q (dz jg (aV (gI 1) (gO (o1 br) (aX 3)))) 4 yW) (az (gC (.bl true)))):=rfl
theorem UC(hq:qf q)(ok:dc h){l:List Pl}(lk:ue h aa (p::l))(v:∀q,q∈p::l->VP h q)(hl:(p::l).length<=1000)(hL:H[n]?=some (.o (.lst ((j6 aa (p::l)).map bb)))):sI q [.d (bf h),.d (bb (.inr p)),fm aa,.d (.ref n)] ⟨T,H⟩=some (.ok (rd (.bl true)) ⟨T,H⟩):=by
 have rl:(j6 aa (p::l)).length=(p::l).length+1:=by unfold j6;rw[b_,aW];rfl
 have a0:cB ((j6 aa (p::l)).map bb) 0=some (bb (.inr p)):=kO (j:=0) rfl;have a1:cB ((j6 aa (p::l)).map bb) (-1)=some (.str aa):=by
  unfold j6;rw[gq];exact UA _ _
 have c0:(((((j6 aa (p::l)).map bb).length:Nat):Int)<2)=False:=eq_false (by rw[aW,rl,dg];lia)
 have n0:cj (bb (.inr p)) (bb (.inr p))=true:=by rw[uN,eP rfl]
 obtain⟨U',S',e2,a4,rfl,rfl⟩:=ir (ao 4) (yW q) (λ(i:Nat)=>D.int (1+(i:Int))) ⟨T,H⟩ (U:=[ax (bf h),ax (bb (.inr p)),dI aa,ax (.ref n),none]) (λ_ U S=>∃a4,U=[ax (bf h),ax (bb (.inr p)),dI aa,ax (.ref n),a4]/\S=⟨T,H⟩) (List.range (p::l).length) ⟨none,rfl,rfl⟩ (by
  rintro d i r eq U S ⟨a4,rfl,rfl⟩;obtain⟨_,hi⟩:=uy eq;have g:(p::l)[i]?=some (p::l)[i]:=gp hi;obtain⟨s,h1,h2⟩:=MM lk i _ g;have g0:(j6 aa (p::l))[i]?=some (.inr (p::l)[i]):=by
   unfold j6;rw[gj (by rw[aW];exact hi),gn,g]
   rfl
  have ea:cB ((j6 aa (p::l)).map bb) (i:Int)=some (bb (.inr (p::l)[i])):=kO (by rw[gn,g0];rfl)
  have eb:cB ((j6 aa (p::l)).map bb) ((i+1:Nat):Int)=some (bb s):=kO (by rw[gn,h1];rfl)
  rw[show((i:Nat):Int)=1+(i:Int) - 1 by lia] at ea
  rw[show((i+1:Nat):Int)=1+(i:Int) by lia] at eb
  exact⟨_,_,_,rfl,.inl (RJ hq ok (v _ (ua hi)) s h2 hL ea eb),_,rfl,rfl⟩)
 have e2:aF _ _ (cZ 1 (p::l).length) _ _=_:=e2;rw[show(p::l).length=(((j6 aa (p::l)).map bb).length - 1:Int).toNat by rw[aW,rl];lia] at e2
 have b1:Nat.ble (((j6 aa (p::l)).map bb).length:Int).natAbs 1000000000000=true:=pH (by rw[aW,rl];lia)
 rw[Qm];unfold tf;generalize hg:(((j6 aa (p::l)).map bb).length:Int)=nl at *;generalize(j6 aa (p::l)).map bb=L at *;simp only[↓ev,hL,hg,c0,aK,a0,kc,gb,n0,a1,zF,b1,e2]
end
theorem X9(c:lj):kX (qe c)=some (rj c):=by unfold qe rj aG;simp[kX,fj]
theorem MN:∀cs:List lj,fj (cs.map qe)=some (cs.map rj)
 |[]=>by simp[fj]
 |c::cs=>by
  rw[c_,c_];simp only[fj];rw[X9,qk,MN cs];rfl
theorem UD{cs:List lj}(nd:cs.Nodup)(hl:cs.length<=4096):∃ks,fj (cs.map qe)=some ks/\(ks.Nodup/\ks.all wt=true/\ks.length<=4096)=True/\ks.length=cs.length:=by
 have h2:(cs.map rj).all wt=true:=by
  rw[yr,gF];intro c _;show wt (rj c)=true;unfold rj wt;simp[TK.ok]
 exact⟨_,MN cs,cg ⟨List.Pairwise.map _ (λa b iB e=>iB (UB _ _ e)) nd,h2,by rw[aW];exact hl⟩,aW _⟩
section
variable{T H:List Cell}{n:Nat}{L:List D}{ms:List lj}{s0 a3:ah Val}{p:Str×Int}{i:Int}
abbrev nk(L0:Nat)(s0:ah Val)(n:Nat)(a3:ah Val):Gm:=[s0,bF L0,ax (.ref n),a3]
abbrev oW(T H:List Cell)(ms:List lj):ba:=⟨T++[.o (.lst (ms.map qe))],H⟩
theorem UE(hL:H[n]?=some (.o (.lst L)))(hl:ms.length<1000000)(ea:cB L i=some (bb (.inr p))):wV 0 (nk T.length s0 n (bN i)) (oW T H ms)=some (.nx (nk T.length s0 n (bN i)) (oW T H (ms++[(p,i)]))):=by
 have e1:((ms.map qe).length<1000000)=True:=cg (by rw[aW];exact hl)
 have e2:D.tup [.int i,bb (.inr p)]=qe (p,i):=rfl;unfold oW;rw[gq,k_];unfold wV;simp only[↓ev,nk,hL,ea,kc,qJ,aK,e2,e1]
theorem UG{S:ba}(hL:S.r[n]?=some (.o (.lst L)))(ea:cB L i=some (.str x)){L0:Nat}:wV 0 (nk L0 s0 n (bN i)) S=some (.nx (nk L0 s0 n (bN i)) S):=by
 obtain⟨s,r⟩:=S;have hL:r[n]?=_:=hL;unfold wV;simp only[↓ev,nk,hL,ea,aK]
end
theorem UH{α:Type}(L:List α)(k:Nat)(hk:k<L.length):cB L (k:Int)=some L[k]:=kO (gp hk)
section
variable{T H:List Cell}{n:Nat}{s0 a2 a3:ah Val}{w:nH}{ms:List lj}
theorem WX(hL:H[n]?=some (.o (.lst (lK w))))(hl:ms.length+w.1.length<1000000):∃b3,yM 0 (nk T.length s0 n a3) (oW T H ms)=some (.nx (nk T.length s0 n b3) (oW T H (ms++mY w))):=by
 have hlen:(lK w).length=w.1.length+1:=by unfold lK;simp
 obtain⟨U',S',e,b3,rfl,rfl⟩:=ir (ao 3) (wV 0) (λk:Nat=>D.int (0+(k:Int))) (oW T H ms) (U:=nk T.length s0 n a3) (λpre U S=>∃b3,U=nk T.length s0 n b3/\S=oW T H (ms++eM 0 (w.1.take pre.length))) (List.range (w.1.length+1)) ⟨a3,rfl,by simp[eM]⟩ (by
  rintro q x post hx U S ⟨b3,rfl,rfl⟩;obtain⟨e1,e2⟩:=uy hx;subst e1;rw[b_,iW,Int.zero_add];have ea:=UH (lK w) q.length (by lia)
  by_cases c:q.length<w.1.length
  .have eb:(lK w)[q.length]'(by lia)=bb (.inr w.1[q.length]):=by
    show(w.1.map aG++[D.str w.2])[q.length]'(by rw[b_,aW];exact eO c (Nat.le_add_right _ _))=_
    have hx:q.length<(w.1.map aG).length:=by rw[aW];exact c
    rw[List.getElem_append_left hx,List.getElem_map];rfl
   rw[eb] at ea;have et:w.1.take (q.length+1)=w.1.take q.length++[w.1[q.length]]:=by rw[List.take_succ,gp c];rfl
   have tl:(w.1.take q.length).length=q.length:=by rw[r6];lia
   have:=UE (T:=T) (s0:=s0) (ms:=ms++eM 0 (w.1.take q.length)) hL (by rw[b_,Co,tl];lia) ea
   refine⟨_,_,_,rfl,.inl this,bN (q.length:Int),rfl,?_⟩;rw[et,Kk,tl,yv,g_]
  .have c:q.length=w.1.length:=by lia
   have eb:(lK w)[q.length]'(by lia)=.str w.2:=by
    show(w.1.map aG++[D.str w.2])[q.length]'(by rw[b_,aW,iW];lia)=_
    have hx:(w.1.map aG).length<=q.length:=by rw[aW];lia
    rw[List.getElem_append_right hx];simp[c]
   rw[eb] at ea;refine⟨_,_,_,rfl,.inl (UG hL ea),bN (q.length:Int),rfl,?_⟩;rw[yq (by lia),yq (by lia)])
 refine⟨b3,?_⟩;rw[kN,yq (by lia)] at e
 have e:aF _ _ (cZ 0 (w.1.length+1)) _ _=_:=e;have el:((lK w).length:Int)=((w.1.length+1:Nat):Int):=by rw[hlen]
 have b1:Nat.ble ((w.1.length+1:Nat):Int).natAbs 1000000000000=true:=pH (by lia)
 have et:((w.1.length+1:Nat):Int).toNat=w.1.length+1:=by lia
 unfold mY;rw[<-et] at e;generalize((w.1.length+1:Nat):Int)=m at *;generalize lK w=L at *;unfold yM;simp only[↓ev,nk,oW,hL,el,b1,e]
abbrev DD(x:Nat×nH):D:=.ref x.1
theorem MO:∀(xs:List (Nat×nH)) (ms:List lj) (a2 a3:ah Val),(∀x∈xs,H[x.1]?=some (.o (.lst (lK x.2))))->ms.length+(e_ (xs.map (·.2))).length<900000->∃b2 b3,aF (ao 2) (yM 0) (xs.map DD) [s0,bF T.length,a2,a3] (oW T H ms)=some (.nx [s0,bF T.length,b2,b3] (oW T H (ms++e_ (xs.map (·.2)))))
 |[],ms,a2,a3,_,_=>⟨a2,a3,by show some _=_;rw[show e_ (([]:List (Nat×nH)).map (·.2))=[] from rfl,lQ]⟩
 |x::xs,ms,a2,a3,hx,hl=>by
  have es:e_ ((x::xs).map (·.2))=mY x.2++e_ (xs.map (·.2)):=rfl
  rw[es,b_] at hl;have hw:(mY x.2).length=x.2.1.length:=Co 0 _;obtain⟨b3,e1⟩:=WX (T:=T) (s0:=s0) (a3:=a3) (ms:=ms) (hx x (.head _)) (by lia)
  obtain⟨c2,c3,e2⟩:=MO xs (ms++mY x.2) (ax (.ref x.1)) b3 (λy m=>hx y (.tail _ m)) (by rw[b_];lia)
  refine⟨c2,c3,?_⟩;rw[es,<-g_,c_];unfold aF;show(yM 0 (nk T.length s0 x.1 a3) (oW T H ms)).bind _=_;rw[e1];exact e2
theorem OQ(xs:List (Nat×nH))(hx:∀x∈xs,H[x.1]?=some (.o (.lst (lK x.2))))(nd:(e_ (xs.map (·.2))).Nodup)(hl:(e_ (xs.map (·.2))).length<=4096):yO 0 [.d (.lst (xs.map DD))] ⟨T,H⟩=some (.ok (rd (.bl true)) ⟨T,H⟩):=by
 obtain⟨b2,b3,e⟩:=MO (T:=T) (s0:=ax (.lst (xs.map DD))) xs [] none none hx (by rw[nz];lia)
 rw[wK] at e;have e:aF _ _ _ _ ⟨T++[.o (.lst [])],H⟩=some (.nx _ ⟨T++[.o (.lst ((e_ (xs.map (·.2))).map qe))],H⟩):=e
 obtain⟨ks,e1,hc,el⟩:=UD nd hl;have e2:(((e_ (xs.map (·.2))).map qe).length:Int)=(ks.length:Nat):=by rw[aW,el]
 generalize hv:xs.map DD=L at *;generalize(e_ (xs.map (·.2))).map qe=M at *
 unfold yO;simp only[↓ev,aK,e,e1,hc,e2]
end
theorem zh(i:Int):Pr uv [jC i] (rd (.bl true)):=by
 intro q S;have e1:bM (.int i) (.ty "int")=some (rd (.bl true)):=rfl;have e2:bM (.int i) (.ty "bool")=some (rd (.bl false)):=rfl;unfold uv;simp only[↓ev,e1,e2,aK]
theorem WY(p:Pl):Pr uo [.d (bb (.inr p)),jC 2] (rd (.bl true)):=by
 intro q S;have e:∀q S,bx (ao 0) (f7 true) (yN q) [.int p.2] [none] S []=some (.ok [.bl true] S):=λq S=>by
  have e1:=zh p.2;rw[show[D.int p.2]=[p.2].map D.int from rfl,qM (λ_=>D.bl true) [p.2] (by show 1<=1000000;lia) λx m=>⟨rd (.bl true),by
   rw[dW] at m;subst m;unfold yN;simp only[↓ev,e1],rfl⟩]
  rfl
 have e5:cutD [D.str p.1,.int p.2] (some 1) none=[.int p.2]:=rfl;have hs:(HT.bW 2 0 (some 1)=0/\HT.bW 2 2 none=2)=False:=eq_false (by decide)
 have c2:(((2:Nat):Int) == 2)=true:=rfl;have b:dO [D.bl true]=some [true]:=rfl;have hp:bb (.inr p)=.tup [.str p.1,.int p.2]:=rfl;rw[hp];unfold uo;simp only[↓ev,aK,c2,hs,e5,e,b]
variable{aa:Str}{W:List D}{h:av}{P:List Pl}{n b:Nat}{ys:List (Nat×List Pl)}{pd:D}{ss:List Sp}{T H:List Cell}
structure RW (N:Net) (r:Nd->Nd->Int) (x:Nat×Pl) (y:Nat×List Pl):Prop where
 k:y.1=x.1
 f:pN N r (at' x.2 ((0:Nat):Int)) y.2
theorem UI{N:Net}{r:Nd->Nd->Int}{a:List (Nat×Pl)}(p:Paired (Way N r aa) a W):∃ws,Paired (RW N r) a ws/\W=ws.map (n_ aa):=by
 induction p with
 |nil=>exact⟨[],.nil,rfl⟩
 |@cons x d a W hx _ ih=>
  obtain⟨ws,q1,q2⟩:=ih;obtain⟨w,f,e⟩:=hx.w;exact⟨(x.1,w)::ws,.cons ⟨rfl,f⟩ q1,by rw[c_,<-q2,e];rfl⟩
theorem Cp:∀{w:List Pl} {k:Nat} {c:lj},c∈eM k w->∃j:Nat,w[j]?=some c.1/\c.2=((k+j:Nat):Int)
 |p::w,k,c,m=>by
  rcases y06.mp m with m|m
  .subst m;exact⟨0,rfl,rfl⟩
  .obtain⟨j,h1,h2⟩:=Cp m;exact⟨j+1,h1,by rw[h2];congr 1;lia⟩
theorem LL:∀(w:List Pl) (k:Nat),(eM k w).Nodup
 |[],_=>wJ
 |p::w,k=>gA.mpr ⟨λm=>by
   obtain⟨j,_,e⟩:=Cp m;have e:(k:Int)=((k+1+j:Nat):Int):=e;lia,LL w (k+1)⟩
theorem Kl{α β:Type}{R:α->β->Prop}{a:List α}{b:List β}(p:Paired R a b):∀y,y∈b->∃x,x∈a/\R x y:=by
 induction p with
 |nil=>intro y m;cases m
 |cons h _ ih=>
  intro y m;rcases y06.mp m with m|m
  .subst m;exact⟨_,pD,h⟩
  .obtain⟨x,m1,r⟩:=ih y m;exact⟨x,mD _ m1,r⟩
theorem LM{α β:Type}{R:α->β->Prop}{S:α->α->Prop}{T:β->β->Prop}{a:List α}{b:List β}(p:Paired R a b)(st:∀x x' y y',R x y->R x' y'->S x x'->T y y'):a.Pairwise S->b.Pairwise T:=by
 induction p with
 |nil=>intro _;exact .nil
 |cons h t ih=>
  intro s;obtain⟨s1,s2⟩:=DO.mp s;refine DO.mpr ⟨λy m=>?_,ih s2⟩
  obtain⟨x,m1,r⟩:=Kl t y m;exact st _ _ _ _ h r (s1 x m1)
theorem CI:∀{ps:List Pl} {k:Nat} {x:Nat×Pl},x∈kB k ps->∃j:Nat,ps[j]?=some x.2/\x.1=k+j
 |p::ps,k,x,m=>by
  rcases y06.mp m with m|m
  .subst m;exact⟨0,rfl,rfl⟩
  .obtain⟨j,h1,h2⟩:=CI m;exact⟨j+1,h1,by lia⟩
theorem MP:∀(ps:List Pl) (k:Nat),(kB k ps).Pairwise λx y=>x.1<y.1
 |[],_=>.nil
 |p::ps,k=>DO.mpr ⟨λy m=>by
   obtain⟨j,_,e⟩:=CI m;show k<y.1;lia,MP ps (k+1)⟩
theorem MQ:∀{ps:List Pl} (k:Nat),ps.Nodup->(kB k ps).Pairwise λx y=>x.2≠y.2
 |[],_,_=>.nil
 |p::ps,k,nd=>by
  obtain⟨n1,n2⟩:=gA.mp nd;refine DO.mpr ⟨λy m z=>?_,MQ (k+1) n2⟩
  obtain⟨j,e,_⟩:=CI m;have z:p=y.2:=z;rw[<-z] at e;exact n1 (kg e)
structure sx (h:av) (P:List Pl) (aa:Str) (n:Nat) (ys:List (Nat×List Pl)):Prop where
 up:ys.Pairwise λx y=>x.1<y.1
 el:∀y,y∈ys->∃p l,y.2=p::l/\P[y.1]?=some p/\y.2.length<=n/\ue h aa y.2/\∀q,q∈y.2->VP h q
 tg:(e_ (ys.map λy=>(y.2,aa))).Nodup
theorem Eo(ok:dc h)(nd:P.Nodup)(v:∀p,p∈P->VP h p){C:List Ct}(td:Told h P aa n W C):∃ys,sx h P aa n ys/\W=ys.map (n_ aa):=by
 obtain⟨pl,N,N',l,g8,t,F,ms,me,cl,pr,hC⟩:=td.ex;obtain⟨ys,p2,eW⟩:=UI pr;refine⟨ys,⟨?_,?_,?_⟩,eW⟩
 .exact LM p2 (λx x' y y' r r' s=>by rw[r.k,r'.k];exact s) ((MP P 0).filter _)
 .intro y m;obtain⟨x,mx,r⟩:=Kl p2 y m;obtain⟨j,ej,hj⟩:=CI (gf.mp mx).1;obtain⟨f1,⟨lw,f2⟩,f3,f4,_⟩:=E5 t F r.f 0 x.2 rfl;refine⟨x.2,lw,f2,by rw[r.k,hj,yv];exact ej,by lia,f4,λq mq=>?_⟩
  obtain⟨k,hk⟩:=f3 q mq;exact(uO ok nd v k).2 q hk
 .unfold e_;refine List.pairwise_flatten.mpr ⟨λs m=>?_,?_⟩
  .obtain⟨w,_,rfl⟩:=dF.mp m;exact LL _ _
  .rw[kL];refine II.mpr (LM p2 (λx x' y y' r r' s=>?_) ((MQ 0 nd).filter _))
   intro c m1 c' m2 e;subst e;obtain⟨j,h1,h2⟩:=Cp m1;obtain⟨j',Ys,xR⟩:=Cp m2;have ej:j=j':=by lia
   subst ej;exact s (RG t F r.f r'.f j c.1 h1 Ys)
theorem Km(aa:Str)(n:Nat):∀ys:List (Nat×List Pl),(∀y,y∈ys->y.2.length<=n)->(e_ (ys.map λy=>(y.2,aa))).length<=ys.length*n
 |[],_=>k7 _
 |y::ys,hl=>by
  have ih:=Km aa n ys λy m=>hl y (mD _ m)
  have h1:=hl y pD;show(eM 0 y.2++e_ (ys.map λy=>(y.2,aa))).length<=_
  rw[b_,Co,dg,IM];lia
theorem WZ{N:Nat}(up:ys.Pairwise λx y=>x.1<y.1)(hb:∀y,y∈ys->y.1<N):ys.length<=N:=by
 have nd:(ys.map (·.1)).Nodup:=II.mpr (up.imp λh=>iP h)
 have:=nN nd (m:=List.range N) λx m=>by
  obtain⟨y,my,rfl⟩:=dF.mp m;exact k6.mpr (hb y my)
 rw[aW,kN] at this;exact this
def jx:List (Nat×List Pl)->Int
 |[] => -1
 |y::ys=>match ys with
  |[]=>(y.1:Int)
  |_=>jx ys
theorem Ep:∀(ys:List (Nat×List Pl)) (y:Nat×List Pl),jx (ys++[y])=(y.1:Int)
 |[],y=>rfl
 |[a],y=>rfl
 |a::b::ys,y=>by
  show jx (b::ys++[y])=_;exact Ep (b::ys) y
theorem RK{q:List (Nat×List Pl)}{y:Nat×List Pl}{post:List (Nat×List Pl)}(up:(q++y::post).Pairwise λx y=>x.1<y.1):jx q<(y.1:Int):=by
 rcases List.eq_nil_or_concat q with e|⟨q',z,e⟩
 .subst e;show(-1:Int)<_;lia
 .subst e;rw[List.concat_eq_append,Ep];rw[List.concat_eq_append,g_] at up;have:=(List.pairwise_append.mp up).2.1;have:=(DO.mp this).1 y pD;lia
def d9:Nat->List (Nat×List Pl)->List (Nat×Nat×List Pl)
 |_,[]=>[]
 |b,y::ys=>(b,y)::d9 (b+1) ys
abbrev yj(x:Nat×Nat×List Pl):D:=.tup [.int (x.2.1:Int),.ref x.1]
theorem Cq:∀(b:Nat) (ys:List (Nat×List Pl)),(d9 b ys).map (·.2)=ys
 |_,[]=>rfl
 |b,y::ys=>congrArg (y::·) (Cq (b+1) ys)
theorem MR(aa:Str):∀(b:Nat) (W:List Wy) (ys:List (Nat×List Pl)),W.map rZ=ys.map (n_ aa)->bY b W=(d9 b ys).map yj
 |_,[],[],_=>rfl
 |_,[],_::_,e=>by cases e
 |_,_::_,[],e=>by cases e
 |b,x::W,y::ys,e=>by
  injection e with e1 e2;injection e1 with e1;injection e1 with e1 e3;show .tup [.int x.1,.ref b]::bY (b+1) W=.tup [.int (y.1:Int),.ref b]::(d9 (b+1) ys).map yj;rw[MR aa (b+1) W ys e2];injection e1 with e1;rw[e1]
theorem JX{H:List Cell}(aa:Str):∀(b:Nat) (W:List Wy) (ys:List (Nat×List Pl)),W.map rZ=ys.map (n_ aa)->(∀(j:Nat) (x:Wy),W[j]?=some x->H[b+j]?=some (kZ x))->∀x∈d9 b ys,H[x.1]?=some (.o (.lst (lK (x.2.2,aa))))
 |b,x::W,y::ys,e,h,z,m=>by
  injection e with e1 e2;rcases y06.mp m with rfl|m
  .have:=h 0 x rfl;injection e1 with e1;injection e1 with _ e3;injection e3 with e3 _;injection e3 with e3;rw[kZ,e3] at this;exact this
  .exact JX aa (b+1) W ys e2 (λj x e=>by rw[show b+1+j=b+(j+1) by lia];exact h (j+1) x e) z m
 |_,[],[],_,_,z,m=>by cases m
 |_,[],_::_,e,_,_,_=>by cases e
 |_,_::_,[],e,_,_,_=>by cases e
section
variable{hd:D}{PL:List D}{c:Str}{Tm k0 k:Int}{b n q:Nat}{T H:List Cell}{L:List D}{a6 a7:ah Val}
abbrev gz(hd:D)(PL:List D)(c:Str)(Tm:Int)(b:Nat)(k:Int)(a6 a7:ah Val):Gm:=[ax hd,ax (.lst PL),dI c,bN Tm,ax (.ref b),bN k,a6,a7]
def Ig(q:Nat):GS:=aY q (bp true dB (gX 6 (gI 1))) 7 yJ
def Ib:Nat->GS:=λn1=>cG (cW (bu (bH (gO (o2 bM) (aV 6 (gC (.ty "tuple")))))) (cW (gQ mw (gO (o1 br) (aX 6)) (gI 2)) (cW (bu (bH (ak (uv n1) (aX (gX 6 (gI 0)))))) (bu (bH (gO (o2 bM) (aV (gX 6 (gI 1)) (gC (.ty "list")))))))))
  (az (gC (.bl false)))
def Ic:GS:=cG (cW (bu (gB (CS Aq Aq 5 (gX 6 (gI 0)) (gO (o1 br) (aX 1))))) (gQ nq (gO (o1 br) (aX (gX 6 (gI 1)))) (bj bh 3 (gI 1))))
  (az (gC (.bl false)))
def Ie:Nat->GS:=λn1=>cG (bu (bH (ak (sI n1) (fW 0 (gX 1 5) 2 (gX 6 (gI 1))))))
  (az (gC (.bl false)))
theorem UJ:yK q=kf (Ib q) Ic (ag 5 false (gX 6 (gI 0))) (Ig q) (Ie q):=rfl
abbrev d6(k:Int)(n:Nat):ah Val:=ax (.tup [.int k,.ref n])
theorem W3(hL:H[n]?=some (.o (.lst L))):Ib q (gz hd PL c Tm b k0 (d6 k n) a7) ⟨T,H⟩=some (.nx (gz hd PL c Tm b k0 (d6 k n) a7) ⟨T,H⟩):=by
 have e4:=zh k;have c2:(((2:Nat):Int) == 2)=true:=rfl;unfold Ib;simp only[↓ev,gz,d6,aK,c2,e4,hL]
theorem W5(hL:H[n]?=some (.o (.lst L)))(h1:k0<k)(h2:k<(PL.length:Int))(h3:¬(Tm+1<(L.length:Int))):Ic (gz hd PL c Tm b k0 (d6 k n) a7) ⟨T,H⟩=some (.nx (gz hd PL c Tm b k0 (d6 k n) a7) ⟨T,H⟩):=by
 have h1:=cg h1;have h2:=cg h2;have h3:=eq_false h3;unfold Ic;simp only[↓ev,gz,d6,aK,h1,h2,hL,h3]
theorem W6(ha:cB PL k=some pd)(hg:sI q [.d hd,.d pd,fm c,.d (.ref n)] ⟨T,H⟩=some (.ok (rd (.bl true)) ⟨T,H⟩)):Ie q (gz hd PL c Tm b k (d6 k n) a7) ⟨T,H⟩=some (.nx (gz hd PL c Tm b k (d6 k n) a7) ⟨T,H⟩):=by
 unfold Ie;simp only[↓ev,gz,d6,ha,aK,hg]
theorem Ii{s:Sp}{S:ba}:yJ q (gz hd PL c Tm b k a6 (ax (bb s))) S=some (.nx (gz hd PL c Tm b k a6 (ax (bb s))) S):=by
 unfold yJ;cases s with
 |inl x=>simp only[↓ev,gz,kc,FL,aK]
 |inr p=>
  have e2:=WY p;simp only[↓ev,gz,kc,qJ,e2,aK]
theorem W7(hL:H[n]?=some (.o (.lst (ss.map bb)))):∃b7,Ig q (gz hd PL c Tm b k (d6 k n) a7) ⟨T,H⟩=some (.nx (gz hd PL c Tm b k (d6 k n) b7) ⟨T,H⟩):=by
 obtain⟨U',S',e,b7,rfl,rfl⟩:=ir (ao 7) (yJ (jq q (n+3))) bb ⟨T,H⟩ (U:=gz hd PL c Tm b k (d6 k n) a7) (λ_ U S=>∃b7,U=gz hd PL c Tm b k (d6 k n) b7/\S=⟨T,H⟩) ss ⟨a7,rfl,rfl⟩ (by
  rintro d s r eq U S ⟨b7,rfl,rfl⟩;exact⟨_,_,_,rfl,.inl Ii,_,rfl,rfl⟩)
 refine⟨b7,?_⟩;generalize ss.map bb=L at *;unfold Ig;simp only[↓ev,gz,d6,aK,hL,e]
theorem Ih(hL:H[n]?=some (.o (.lst (ss.map bb))))(h1:k0<k)(h2:k<(PL.length:Int))(h3:¬(Tm+1<(ss.length:Int)))(ha:cB PL k=some pd)(hg:sI q [.d hd,.d pd,fm c,.d (.ref n)] ⟨T,H⟩=some (.ok (rd (.bl true)) ⟨T,H⟩)):
  ∃b7,yK q (gz hd PL c Tm b k0 (d6 k n) a7) ⟨T,H⟩=some (.nx (gz hd PL c Tm b k (d6 k n) b7) ⟨T,H⟩):=by
 have e1:=W3 (hd:=hd) (PL:=PL) (c:=c) (Tm:=Tm) (b:=b) (k0:=k0) (k:=k) (q:=q) (T:=T) (a7:=a7) hL;have e2:=W5 (hd:=hd) (c:=c) (b:=b) (T:=T) (a7:=a7) hL h1 h2 (by rw[aW];exact h3)
 obtain⟨b7,e3⟩:=W7 (hd:=hd) (PL:=PL) (c:=c) (Tm:=Tm) (b:=b) (k:=k) (q:=q) (T:=T) (a7:=a7) hL;have e4:=W6 (Tm:=Tm) (b:=b) (a7:=b7) ha hg;refine⟨b7,?_⟩;rw[UJ];simp only[↓ev,gz,d6,e1,e2,aK,e3,e4]
end
theorem UK(ok:dc h)(hn:n<=200)(wy:sx h P aa n ys){q b0:Nat}(hq:qf q)(hx:∀x∈d9 b0 ys,H[x.1]?=some (.o (.lst (lK (x.2.2,aa))))):
  ∃b6 b7,aF (ao 6) (yK q) ((d9 b0 ys).map yj) (gz (bf h) (P.map aG) aa n b (-1) none none) ⟨T,H⟩=some (.nx (gz (bf h) (P.map aG) aa n b (jx ys) b6 b7) ⟨T,H⟩):=by
 have hs:=Cq b0 ys;obtain⟨U',S',e,b6,b7,rfl,rfl⟩:=ir (ao 6) (yK q) yj ⟨T,H⟩ (U:=gz (bf h) (P.map aG) aa n b (-1) none none) (λpre U S=>∃b6 b7,U=gz (bf h) (P.map aG) aa n b (jx (pre.map (·.2))) b6 b7/\S=⟨T,H⟩) (d9 b0 ys) ⟨none,none,rfl,rfl⟩ (by
  rintro d x r ey U S ⟨b6,b7,rfl,rfl⟩;have Nr:ys=d.map (·.2)++x.2::r.map (·.2):=by rw[<-hs,ey,gq,c_]
  have my:x.2∈ys:=by rw[Nr];simp
  obtain⟨p,l,e1,e2,e3,e4,e5⟩:=wy.el x.2 my;have up:=wy.up;rw[Nr] at up;have k1:=RK up;rw[gq,k_,Ep];obtain⟨hk,_⟩:=cK.mp e2;have hL:=hx x (by rw[ey];simp)
  rw[<-X8] at hL;have hg:sI q [.d (bf h),.d (aG p),fm aa,.d (.ref x.1)] ⟨T,H⟩=some (.ok (rd (.bl true)) ⟨T,H⟩):=by
   rw[e1] at e3 e4 e5 hL;exact UC hq ok e4 e5 (by lia) hL
  have ha:cB (P.map aG) (x.2.1:Int)=some (aG p):=kO (by rw[gn,e2];rfl)
  obtain⟨c7,st⟩:=Ih (Tm:=(n:Int)) (b:=b) (a7:=b7) hL k1 (by rw[aW];lia) (by unfold j6;rw[b_,aW,iW];lia) ha hg
  exact⟨_,_,_,rfl,.inl st,_,c7,rfl,rfl⟩)
 rw[hs] at e;exact⟨b6,b7,e⟩
theorem W8(ok:dc h)(hn:n<=200)(hP:P.length<=20)(wy:sx h P aa n ys){W:List Wy}(tw:TW H b W)(eW:W.map rZ=ys.map (n_ aa)):
  BN 0 [.d (bf h),.d (.lst (P.map aG)),fm aa,jC n,.d (.ref b)] ⟨T,H⟩=some (.ok (rd (.bl true)) ⟨T,H⟩):=by
 have hx:=JX aa (b+1) W ys eW tw.f;have hw:=tw.w;rw[MR aa (b+1) W ys eW] at hw;obtain⟨b6,b7,e1⟩:=UK ok hn wy (q:=b+3) (b:=b) (T:=T) NX hx;have hl:ys.length<=P.length:=WZ wy.up λy m=>by
  obtain⟨p,l,_,e2,_⟩:=wy.el y m;exact(cK.mp e2).1
 have hs:=Km aa n ys λy m=>by
  obtain⟨p,l,_,_,e3,_⟩:=wy.el y m;exact e3
 have p_:ys.length*n<=20*200:=Nat.mul_le_mul (by lia) hn
 have em:((d9 (b+1) ys).map λx=>(x.1,((x.2.2,aa):nH))).map (·.2)=ys.map λy=>(y.2,aa):=by
  conv=>rhs;rw[<-Cq (b+1) ys,kL]
  rw[kL];rfl
 have e2:=OQ (T:=T) ((d9 (b+1) ys).map λx=>(x.1,((x.2.2,aa):nH))) (λz m=>by
  obtain⟨x,mx,rfl⟩:=dF.mp m;exact hx x mx) (by rw[em];exact wy.tg) (by rw[em];lia)
 rw[kL] at e2;have e2:yO 0 [.d (.lst ((d9 (b+1) ys).map λx=>D.ref x.1))] _=_:=e2
 have zl:(d9 (b+1) ys).length=ys.length:=by
  have:=congrArg List.length (Cq (b+1) ys);rw[aW] at this;exact this
 have e3:∀q,bx (ao 0) (f7 true) (D7 q) ((d9 (b+1) ys).map yj) [none] ⟨T,H⟩ []=some (.ok ((d9 (b+1) ys).map λx=>D.ref x.1) ⟨T,H⟩):=λq=>
  qM (λx=>D.ref x.1) (d9 (b+1) ys) (by lia) λx m=>⟨rd (.ref x.1),by unfold D7;simp only[↓ev,aK],rfl⟩
 generalize(d9 (b+1) ys).map yj=L at *;generalize((d9 (b+1) ys).map λx=>D.ref x.1)=L2 at *
 unfold BN;simp only[↓ev,hw,aK,zK,e1,gz,e3,e2]
variable{m:Int}
theorem M9(c:Ct):(qP c).d=bQ c:=by unfold qP bQ;simp[TK.d,TK.dl]
theorem M_(a b:Ct):cj (bQ a) (bQ b)=decide (a=b):=by
 rw[<-M9,<-M9,za];exact decide_eq_decide.mpr ⟨E1,λe=>by rw[e]⟩
theorem zj{c:Ct}:bR 40 (bQ c)=true:=rfl
theorem Cr{cs:List Ct}:(cs.map bQ).all (bR 40)=true:=by
 rw[yr,gF];exact λx _=>zj
theorem MS(c:Ct)(C:List Ct):((C.map bQ).any λz=>cj z (bQ c))=decide (c∈C):=by
 rw[List.any_map,qj,yp,decide_eq_true_eq];constructor
 .rintro⟨x,h1,h2⟩;have h2:cj (bQ x) (bQ c)=true:=h2;rw[M_] at h2;rw[<-pI h2];exact h1
 .intro m;refine⟨c,m,?_⟩;show cj (bQ c) (bQ c)=true;rw[M_];exact eP rfl
theorem MT(q:Pl)(bs:List Pl):((bs.map aG).any λz=>cj z (bb (.inr q)))=decide (q∈bs):=by
 have e:=zw (.inr q) (bs.map .inr);rw[zg] at e;rw[e,qj,cH,decide_eq_true_eq,dF];exact⟨λ⟨x,h1,h2⟩=>by cases h2;exact h1,λh=>⟨q,h,rfl⟩⟩
theorem zB{bs:List Pl}:(bs.map aG).all (bR 40)=true:=by
 rw[<-zg];exact iJ
theorem MU{q:Pl}:nY (bb (.inr q)) (.tup [.int m])=some (rd (bQ (at' q m))):=rfl
section
variable{hd PL:D}{aa:Str}{Tm m:Int}{C:List Ct}{b2:Nat}{T H:List Cell}{a5 a6 a9 a10:ah Val}{bs:List Pl}
abbrev lM(hd PL:D)(aa:Str)(Tm:Int)(b2:Nat)(a5 a6:ah Val)(m:Int)(cb:Nat)(a9 a10:ah Val):Gm:=[ax hd,ax PL,dI aa,bN Tm,ax (.ref b2),a5,a6,bN m,bF cb,a9,a10]
abbrev lO(T H:List Cell)(bs:List Pl):ba:=⟨T++[.o (.lst (bs.map aG))],H⟩
theorem UL{y:Str}(hy:y≠aa):xf 0 (lM hd PL aa Tm b2 a5 a6 m T.length a9 (ax (bb (.inl y)))) (lO T H bs)=some (.nx (lM hd PL aa Tm b2 a5 a6 m T.length a9 (ax (bb (.inl y)))) (lO T H bs)):=by
 have e1:cj (bb (.inl y)) (.str aa)=false:=by
  have:=uN (.inl y) (.inl aa);rw[eC λz=>hy (Sum.inl.inj z)] at this
  exact this
 unfold xf;simp only[↓ev,lM,lO,kc,gb,aK,e1,FL]
theorem W9(hC:H[b2]?=some (.o (.lst (C.map bQ))))(hl:bs.length<1000)(q:Pl):∃kx,((kx=bs)\/(kx=bs++[q]/\q∉bs/\at' q m∉C))/\xf 0 (lM hd PL aa Tm b2 a5 a6 m T.length a9 (ax (bb (.inr q)))) (lO T H bs)=some (.nx (lM hd PL aa Tm b2 a5 a6 m T.length a9 (ax (bb (.inr q)))) (lO T H kx)):=by
 have e1:cj (bb (.inr q)) (.str aa)=false:=by
  have:=uN (.inr q) (.inl aa);rw[eC λz=>by cases z] at this
  exact this
 have e2:=MT q bs;have e3:=MS (at' q m) C;have c1:((bs.map aG).length<1000000)=True:=cg (by rw[aW];lia)
 unfold xf lO;by_cases h1:q∈bs
 .refine⟨bs,.inl rfl,?_⟩;rw[eP h1] at e2;simp only[↓ev,lM,kc,gb,aK,e1,qJ,zB,e2]
 .rw[eC h1] at e2;by_cases h2:at' q m∈C
  .refine⟨bs,.inl rfl,?_⟩;rw[eP h2] at e3;simp only[↓ev,lM,kc,gb,aK,e1,qJ,zB,e2,MU,zA,hC,zj,Cr,e3]
  .refine⟨bs++[q],.inr ⟨rfl,h1,h2⟩,?_⟩;rw[eC h2] at e3;rw[gq,k_,show aG q=bb (.inr q) from rfl];simp only[↓ev,lM,kc,gb,aK,e1,qJ,zB,e2,MU,zA,hC,zj,Cr,e3,c1]
end
section
variable{h:av}(ok:dc h){P:List Pl}(nd:P.Nodup)(vq:∀p,p∈P->VP h p){aa:Str}(C:List Ct)
def Bh(h:av)(C:List Ct)(now:List Pl)(m:Int)(bs:List Pl):Prop:=bs.Nodup/\∀q,q∈bs->(∃p,p∈now/\q∈d5 h p)/\at' q m∉C
include ok in
theorem W_{now:List Pl}{bs:List Pl}(v:∀p,p∈now->VP h p)(b:Bh h C now m bs):bs.length<=30:=zy ok b.1 λq mq=>by
 obtain⟨⟨p,mp,g⟩,_⟩:=b.2 q mq;exact B' ok (v p mp) g
variable{T H:List Cell}{b2:Nat}(hC:H[b2]?=some (.o (.lst (C.map bQ))))
include ok hC in
theorem RL{PL:D}{Tm:Int}{now:List Pl}(v:∀p,p∈now->VP h p){p:Pl}(mp:p∈now)(hc:¬df (.inl aa) (eJ h p)=true){a5 a6:ah Val}(a10:ah Val)(bs:List Pl)(b:Bh h C now m bs):
  ∃kx d_,Bh h C now m kx/\yX 0 (lM (bf h) PL aa Tm b2 a5 a6 m T.length (ax (aG p)) a10) (lO T H bs)=some (.nx (lM (bf h) PL aa Tm b2 a5 a6 m T.length (ax (aG p)) d_) (lO T H kx)):=by
 have vp:=v p mp;have ml:=CF ok vp;obtain⟨U',S',e,kx,d_,b',rfl,rfl⟩:=ir (ao 10) (xf 0) bb (lO T H bs) (U:=lM (bf h) PL aa Tm b2 a5 a6 m T.length (ax (aG p)) a10) (λ_ U S=>∃kx d_,Bh h C now m kx/\U=lM (bf h) PL aa Tm b2 a5 a6 m T.length (ax (aG p)) d_/\S=lO T H kx) ([.inr p]++gd h (.inr p)) ⟨bs,a10,b,rfl,rfl⟩ (by
  rintro d x r eq U S ⟨kx,d_,b',rfl,rfl⟩;have mx:x∈eJ h p:=by
   have:x∈([.inr p]++gd h (.inr p):List Sp):=by rw[eq];simp
   unfold eJ;rw[dD] at this ⊢;exact this.symm
  have nx:x≠.inl aa:=λz=>hc (cH.mpr (by rw[<-z];exact mx))
  cases x with
  |inl y=>exact⟨_,_,_,rfl,.inl (UL λz=>nx (by rw[z])),kx,_,b',rfl,rfl⟩
  |inr q=>
   obtain⟨Qb,hb,e⟩:=W9 (hd:=bf h) (PL:=PL) (aa:=aa) (Tm:=Tm) (m:=m) (T:=T) (a5:=a5) (a6:=a6) (a9:=ax (aG p)) hC (bs:=kx) (by have:=W_ ok C v b';lia) q
   refine⟨_,_,_,rfl,.inl e,Qb,_,?_,rfl,rfl⟩;rcases hb with rfl|⟨rfl,h1,h2⟩
   .exact b'
   .refine⟨k8.mpr ⟨b'.1,by simp,λa ma c mc z=>?_⟩,λy my=>?_⟩
    .rw[dW] at mc;subst mc z;exact h1 ma
    .rcases dD.mp my with my|my
     .exact b'.2 y my
     .rw[dW] at my;subst my;exact⟨⟨p,mp,dk.mpr mx⟩,h2⟩)
 refine⟨kx,d_,b',?_⟩;have ee:∀S,qx 0 [.d (bf h),.d (aG p)] S=some (.ok (.o (.lst ((gd h (.inr p)).map bb))) S):=λS=>by
  obtain⟨n,c⟩:=p;obtain⟨b,hb,e,_⟩:=vp;dsimp only at e;subst e;rw[EX ok.fwd hb];exact EB ok hb c 0 Hy S
 have l2:(1+((gd h (.inr p)).map bb).length<=1000000)=True:=cg (by unfold eJ at ml;rw[b_] at ml;rw[aW];lia)
 have e:aF _ _ (aG p::(gd h (.inr p)).map bb) _ _=_:=e;generalize(gd h (.inr p)).map bb=ms at *;unfold yX;simp only[↓ev,lM,lO,aK,ee,l2,e]
end
section
variable{h:av}(ok:dc h){P:List Pl}(nd:P.Nodup)(vq:∀p,p∈P->VP h p){aa:Str}{C:List Ct}{T H:List Cell}{b2:Nat}(hC:H[b2]?=some (.o (.lst (C.map bQ))))
include hC in
theorem RM(hP:P.length<=1000):∀q,bx (ao 0) (Ee q) (Ef q) (P.map aG) [none,ax (.ref b2)] ⟨T,H⟩ []=some (.ok ((P.filter λp => !decide (at' p 0∈C)).map aG) ⟨T,H⟩):=λq=>by
 rw[uS (λp:Pl=>if(!decide (at' p 0∈C))=true then some (aG p) else none) P (by lia) λp m=>?_,xm]
 have e3:=MS (at' p 0) C;unfold Ee Ef;cases hb:decide (at' p 0∈C) with
 |true=>
  rw[hb] at e3;exact .inl ⟨rfl,by simp only[↓ev,Fl,Fm,Fo,aK,FA,zA,hC,zj,Cr,e3]⟩
 |false=>
  rw[hb] at e3;exact .inr ⟨rd (aG p),aG p,rfl,by simp only[↓ev,Fl,Fm,Fo,aK,FA,zA,hC,zj,Cr,e3],by simp only[↓ev],rfl⟩
abbrev yf(hd PL:D)(aa:Str)(Tm:Int)(b2:Nat)(v5:Val)(cs:Nat)(a7 a8 a9 a10:ah Val):Gm:=[ax hd,ax PL,dI aa,bN Tm,ax (.ref b2),some v5,bF cs,a7,a8,a9,a10]
theorem UM{hd PL:D}{Tm:Int}{v5:Val}{cs:Nat}{now bs:List Pl}{ss:List D}{a8 a9 a10 b9 d_:ah Val}{k:Int}(hs:T[cs]?=some (.o (.lst ss)))(hl:ss.length<1000000)(hv:∀L,l8 true ⟨T++L,H⟩ (.v v5)=some (.ok (0,.lst (now.map aG)) ⟨T++L,H⟩))
  (e:aF (ao 9) (yX 0) (now.map aG) [ax hd,ax PL,dI aa,bN Tm,ax (.ref b2),some v5,bF cs,bN k,bF T.length,a9,a10] ⟨T++[.o (.lst [])],H⟩=some (.nx [ax hd,ax PL,dI aa,bN Tm,ax (.ref b2),some v5,bF cs,bN k,bF T.length,b9,d_] (lO T H bs))) :
  B4 0 (yf hd PL aa Tm b2 v5 cs (bN k) a8 a9 a10) ⟨T,H⟩=some (.nx (yf hd PL aa Tm b2 (.c T.length) cs (bN k) (bF T.length) b9 d_) ⟨T.set cs (.o (.lst (ss++[.lst (bs.map aG)])))++[.z (.lst (bs.map aG))],H⟩):=by
 have hc:=(cK.mp hs).1;have h1:∀L,(T++L)[cs]?=some (.o (.lst ss)):=λL=>by rw[gj hc];exact hs
 have h2:∀L x,(T++L).set cs x=T.set cs x++L:=λL x=>List.set_append_left _ _ hc
 have hl:=cg hl;generalize now.map aG=N at *;unfold lO at e;generalize bs.map aG=B at *;unfold B4;simp only[↓ev,aK,yf,hv,e,h1,hl,h2]
include ok nd vq hC in
theorem Xa{n:Nat}(hn:n<=200)(hP:P.length<=20)(sep:Sep h P aa n C):∃ss,Cf 0 [.d (bf h),.d (.lst (P.map aG)),fm aa,jC n,.d (.ref b2)] ⟨T,H⟩=some (.ok (.o (.lst ss)) ⟨T,H⟩):=by
 have e1:=RM (T:=T) hC (P:=P) (by lia)
 generalize Yx:(P.filter λp => !decide (at' p 0∈C))=N0 at e1
 obtain⟨U',S',e2,now,ss,T',v5,a7,a8,a9,a10,hnow,hv,hs,hl,pre,rfl,rfl⟩:=ir (ao 7) (B4 0) (λk:Nat=>D.int (1+(k:Int))) ⟨T++[.o (.lst [.lst (N0.map aG)])],H⟩ (U:=yf (bf h) (.lst (P.map aG)) aa n b2 (.d (.lst (N0.map aG))) T.length none none none none) (λpr U S=>∃(now:List Pl) (ss:List D) (T':List Cell) (v5:Val) (a7 a8 a9 a10:ah Val),(∀p,p∈now->qv h P C pr.length p/\at' p (pr.length:Int)∉C)/\(∀L,l8 true ⟨T'++L,H⟩ (.v v5)=some (.ok (0,.lst (now.map aG)) ⟨T'++L,H⟩))/\T'[T.length]?=some (.o (.lst ss))/\ss.length=pr.length+1/\(∀j,j<T.length->T'[j]?=T[j]?)/\U=yf (bf h) (.lst (P.map aG)) aa n b2 v5 T.length a7 a8 a9 a10/\S=⟨T',H⟩) (List.range n)
  ⟨N0,_,_,_,none,none,none,none,λp mp=>by
   rw[<-Yx] at mp;obtain⟨m1,m2⟩:=gf.mp mp;rw[Bool.not_eq_true',decide_eq_false_iff_not] at m2;exact⟨m1,m2⟩,λ_=>rfl,by rw[gE (bC _),kh];rfl,rfl,λj hj=>gj hj,rfl,rfl⟩ (by
   rintro pr k post ek U S ⟨now,ss,T',v5,a7,a8,a9,a10,Aj,hv,hs,hl,pre,rfl,rfl⟩;obtain⟨k1,k2⟩:=uy ek;subst k1;have vn:∀p,p∈now->VP h p:=λp mp=>(uO ok nd vq pr.length).2 p (xI (Aj p mp).1)
   obtain⟨U2,S2,e,bs,b9,d_,b,rfl,rfl⟩:=ir (ao 9) (yX 0) aG (lO T' H []) (U:=lM (bf h) (.lst (P.map aG)) aa n b2 (some v5) (bF T.length) (1+(pr.length:Int)) T'.length a9 a10) (λ_ U S=>∃bs b9 d_,Bh h C now (1+(pr.length:Int)) bs/\U=lM (bf h) (.lst (P.map aG)) aa n b2 (some v5) (bF T.length) (1+(pr.length:Int)) T'.length b9 d_/\S=lO T' H bs) now ⟨[],a9,a10,⟨wJ,λq z=>by cases z⟩,rfl,rfl⟩ (by
    rintro d p r eq U S ⟨bs,b9,d_,b,rfl,rfl⟩;have mp:p∈now:=by rw[eq];simp
    obtain⟨kx,pW,b',e⟩:=RL ok C (T:=T') hC (PL:=.lst (P.map aG)) (Tm:=(n:Int)) vn mp (sep pr.length k2 p (Aj p mp).1 (Aj p mp).2) (a5:=some v5) (a6:=bF T.length) d_ bs b;exact⟨_,_,_,rfl,.inl e,kx,_,pW,b',rfl,rfl⟩)
   have st:=UM (a8:=a8) hs (by lia) hv e
   have hc:=(cK.mp hs).1;refine⟨_,_,_,rfl,.inl st,bs,ss++[.lst (bs.map aG)],_,_,_,_,_,_,λq mq=>?_,λL=>?_,?_,by rw[b_,b_,hl];rfl,λj hj=>?_,rfl,rfl⟩
   .obtain⟨⟨p,mp,g⟩,nc⟩:=b.2 q mq;rw[b_,iW];refine⟨⟨p,(Aj p mp).1,(Aj p mp).2,g⟩,?_⟩;rw[show((pr.length+1:Nat):Int)=1+(pr.length:Int) by lia]
    exact nc
   .show(i_ _ (.c T'.length)).map _=_;unfold i_;dsimp only;rw[g_,gE (by rw[mE];exact bC _),mE,kh]
    rfl
   .rw[gj (by rw[mE];exact hc),qh hc]
   .rw[gj (by rw[mE];lia),iU (by lia)]
    exact pre j hj)
 refine⟨ss,?_⟩;have e2:aF _ _ (cZ 1 n) _ _=_:=e2;have tn:((n:Int)+1 - 1).toNat=n:=by lia
 rw[show cZ 1 n=cZ 1 ((n:Int)+1 - 1).toNat by rw[tn]] at e2
 have b1:Nat.ble ((n:Int)+1).natAbs 1000000000000=true:=pH (by lia)
 have ec:∀H,ba.cut ⟨T',H⟩ T.length=⟨T,H⟩:=λH=>by
  unfold ba.cut;dsimp only
  congr 1
  refine IB λj=>?_
  by_cases hj:j<T.length
  .rw[DP hj];exact pre j hj
  .rw[List.getElem?_take_eq_none (by lia),DK (by lia)]
 generalize N0.map aG=N1 at *;generalize(n:Int)=ni at *;unfold Cf;simp only[↓ev,e1,aK,zF,b1,e2,yf,hs,ec]
end
variable{n:Nat}{C:List Ct}
theorem M'(c:Ct):bQ c=.tup [.str c.1,.int c.2.1,.int c.2.2]:=rfl
theorem UN(c:Ct):Pr uo [.d (bQ c),jC 3] (rd (.bl true)):=by
 intro q S;have e:∀q S,bx (ao 0) (f7 true) (yN q) [.int c.2.1,.int c.2.2] [none] S []=some (.ok [.bl true,.bl true] S):=λq S=>by
  rw[show[D.int c.2.1,D.int c.2.2]=[c.2.1,c.2.2].map D.int from rfl,qM (λ_=>D.bl true) [c.2.1,c.2.2] (by show 2<=1000000;lia) λx m=>⟨rd (.bl true),by
   have e1:=zh x;unfold yN;simp only[↓ev,e1],rfl⟩]
  rfl
 have e5:cutD [D.str c.1,.int c.2.1,.int c.2.2] (some 1) none=[.int c.2.1,.int c.2.2]:=rfl;have hs:(HT.bW 3 0 (some 1)=0/\HT.bW 3 3 none=3)=False:=eq_false (by decide)
 have c2:(((3:Nat):Int) == 3)=true:=rfl;have b:dO [D.bl true,D.bl true]=some [true,true]:=rfl;rw[M'];unfold uo;simp only[↓ev,aK,c2,hs,e5,e,b]
structure BE (h:av) (P:List Pl) (aa:Str) (n:Nat) (C:List Ct):Prop where
 nd:C.Nodup
 el:∀c,c∈C->∃(p:Pl) (m:Nat),c=at' p (m:Int)/\VP h p
 sp:Sep h P aa n C
theorem Ko{h:av}(ok:dc h){P:List Pl}(nd:P.Nodup)(v:∀p,p∈P->VP h p){aa:Str}{W:List D}(td:Told h P aa n W C):BE h P aa n C/\W.length=C.length:=by
 obtain⟨k1,k2⟩:=Ru ok nd v td;obtain⟨pl,N,N',l,g8,t,F,ms,me,cl,pr,hC⟩:=td.ex;refine⟨⟨by rw[hC];exact(Fs ok nd v n).filter _,λc mc=>?_,k1⟩,k2⟩
 rw[hC] at mc;obtain⟨m,_,p,hp,e⟩:=dR.mp (gf.mp mc).1;exact⟨p,m,e,(uO ok nd v m).2 p hp⟩
section
variable{s0 s1 s2 s3 s4:ah Val}{cs:List Sp}{q:Nat}{S:ba}
abbrev sV(s0 s1 s2 s3 s4:ah Val)(cs:List Sp)(a6:ah Val):Gm:=[s0,s1,s2,s3,s4,ax (.lst (cs.map bb)),a6]
theorem UO{p:Pl}(m:Nat)(hp:.inr p∈cs):yL q (sV s0 s1 s2 s3 s4 cs (ax (bQ (at' p (m:Int))))) S=some (.nx (sV s0 s1 s2 s3 s4 cs (ax (bQ (at' p (m:Int))))) S):=by
 have e1:=UN (at' p (m:Int));have ec:=M' (at' p (m:Int));have e5:((m:Int)<0)=False:=eq_false (by lia)
 have e6:cutD [D.str p.1,.int p.2,.int (m:Int)] none (some 2)=[.str p.1,.int p.2]:=rfl;have hs:(HT.bW 3 0 none=0/\HT.bW 3 3 (some 2)=3)=False:=eq_false (by decide)
 have e3:=zw (.inr p) cs;rw[cH.mpr hp] at e3;have e3:(cs.map bb).any (λz=>cj z (.tup [.str p.1,.int p.2]))=true:=e3
 have ek:bR 40 (.tup [.str p.1,.int p.2])=true:=rfl;have Yc:(cs.map bb).all (bR 40)=true:=iJ;rw[ec] at e1 ⊢;unfold at' at e1 ⊢;dsimp only at e1 ⊢;unfold sV;generalize(m:Int)=mi at *;generalize cs.map bb=L at *;unfold yL;simp only[↓ev,e1,aK,hs,e6,Yc,e3,e5]
theorem UP(hC:∀c,c∈C->∃(p:Pl) (m:Nat),c=at' p (m:Int)/\.inr p∈cs):∃b6,aF (ao 6) (yL q) (C.map bQ) (sV s0 s1 s2 s3 s4 cs none) S=some (.nx (sV s0 s1 s2 s3 s4 cs b6) S):=by
 obtain⟨U',S',e,b6,rfl,rfl⟩:=ir (ao 6) (yL q) bQ S (U:=sV s0 s1 s2 s3 s4 cs none) (λ_ U S'=>∃b6,U=sV s0 s1 s2 s3 s4 cs b6/\S'=S) C ⟨none,rfl,rfl⟩ (by
  rintro d c r eq U S' ⟨b6,rfl,rfl⟩;obtain⟨p,m,e,hp⟩:=hC c (by rw[eq];simp)
  subst e;exact⟨_,_,_,rfl,.inl (UO m hp),_,rfl,rfl⟩)
 exact⟨b6,e⟩
end
section
variable{h:av}(ok:dc h){P:List Pl}(nd:P.Nodup)(vq:∀p,p∈P->VP h p){aa:Str}{n:Nat}(hn:n<=200)(hP:P.length<=20){T H:List Cell}{b2:Nat}
include ok nd vq hn hP
theorem Xb(hC:H[b2]?=some (.o (.lst (C.map bQ))))(ct:BE h P aa n C):BO 0 [.d (bf h),.d (.lst (P.map aG)),fm aa,jC n,.d (.ref b2)] ⟨T,H⟩=some (.ok (rd (.bl true)) ⟨T,H⟩):=by
 have e1:=EY ok;obtain⟨ss,e2⟩:=Xa (T:=T) ok nd vq hC hn hP ct.sp;obtain⟨b6,e3⟩:=UP (s0:=ax (bf h)) (s1:=ax (.lst (P.map aG))) (s2:=dI aa) (s3:=bN n) (s4:=ax (.ref b2)) (cs:=eR h.aq) (q:=b2+3) (S:=⟨T,H⟩) (C:=C) λc mc=>by
  obtain⟨p,m,e,vp⟩:=ct.el c mc;obtain⟨b,hb,eb,p0,p1⟩:=vp;exact⟨p,m,e,jy.mpr ⟨b,hb,p.2,by rw[eb],p0,p1⟩⟩
 unfold sV at e3;unfold lS at e1;generalize C.map bQ=Cd at *;generalize(eR h.aq).map bb=Ls at *;unfold BO;simp only[↓ev,e1,aK,hC,zK,e3,e2]
end
section
variable{h:av}(ok:dc h){P:List Pl}(nd:P.Nodup)(vq:∀p,p∈P->VP h p){aa:Str}{T H:List Cell}{b1 b2:Nat}
theorem UQ(h1:H[b1]?=some (.o (.lst [])))(h2:H[b2]?=some (.o (.lst []))):nQ 0 [.d (bf h),.d (.lst []),fm aa,.d (.tup [.int 0,.ref b1,.ref b2])] ⟨T,H⟩=some (.ok (rd (.bl true)) ⟨T,H⟩):=by
 have e1:=zh 0;have c2:(((3:Nat):Int) == 3)=true:=rfl;have e2:cj (.lst []) (.lst [])=true:=rfl;have e3:bR 40 (.lst [])=true:=rfl;have s1:List.mapM (j7 ⟨T,H⟩ 1) [.int 0,.ref b1,.ref b2]=some [.int 0,.lst [],.lst []]:=by
  rw[IH,IH,IH,List.mapM_nil];unfold j7;dsimp only;rw[h1,h2];rfl
 have s2:List.mapM (j7 ⟨T,H⟩ 1) [.int 0,.lst [],.lst []]=some [.int 0,.lst [],.lst []]:=rfl;have s3:cj (.tup [.int 0,.lst [],.lst []]) (.tup [.int 0,.lst [],.lst []])=true:=rfl;unfold nQ;simp only[↓ev,aK,c2,e1,e2,s1,s2,s3]
include ok nd vq in
theorem Xc(hn:n<=200)(n1:1<=n)(hP:P.length<=20){W:List Wy}{C':List Ct}(td:Told h P aa n (W.map rZ) C')(hW:W.length=P.length)(tw:TW H b1 W)(hC:H[b2]?=some (.o (.lst (C.map bQ))))(ct:BE h P aa (n - 1) C)(hl:C.length<P.length):
  nQ 0 [.d (bf h),.d (.lst (P.map aG)),fm aa,.d (.tup [.int (n:Int),.ref b1,.ref b2])] ⟨T,H⟩=some (.ok (rd (.bl true)) ⟨T,H⟩):=by
 obtain⟨ys,wy,eW⟩:=Eo ok nd vq td;have e1:=zh (n:Int);have e2:=W8 (T:=T) ok hn hP wy tw eW;have e3:=Xb (T:=T) ok nd vq (n:=n - 1) (by lia) hP hC ct
 rw[show((n - 1:Nat):Int)=(n:Int) - 1 by lia] at e3
 have c2:(((3:Nat):Int) == 3)=true:=rfl;have hw:=tw.w;have lW:((bY (b1+1) W).length:Int)=((P.map aG).length:Int):=by rw[Cn,aW,hW]
 have e4:cj (.lst (P.map aG)) (.lst [])=false:=by
  cases P with
  |nil=>cases hl
  |cons p P=>rfl
 have e5:bR 40 (.lst (P.map aG))=true:=by show(P.map aG).all (bR 39)=true;rw[<-zg];exact Fe 38 _
 have e6:bR 40 (.lst [])=true:=rfl;have p1:((n:Int)<0)=False:=eq_false (by lia)
 have p2:((n:Int) > 0)=True:=cg (by lia)
 have p3:(((C.map bQ).length:Int)<((P.map aG).length:Int))=True:=cg (by rw[aW,aW];lia)
 generalize(n:Int)=ni at *;generalize C.map bQ=Cd at *;generalize bY (b1+1) W=Wd at *;generalize P.map aG=L at *;unfold nQ;simp only[↓ev,aK,c2,e1,p1,e5,e4,e2,hw,lW,p2,e3,hC,p3]
end
variable{aa n:Str}{kn:List (Str×Int)}{outs:List Str}{v:Int}{b:aM}{p:Pl}
theorem Jp{aB:List Str}{bs:List aM}:∀{pre:List aM},iR aB (pre++bs)->iR aB bs
 |[],f=>f
 |_::pre,f=>Jp (pre:=pre) f.2.2.2
theorem Qn{α:Type}(e:TK×α)(es:List (TK×α))(k:TK)(v:α):cn (e::es) k v=if e.1=k then(e.1,v)::es else e::cn es k v:=rfl
noncomputable def qc(kn:List (Str×Int)):List (TK×D):=kn.map λp=>(.inr p.1,.int p.2)
noncomputable def atS(kn:List (Str×Int))(n:Str):ah Int:=(kn.find? λp=>p.1 == n).map (·.2)
theorem LO(x:Str):atS [] x=none:=rfl
theorem sJ(k:Str)(v:Int)(kn:List (Str×Int))(x:Str):atS ((k,v)::kn) x=if k=x then some v else atS kn x:=by
 grind [atS]
theorem Cs(k:Str)(v:Int)(x:Str):∀kn:List (Str×Int),atS (kn++[(k,v)]) x=(atS kn x).or (if k=x then some v else none)
 |[]=>by rw[wK,sJ,LO,Option.none_or]
 |(k',v')::kn=>by
  rw[List.cons_append,sJ,sJ,Cs k v x kn];split
  .rfl
  .rfl
theorem E6(x:Str):∀kn:List (Str×Int),bt (qc kn) (.inr x)=(atS kn x).map .int
 |[]=>rfl
 |(k,v)::kn=>by
  have ih:=E6 x kn
  grind [sJ,bt,qc]
theorem Zz{a:TK}{y:D}:cn [] a y=[(a,y)]:=rfl
theorem LP:∀(kn:List (Str×Int)) (k:Str) (v:Int),atS kn k=none->cn (qc kn) (.inr k) (.int v)=qc (kn++[(k,v)])
 |[],_,_,_=>rfl
 |(k',v')::kn,k,v,h=>by
  rw[sJ] at h;have e:¬k'=k:=λz=>by rw[aU z] at h;cases h
  rw[aO e] at h;show cn ((TK.inr k',D.int v')::qc kn) (.inr k) (.int v)=(TK.inr k',D.int v')::qc (kn++[(k,v)]);rw[<-LP kn k v h,Qn,aO (λz=>e (TK.inr.inj z))]
def dN(kn:List (Str×Int))(outs:List Str):List Int:=outs.filterMap (atS kn)
def bw(aa:Str):List aM->List (Str×Int)
 |[]=>[(aa,0)]
 |b::bs=>if dN (bw aa bs) b.outs=[] then bw aa bs else bw aa bs++[(b.name,b.long+eZ (dN (bw aa bs) b.outs))]
theorem Kp(aa:Str):∀bs:List aM,(bw aa bs).length<=bs.length+1
 |[]=>bC _
 |b::bs=>by
  have:=Kp aa bs;unfold bw;split
  .rw[dg];lia
  .rw[b_,iW,dg];lia
theorem Cu{aa:Str}:∀{bs:List aM} {n:Str},n≠aa->n∉bs.map aM.name->atS (bw aa bs) n=none
 |[],n,h1,_=>by
  show atS [(aa,0)] n=none
  grind [sJ,LO]
 |b::bs,n,h1,h2=>by
  rw[c_] at h2;have h3:n≠b.name:=λz=>h2 (by rw[z];exact .head _)
  have ih:=Cu (aa:=aa) (bs:=bs) h1 λz=>h2 (.tail _ z)
  unfold bw;split
  .exact ih
  .rw[Cs,ih,aO (λz=>h3 z.symm)];rfl
theorem UR(kn:List (Str×Int)):∀outs:List Str,(outs.filterMap λo=>(atS kn o).map D.int)=(dN kn outs).map D.int
 |[]=>rfl
 |o::outs=>by
  grind [dN]
abbrev jY(S:ba)(kn:List (Str×Int)):ba:=⟨S.s++[.o (.aP (qc kn))],S.r⟩
section
variable{S:ba}{kn:List (Str×Int)}{outs:List Str}{g0 g1 a7:ah Val}{x:aM}
theorem Kq(q:Nat)(h:outs.length<=1000):bx (ao 0) (Ec q) (Ed q) (dS outs) [none,bF S.s.length] (jY S kn) []=some (.ok ((dN kn outs).map D.int) (jY S kn)):=by
 rw[dS,uS (λo=>(atS kn o).map D.int) outs (by lia) λo m=>by
  have v:=E6 o kn;unfold Ec Ed;cases hc:atS kn o with
  |some w=>
   rw[hc] at v;exact .inr ⟨rd (.int w),.int w,rfl,by simp only[↓ev,aK,v,Option.isSome_some],by simp only[↓ev,aK,v],rfl⟩
  |none=>
   rw[hc] at v;exact .inl ⟨rfl,by simp only[↓ev,aK,v,Option.isSome_none]⟩,UR]
theorem Xd(ho:x.outs.length<=1000)(hb:dN kn x.outs=[]):w_ 0 [g0,g1,bF S.s.length,dI x.name,bN x.long,ax (.bl x.ring),ax (.lst (dS x.outs)),a7] (jY S kn)=some (.nx [g0,g1,bF S.s.length,dI x.name,bN x.long,ax (.bl x.ring),ax (.lst (dS x.outs)),ax (.lst [])] (jY S kn)):=by
 have e:=λq=>Kq (S:=S) (kn:=kn) q ho
 rw[hb] at e;unfold w_;simp only[↓ev,e,aK]
theorem US(ho:x.outs.length<=1000){i:Int}{is:List Int}(hb:dN kn x.outs=i::is)(hn:atS kn x.name=none)(hl:((qc kn).length<1000000)=True):w_ 0 [g0,g1,bF S.s.length,dI x.name,bN x.long,ax (.bl x.ring),ax (.lst (dS x.outs)),a7] (jY S kn)=some (.nx [g0,g1,bF S.s.length,dI x.name,bN x.long,ax (.bl x.ring),ax (.lst (dS x.outs)),ax (.lst ((i::is).map D.int))] (jY S (kn++[(x.name,x.long+eZ (i::is))]))):=by
 have e:=λq=>Kq (S:=S) (kn:=kn) q ho
 rw[hb] at e;have p:=LP kn x.name (x.long+eZ (i::is)) hn;have z:((i::is).map D.int).isEmpty=false:=rfl;have m:=Ei (i::is);have ne:((i::is)=[])=False:=eq_false (IG _ _);generalize(i::is).map D.int=l at *;unfold w_;simp only[↓ev,e,aK,z,m,ne,hl,p]
theorem RN{h:av}(ok:dc h)(hc:aa∈h.aB):P0 Ce [.d (bf h),fm aa] (.o (.aP (qc (bw aa h.aq)))):=by
 intro S;have bl:=ok.bl;have f:=ok.fwd;refine kY λkz=>?_
 obtain⟨U',S',e,a3,a4,a5,a6,a7,rfl,rfl⟩:=ir (dX [(ao 3),(ao 4),(ao 5),(ao 6)]) (w_ 0) aT (jY S (bw aa [])) (U:=[ax (bf h),dI aa,bF S.s.length,none,none,none,none,none]) (λpre U S'=>∃a3 a4 a5 a6 a7,U=[ax (bf h),dI aa,bF S.s.length,a3,a4,a5,a6,a7]/\S'=jY S (bw aa pre.reverse)) h.aq.reverse ⟨none,none,none,none,none,rfl,rfl⟩ (by
  rintro q x post eq U S' ⟨a3,a4,a5,a6,a7,rfl,rfl⟩;have eb:h.aq=post.reverse++x::q.reverse:=by
   have:=congrArg List.reverse eq;rw[List.reverse_reverse,List.reverse_append,List.reverse_cons,g_] at this;exact this
  have fx:iR h.aB (x::q.reverse):=Jp (by rw[<-eb];exact f)
  have ho:x.outs.length<=1000:=by
   have:=(ok.bk x (by rw[eb];simp)).ol
   lia
  have hn:atS (bw aa q.reverse) x.name=none:=Cu (λz=>fx.2.2.1 (z ▸ hc)) fx.2.1
  have hl:(bw aa q.reverse).length<=1000:=by
   have h1:=Kp aa q.reverse;have h2:=congrArg List.length eb;rw[b_,dg] at h2;lia
  rw[List.reverse_append,List.reverse_singleton,List.singleton_append];have Yb:bw aa (x::q.reverse)=if dN (bw aa q.reverse) x.outs=[] then bw aa q.reverse else bw aa q.reverse++[(x.name,x.long+eZ (dN (bw aa q.reverse) x.outs))]:=by
   rfl
  rw[Yb];generalize bw aa q.reverse=kn at *;cases hb:dN kn x.outs with
  |nil=>exact⟨_,_,_,rfl,.inl (Xd ho hb),_,_,_,_,_,rfl,by rw[aU rfl]⟩
  |cons i is=>exact⟨_,_,_,rfl,.inl (US ho hb hn (cg (by unfold qc;rw[aW];lia))),_,_,_,_,_,rfl,by rw[aO (IG _ _)]⟩)
 rw[List.reverse_reverse,List.map_reverse,show jY S (bw aa [])=⟨S.s++[.o (.aP [(.inr aa,.int 0)])],S.r⟩ from rfl] at e;have hD:bf h=.tup [.lst (h.aq.map aT),.lst (dS h.aB)]:=rfl;have tl:∀c:Cell,(S.s++[c]).take S.s.length=S.s:=λc=>Iz
 refine kz ?_;rw[hD] at e ⊢;unfold Ce;simp only[↓ev,aK,Bz,Zz,List.foldl_nil,tl,e]
end
theorem BY{x:aM}{bs:List aM}(h:n≠x.name):atS (bw aa (x::bs)) n=atS (bw aa bs) n:=by
 conv=>lhs;unfold bw
 split
 .rfl
 .rw[Cs,aO (λz=>h z.symm),Option.or_none]
theorem Jq{kn':List (Str×Int)}(h:∀o∈outs,atS kn o=atS kn' o):dN kn outs=dN kn' outs:=by
 unfold dN
 induction outs with
 |nil=>rfl
 |cons o outs ih=>
  have:=ih λz hz=>h z (.tail _ hz)
  rw[Bs,Bs,h o (.head _),this]
theorem LQ{aB:List Str}{aa:Str}(hc:aa∈aB):∀{bs:List aM},iR aB bs->∀b∈bs,atS (bw aa bs) b.name=if dN (bw aa bs) b.outs=[] then none else some (b.long+eZ (dN (bw aa bs) b.outs))
 |x::bs,f,b,hb=>by
  rcases y06.mp hb with rfl|hb
  .have ho:∀o∈b.outs,o≠b.name:=λo ho z=>by
    rcases f.1 o ho with y|y
    .exact f.2.1 (by rw[<-z];exact y)
    .exact f.2.2.1 (by rw[<-z];exact y)
   have e:=Jq (kn:=bw aa (b::bs)) (kn':=bw aa bs) (outs:=b.outs) λo m=>BY (ho o m)
   rw[e]
   conv=>lhs;unfold bw
   have hn:atS (bw aa bs) b.name=none:=Cu (λz=>f.2.2.1 (by rw[z];exact hc)) f.2.1
   split
   .exact hn
   .rw[Cs,hn,aU rfl];rfl
  .have hn:b.name≠x.name:=λz=>f.2.1 (by rw[<-z];exact yu (f:=aM.name) hb)
   have ho:∀o∈b.outs,o≠x.name:=λo ho z=>by
    rcases Cg f.2.2.2 b hb o ho with y|y
    .exact f.2.1 (by rw[<-z];exact y)
    .exact f.2.2.1 (by rw[<-z];exact y)
   have e:=Jq (kn:=bw aa (x::bs)) (kn':=bw aa bs) (outs:=b.outs) λo m=>BY (ho o m)
   rw[e,BY hn];exact LQ hc f.2.2.2 b hb
theorem LR{aB:List Str}{aa:Str}(hc:aa∈aB):∀{bs:List aM},iR aB bs->atS (bw aa bs) aa=some 0
 |[],_=>by show atS [(aa,0)] aa=some 0;rw[sJ,aU rfl]
 |x::bs,f=>by rw[BY (λz=>f.2.2.1 (by rw[<-z];exact hc))];exact LR hc f.2.2.2
theorem RO{aB:List Str}{c:Str}{bs:List aM}(f:iR aB bs)(hc:c∈aB)(h:c≠aa):atS (bw aa bs) c=none:=Cu h (B_ f c hc)
theorem fT:v∈dN kn outs↔∃o∈outs,atS kn o=some v:=wC
theorem E7(e:atS kn n=some v):(n,v)∈kn:=by
 induction kn with
 |nil=>cases e
 |cons a kn ih=>
  obtain⟨k,w⟩:=a;rw[sJ] at e;split at e
  .rename_i q
   cases e;rw[q];exact .head _
  .exact .tail _ (ih e)
theorem MV{aa:Str}:∀{bs:List aM},(∀b∈bs,pK b)->∀p,p∈bw aa bs->0<=p.2/\p.2<=((eR bs).length:Int)
 |[],_,p,m=>by
  rw[show p=(aa,0) from dW.mp m];exact⟨sd 0,sd 0⟩
 |b::bs,hb,p,m=>by
  have ih:=MV (aa:=aa) λx mx=>hb x (.tail _ mx)
  have b0:=(hb b (.head _)).lg;have el:((eR (b::bs)).length:Int)=((eR bs).length:Int)+b.long:=by
   unfold eR;rw[DM,b_];unfold fU;rw[aW,kN];lia
  rw[el];unfold bw at m;split at m
  .have:=ih p m;lia
  .rename_i ne
   rcases dD.mp m with m|m
   .have:=ih p m;lia
   .rw[dW] at m;obtain⟨z1,_⟩:=xg ne;obtain⟨o,_,eo⟩:=fT.mp z1;have:=ih _ (E7 eo);rw[m];dsimp only at *;lia
def ck(h:av)(aa:Str)(p:Pl):ah Int:=(atS (bw aa h.aq) p.1).map λv=>v - p.2
noncomputable def Hr:ah Int->D
 |none=>.aR
 |some v=>.int v
section
variable{h:av}(ok:dc h){aa:Str}(hc:aa∈h.aB)
include ok hc
theorem Na(p:Pl):P0 uM [.d (bf h),.d (aG p),fm aa] (rd (Hr (ck h aa p))):=by
 intro S;have e:=RN ok hc;have v:=E6 p.1 (bw aa h.aq);have ep:aG p=.tup [.str p.1,.int p.2]:=rfl;rw[ep];unfold uM ck;generalize bf h=hd at *;cases hk:atS (bw aa h.aq) p.1 with
 |none=>
  rw[hk] at v;simp only[↓ev,e,aK,v,Option.isSome_none];rfl
 |some w=>
  rw[hk] at v;simp only[↓ev,e,aK,v,Option.isSome_some];rfl
theorem Nb:∀p,p∈bw aa h.aq->0<=p.2/\p.2<=((eR h.aq).length:Int):=MV ok.bk
theorem E8(hb:b∈h.aq):atS (bw aa h.aq) b.name=some v↔dN (bw aa h.aq) b.outs≠[]/\v=b.long+eZ (dN (bw aa h.aq) b.outs):=by
 rw[LQ hc ok.fwd b hb];split
 .rename_i z
  exact⟨λy=>(by cases y),λy=>bG z y.1⟩
 .rename_i z
  exact⟨λy=>(by cases y;exact⟨z,rfl⟩),λy=>(by rw[y.2])⟩
theorem E9(v:VP h p){d:Int}(e:ck h aa p=some d):1<=d/\d<=((eR h.aq).length:Int):=by
 obtain⟨n,c⟩:=p;obtain⟨b,hb,rfl,c0,c1⟩:=v;obtain⟨w,ew,rfl⟩:=cS.mp e;have h1:=Nb ok hc _ (E7 ew);obtain⟨ne,rfl⟩:=(E8 ok hc hb).mp ew;obtain⟨o,_,eo⟩:=fT.mp (xg ne).1;have h2:=Nb ok hc _ (E7 eo);dsimp only at *;lia
theorem LS(hb:b∈h.aq){c:Int}(c0:¬c+1<b.long){o:Str}(ho:o∈b.outs){w:Int}(e:atS (bw aa h.aq) o=some w):∃d,ck h aa (b.name,c)=some d/\d<=w+1:=by
 have m:=fT.mpr ⟨o,ho,e⟩;have ne:dN (bw aa h.aq) b.outs≠[]:=List.ne_nil_of_mem m;refine⟨_,by unfold ck;rw[(E8 ok hc hb).mpr ⟨ne,rfl⟩];rfl,?_⟩
 have:=(xg ne).2 w m;dsimp only;lia
theorem Kr{q:Pl}(v:VP h p)(hq:q∈d5 h p){e:Int}(eq:ck h aa q=some e):∃d,ck h aa p=some d/\d<=e+1:=by
 rw[dk] at hq;obtain⟨n,c⟩:=p;obtain⟨b,hb,rfl,c0,c1⟩:=v;rw[sQ ok hb] at hq;obtain⟨w,ew,rfl⟩:=cS.mp eq;rcases dD.mp hq with hq|hq
 .unfold ff at hq;split at hq
  .rw[dW] at hq;cases hq;exact⟨w - c,by unfold ck;rw[ew];rfl,by dsimp only;lia⟩
  .rename_i hl
   rcases dD.mp hq with hq|hq
   .obtain⟨o,ho,e⟩:=dF.mp hq;split at e
    .cases e
    .cases e;obtain⟨d,h1,h2⟩:=LS ok hc hb hl ho ew;exact⟨d,h1,by dsimp only;lia⟩
   .split at hq
    .rw[dW] at hq;cases hq;exact⟨w - c,by unfold ck;rw[ew];rfl,by dsimp only at *;lia⟩
    .cases hq
 .rw[dW] at hq;cases hq;exact⟨w - c,by unfold ck;rw[ew];rfl,by dsimp only;lia⟩
theorem Ks(v:VP h p)(hq:df (.inl aa) (eJ h p)=true):∃d,ck h aa p=some d/\d<=1:=by
 rw[cH] at hq;obtain⟨n,c⟩:=p;obtain⟨b,hb,rfl,c0,c1⟩:=v;rw[sQ ok hb] at hq;rcases dD.mp hq with hq|hq
 .unfold ff at hq;split at hq
  .rw[dW] at hq;cases hq
  .rename_i hl
   rcases dD.mp hq with hq|hq
   .obtain⟨o,ho,e⟩:=dF.mp hq;split at e
    .cases e;exact LS ok hc hb hl ho (LR hc ok.fwd)
    .cases e
   .split at hq
    .rw[dW] at hq;cases hq
    .cases hq
 .rw[dW] at hq;cases hq
theorem Xe(v:VP h p){d:Int}(e:ck h aa p=some d):df (.inl aa) (eJ h p)=true\/∃q,q∈d5 h p/\ck h aa q=some (d - 1):=by
 obtain⟨n,c⟩:=p;obtain⟨b,hb,rfl,c0,c1⟩:=v;obtain⟨w,ew,rfl⟩:=cS.mp e;dsimp only at *;by_cases hl:c+1<b.long
 .refine .inr ⟨(b.name,c+1),dk.mpr ?_,?_⟩
  .rw[sQ ok hb];unfold ff;rw[aU hl];simp
  .unfold ck;rw[ew];show some _=some _
   congr 1
   dsimp only;lia
 .obtain⟨ne,rfl⟩:=(E8 ok hc hb).mp ew;obtain⟨o,ho,eo⟩:=fT.mp (xg ne).1;have key:∀s,(if h.aB.contains o=true then(.inl o:Sp) else .inr (o,0))=s->s∈eJ h (b.name,c):=λs es=>by
   rw[sQ ok hb];unfold ff;rw[aO hl];exact t_ _ (t_ _ (dF.mpr ⟨o,ho,es⟩))
  by_cases oc:o∈h.aB
  .by_cases z:o=aa
   .refine .inl (cH.mpr (key _ ?_));rw[aU (by simpa using oc),z]
   .rw[RO ok.fwd oc z] at eo;cases eo
  .refine .inr ⟨(o,0),dk.mpr (key _ (aO (by simpa using oc))),?_⟩
   unfold ck;rw[eo];show some _=some _
   congr 1
   dsimp only;lia
end
section
variable{h:av}{P:List Pl}{aa:Str}{n:Nat}{C:List Ct}
theorem LU:∀{w:List Pl} {k j:Nat} {q:Pl},w[j]?=some q->(q,((k+j:Nat):Int))∈eM k w
 |p::w,k,0,q,e=>by
  cases e;exact .head _
 |p::w,k,j+1,q,e=>by
  have:=LU (k:=k+1) (show w[j]?=some q from e);rw[show k+1+j=k+(j+1) by lia] at this
  exact .tail _ this
theorem Kt(s:Sep h P aa n C):∀(w:List Pl) (p:Pl) (t:Nat),qv h P C t p->ue h aa (p::w)->(∀j q,(p::w)[j]?=some q->at' q ((t+j:Nat):Int)∉C)->t+(p::w).length<=n->False
 |[],p,t,z,lk,nc,hl=>s t (by rw[iW] at hl;lia) p z (nc 0 p rfl) lk
 |q::w,p,t,z,lk,nc,hl=>Kt s w q (t+1) ⟨p,z,nc 0 p rfl,lk.1⟩ lk.2 (λj x e=>by
   have:=nc (j+1) x e;rw[show t+(j+1)=t+1+j by lia] at this
   exact this) (by rw[dg] at hl ⊢;rw[dg] at hl;lia)
theorem Ku(aa:Str):∀(ys:List (Nat×List Pl)),(∀y,y∈ys->∃c,c∈eM 0 y.2/\at' c.1 c.2∈C)->∃cs:List lj,cs.Sublist (e_ (ys.map λy=>(y.2,aa)))/\cs.length=ys.length/\∀c,c∈cs->at' c.1 c.2∈C
 |[],_=>⟨[],.slnil,rfl,λc m=>by cases m⟩
 |y::ys,hh=>by
  obtain⟨c,m1,m2⟩:=hh y (.head _);obtain⟨cs,s,l,k⟩:=Ku aa ys λz m=>hh z (.tail _ m)
  refine⟨c::cs,?_,by rw[dg,dg,l],λx m=>?_⟩
  .exact(List.singleton_sublist.mpr m1).append s
  .rcases y06.mp m with rfl|m
   .exact m2
   .exact k x m
theorem RP{ys:List (Nat×List Pl)}(wy:sx h P aa n ys)(s:Sep h P aa n C):ys.length<=C.length:=by
 obtain⟨cs,s1,s2,s3⟩:=Ku aa ys (C:=C) λy m=>kj λz=>by
  obtain⟨p,l,e1,e2,e3,e4,e5⟩:=wy.el y m;rw[e1] at e3 e4;exact Kt s l p 0 (kg e2) e4 (λj q e hm=>z ⟨(q,((0+j:Nat):Int)),by rw[e1];exact LU e,hm⟩) (by lia)
 have nd:(cs.map λc=>at' c.1 c.2).Nodup:=List.Pairwise.map _ (λa b iB e=>iB (by
  have:=lu e;exact Prod.ext this.1 this.2)) (wy.tg.sublist s1)
 have:=nN nd (m:=C) λx m=>by
  obtain⟨c,mc,rfl⟩:=dF.mp m;exact s3 c mc
 rw[aW] at this;lia
theorem RQ{n':Nat}{ys:List (Nat×List Pl)}(wy:sx h P aa n ys)(le:n<=n'):sx h P aa n' ys:=⟨wy.up,λy m=>by
 obtain⟨p,l,e1,e2,e3,e4⟩:=wy.el y m;exact⟨p,l,e1,e2,by lia,e4⟩,wy.tg⟩
structure Sn (h:av) (P:List Pl) (aa:Str) (N:Nat):Prop where
 z:P=[]->N=0
 f:P≠[]->1<=N/\(∃ys,sx h P aa N ys/\ys.length=P.length)/\∃C,Sep h P aa (N - 1) C/\C.length<P.length
theorem Nc{N N':Nat}(a:Sn h P aa N)(b:Sn h P aa N'):N'<=N:=by
 by_cases c:P=[]
 .rw[a.z c,b.z c];exact bC _
 .obtain⟨_,⟨ys,wy,el⟩,_⟩:=a.f c;obtain⟨_,_,C,s,l⟩:=b.f c;refine kj λhn=>?_
  have:=RP (RQ wy (by lia)) s
  lia
theorem Xf{N N':Nat}(a:Sn h P aa N)(b:Sn h P aa N'):N=N':=Nat.le_antisymm (Nc b a) (Nc a b)
theorem LV{W:List D}(td:Told h P aa n W C):W.length<=P.length:=by
 obtain⟨pl,N,N',l,g8,t,F,ms,me,cl,pr,hC⟩:=td.ex;rw[<-Paired.length pr];refine iQ (IL _ _) ?_;have:=congrArg List.length (E4 P 0);rw[aW] at this;lia
variable(ok:dc h)(hc:aa∈h.aB)(vq:∀p,p∈P->VP h p)
include ok hc
theorem LW:∀(w:List Pl) (p:Pl),ue h aa (p::w)->(∀q,q∈p::w->VP h q)->∃d,ck h aa p=some d/\d<=(w.length:Int)+1
 |[],p,lk,v=>by
  obtain⟨d,e,l⟩:=Ks ok hc (v p (.head _)) lk;exact⟨d,e,by rw[nz];lia⟩
 |q::w,p,lk,v=>by
  obtain⟨d,e,l⟩:=LW w q lk.2 λx m=>v x (.tail _ m)
  obtain⟨d',e',l'⟩:=Kr ok hc (v p (.head _)) lk.1 e;exact⟨d',e',by rw[dg];lia⟩
theorem UT{ys:List (Nat×List Pl)}(wy:sx h P aa n ys)(el:ys.length=P.length){p:Pl}(mp:p∈P){d:Int}(e:ck h aa p=some d):d<=(n:Int):=by
 obtain⟨k,hk⟩:=List.getElem?_of_mem mp;obtain⟨y,my,ey⟩:∃y,y∈ys/\y.1=k:=kj λz=>by
  have nd:(ys.map (·.1)).Nodup:=II.mpr (wy.up.imp λh=>iP h)
  have kl:=(cK.mp hk).1;have:=nN nd (m:=(List.range P.length).erase k) λx m=>by
   obtain⟨y,my,rfl⟩:=dF.mp m;obtain⟨_,_,_,e2,_⟩:=wy.el y my;exact(List.mem_erase_of_ne (λq=>z ⟨y,my,q⟩)).mpr (k6.mpr (cK.mp e2).1)
  rw[aW,List.length_erase_of_mem (k6.mpr kl),kN] at this;lia
 obtain⟨p',l,e1,e2,e3,e4,e5⟩:=wy.el y my;rw[ey,hk] at e2;cases e2;rw[e1] at e3 e4 e5;obtain⟨d',h1,h2⟩:=LW ok hc l p e4 e5;rw[e] at h1;cases h1;rw[dg] at e3;lia
theorem Kv{C:List Ct}:∀(d t:Nat) (p:Pl),VP h p->ck h aa p=some (d:Int)->qv h P C t p->(∀(c:Pl) (k:Nat),t<=k->k<t+d->at' c (k:Int)∉C)->∃m,m<t+d/\∃q,qv h P C m q/\at' q (m:Int)∉C/\df (.inl aa) (eJ h q)=true
 |0,t,p,vp,e,_,_=>by
  have:=E9 ok hc vp e;lia
 |d+1,t,p,vp,e,z,nc=>by
  have n0:=nc p t (bC _) (by lia)
  rcases Xe ok hc vp e with hm|⟨q,g,eq⟩
  .exact⟨t,by lia,p,z,n0,hm⟩
  .rw[show((d+1:Nat):Int) - 1=(d:Int) by lia] at eq
   obtain⟨m,h1,h2⟩:=Kv d (t+1) q (B' ok vp g) eq ⟨p,z,n0,g⟩ λc k k1 k2=>nc c k (by lia) (by lia)
   exact⟨m,by lia,h2⟩
omit ok hc
theorem LX{C:List Ct}{p:Pl}(mp:p∈P)(nc:∀k:Nat,at' p (k:Int)∉C):∀t,qv h P C t p
 |0=>mp
 |t+1=>⟨p,LX mp nc t,nc t,dk.mpr (m7 _ (.head _))⟩
include ok hc vq
theorem UU(nd:P.Nodup)(hf:∀p,p∈P->∃d,ck h aa p=some d){M:Nat}(hM:(eR h.aq).length<=M)(hn:P.length*M<=n)(s:Sep h P aa n C):P.length<=C.length:=kj λhl=>by
 obtain⟨p,mp,np⟩:∃p,p∈P/\∀k:Nat,at' p (k:Int)∉C:=kj λz=>hl (by
  have:=nN nd (m:=C.map λc=>(c.1,c.2.1)) λp mp=>by
   refine kj λy=>z ⟨p,mp,λk hk=>y (dF.mpr ⟨_,hk,rfl⟩)⟩
  rw[aW] at this;exact this)
 obtain⟨j,hj,nj⟩:∃j,j<P.length/\∀c,c∈C->c.2.2.toNat / M≠j:=kj λz=>hl (by
  have:=nN (List.nodup_range (n:=P.length)) (m:=C.map λc=>c.2.2.toNat / M) λj mj=>by
   rw[k6] at mj;refine kj λy=>z ⟨j,mj,λc Gj e=>y (dF.mpr ⟨c,Gj,e⟩)⟩
  rw[aW,kN] at this;exact this)
 obtain⟨d,e⟩:=hf p mp;have dp:=E9 ok hc (vq p mp) e;obtain⟨k,hk⟩:∃k:Nat,d=(k:Int):=⟨d.toNat,by lia⟩
 subst hk;have j1:(j+1)*M<=P.length*M:=Nat.mul_le_mul_right M hj;rw[IM,IC] at j1;obtain⟨m,h1,q,h2,h3,h4⟩:=Kv ok hc k (j*M) p (vq p mp) e (LX mp np _) λc k' k1 k2 hm=>nj _ hm (by
  show((k':Int)).toNat / M=j;rw[Int.toNat_natCast];exact Nat.div_eq_of_lt_le k1 (by rw[IM,IC];lia))
 exact s m (by lia) q h2 h3 h4
end
theorem Jr{L:Nat}:∀{bs:List aM},(∀b∈bs,pK b)->(∀b∈bs,b.long<=L)->(eR bs).length<=bs.length*L
 |[],_,_=>k7 _
 |b::bs,o,hl=>by
  have ih:=Jr (bs:=bs) (λx m=>o x (.tail _ m)) λx m=>hl x (.tail _ m)
  have b0:=(o b (.head _)).lg;have b1:=hl b (.head _);unfold eR at *;rw[DM,b_,dg,IM,IC];unfold fU at *;rw[aW,kN];lia
theorem Kw{h:av}(ok:dc h):(eR h.aq).length<=30:=by
 obtain⟨L,h1,h2⟩:=ok.tl;have:=Jr ok.bk h1;lia
section
variable{h:av}(ok:dc h){P:List Pl}(nd:P.Nodup)(vq:∀p,p∈P->VP h p){aa:Str}(hc:aa∈h.aB)(hP:P.length<=20)(hf:∀p,p∈P->∃d,ck h aa p=some d){s:List Cell}
def fv(h:av)(aa:Str)(p:Pl):Int:=(ck h aa p).getD 0
include ok hc hf in
theorem UW:P0 wW [.d (bf h),.d (.lst (P.map aG)),fm aa] (rd .aR):=by
 intro S;obtain⟨U',S',e,a3,rfl,rfl⟩:=ir (ao 3) (BM 0) aG S (U:=[ax (bf h),ax (.lst (P.map aG)),dI aa,none]) (λ_ U S'=>∃a3,U=[ax (bf h),ax (.lst (P.map aG)),dI aa,a3]/\S'=S) P ⟨none,rfl,rfl⟩ (by
  rintro d p r eq U S' ⟨a3,rfl,rfl⟩;obtain⟨w,hw⟩:=hf p (by rw[eq];simp)
  have e1:=Na ok hc p;rw[hw] at e1;have e1:P0 uM [.d (bf h),.d (aG p),fm aa] (rd (.int w)):=e1;have st:BM 0 [ax (bf h),ax (.lst (P.map aG)),dI aa,ax (aG p)] S'=some (.nx [ax (bf h),ax (.lst (P.map aG)),dI aa,ax (aG p)] S'):=by
   generalize P.map aG=L at *;unfold BM;simp only[↓ev,e1,aK]
  exact⟨_,_,_,rfl,.inl st,_,rfl,rfl⟩)
 generalize P.map aG=L at *;unfold wW;simp only[↓ev,e,aK]
include ok hc hf in
theorem Xg(hP:P.length<=20):∀S,bx (ao 0) (f7 true) (BX 0) (P.map aG) [none,ax (bf h),dI aa] S []=some (.ok ((P.map (fv h aa)).map D.int) S):=λS=>by
 rw[qM (λp=>D.int (fv h aa p)) P (by lia) λp m=>by
  obtain⟨w,hw⟩:=hf p m;have e1:=Na ok hc p;have ef:fv h aa p=w:=by unfold fv;rw[hw];rfl
  rw[hw] at e1;have e1:P0 uM [.d (bf h),.d (aG p),fm aa] (rd (.int w)):=e1;rw[ef];exact⟨rd (.int w),by unfold BX;simp only[↓ev,e1],rfl⟩,kL]
 rfl
structure S4 (h:av) (P:List Pl) (aa:Str) (H:List Cell) (n a2:Nat) (C:List Ct):Prop where
 at2:H[a2]?=some (.o (.lst (C.map bQ)))
 ct:BE h P aa (n - 1) C
 lt:C.length<P.length
structure S5 (h:av) (P:List Pl) (aa:Str) (H:List Cell) (n b1 b2:Nat) (W:List Wy) (C:List Ct):Prop where
 td:Told h P aa n (W.map rZ) C
 tw:TW H b1 W
 at2:H[b2]?=some (.o (.lst (C.map bQ)))
abbrev rN(H PL:D)(c:Str)(T:Int)(a1 a2 b1 b2:Nat):Gm:=[ax H,ax PL,dI c,bN T,ax (.tup [.ref a1,.ref a2]),ax (.tup [.ref b1,.ref b2])]
def wj:GT:=gQ mr (gO (o1 br) (aX (gX 5 (gI 0)))) (gO (o1 br) (aX 1))
theorem LY{hd:D}{L:List D}{T:Int}{a1 a2 b1 b2:Nat}{R:List Cell}{W:List Wy}(tw:TW R b1 W)(b:Bool)(hb:b=decide (W.length<L.length)):wj (rN hd (.lst L) aa T a1 a2 b1 b2) ⟨s,R⟩=some (.ok b ⟨s,R⟩):=by
 have hw:=tw.w;have hl:decide (((bY (b1+1) W).length:Int)<(L.length:Int))=b:=by rw[hb,Cn];exact decide_eq_decide.mpr (by lia)
 generalize bY (b1+1) W=Z at *;unfold wj;simp only[↓ev,rN,aK,hw,hl]
theorem EG{x0 x1 x2 x4 x5:ah Val}{T:Int}{S:ba}:zt (λi j=>i+j) 3 (gC (.int 1)) [x0,x1,x2,some (.d (.int T)),x4,x5] S=some (.nx [x0,x1,x2,some (.d (.int (T+1))),x4,x5] S):=rfl
theorem UX{hd PL:D}{T:Int}{a1 a2 b1 b2 c1 c2:Nat}{R X:List Cell}(e:qy 0 [.d hd,.d PL,fm aa,jC (T+1)] ⟨s,R⟩=some (.ok (rd (.tup [.ref c1,.ref c2])) ⟨s,R++X⟩)):sC 0 (rN hd PL aa T a1 a2 b1 b2) ⟨s,R⟩=some (.nx (rN hd PL aa (T+1) b1 b2 c1 c2) ⟨s,R++X⟩):=by
 unfold sC;simp only[↓ev,rN,aK,EG,e]
variable{M:Nat}(hM:(eR h.aq).length<=M)(ja:P.length*M<=150)
include ok nd vq hc hP hf hM ja
theorem LZ:∀(j n K:Nat) (R:List Cell) (a1 a2 b1 b2:Nat) (C4:List Ct) (W:List Wy) (C:List Ct),n+j=150->j<K->1<=n->S4 h P aa R n a2 C4->a2<b1->S5 h P aa R n b1 b2 W C->
  ∃(N:Nat) (X:List Cell) (c1 c2 d1 d2:Nat) (wO:List Ct) (W':List Wy) (C':List Ct),1<=N/\N<=150/\S4 h P aa (R++X) N c2 wO/\c2<d1/\S5 h P aa (R++X) N d1 d2 W' C'/\W'.length=P.length/\aw wj (sC 0) K (rN (bf h) (.lst (P.map aG)) aa n a1 a2 b1 b2) ⟨s,R⟩=some (.nx (rN (bf h) (.lst (P.map aG)) aa N c1 c2 d1 d2) ⟨s,R++X⟩)
 |j,n,0,_,_,_,_,_,_,_,_,_,hK,_,_,_,_=>bG hK (wM _)
 |j,n,K+1,R,a1,a2,b1,b2,C4,W,C,hj,hK,n1,s4,lt,s5=>by
  obtain⟨ct,el⟩:=Ko ok nd vq s5.td;rw[aW] at el;by_cases c:W.length<P.length
  .have e1:=LY (s:=s) (aa:=aa) (hd:=bf h) (L:=P.map aG) (T:=(n:Int)) (a1:=a1) (a2:=a2) (b2:=b2) s5.tw true (by rw[aW];exact(eP c).symm)
   cases j with
   |zero=>
    have:=UU ok hc vq nd hf hM (by lia) ct.sp
    lia
   |succ j=>
    obtain⟨W2,C2,X2,d1,d2,ZX,q1,q2,q3,q4,q5,e2⟩:=En ok nd vq aa (n+1) (by lia) hP s R
    have e2:=UX (a1:=a1) (a2:=a2) (b1:=b1) (b2:=b2) (T:=(n:Int)) e2;have Gi:=(cK.mp s5.at2).1;obtain⟨N,X,c1,c2,f1,f2,wO,W',C',h1,h2,h3,h4,h5,h6,h7⟩:=LZ j (n+1) K (R++X2) b1 b2 d1 d2 C W2 C2 (by lia) (by lia) (by lia) ⟨dw s5.at2,ct,by lia⟩ (by lia) ⟨ZX,q4,q5⟩
    refine⟨N,X2++X,c1,c2,f1,f2,wO,W',C',h1,h2,?_,h4,?_,h6,?_⟩
    .rw[<-g_];exact h3
    .rw[<-g_];exact h5
    .rw[<-g_,aw];have h7:aw wj (sC 0) K (rN (bf h) (.lst (P.map aG)) aa ((n:Int)+1) b1 b2 d1 d2) ⟨s,R++X2⟩=_:=h7;generalize P.map aG=L at *;generalize(n:Int)=ni at *;simp only[e1,↓ev,e2,h7,aK]
  .have e1:=LY (s:=s) (aa:=aa) (hd:=bf h) (L:=P.map aG) (T:=(n:Int)) (a1:=a1) (a2:=a2) (b2:=b2) s5.tw false (by rw[aW];exact(eC c).symm)
   have tl:=LV s5.td;rw[aW] at tl;refine⟨n,[],a1,a2,b1,b2,C4,W,C,n1,by lia,?_,lt,?_,by lia,?_⟩
   .rw[lQ];exact s4
   .rw[lQ];exact s5
   .rw[lQ,aw];generalize P.map aG=L at *;simp only[e1,↓ev,aK]
end
structure Oi (h:av) (P:List Pl) (aa:Str) (H:List Cell) (N b1 b2:Nat):Prop where
 sn:Sn h P aa N
 w:∃W:List Wy,TW H b1 W/\(b2<b1\/b1+W.length<b2)/\W.length<=20
 c:∃C:List Ct,H[b2]?=some (.o (.lst (C.map bQ)))/\C.length<1000
 tl:∀T,nQ 0 [.d (bf h),.d (.lst (P.map aG)),fm aa,.d (.tup [.int (N:Int),.ref b1,.ref b2])] ⟨T,H⟩=some (.ok (rd (.bl true)) ⟨T,H⟩)
theorem IX:sE 0=runM 3 6 (cA (dY (ak (wW 0) (fV 0 1 2))) (cA (cG (bu (bH 1)) (az (aI true (fV (gI 0) (dy (aI false gN)) (dy (aI false gN)))))) (kf (ag 3 false (gO (o1 (iw iH)) (aX (bA 0 (bp false dB 1) 0 (λ_=>f7 true) BX 1 [0,2])))) (ag 4 false (ak (qy 0) (fW 0 1 2 (bj jM 3 (gI 1))))) (ag 5 false (ak (qy 0) (fW 0 1 2 3))) (aw wj (sC 0) 1000000) (az (aI true (fV 3 (gX 5 (gI 0)) (gX 4 (gI 1)))))))):=rfl
section
variable{h:av}(ok:dc h){P:List Pl}(nd:P.Nodup)(vq:∀p,p∈P->VP h p){aa:Str}(hc:aa∈h.aB)(hP:P.length<=20)(hf:∀p,p∈P->∃d,ck h aa p=some d){s:List Cell}{M:Nat}(hM:(eR h.aq).length<=M)(ja:P.length*M<=150)
include ok nd vq hc hP hf hM ja
theorem JY(R:List Cell):∃(N:Nat) (X:List Cell) (b1 b2:Nat),Oi h P aa (R++X) N b1 b2/\sE 0 [.d (bf h),.d (.lst (P.map aG)),fm aa] ⟨s,R⟩=some (.ok (rd (.tup [.int (N:Int),.ref b1,.ref b2])) ⟨s,R++X⟩):=by
 have e1:=UW ok hc hf;by_cases hQ:P=[]
 .subst hQ;have h1:(R++[Cell.o (.lst []),.o (.lst [])])[R.length]?=some (.o (.lst [])):=by rw[gE (bC _),kh];rfl
  have h2:(R++[Cell.o (.lst []),.o (.lst [])])[R.length+1]?=some (.o (.lst [])):=by rw[gE (by lia),show R.length+1 - R.length=1 by lia];rfl
  refine⟨0,[.o (.lst []),.o (.lst [])],R.length,R.length+1,⟨⟨λ_=>rfl,λz=>bG rfl z⟩,⟨[],⟨h1,λj x e=>by cases e⟩,.inr (by rw[nz];lia),by rw[nz];lia⟩,⟨[],h2,by rw[nz];lia⟩,λT=>UQ h1 h2⟩,?_⟩
  have e1:P0 wW [.d (bf h),.d (.lst []),fm aa] _:=e1;rw[IX,show((0:Nat):Int)=0 from rfl];generalize aw wj (sC 0) 1000000=W at *;show runM 3 6 _ [.d (bf h),.d (.lst []),fm aa] _=_;simp only[↓ev,e1,aK]
 .have ne':P.map (fv h aa)≠[]:=by simpa using hQ
  have e2:=Xg ok hc hf hP;obtain⟨m1,m2⟩:=JJ ne';obtain⟨p,mp,ep⟩:=dF.mp m1;obtain⟨d,hd⟩:=hf p mp;have dp:=E9 ok hc (vq p mp) hd;have L4:=Kw ok;have ed:fv h aa p=d:=by unfold fv;rw[hd];rfl
  obtain⟨n,hn⟩:∃n:Nat,iH (P.map (fv h aa))=(n:Int):=⟨d.toNat,by lia⟩
  have n1:1<=n:=by lia
  obtain⟨W4,C4,X4,a1,a2,H0,p1,p2,p3,p4,p5,e4⟩:=En ok nd vq aa (n - 1) (by lia) hP s R
  rw[show((n - 1:Nat):Int)=(n:Int) - 1 by lia] at e4
  obtain⟨W,C,X5,b1,b2,td,q1,q2,q3,q4,q5,e5⟩:=En ok nd vq aa n (by lia) hP s (R++X4)
  obtain⟨Tw,Yd⟩:=Ko ok nd vq H0;have Zp:C4.length<P.length:=by
   refine Nat.lt_of_not_le λz=>?_
   obtain⟨ys,wy,eW⟩:=Eo ok nd vq H0;have tl:=LV H0;have ey:=congrArg List.length eW;simp only[aW] at ey tl Yd;have:=UT ok hc wy (by lia) mp hd
   lia
  obtain⟨N,X,c1,c2,d1,d2,wO,W',C',h1,h2,h3,h4,h5,h6,h7⟩:=LZ ok nd vq hc hP hf (s:=s) hM ja (150 - n) n 1000000 ((R++X4)++X5) a1 a2 b1 b2 C4 W C (by lia) (by lia) n1 ⟨dw p5,Tw,Zp⟩ (by lia) ⟨td,q4,q5⟩
  refine⟨N,X4++(X5++X),d1,c2,?_,?_⟩
  .rw[<-g_,<-g_];refine⟨⟨λz=>bG z hQ,λ_=>⟨h1,?_,wO,h3.ct.sp,h3.lt⟩⟩,⟨W',h5.tw,.inl h4,by lia⟩,⟨wO,h3.at2,by have:=h3.lt;lia⟩,λT=>?_⟩
   .obtain⟨ys,wy,eW⟩:=Eo ok nd vq h5.td;have:=congrArg List.length eW;rw[aW,aW] at this;exact⟨ys,wy,by lia⟩
   .exact Xc ok nd vq (by lia) h1 hP h5.td h6 h5.tw h3.at2 h3.ct h3.lt
  .simp only[g_] at e5 h7;have em:=Ei (P.map (fv h aa));have ne:=eq_false ne';have pe:(P.map aG).isEmpty=false:=by
    cases P with
    |nil=>exact bG rfl hQ
    |cons _ _=>rfl
   rw[IX];generalize P.map (fv h aa)=fs at *;generalize fs.map D.int=L0 at *;generalize P.map aG=L at *;generalize aw wj (sC 0) 1000000=W at *;have h7:W [_,_,_,_,some (.d (.tup [.ref a1,.ref a2])),some (.d (.tup [.ref b1,.ref b2]))] _=_:=h7;generalize(n:Int)=ni at *;simp only[↓ev,e1,pe,aK,e2,em,ne,hn,e4,e5,h7,rN]
end
section
variable{hd pd:D}{aa:Str}{t:Int}{T H:List Cell}
abbrev gM(hd pd:D)(aa:Str)(c:Nat)(t:Int)(a5:ah Val):Gm:=[ax hd,ax pd,dI aa,bF c,bN t,a5]
abbrev f6(T H:List Cell)(met:List Pl):ba:=⟨T++[.o (.lst (met.map aG))],H⟩
theorem Xh{c:Nat}{S:ba}:m9 0 (gM hd pd aa c t (ax (bb (.inl aa)))) S=some (.rt (rd (.bl true)) S):=by
 have e1:cj (bb (.inl aa)) (.str aa)=true:=by
  have:=uN (.inl aa) (.inl aa);rw[eP rfl] at this;exact this
 unfold m9;simp only[↓ev,gM,kc,gb,aK,e1]
theorem X_{x:Sp}(hx:x≠.inl aa){met:List Pl}(hl:met.length<1000):∃bT,(bT=met\/∃q,x=.inr q/\q∉met/\bT=met++[q])/\m9 0 (gM hd pd aa T.length t (ax (bb x))) (f6 T H met)=some (.nx (gM hd pd aa T.length t (ax (bb x))) (f6 T H bT)):=by
 have e1:cj (bb x) (.str aa)=false:=by
  have:=uN x (.inl aa);rw[eC hx] at this;exact this
 cases x with
 |inl y=>
  refine⟨met,.inl rfl,?_⟩;unfold m9;simp only[↓ev,gM,f6,kc,gb,aK,e1,FL]
 |inr q=>
  have e2:=MT q met;have c1:((met.map aG).length<1000000)=True:=cg (by rw[aW];lia)
  unfold m9 f6;by_cases h1:q∈met
  .refine⟨met,.inl rfl,?_⟩;rw[eP h1] at e2;simp only[↓ev,gM,kc,gb,aK,e1,qJ,zB,e2]
  .refine⟨met++[q],.inr ⟨q,rfl,h1,rfl⟩,?_⟩;rw[eC h1] at e2;rw[gq,k_,show aG q=bb (.inr q) from rfl];simp only[↓ev,gM,kc,gb,aK,e1,qJ,zB,e2,c1]
theorem Nf:∀(xs:List Sp) (met:List Pl) (a5:ah Val),met.Nodup->met.length+xs.length<900->
  (.inl aa∈xs/\∃S',aF (ao 5) (m9 0) (xs.map bb) (gM hd pd aa T.length t a5) (f6 T H met)=some (.rt (rd (.bl true)) (f6 T H S')))\/
  ∃(bT:List Pl) (b5:ah Val),bT.Nodup/\met.length<=bT.length/\(∀q,q∈bT->q∈met\/.inr q∈xs)/\aF (ao 5) (m9 0) (xs.map bb) (gM hd pd aa T.length t a5) (f6 T H met)=some (.nx (gM hd pd aa T.length t b5) (f6 T H bT))
 |[],met,a5,nd,_=>.inr ⟨met,a5,nd,bC _,λq m=>.inl m,rfl⟩
 |x::xs,met,a5,nd,hl=>by
  rw[dg] at hl;by_cases hx:x=.inl aa
  .subst hx;refine .inl ⟨.head _,met,?_⟩;rw[c_];unfold aF;show(m9 0 (gM hd pd aa T.length t (ax (bb (.inl aa)))) (f6 T H met)).bind _=_;rw[Xh];rfl
  .obtain⟨jb,hm,e⟩:=X_ (hd:=hd) (pd:=pd) (t:=t) (T:=T) (H:=H) hx (met:=met) (by lia)
   have He:jb.Nodup/\met.length<=jb.length/\jb.length<=met.length+1/\∀q,q∈jb->q∈met\/.inr q=x:=by
    rcases hm with rfl|⟨q,rfl,hq,rfl⟩
    .exact⟨nd,bC _,yo _,λq m=>.inl m⟩
    .refine⟨k8.mpr ⟨nd,by simp,λa ma b mb z=>?_⟩,by simp,by simp,λy my=>?_⟩
     .rw[dW] at mb;subst mb z;exact hq ma
     .rcases dD.mp my with my|my
      .exact .inl my
      .rw[dW] at my;rw[my];exact .inr rfl
   obtain⟨n1,n2,n3,n4⟩:=He;have key:aF (ao 5) (m9 0) ((x::xs).map bb) (gM hd pd aa T.length t a5) (f6 T H met)=aF (ao 5) (m9 0) (xs.map bb) (gM hd pd aa T.length t (ax (bb x))) (f6 T H jb):=by
    rw[c_]
    conv=>lhs;unfold aF
    show(m9 0 (gM hd pd aa T.length t (ax (bb x))) (f6 T H met)).bind _=_;rw[e];rfl
   rw[key];rcases Nf xs jb _ n1 (by lia) with⟨h1,h2⟩|⟨bT,b5,h1,h2,h3,h4⟩
   .exact .inl ⟨.tail _ h1,h2⟩
   .refine .inr ⟨bT,b5,h1,by lia,λq m=>?_,h4⟩
    rcases h3 q m with z|z
    .exact(n4 q z).imp id λy=>by rw[y];exact .head _
    .exact .inr (.tail _ z)
end
variable{met:List Pl}{pd:D}{k:Nat}
section
variable{h:av}(ok:dc h){aa:Str}(hc:aa∈h.aB){pz:Pl}{T H:List Cell}
def Mt(h:av)(aa:Str)(pz:Pl)(met:List Pl):Prop:=met.Nodup/\∀q,q∈met->VP h q/\((∃e,ck h aa q=some e)->∃d,ck h aa pz=some d)
include ok hc
theorem UY(mt:Mt h aa pz met)(hk:k<met.length)(a5:ah Val):
  ((∃d,ck h aa pz=some d)/\∃bT,pP 0 (gM (bf h) pd aa T.length k a5) (f6 T H met)=some (.rt (rd (.bl true)) (f6 T H bT)))\/
  ∃(bT:List Pl) (b5:ah Val),Mt h aa pz bT/\met.length<=bT.length/\pP 0 (gM (bf h) pd aa T.length k a5) (f6 T H met)=some (.nx (gM (bf h) pd aa T.length ((k:Int)+1) b5) (f6 T H bT)):=by
 have mq:met[k]∈met:=ua hk;obtain⟨vq,fq⟩:=mt.2 _ mq;have ml:=zy ok mt.1 λq m=>(mt.2 q m).1
 have sl:=CF ok vq;have ee:∀S,qx 0 [.d (bf h),.d (aG met[k])] S=some (.ok (.o (.lst ((gd h (.inr met[k])).map bb))) S):=λS=>by
  obtain⟨b,hb,e,_⟩:=vq;generalize met[k]=q at *;obtain⟨n,c⟩:=q;dsimp only at e;subst e;rw[EX ok.fwd hb];exact EB ok hb c 0 Hy S
 have ix:cB (met.map aG) (k:Int)=some (aG met[k]):=kO (by rw[gn,gp hk];rfl)
 have sub:∀s,s∈gd h (.inr met[k])->s∈eJ h met[k]:=λs m=>t_ _ m
 rcases Nf (hd:=bf h) (pd:=pd) (aa:=aa) (t:=(k:Int)) (T:=T) (H:=H) (gd h (.inr met[k])) met a5 mt.1 (by unfold eJ at sl;rw[b_] at sl;lia) with⟨h1,bT,h2⟩|⟨bT,b5,h1,h2,h3,h4⟩
 .refine .inl ⟨fq ?_,bT,?_⟩
  .obtain⟨d,e,_⟩:=Ks ok hc vq (cH.mpr (sub _ h1));exact⟨d,e⟩
  .unfold f6 at *;generalize(gd h (.inr met[k])).map bb=L at *;generalize(k:Int)=ki at *;generalize aG met[k]=qd at *;generalize met.map aG=mo at *;generalize bT.map aG=Zr at *;unfold pP;simp only[↓ev,gM,aK,ix,ee,h2]
 .refine .inr ⟨bT,b5,⟨h1,λq m=>?_⟩,h2,?_⟩
  .rcases h3 q m with z|z
   .exact mt.2 q z
   .have g:q∈d5 h met[k]:=dk.mpr (sub _ z);refine⟨B' ok vq g,λ⟨e,he⟩=>fq ?_⟩
    obtain⟨d,hd,_⟩:=Kr ok hc vq g he;exact⟨d,hd⟩
  .unfold f6 at *;generalize(gd h (.inr met[k])).map bb=L at *;generalize(k:Int)=ki at *;generalize aG met[k]=qd at *;generalize met.map aG=mo at *;generalize bT.map aG=Zr at *;unfold pP;simp only[↓ev,gM,aK,ix,ee,h4]
def uU:GT:=gQ mr 4 (gO (o1 br) (aX 3))
theorem L3{hd:D}{a5:ah Val}(b:Bool)(hb:b=decide (k<met.length)):uU (gM hd pd aa T.length k a5) (f6 T H met)=some (.ok b (f6 T H met)):=by
 have e3:decide ((k:Int)<((met.map aG).length:Int))=b:=by rw[hb,aW];exact decide_eq_decide.mpr (by lia)
 unfold f6;generalize met.map aG=mo at *;generalize(k:Int)=ki at *;unfold uU;simp only[↓ev,gM,aK,e3]
theorem Kx{pd:D}:∀(K k:Nat) (met:List Pl) (a5:ah Val),Mt h aa pz met->k<=met.length->31<=K+k->
  ((∃d,ck h aa pz=some d)/\∃bT,aw uU (pP 0) K (gM (bf h) pd aa T.length k a5) (f6 T H met)=some (.rt (rd (.bl true)) (f6 T H bT)))\/
  ∃t' b5 bT,aw uU (pP 0) K (gM (bf h) pd aa T.length k a5) (f6 T H met)=some (.nx (gM (bf h) pd aa T.length t' b5) (f6 T H bT))
 |0,k,met,a5,mt,h1,h2=>by
  have ml:=zy ok mt.1 λq m=>(mt.2 q m).1
  lia
 |K+1,k,met,a5,mt,h1,h2=>by
  by_cases c:k<met.length
  .have e1:=L3 ok hc (hd:=bf h) (pd:=pd) (T:=T) (H:=H) (a5:=a5) true (eP c).symm;rcases UY ok hc (pd:=pd) (T:=T) (H:=H) mt c a5 with⟨f,bT,e2⟩|⟨bT,b5,Zs,l',e2⟩
   .refine .inl ⟨f,bT,?_⟩;rw[aw];simp only[e1,↓ev,e2]
   .have ih:=Kx (pd:=pd) K (k+1) bT b5 Zs (by lia) (by lia)
    rw[show((k+1:Nat):Int)=(k:Int)+1 from rfl] at ih;rcases ih with⟨f,jb,e3⟩|⟨t',c5,jb,e3⟩
    .refine .inl ⟨f,jb,?_⟩;rw[aw];simp only[e1,↓ev,e2,e3]
    .refine .inr ⟨t',c5,jb,?_⟩;rw[aw];simp only[e1,↓ev,e2,e3]
  .have e1:=L3 ok hc (hd:=bf h) (pd:=pd) (T:=T) (H:=H) (a5:=a5) false (eC c).symm;refine .inr ⟨k,a5,met,?_⟩;rw[aw];simp only[e1,↓ev,aK]
theorem O8:y0 0=runM 3 6 (l7 (ag 3 true (aI false (aX 1))) (ag 4 false (gI 0)) (aw uU (pP 0) 1000000) (az (gC (.bl false)))):=rfl
theorem UZ(vz:VP h pz):∃b:Bool,(b=true->∃d,ck h aa pz=some d)/\y0 0 [.d (bf h),.d (aG pz),fm aa] ⟨T,H⟩=some (.ok (rd (.bl b)) ⟨T,H⟩):=by
 have e:=Kx ok hc (pd:=aG pz) (pz:=pz) (T:=T) (H:=H) 1000000 0 [pz] none ⟨by simp,λq m=>by rw[dW] at m;rw[m];exact⟨vz,id⟩⟩ (k7 _) (by lia)
 have z:f6 T H [pz]=⟨T++[.o (.lst [aG pz])],H⟩:=rfl;rw[z,show((0:Nat):Int)=0 from rfl] at e;rw[O8 ok hc];unfold f6 at e;rcases e with⟨f,bT,e⟩|⟨t',b5,bT,e⟩
 .refine⟨true,λ_=>f,?_⟩
  generalize aw uU (pP 0) 1000000=W at *;generalize bT.map aG=mo at *;simp only[↓ev,aK,e]
 .refine⟨false,λz=>(by cases z),?_⟩
  generalize aw uU (pP 0) 1000000=W at *;generalize bT.map aG=mo at *;simp only[↓ev,aK,e,gM]
end
def Dz:GS:=kf (aY 0 (bp true dB (gX 7 (gI 1))) 9 uE)
 (dY (cv 0 "list" xA (gX 7 (gI 1)) gN))
 (dY (cv 0 "list" jL (gX 7 (gI 2)) (aX (aI true (fV (gC (.str "q")) (gI 0) (gI 0))))))
 (ag 10 false (ak (sE 0) (fV (gX 6 (gI 0)) (gX 6 (gI 1)) 3)))
 (az (kD (ak (nQ 0) (fW 2 5 3 10)) (kD (bj iL (gX 10 (gI 0)) 8) (bj iL 6 (aI true (aV 2 5))))))
def AH:GS:=cA (ag 7 true (ak (sE 0) (fV (gX 6 (gI 0)) (gX 6 (gI 1)) 3)))
 (cA (cG (cW (bu (bH (ak (nQ 0) (fW 2 5 3 7)))) (gQ mw 6 (aI true (aV 2 5)))) (az (gC (.bl false)))) (cA (ag 8 false (gX 7 (gI 0))) Dz))
def Dy:GS:=cA (ag 5 false (bA 0 (bp false dB (ak (yY 0) (fV 1 2 4))) 0 CC CD 1 [2,3]))
 (cA (ag 6 false (aI true (aV (ak (yU 0) (aX 2)) (gO (o1 fS) (aX 5))))) AH)
def yb:GS->GS:=λr=>cA (ag 4 false (gX (aI false (aV (gI 5) (gI 3))) (gO (o1 iE) (aX (bj nq (gO (o1 br) (aX (ak (sD 0) (aX 2)))) (gI 16))))))
 (cA (cG (cJ (gQ iL (ak (eE 0) (aV 1 (gI 8))) (gI 7)) (gQ iL 4 (gI 5))) (ag 4 false (gI 8))) r)
theorem RS:FE 0=runM 1 11 (cA (ag 1 true (ak (ux 0) (aX 0))) (cA (ag 2 false (ak (uw 0) (aX 1))) (cA (ag 3 false (gX (gX 2 (gI 1)) (ak (eE 0) (aV 1 (gO (o1 br) (aX (gX 2 (gI 1)))))))) (yb Dy)))):=rfl
abbrev jW(ns:List Int)(hd:D)(aa:Str)(a4 a5 a6 a7 a8 a9 a10:ah Val):Gm:=[ax (t7 ns),bF 0,ax hd,dI aa,a4,a5,a6,a7,a8,a9,a10]
theorem Ha{ns:List Int}{hd:D}{aa:Str}{F F' cl:List D}{w:Int}(e1:Pr sD [.d hd] (rd (.lst cl)))(d:Dr F 8 w F'):∃A:Int,0<=A/\(A<=3\/(cl.length<=16/\A<=8))/\∀r,yb r (jW ns hd aa none none none none none none none) ⟨[fC F],[]⟩=r (jW ns hd aa (bN A) none none none none none none) ⟨[fC F'],[]⟩:=by
 by_cases c:(cl.length:Int) > 16
 .refine⟨3,by decide,.inl (by decide),λr=>?_⟩
  have c1:=cg c;have i1:cB [D.int 5,D.int 3] 1=some (.int 3):=rfl;by_cases z:w=7
  .subst z;unfold yb;simp only[↓ev,aK,jW,e1,c1,i1,d]
  .have z1:(w == 7)=false:=by simpa using z
   unfold yb;simp only[↓ev,aK,jW,e1,c1,i1,d,z1]
 .have c1:=eq_false c;have i1:cB [D.int 5,D.int 3] 0=some (.int 5):=rfl;by_cases z:w=7
  .subst z;refine⟨8,by decide,.inr ⟨by lia,by decide⟩,λr=>?_⟩
   unfold yb;simp only[↓ev,aK,jW,e1,c1,i1,d]
  .have z1:(w == 7)=false:=by simpa using z
   refine⟨5,by decide,.inr ⟨by lia,by decide⟩,λr=>?_⟩
   unfold yb;simp only[↓ev,aK,jW,e1,c1,i1,d,z1]
variable{H:List Cell}{L:List D}
abbrev xV(h:av)(P:List Pl):D:=.tup [bf h,.lst (P.map aG)]
theorem X'(h:av)(P:List Pl):bR 40 (xV h P)=true:=by
 have h1:bR 39 (bf h)=true:=by
  have e1:(h.aq.map aT).all (bR 37)=true:=by
   rw[yr,gF];intro b _;exact Mw (Q7 b) 34
  show((h.aq.map aT).all (bR 37)&&((dS h.aB).all (bR 37)&&true))=true;rw[e1,ng 37 h.aB];rfl
 show([bf h,D.lst (P.map aG)].all (bR 39))=true;rw[k9,k9,List.all_nil,h1];show(true&&((P.map aG).all (bR 38)&&true))=true;rw[<-zg,Fe 37];rfl
section
variable{h:av}(ok:dc h){aa:Str}(hc:aa∈h.aB){ns:List Int}{st:Int}{F:List D}
include ok hc
theorem G'(hF:Fd st F){A:Int}(a0:0<=A)(a1:A<=8):∃(F':List D) (P:List Pl),P.Nodup/\(∀p,p∈P->VP h p)/\(P.length:Int)<=A/\(∀p,p∈P->∃d,ck h aa p=some d)/\
  Dy (jW ns (bf h) aa (bN A) none none none none none none) ⟨[fC F],[]⟩=AH (jW ns (bf h) aa (bN A) (ax (.lst (P.map aG))) (ax (xV h P)) none none none none) ⟨[fC F'],[]⟩:=by
 obtain⟨F',pl,hF',vc,hl,nd,e1⟩:=RF (rr:=[]) ok hF A a0 a1;obtain⟨Q,rfl,Zu,vq⟩:=JW vc nd;rw[aW] at hl;have hb:∀p:Pl,∃b:Bool,p∈Q->(b=true->∃d,ck h aa p=some d)/\y0 0 [.d (bf h),.d (aG p),fm aa] ⟨[fC F'],[]⟩=some (.ok (rd (.bl b)) ⟨[fC F'],[]⟩):=λp=>by
  by_cases m:p∈Q
  .obtain⟨b,h1,h2⟩:=UZ ok hc (T:=[fC F']) (H:=[]) (vq p m);exact⟨b,λ_=>⟨h1,h2⟩⟩
  .exact⟨true,λz=>bG z m⟩
 obtain⟨cb,Nz⟩:=Classical.axiomOfChoice hb;have e2:bx (ao 0) (CC 0) (CD 0) (Q.map aG) [none,ax (bf h),dI aa] ⟨[fC F'],[]⟩ []=some (.ok ((Q.filter cb).map aG) ⟨[fC F'],[]⟩):=by
  rw[uS (λp:Pl=>if cb p=true then some (aG p) else none) Q (by lia) λp m=>?_,xm]
  have e3:=(Nz p m).2;unfold CC CD;cases z:cb p with
  |true=>
   rw[z] at e3;exact .inr ⟨rd (aG p),aG p,rfl,by simp only[↓ev,e3],by simp only[↓ev],rfl⟩
  |false=>
   rw[z] at e3;exact .inl ⟨rfl,by simp only[↓ev,e3]⟩
 refine⟨F',Q.filter cb,Zu.filter _,λp m=>vq p (gf.mp m).1,by have:=IL cb Q;lia,λp m=>(Nz p (gf.mp m).1).1 (gf.mp m).2,?_⟩
 have e4:=Ra ok;rw[zg] at e1;unfold xV;generalize(Q.filter cb).map aG=L at *;generalize Q.map aG=L2 at *;generalize bf h=hd at *;unfold Dy;generalize AH=g at *;simp only[↓ev,jW,e1,e2,aK,e4]
end
section
variable{s0 s1 s2 s3 s4 s5 s6 s8 s10:ah Val}{b1 b2:Nat}{T:List Cell}{v:ah Val}
abbrev xO(s0 s1 s2 s3 s4 s5 s6 s7 s8 a9 s10:ah Val):Gm:=[s0,s1,s2,s3,s4,s5,s6,s7,s8,a9,s10]
theorem U0{k:Int}{m:Nat}(hm:(m != b1)=true)(hL:H[m]?=some (.o (.lst L))):uE (b1+3) (xO s0 s1 s2 s3 s4 s5 s6 v s8 (ax (.tup [.int k,.ref m])) s10) ⟨T,H⟩=some (.nx (xO s0 s1 s2 s3 s4 s5 s6 v s8 (ax (.tup [.int k,.ref m])) s10) ⟨T,H.set m (.o (.lst []))⟩):=by
 have hm:Bx.mb (b1+3) (.d (.ref m)) (.lst L)=true:=hm;unfold uE;simp only[↓ev,xO,aK,hL,hm]
theorem Ky:∀(W:List Wy) (b:Nat) (H:List Cell) (a9:ah Val),b1<b->(∀(j:Nat) (x:Wy),W[j]?=some x->∃L,H[b+j]?=some (.o (.lst L)))->(b2<b\/b+W.length<=b2)->∃H' c9,aF (ao 9) (uE (b1+3)) (bY b W) (xO s0 s1 s2 s3 s4 s5 s6 v s8 a9 s10) ⟨T,H⟩=some (.nx (xO s0 s1 s2 s3 s4 s5 s6 v s8 c9 s10) ⟨T,H'⟩)/\H'[b1]?=H[b1]?/\H'[b2]?=H[b2]?
 |[],b,H,a9,_,_,_=>⟨H,a9,rfl,rfl,rfl⟩
 |x::W,b,H,a9,hb,hx,h2=>by
  obtain⟨L,hL⟩:=hx 0 x rfl;rw[dg] at h2;have st:=U0 (s0:=s0) (s1:=s1) (s2:=s2) (s3:=s3) (s4:=s4) (s5:=s5) (s6:=s6) (s8:=s8) (s10:=s10) (v:=v) (T:=T) (b1:=b1) (k:=x.1) (m:=b) (by simp;lia) hL
  obtain⟨H',c9,e,h3,h4⟩:=Ky W (b+1) (H.set b (.o (.lst []))) (ax (.tup [.int x.1,.ref b])) (by lia) (λj y ey=>by
   rw[iU (by lia),show b+1+j=b+(j+1) by lia]
   exact hx (j+1) y ey) (by lia)
  refine⟨H',c9,?_,?_,?_⟩
  .show aF _ _ (.tup [.int x.1,.ref b]::bY (b+1) W) _ _=_;unfold aF;show(uE (b1+3) (xO s0 s1 s2 s3 s4 s5 s6 v s8 (ax (.tup [.int x.1,.ref b])) s10) ⟨T,H⟩).bind _=_;rw[st];exact e
  .rw[h3,iU (by lia)]
  .rw[h4,iU (by lia)]
theorem Hb{ns:List Int}{hd:D}{aa:Str}{s4:ah Val}{N c1 c2:Nat}{H' X:List Cell}{W:List Wy}{Cd:List D}{c9:ah Val}(ne:b1≠b2)(hw:H[b1]?=some (.o (.lst (bY (b1+1) W))))
  (e:aF (ao 9) (uE (b1+3)) (bY (b1+1) W) (jW ns hd aa s4 (ax (.lst L)) (ax (.tup [hd,.lst L])) (ax (.tup [.int (N:Int),.ref b1,.ref b2])) (bN N) none none) ⟨T,H⟩=some (.nx (jW ns hd aa s4 (ax (.lst L)) (ax (.tup [hd,.lst L])) (ax (.tup [.int (N:Int),.ref b1,.ref b2])) (bN N) c9 none) ⟨T,H'⟩))
  (h1:H'[b1]?=H[b1]?) (h2:H'[b2]?=some (.o (.lst Cd))) (hl:Cd.length<1000)
  (so:∀R,R=(H'.set b1 (.o (.lst []))).set b2 (.o (.lst (Cd++[.tup [.str "q",.int 0,.int 0]])))->sE 0 [.d hd,.d (.lst L),fm aa] ⟨T,R⟩=some (.ok (rd (.tup [.int (N:Int),.ref c1,.ref c2])) ⟨T,R++X⟩)/\nQ 0 [.d hd,.d (.lst L),fm aa,.d (.tup [.int (N:Int),.ref c1,.ref c2])] ⟨T,R++X⟩=some (.ok (rd (.bl true)) ⟨T,R++X⟩))
  (ho:bR 40 (.tup [hd,.lst L])=true):∃S,Dz (jW ns hd aa s4 (ax (.lst L)) (ax (.tup [hd,.lst L])) (ax (.tup [.int (N:Int),.ref b1,.ref b2])) (bN N) none none) ⟨T,H⟩=some (.rt (rd (.bl true)) S):=by
 rw[hw] at h1;have h3:(H'.set b1 (.o (.lst [])))[b2]?=some (.o (.lst Cd)):=by rw[iU ne];exact h2
 have hl:=cg (show Cd.length<1000000 by lia)
 have he:=y8 40 ho;obtain⟨s1,s2⟩:=so _ rfl;refine⟨⟨T,(H'.set b1 (.o (.lst []))).set b2 (.o (.lst (Cd++[.tup [.str "q",.int 0,.int 0]])))++X⟩,?_⟩;unfold jW at e;generalize bY (b1+1) W=Z at *;generalize(N:Int)=ni at *;unfold Dz;simp only[↓ev,jW,aK,hw,zK,e,h1,h3,hl,s1,s2,ho,he]
end
section
variable{h:av}(ok:dc h){P:List Pl}(nd:P.Nodup)(vq:∀p,p∈P->VP h p){aa:Str}(hc:aa∈h.aB)(hP:P.length<=20)(hf:∀p,p∈P->∃d,ck h aa p=some d){M:Nat}(hM:(eR h.aq).length<=M)(ja:P.length*M<=150){ns:List Int}{F:List D}{s4:ah Val}
include ok nd vq hc hP hf hM ja
theorem G_:∃S,AH (jW ns (bf h) aa s4 (ax (.lst (P.map aG))) (ax (xV h P)) none none none none) ⟨[fC F],[]⟩=some (.rt (rd (.bl true)) S):=by
 obtain⟨N,X,b1,b2,f,e1⟩:=JY ok nd vq hc hP hf (s:=[fC F]) hM ja [];rw[wK] at f e1;obtain⟨W,tw,hb,wl⟩:=f.w;obtain⟨C,hC,cl⟩:=f.c;have e2:=f.tl [fC F];have ho:=X' h P;have he:=y8 40 ho;obtain⟨H',c9,e3,h1,h2⟩:=Ky (s0:=ax (t7 ns)) (s1:=bF 0) (s2:=ax (bf h)) (s3:=dI aa) (s4:=s4) (s5:=ax (.lst (P.map aG))) (s6:=ax (xV h P)) (s8:=bN N) (s10:=none) (v:=ax (.tup [.int (N:Int),.ref b1,.ref b2])) (T:=[fC F]) (b1:=b1) (b2:=b2) W (b1+1) X none (by lia) (λj x e=>⟨_,tw.f j x e⟩) (by lia)
 rw[hC] at h2;obtain⟨N2,X2,c1,c2,f2,e4⟩:=JY ok nd vq hc hP hf (s:=[fC F]) hM ja ((H'.set b1 (.o (.lst []))).set b2 (.o (.lst (C.map bQ++[.tup [.str "q",.int 0,.int 0]]))));obtain rfl:=Xf f.sn f2.sn;obtain⟨S,e5⟩:=Hb (X:=X2) (c1:=c1) (c2:=c2) (by lia) tw.w e3 h1 h2 (by rw[aW];exact cl) (λR hR=>by subst hR;exact⟨e4,f2.tl _⟩) ho
 refine⟨S,?_⟩;unfold xV at *;generalize P.map aG=L at *;generalize bf h=hd at *;generalize(N:Int)=ni at *;unfold AH;generalize Dz=g at *;unfold jW at e5;simp only[↓ev,jW,aK,e1,e2,ho,he,e5]
end
theorem G9{g:GS}{ns:List Int}{B:D}{cs F0 F1 F2:List D}{k v:Int}{aa:Str}{S:ba}(e1:P0 ux [.d (t7 ns)] (.o (.lst F0)))(e2:uw 0 [.c 0] ⟨[fC F0],[]⟩=some (.ok (rd (.tup [B,.lst cs])) ⟨[fC F1],[]⟩))(ll:(cs.length:Int)=k)(d1:Dr F1 k v F2)(ix:cB cs v=some (.str aa))
  (e6:g (jW ns (.tup [B,.lst cs]) aa none none none none none none none) ⟨[fC F2],[]⟩=some (.rt (rd (.bl true)) S)):runM 1 11 (cA (ag 1 true (ak (ux 0) (aX 0))) (cA (ag 2 false (ak (uw 0) (aX 1))) (cA (ag 3 false (gX (gX 2 (gI 1)) (ak (eE 0) (aV 1 (gO (o1 br) (aX (gX 2 (gI 1)))))))) g))) [.d (t7 ns)] ⟨[],[]⟩=some (.ok (.v (.d (.bl true))) (S.cut 0)):=by
 unfold jW at e6;generalize t7 ns=sc at *;simp only[↓ev,e1,aK,e2,ll,d1,ix,e6]
theorem Ya(ns:List Int)(hn:ns.length<=63):∃S,FE 0 [.d (t7 ns)] ⟨[],[]⟩=some (.ok (.v (.d (.bl true))) S):=by
 obtain⟨F0,g0,e1⟩:=Wm ns hn;obtain⟨F1,h,g1,ok,e2⟩:=TZ (rr:=[]) g0;have ct:=ok.ct;obtain⟨v,F2,v0,v1,g2,d1⟩:=lZ g1 (m:=(h.aB.length:Int)) (by lia) (by lia)
 obtain⟨aa,hc,ix⟩:=MK D.str h.aB v v0 v1;obtain⟨w,F3,w0,w1,g3,d2⟩:=lZ g2 (m:=8) (by decide) (by decide)
 obtain⟨A,a0,a1,e3⟩:=Ha (ns:=ns) (aa:=aa) (EY ok) d2;rw[aW] at a1;obtain⟨F4,P,nd,vq,hl,hf,e4⟩:=G' (ns:=ns) ok hc g3 a0 (by lia)
 have L4:=Kw ok;obtain⟨M,hM,ja⟩:∃M,(eR h.aq).length<=M/\P.length*M<=150:=by
  rcases a1 with a|⟨a,b⟩
  .exact⟨30,L4,by lia⟩
  .exact⟨16,a,by lia⟩
 obtain⟨S,e5⟩:=G_ (ns:=ns) (F:=F4) (s4:=bN A) ok nd vq hc (by lia) hf hM ja
 have e6:=e3 Dy;rw[e4,e5] at e6;have hD:bf h=.tup [.lst (h.aq.map aT),.lst (dS h.aB)]:=rfl;have ll:((dS h.aB).length:Int)=h.aB.length:=by unfold dS;rw[aW]
 rw[hD] at e2 e6;refine⟨S.cut 0,?_⟩;rw[RS];exact G9 e1 e2 ll d1 ix e6
variable{w:bX}{K:aH}{mg:Str->ah ai}{l:PySem.W.OpenLaw}
def mB(K:aH):L2.Sp:=λvs H Q _=>∃(a:aj) (ns:List Int),vs=[.ref a]/\cI K H a (ns.map V.int)/\ns.length<=63/\∀H',Q (.bl true) H'
theorem Xi{P:cL}{base:bJ}(T:Txt K mg):eV P w K mg base (lT P w) 8 (fA K none "law") (fF K (fA K none "law")) ["_law_script"] (mB K):=by
 exact Th (Wl T 0) Ya
theorem us_n{us:List ai}{n:Nat}(h:us.length=n):us=(List.range n).map (us.getD · .none):=by
 subst h;exact List.ext_getElem (by simp) λi _ _=>by simp[*]
theorem fin_mk{h:bJ}{fa:aj}(X:K.In h)(G:h.Ns mainGlobals mg)(YO:mg "law"=some (.ref fa))(T:Txt K mg)
  : ∃fd:jF,(∀(s:au) (v:ai),BindsTo s fd ⟨[v],[]⟩ [("_law_script",v)])/\∀base:bJ,K.In base->base.Ns mainGlobals mg->eV l.prog w K mg base (lT l.prog w) 8 fa fd ["_law_script"] (mB K):=by
 have D:Df K mg "law" (top 46):=T.F 35;have e:=YO.symm.trans D.mg;cases e;obtain⟨oc,od,kV,doc,pm,an,eF,ct,mf,e,_,_⟩:=D.fn.ex;exact⟨_,λs v=>by rw[e];exact .of_eq rfl,λbase _ _=>Xi T⟩
theorem walk{q:cL}{loose:List Str}{XP:(Str->ah ai)->bJ->Prop}{YP:bX->bJ->Prop}{d:DefRec}{K:Params->aH}(hn:l.most=some 63)(Ae:d.params.defaults=[])
  (hY:∀(w:bX) (h:bJ),YP w h->(K w.params).In h)
  (F:∀(w:bX) (mg:Str->ah ai) (fa:aj) (h:bJ),(K w.params).In h->h.Ns mainGlobals mg->mg d.name=some (.ref fa)-> ∃fd:jF,(∀(s:au) (u:ai),BindsTo s fd ⟨[u],[]⟩ [("_law_script",u)])/\∀base:bJ,(K w.params).In base->base.Ns mainGlobals mg->eV l.prog w (K w.params) mg base (lT l.prog w) 8 fa fd ["_law_script"] (mB (K w.params))) :
  PySem.W.WalkO q loose XP YP l.row.toRowW d [] (λf vs=>PySem.call f vs):=
 L2.rY (n:=63) (k:=8) (x:="_law_script") (CX:=λw=>lT l.prog w) (sp:=λw=>mB (K w.params)) hn (by decide) Ae ⟨rfl,by decide,by decide⟩ hY F (λ_ _ a ns hl _ hS=>⟨a,ns,rfl,hS,hl,λ_=>rfl⟩) λ_ _ _ _ _ ⟨_,_,_,_,_,_,z⟩=>z
end Carry
end
open PySem PySem.W PyProof.Rows
set_option maxRecDepth 100000 in
set_option maxHeartbeats 0 in
theorem PySem.Challenge.cw_carry_k36_soonest_walked_holds : PySem.Challenge.rw_carry_k36_soonest_walked.Holds := by
 simp -failIfUnchanged only[Carry.Hd.hd0];w_on;o_law;(try simp only[Carry.Hd.hd]);k_head;(case hw=>w_witness2)
 k_fill
 refine Carry.walk (l:=PySem.Challenge.rw_carry_k36_soonest_walked) rfl rfl (λw h Y=>PySem.W.kIn_of Y) ?F
 case F=>
  intro w mg fa h KX G hmg;refine' Carry.fin_mk KX G hmg ?T;constructor
  case atr=>
   intro p hp;cases hp
  case er=>
   refine' ⟨λp hp=>?_,?GB,?hB⟩
   case GB=>(refine' L2.errC_mk ?zl ?zm ?zs ?zi;(case zl=>k_is);(case zm=>k_is);(case zs=>kernel_rfl);(case zi=>kernel_rfl))
   case hB=>refine' PySem.W.mg_of KX G ?_;k_is
   simp only[Carry.errTab,y06,y1y,or_false] at hp;rcases hp with rfl <;> (dsimp only;refine' ⟨PySem.W.mg_of KX G ?_,?zd,?_⟩;(case zd=>refine' L2.errC_mk ?zl ?zm ?zs ?zi;(case zl=>k_is);(case zm=>k_is);(case zs=>kernel_rfl);(case zi=>kernel_rfl));all_goals k_is)
  case' F=>(intro j;dsimp only[Carry.fnT];(iterate 36 (rcases j with _|j;rotate_left));simp only[List.getD_cons_succ,List.getD_nil])
  case' B=>(intro j;dsimp only[Carry.bnT];(iterate 15 (rcases j with _|j;rotate_left));simp only[List.getD_cons_succ,List.getD_nil])
  all_goals first|refine' L2.dM KX G ?_ ?_ ?_|refine' L2.kM KX G ?_|refine' PySem.W.mg_of KX G ?_|refine' PySem.W.mg_none_of KX G ?_
  all_goals (try dsimp only[Carry.cHall])
  all_goals first|(refine' L2.fun_mk ?zl ?zc ?zk;(case zl=>k_is);(case zc=>k_is);(case zk=>k_is))|(intro _ _ _ _ _ _ us hl;rw[Carry.us_n hl];rfl)|k_is|(show _=_;k_is)|skip
  all_goals (try (refine' L2.fun_mk ?zl ?zc ?zk;(case zl=>k_is);(case zc=>k_is);(case zk=>k_is)))