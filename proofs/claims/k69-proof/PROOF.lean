import PyProof.Rows.All
import Wide.All
import OpenK.AllK
import Wide.FinOn
import Lean
import PyProof.EqAt
import PyProof.EqKinds
import PyProof.TupleCall
import PyProof.StationsW
import PyProof.ExcClass3
import PyProof.ExcInit
import PyProof.ExcBaseAll.ValueError
import PyProof.ExcArgsOwn
import KE.KIsAll
import PyProof.ExcAttrAll.ValueError
import PyProof.InstStoreFacts
import KE.KTryMore
import PyProof.RulesAs
import PyProof.NsDelKeeps
import KE.KRevIter
import PyProof.SeqI3
import PyProof.DictWalks
import PyProof.EnumIter
import PyProof.EnumStmt
import PyProof.EnumMake
import PyProof.WalksEnum
import PyProof.FactsAll.NoneType_1
import PyProof.NeKinds
import KE.KDictList
import KE.KItemsList
import PyProof.Rows.SortShell
import PyProof.WalkInts
import PyProof.MeetsSeq
import PyProof.SeqRoads2
import KE.KDictOf
import PyProof.AttrMissHeap
import KE.KSortTup
import PyProof.Rows.SortWalk
import PyProof.Rows.SumAny
import PySem.Challenge.RW_carry_k69_whole_nothing_stands_for_ever
set_option linter.all false
set_option bootstrap.genMatcherCode false
set_option compiler.extract_closed false
set_option compiler.reuse false
set_option genSizeOf false
set_option genSizeOfSpec false
def bw:=@List.length_map.{0,0}
def bP:=@Nat.le_refl
def cq:=@List.map_cons.{0,0}
def cA:=@Option.bind_eq_some_iff.{0,0}
def cP:=@PySem.Heap.lt_size
theorem cU:type_of% @Option.any_some.{0}:=rfl
def c8:=@PySem.Heap.get?_push_of_some
def dm:=@Option.map_eq_some_iff.{0,0}
def dw:=@List.size_toArray.{0}
def dy:=@List.length_append.{0}
def y0a:=@List.mem_cons.{0}
def dN:=@List.mem_append.{0}
def eK:=@List.map_append.{0,0}
def fA:=@List.getElem?_eq_some_iff.{0}
def fB:=@List.mem_map.{0,0}
def fF:=@List.map_map.{0,0,0}
def fU:=@Nat.lt_of_lt_of_le
def fX:=@Bool.and_eq_true
def gM:=@Nat.ne_of_lt
def gP:=@List.getElem?_map.{0,0}
def i6:=@Nat.max_self
def jq:=@List.getElem?_eq_getElem.{0}
def jN:=@Nat.le_trans
def jO:=@PySem.Heap.get?_push_size
def j5:=@Nat.lt_irrefl
def j6:=@List.contains_iff_mem.{0}
def lB:=@List.mem_singleton.{0}
def lC:=@Bool.not_true
theorem lS:type_of% @List.length_cons.{0}:=rfl
def lT:=@List.prefix_refl.{0}
def mL:=@Nat.zero_le
def mO:=@List.append_nil.{0}
def mP:=@List.mem_map_of_mem.{0,0}
def mQ:=@Bool.not_false
def nK:=@List.append_assoc.{0}
def nR:=@List.nodup_append.{0}
def pB:=@List.map_congr_left.{0,0}
def pJ:=@List.mem_append_right.{0}
def pK:=@List.all_eq_true.{0}
def qf:=@List.filterMap_cons.{0,0}
def qg:=@List.mem_filterMap.{0,0}
def qh:=@PySem.Heap.get?_update_other
def qj:=@List.all_cons.{0}
def qW:=@List.length_replicate.{0}
def si:=@Bool.false_ne_true
def sj:=@List.nodup_cons.{0}
def sk:=@PySem.Heap.get?_update_self
def sr:=@List.length_set.{0}
def su:=@Bool.false_eq_true
def sv:=@List.sum_cons.{0}
def uG:=@List.mem_cons_of_mem.{0}
def uH:=@List.mem_of_getElem?.{0}
def vk:=@List.getElem?_append_right.{0}
def vm:=@List.length_singleton.{0}
def vn:=@Option.bind_some.{0,0}
def vp:=@Array.getElem?_eq_getElem.{0}
def vq:=@List.length_range
def vt:=@Int.mul_nonneg
def w9:=@List.getElem?_set_self.{0}
def w_:=@Nat.lt_succ_self
def xa:=@Nat.le_succ
def xg:=@List.getElem?_append_left.{0}
def xh:=@List.mem_range
def yJ:=@List.mem_filter.{0}
def yK:=@Nat.ne_of_gt
def yL:=@List.length_take.{0}
def yM:=@List.map_nil.{0,0}
def yN:=@List.length_filter_le.{0}
def yO:=@List.nil_append.{0}
theorem yP:type_of% @Option.isSome_some.{0}:=rfl
def AV:=@List.mem_cons_self.{0}
def AW:=@Nat.lt_succ_of_lt
def AX:=@Bool.eq_iff_iff
def AY:=@List.take_of_length_le.{0}
def AZ:=@List.mem_iff_getElem?.{0}
def A0:=@Array.getElem?_toList.{0}
def A1:=@List.getElem?_range
def A2:=@Nat.le_of_ble_eq_true
theorem A3:type_of% @Option.isSome_none.{0}:=rfl
def A4:=@List.getElem?_eq_none.{0}
def A5:=@Int.le_refl
def A6:=@Bool.eq_false_iff
def B6:=@List.getElem?_set_ne.{0}
def B7:=@List.length_drop.{0}
def B8:=@List.filter_cons.{0}
theorem B9:type_of% @List.length_nil.{0}:=rfl
def B_:=@Array.getElem?_eq_some_iff.{0}
def B':=@Bool.and_eq_true_iff
def Ca:=@List.find?_cons.{0}
def Cb:=@List.getD_eq_getElem?_getD.{0}
def Cd:=@List.filterMap_nil.{0,0}
def Fo:=@List.mem_append_left.{0}
def Fp:=@List.getElem_inj.{0}
def Fq:=@Nat.le_of_eq
def Fs:=@List.getElem_mem.{0}
def y1x:=@List.not_mem_nil.{0}
def Ft:=@List.all_map.{0,0}
def Fu:=@Option.map_some.{0,0}
def Fm:=@PySem.Heap.get?_push_ne
def Ij:=@Nat.le_of_lt
def Ik:=@List.drop_of_length_le.{0}
def Il:=@Nat.le_add_right
def Im:=@List.filter_sublist.{0}
def Io:=@List.find?_eq_none.{0}
def Ip:=@List.nodup_nil.{0}
def Iq:=@PySem.Heap.get?_update_ne
def Ir:=@List.map_drop.{0,0}
def Iu:=@List.pairwise_map.{0,0}
def Iv:=@List.set_set.{0}
def Iw:=@Option.getD_some.{0}
def Iy:=@List.length_filterMap_le.{0,0}
def Iz:=@Int.mul_le_mul_of_nonneg_left
def M':=@Array.mem_toList_iff.{0}
def Na:=@List.getElem?_replicate.{0}
theorem Nb:type_of% @Array.length_toList.{0}:=rfl
def Nc:=@Bool.or_eq_true
def Nd:=@Nat.sub_self
def Nf:=@Nat.lt_of_le_of_lt
def Ng:=@List.drop_eq_getElem_cons.{0}
def Nh:=@List.nodup_range
def Ni:=@List.ext_getElem?.{0}
def Nj:=@List.take_length.{0}
def Nk:=@List.foldl_append.{0,0}
def Nl:=@PySem.Heap.size_update
theorem Nm:type_of% @List.foldl_cons.{0,0}:=rfl
def Nn:=@List.cons_ne_nil.{0}
def Np:=@List.map_take.{0,0}
def Nq:=@Nat.ble_eq_true_of_le
def Nr:=@Bool.or_true
def Nt:=@List.mem_of_find?_eq_some.{0}
def Nu:=@List.filterMap_append.{0,0}
def Nv:=@List.set_getElem_self.{0}
def ay:=@PySem.wpAny_bind
def aU:=@PySem.wpAny_pure
def pL:=@if_true.{1}
def bI:=@if_pos.{1}
def ba:=@if_neg.{1}
def j7:=@if_false.{1}
def xl:=@decide_eq_true
def yQ:=@decide_eq_false
def fY:=@beq_self_eq_true.{0}
def lD:=@PySem.wpAny_holding
def y9a:=@decide_eq_true_iff
def yR:=@of_decide_eq_true
def uI:=@beq_eq_false_iff_ne.{0}
def y9d:=@Classical.byContradiction
def cC:=@absurd.{0}
def uJ:=@True.intro
def bJ:=@eq_true
namespace Carry.Hd
open Lean Meta PySem PySem.W
abbrev kC:=@mkConst
abbrev aM:=@mkAppM
abbrev nL:=mkRawNatLit
abbrev Ex:=Lean.Expr
def fit(ds:Array (Ex×Ex×Ex)):MetaM (Array (Ex×Ex×Ex)):=do
 let cs:Std.HashSet Ex:=ds.foldl (λz d=>if d.1.isConst then z.insert d.1 else z) {}
 ds.filterM λd=>do
  let ty:=Fast.bareType (<-inferType d.1)
  return (ty.find? λy=>cs.contains y || y.isConstOf ``PySem.W.Frag).isNone
def spots(ds:Array (Ex×Ex×Ex)):Std.HashMap Ex Nat:=ds.zipIdx.foldl (λz d=>z.insert d.1.1 d.2) {}
def parts(tw:Name->MetaM Unit)(v:Ex):MetaM (Array (Ex×Ex×Ex)):=do
 for x in Fast.constsOf v do
  if let .const c _:=x then
   if((<-getEnv).getModuleIdxFor? c).isNone || (`PySem.Challenge).isPrefixOf c then tw c
 fit (<-Fast.twinsIn v)
def twin:Nat->Name->MetaM Unit
 |0,_=>return
 |k+1,c=>do
  let (n,e) <-Fast.stemIn c true
  if(<-getEnv).contains e then return
  if let some none:=(<-Fast.primed.get).get? c then return
  let some (.defnInfo d):=(<-getEnv).find? c|return
  let ds <-parts (twin k) d.value
  if ds.isEmpty then
   Fast.primed.modify λz=>z.insert c none
   return
  let tys <-ds.mapM λx=>inferType x.1
  let ty <-inferType d.value
  let ix:=spots ds
  let G <-Fast.withLocals tys.toList #[] λxs=>mkLambdaFVars xs (Fast.putIn ix (λi=>xs[i]!) d.value)
  let mut B:=#[ty]
  for q in tys.reverse do B:=B.push (<-mkArrow q B.back!)
  let m:=ds.size
  let mut f:=G
  let mut g:=G
  let mut pf:=mkApp2 (kC ``Eq.refl [<-getLevel B[m]!]) B[m]! G
  for i in [0:m] do
   let (x,y,h):=ds[i]!
   pf:=mkAppN (kC ``congr [<-getLevel tys[i]!,<-getLevel B[m - 1 - i]!]) #[tys[i]!,B[m - 1 - i]!,f,g,x,y,pf,h]
   f:=mkApp f x
   g:=mkApp g y
  withOptions (Elab.async.set · false) do
   addDecl (.defnDecl { name:=n,levelParams:=[],type:=d.type,value:=Fast.putIn ix (λi=>ds[i]!.2.1) d.value,hints:=d.hints,safety:=.safe})
   addDecl (.thmDecl { name:=e,levelParams:=[],type:=<-mkEq (kC c) (kC n),value:=pf})
  Fast.primed.modify λz=>z.insert c (some (n,e))
def prep(v:Ex):MetaM (Array (Ex×Ex×Ex)):=parts (twin 9) v
def put(stem:Name)(ty v:Ex):MetaM Ex:=do
 let ds <-prep v
 let c <-defAt stem ty (Fast.putIn (spots ds) (λi=>ds[i]!.2.1) v)
 Fast.primed.modify λz=>z.insert c.constName! none
 return c
abbrev Objs:=Array (Obj×Obj×Ex)
def lay(old:Objs)(s t:Shared):MetaM Objs:=do
 let P:=kC ``Params
 unless s.heap.objs.size == t.heap.objs.size && s.toks == t.toks && toExpr s.drawn == toExpr t.drawn && toExpr s.heap.life == toExpr t.heap.life do throwError "the worlds part"
 let mut out:=#[]
 for i in [0:s.heap.objs.size] do
  let (a,b):=(s.heap.objs[i]!,t.heap.objs[i]!)
  if let some (a',b',e):=old[i]? then
   if sameObjNow a' a && sameObjNow b' b then
    out:=out.push (a',b',e)
    continue
  let v <-withLocalDeclD `P P λp=>do
   let e:=objE p a
   unless e == objE p b do throwError "an object is the world's"
   mkLambdaFVars #[p] e
  out:=out.push (a,b,<-put `o (<-mkArrow P (kC ``Obj)) v)
 return out
def state(l:Bool)(old:Objs)(s t:Shared):MetaM (Objs×W.State):=do
 let P:=kC ``Params
 let os <-lay old s t
 let life:=toExpr s.heap.life
 let S:W.State:={ heap:=default,gens:=<-gensE s t,drawn:=toExpr s.drawn,toks:=nL s.toks}
 if l then
  let v <-withLocalDeclD `P P λp=>mkLambdaFVars #[p] (mkApp2 (kC ``Heap.mk) (mkApp2 (kC ``Array.mk [0]) (kC ``Obj) (listE (kC ``Obj) (os.toList.map λx=>mkApp x.2.2 p))) life)
  return (os,{ S with heap:=<-put `h (<-mkArrow P (kC ``Heap)) v})
 let v <-withLocalDeclD `P P λp=>mkLambdaFVars #[p] (treeE p (os.map (·.2.2)) 1 0)
 return (os,{ S with tree:=some (<-put `t (<-mkArrow P (kC ``BT)) v,nL s.heap.objs.size,life)})
def aux(ty pf:Ex):MetaM Ex:=do return kC (<-withOptions (Elab.async.set · false) (mkAuxLemma [] ty pf (cache:=false)))
def look:Nat->Ex->Ex->MetaM Ex
 |k,l,r=>do
  let W:=kC ``World
  let O:=kC ``OsState
  let q <-withLocalDeclD `w W λw=>withLocalDeclD `os O λos=>do
   let un (e:Ex):MetaM Ex:=do
    let e:=(mkApp2 e w os).headBeta
    if e.isAppOf ``openSeen || e.isAppOf ``openGood then return (<-unfoldDefinition? e).getD e
    return e
   let (a,b):=(<-un l,<-un r)
   unless a.isAppOfArity ``Prod.mk 4 && b.isAppOfArity ``Prod.mk 4 do return none
   let sh (e:Ex) (i:Nat):MetaM Ex:=mkLambdaFVars #[w,os] (e.getArg! i)
   return some (<-sh a 2,<-sh b 2,<-sh a 3,<-sh b 3)
  match k,q with
  |n+1,some (a1,b1,a2,b2)=>
   let (x,y):=(<-look n a1 b1,<-look n a2 b2)
   let (ty,pf) <-withLocalDeclD `w W λw=>withLocalDeclD `os O λos=>do
    return (<-mkForallFVars #[w,os] (<-mkEq (mkApp2 l w os).headBeta (mkApp2 r w os).headBeta),<-mkLambdaFVars #[w,os] (<-aM ``looks_pair #[mkApp2 x w os,mkApp2 y w os]))
   aux ty pf
  |_,_=>
   let P <-withLocalDeclD `w W λw=>do mkLambdaFVars #[w] (<-mkEq (mkApp l w).headBeta (mkApp r w).headBeta)
   discard <| prep P
   let e <-byKernelQuick P []
   withLocalDeclD `w W λw=>withLocalDeclD `os O λos=>do mkLambdaFVars #[w,os] (<-aM ``congrFun #[mkApp e w,os])
def most:Nat:=3000
def left(g:MVarId)(pE:Ex)(p:Program)(_:List String):MetaM Unit:=g.withContext do
 let a:=(<-instantiateMVars (<-g.getType)).consumeMData.getAppArgs
 let some N <-(Meta.evalNat a[7]!).run|throwError "no number"
 let (.ok t,.ok t'):=(<-traceTop p N 1,<-traceTop p N 2)|throwError "no trace"
 let tb:=kC ``treeTable
 let (W,O):=(kC ``World,kC ``OsState)
 let m0:=nL t.s0.heap.objs.size
 let ann:=toExpr t.ann
 let main <-aM ``Program.main #[pE]
 let op <-aM ``opening #[pE]
 let e1 <-aux (<-mkEq op (mkApp (kC ``plainProg) (<-aM ``Scope.names #[<-aM ``Module.scope #[main]]))) (<-mkEqRefl op)
 let e2 <-withLocalDeclD `s (kC ``Shared) λs=>do
  let r <-aM ``some #[s]
  aux (<-mkForallFVars #[s] (<-mkEq (mkApp2 (kC ``fenceModules?) pE s) r)) (<-mkLambdaFVars #[s] (<-mkEqRefl r))
 let e3 <-mkDecideProof (<-mkEq (mkApp2 (kC ``Nat.ble) (nL 600) a[7]!) (kC ``Bool.true))
 let boot:=mkAppN (kC ``boot_open) #[pE,a[7]!,e1,e3,e2]
 let bE <-aM ``behindTheImports #[pE]
 let some cells <-cellsD? bE|throwError "no body"
 let env0 <-Elab.Term.TermElabM.run' do
  let s1 <-Elab.Term.exprToSyntax (<-aM ``Module.scope #[main])
  let s2 <-Elab.Term.exprToSyntax (toExpr t.code)
  let e <-Elab.Term.withSynthesize (Elab.Term.elabTermEnsuringType (<-`(({ scope:=$s1,locals:=mainNs,globals:=mainNs,cells:=[],code:=$s2,frame:=some $(quote t.frame)}:Env))) (kC ``Env))
  instantiateMVars e
 let env <-defAt `env (kC ``Env) env0
 let fp:=toExpr t.framePos
 let cE:=mkApp2 (kC ``Code.body) bE env
 let B:=listE (kC ``Frame) [mkApp (kC ``topFrame) fp]
 let go (f:Name) (more:Array Ex) (n:Nat) (w s th:Ex):Ex:=mkAppN (kC f) (#[tb,pE,w,m0,ann]++more++#[nL n,s,th])
 let one:=#[nL 1]
 let piece (rows:List String) (l r:Ex->Ex->MetaM Ex):MetaM Ex:=do
  for x in [pE,env] do discard <| prep x
  byPiece rows l r
 let ends (S:Ex) (pos:Pos):MetaM Ex:=do aM ``some #[<-aM ``Prod.mk #[kC ``Flow.next,<-aM ``Prod.mk #[S,<-aM ``Prod.mk #[cE,toExpr pos]]]]
 let rowsOf (x y:Snap):=(x.rows++y.rows).eraseDups
 let mut o:Objs:=#[]
 for i in [0:t.s0.heap.objs.size] do o:=o.push (t.s0.heap.objs[i]!,t'.s0.heap.objs[i]!,kC ((`PySem.W).str s!"boot_o_{i}"))
 let S0:PySem.W.State:={ heap:=kC ``boot_heap,gens:=mkApp2 (kC ``Array.mk [0]) (kC ``GenState) (mkApp (kC ``List.nil [0]) (kC ``GenState)),drawn:=kC ``boot_drawn,toks:=kC ``boot_toks}
 let (o1,Sa) <-state true o t.pre.s t'.pre.s
 let thA:=mkApp4 (kC ``Thread.mk) (mkApp2 (kC ``denote) tb cE) cE (toExpr t.pre.pos) B
 let stub:=mkApp (kC ``topStub) pE
 let pre <-piece (rowsOf t.pre t'.pre) (λw os=>pure (go ``topGo #[] t.pre.steps w (S0.at w os) stub)) λw os=>do aM ``some #[<-aM ``Prod.mk #[Sa.at w os,thA]]
 let (o2,Sb) <-state false o1 t.block.s t'.block.s
 let block <-piece (rowsOf t.block t'.block) (λw os=>pure (go ``segRun one t.block.steps.succ w (Sa.at w os) (mkAppN (kC ``blockOf) #[bE,env,cE,toExpr t.pre.pos,B]))) λw os=>ends (Sb.at w os) t.block.pos
 let mut gs:Array (List Ex×Nat×Snap×Snap×List String):=#[]
 for (st,x,x') in cells.zip (t.pieces.zip t'.pieces) do
  let k:=max x.steps x'.steps
  let rs:=rowsOf x x'
  match gs.back? with
  |some (l,n,_,_,r)=>
   if n+k<=most && (r++rs).eraseDups.length<=3 then gs:=gs.pop.push (l++[st],n+k,x,x',(r++rs).eraseDups) else gs:=gs.push ([st],k,x,x',rs)
  |none=>gs:=gs.push ([st],k,x,x',rs)
 let mut cur:=(o2,Sb,t.block.pos)
 let mut lems:=#[]
 for (sts,n,x,x',rs) in gs do
  let stE <-defAt `st (mkApp (kC ``List [0]) (kC ``Stmt)) (listE (kC ``Stmt) sts)
  discard <| prep stE
  let (o0,S1,p1):=cur
  let (o',S') <-state false o0 x.s x'.s
  let th:=mkAppN (kC ``piecesOf) #[stE,env,cE,toExpr p1,B]
  let h <-piece rs (λw os=>pure (go ``segRunT one n.succ w (S1.atT w os) th)) λw os=>ends (S'.atT w os) x.pos
  lems:=lems.push (stE,n.succ,S1,p1,S',x.pos,<-liftT h ``segRun_of)
  cur:=(o',S',x.pos)
  logInfo m!"PIECE {sts.length} {n} {x.s.heap.objs.size}"
 let (oN,SN,pN):=cur
 let (_,Sf) <-state true oN t.fin.s t'.fin.s
 let fin <-piece (rowsOf t.fin t'.fin) (λw os=>pure (go ``topRun #[] t.fin.steps.succ w (SN.at w os) (mkApp4 (kC ``Thread.mk) (mkApp (kC ``doneF) (kC ``Flow.next)) cE (toExpr pN) B))) λw os=>aM ``some #[Sf.at w os]
 let run <-withLocalDeclD `w W λw=>withLocalDeclD `os O λos=>do
  let w1 (l:Ex):MetaM Ex:=do aM ``congrFun #[mkApp l w,os]
  let r:=Sf.at w os
  let com:=#[tb,pE,w,m0,ann,env,fp]
  let mut k <-w1 fin
  let mut M:=nL t.fin.steps.succ
  let mut rest:=listE (kC ``Stmt) []
  for (stE,n,S1,p1,S',p2,h) in lems.toList.reverse do
   k:=mkAppN (kC ``piece_app) (com++#[nL n,M,S1.at w os,S'.at w os,r,stE,rest,cE,toExpr p1,toExpr p2,<-w1 h,k])
   M:=mkApp2 (kC ``Nat.add) (nL n) M
   rest <-aM ``HAppend.hAppend #[stE,rest]
  k:=mkAppN (kC ``piece_block) (com++#[nL t.block.steps.succ,M,Sa.at w os,Sb.at w os,r,bE,cE,toExpr t.pre.pos,toExpr t.block.pos,<-w1 block,k])
  M:=mkApp2 (kC ``Nat.add) (nL t.block.steps.succ) M
  k:=mkAppN (kC ``go_top) #[tb,pE,w,m0,ann,nL t.pre.steps,M,S0.at w os,Sa.at w os,r,stub,thA,<-w1 pre,k]
  M:=mkApp2 (kC ``Nat.add) (nL t.pre.steps) M
  let ty <-mkEq (mkAppN (kC ``topRun) #[tb,pE,w,m0,ann,M,S0.at w os,stub]) (<-aM ``some #[r])
  return (M,<-aux (<-mkForallFVars #[w,os] ty) (<-mkLambdaFVars #[w,os] k))
 let lem:=kC ``LeftO.of_pieces
 let (ms,_,_) <-forallMetaTelescope (<-inferType lem)
 let vs:=#[pE,a[1]!,a[2]!,a[3]!,a[4]!,a[5]!,a[6]!,a[7]!,a[8]!,S0.heap,Sf.heap,S0.gens,Sf.gens,S0.drawn,Sf.drawn,S0.toks,Sf.toks,m0,ann,run.1]
 for (m,v) in ms.zip vs do m.mvarId!.assign v
 let want (i:Nat):MetaM Ex:=do instantiateMVars (<-inferType ms[i]!)
 let .forallE n1 d1 b1 i1 <-want 21|throwError "size"
 let size <-byKernelQuick (.lam n1 d1 b1 i1) []
 let .forallE _ _ bl _ <-want 24|throwError "looks"
 let (l,r) <-withLocalDeclD `w W λw=>do
  let some (_,l,r):=(bl.instantiate1 w).eq?|throwError "looks"
  return (<-mkLambdaFVars #[w] l,<-mkLambdaFVars #[w] r)
 let h <-look 12 l r
 let looks <-withLocalDeclD `w W λw=>do
  let f <-withLocalDeclD `os O λos=>mkLambdaFVars #[os] (mkApp2 h w os)
  mkLambdaFVars #[w] (<-aM ``funext #[f])
 g.assign (mkAppN lem (vs++#[boot,size,run.2,<-mkDecideProof (<-want 23),looks]))
simproc_decl hd0 (PySem.W.OpenLaw.Holds _):=λe=>do
 if let .const (.str p s) _:=e.appArg! then twin 9 (p.str ("p"++(s.drop 1).toString))
 return .continue
simproc_decl hd (PySem.W.OpenRow.Holds _):=λ_=>do
 PySem.W.leftPieces.set (some left)
 return .continue
end Carry.Hd
noncomputable section
set_option Elab.async false
set_option maxRecDepth 100000
abbrev ai:=@PySem.Value
abbrev au:=@PySem.Shared
abbrev ag:=@PySem.Addr
abbrev ak:=@Option.{0}
abbrev bQ:=@PySem.FuncData
abbrev cQ:=@PySem.Around
abbrev de:=@PySem.Program
abbrev qk:=@PySem.NameKind
abbrev bU:=@PySem.Heap
abbrev cB:=@PySem.World
namespace L2
open PySem PySem.Spec PyProof.Rows
abbrev Key:=Sum Int Str
noncomputable def yk:Key->ai->Bool
 |.inl k,v=>Value.isInt k v
 |.inr x,v=>Value.isStrOf x v
noncomputable def LR(w:cB):Key->Int
 |.inl k=>hashInt k
 |.inr x=>hashStr w x
theorem zf:∀{k:Key} {v:ai},yk k v=true->(∃i t,k=Sum.inl i/\v=Value.int i t)\/(∃x t,k=Sum.inr x/\v=Value.str x t)
 |.inl i,v,h=>by
  obtain⟨t,e⟩:=Value.isInt_shape (k:=i) (v:=v) h;exact .inl ⟨i,t,rfl,e⟩
 |.inr x,v,h=>by
  obtain⟨t,e⟩:=Value.isStrOf_shape (x:=x) (v:=v) h;exact .inr ⟨x,t,rfl,e⟩
def e1m(a b:Int):decide ((Sum.inl a:Key)=Sum.inl b)=(a == b):=by
 lia
def e1n(a b:Str):decide ((Sum.inr a:Key)=Sum.inr b)=decide (a=b):=by
 lia
def e1o(a:Int)(b:Str):decide ((Sum.inl a:Key)=Sum.inr b)=false:=yQ (λq=>nomatch q)
def e1p(a:Str)(b:Int):decide ((Sum.inr a:Key)=Sum.inl b)=false:=yQ (λq=>nomatch q)
def JZ(prog:de)(w:cB):PySem.KeyKind prog w Key where
 is:=yk
 hash:=LR w
 inj:=λv a b ha hb=>by
  grind [zf]
 byValue:=λk v h=>by
  rcases zf h with⟨i,t,rfl,rfl⟩|⟨x,t,rfl,rfl⟩ <;> rfl
 pyHash:=λhv h=>by
  rcases zf hv with⟨i,t,rfl,rfl⟩|⟨x,t,rfl,rfl⟩
  .exact wpAny_pyHash_int h
  .exact wpAny_pyHash_str h
 eqBool:=λhu hv h=>by
  rcases zf hu with⟨i,t,rfl,rfl⟩|⟨x,t,rfl,rfl⟩
  .rcases zf hv with⟨j,u,rfl,rfl⟩|⟨y,u,rfl,rfl⟩
   .rw[e1m] at h;exact wpAny_eqBool_int h
   .rw[e1o] at h;exact SeqAt.EqAt.int_str i t y u _ _ _ _ h
  .rcases zf hv with⟨j,u,rfl,rfl⟩|⟨y,u,rfl,rfl⟩
   .rw[e1p] at h;exact SeqAt.EqAt.str_int x t j u _ _ _ _ h
   .rw[e1n] at h;exact wpAny_eqBool_str h
 «strs»:=λk x t v h=>by
  rcases zf h with⟨i,u,rfl,e⟩|⟨y,u,rfl,e⟩
  .exact nomatch e
  .injection e with e1 _;subst e1;cases v <;> rfl
inductive V where
 |aI|bl (b:Bool)|int (i:Int)|str (x:Str)|xF (b:Array UInt8)|xX (b:UInt64)|ref (a:ag)|ty (n:String)
 deriving DecidableEq
def RelV:V->ai->Prop
 |.aI,u=>u=Value.none
 |.bl b,u=>u=Value.bool b
 |.int i,u=>∃t,u=Value.int i t
 |.str x,u=>∃t,u=Value.str x t
 |.xF b,u=>∃t,u=Value.bytes b t
 |.xX b,u=>∃t,u=Value.float b t
 |.ref a,u=>u=Value.ref a
 |.ty n,u=>u=Value.type n
abbrev Vals:List V->List ai->Prop:=Paired RelV
theorem Vals.length{xs:List V}{us:List ai}(r:Vals xs us):xs.length=us.length:=Paired.length r
theorem Vals.get:∀{xs:List V} {us:List ai} {i:Nat} {x:V},Vals xs us->xs[i]?=some x->∃u,us[i]?=some u/\RelV x u
 |_,_,_,_,.nil,e=>by simp at e
 |_,_,0,_,.cons r _,e=>by simp at e;subst e;exact⟨_,rfl,r⟩
 |_,_,i+1,x,.cons _ t,e=>by
  obtain⟨u,h1,h2⟩:=Vals.get (i:=i) (x:=x) t (by simpa using e)
  simp_all
theorem Vals.set{x:V}{u:ai}(r:RelV x u):∀{xs:List V} {us:List ai} (i:Nat),Vals xs us->Vals (xs.set i x) (us.set i u)
 |_,_,_,.nil=>.nil
 |_,_,0,.cons _ t=>.cons r t
 |_,_,i+1,.cons q t=>.cons q (Vals.set r i t)
def Vals.append{xs ys:List V}{us ws:List ai}(h:Vals xs us)(s:Vals ys ws):Vals (xs++ys) (us++ws):=by
 induction h with
 |nil=>exact s
 |cons r t ih=>exact .cons r ih
theorem Vals.take:∀{xs:List V} {us:List ai} (n:Nat),Vals xs us->Vals (xs.take n) (us.take n)
 |_,_,0,_=>.nil
 |_,_,_+1,.nil=>.nil
 |_,_,n+1,.cons r t=>.cons r (Vals.take n t)
theorem Vals.drop:∀{xs:List V} {us:List ai} (n:Nat),Vals xs us->Vals (xs.drop n) (us.drop n)
 |_,_,0,r=>r
 |_,_,_+1,.nil=>.nil
 |_,_,n+1,.cons _ t=>Vals.drop n t
def ir:ak V->ak ai->Prop
 |some v,some u=>RelV v u
 |none,none=>True
 |_,_=>False
def KV{κ:Type}:List (κ×V)->List (κ×ai)->Prop:=Paired λ(p:κ×V) (q:κ×ai)=>p.1=q.1/\RelV p.2 q.2
def kV:Key->V
 |.inl i=>.int i
 |.inr x=>.str x
inductive TK where
 |inl (i:Int)|inr (x:Str)|tp (l:List TK)|aI
mutual
def TK.beq:TK->TK->Bool
 |.inl a,.inl b=>decide (a=b)
 |.inr a,.inr b=>decide (a=b)
 |.tp l,.tp m=>TK.p7 l m
 |.aI,.aI=>true
 |_,_=>false
def TK.p7:List TK->List TK->Bool
 |[],[]=>true
 |a::l,b::m=>TK.beq a b&&TK.p7 l m
 |_,_=>false
end
mutual
theorem TK.beq_iff:∀a b:TK,TK.beq a b=true↔a=b
 |.inl a,.inl b=>by unfold TK.beq;rw[decide_eq_true_eq];exact⟨λe=>by rw[e],λe=>by cases e;rfl⟩
 |.inr a,.inr b=>by unfold TK.beq;rw[decide_eq_true_eq];exact⟨λe=>by rw[e],λe=>by cases e;rfl⟩
 |.tp l,.tp m=>by unfold TK.beq;rw[TK.om l m];exact⟨λe=>by rw[e],λe=>by cases e;rfl⟩
 |.inl _,.inr _=>by unfold TK.beq;exact⟨λe=>(nomatch e),λe=>(nomatch e)⟩
 |.inl _,.tp _=>by unfold TK.beq;exact⟨λe=>(nomatch e),λe=>(nomatch e)⟩
 |.inr _,.inl _=>by unfold TK.beq;exact⟨λe=>(nomatch e),λe=>(nomatch e)⟩
 |.inr _,.tp _=>by unfold TK.beq;exact⟨λe=>(nomatch e),λe=>(nomatch e)⟩
 |.tp _,.inl _=>by unfold TK.beq;exact⟨λe=>(nomatch e),λe=>(nomatch e)⟩
 |.tp _,.inr _=>by unfold TK.beq;exact⟨λe=>(nomatch e),λe=>(nomatch e)⟩
 |.aI,.aI=>by unfold TK.beq;exact⟨λ_=>rfl,λ_=>rfl⟩
 |.aI,.inl _=>by unfold TK.beq;exact⟨λe=>(nomatch e),λe=>(nomatch e)⟩
 |.aI,.inr _=>by unfold TK.beq;exact⟨λe=>(nomatch e),λe=>(nomatch e)⟩
 |.aI,.tp _=>by unfold TK.beq;exact⟨λe=>(nomatch e),λe=>(nomatch e)⟩
 |.inl _,.aI=>by unfold TK.beq;exact⟨λe=>(nomatch e),λe=>(nomatch e)⟩
 |.inr _,.aI=>by unfold TK.beq;exact⟨λe=>(nomatch e),λe=>(nomatch e)⟩
 |.tp _,.aI=>by unfold TK.beq;exact⟨λe=>(nomatch e),λe=>(nomatch e)⟩
theorem TK.om:∀l m:List TK,TK.p7 l m=true↔l=m
 |[],[]=>by unfold TK.p7;exact⟨λ_=>rfl,λ_=>rfl⟩
 |a::l,b::m=>by unfold TK.p7;rw[fX,TK.beq_iff a b,TK.om l m];exact⟨λe=>by rw[e.1,e.2],λe=>by cases e;exact⟨rfl,rfl⟩⟩
 |[],_::_=>by unfold TK.p7;exact⟨λe=>(nomatch e),λe=>(nomatch e)⟩
 |_::_,[]=>by unfold TK.p7;exact⟨λe=>(nomatch e),λe=>(nomatch e)⟩
end
instance:DecidableEq TK:=λa b=>decidable_of_iff _ (TK.beq_iff a b)
mutual
def TK.hash(w:cB):TK->Int
 |.inl i=>hashInt i
 |.inr x=>hashStr w x
 |.tp l=>reduceHash (Builtin.Tuple.tupleHashOf (TK.dF w l))
 |.aI=>4238894112
def TK.dF(w:cB):List TK->List Int
 |[]=>[]
 |a::l=>TK.hash w a::TK.dF w l
end
def TK.ok:Nat->TK->Bool
 |n+1,.tp l=>l.all (TK.ok n)
 |0,.tp _=>false
 |_,_=>true
def i7(w:cB)(e:TK×V×V)(x:DictEntry):Prop:=x.hash=e.1.hash w/\RelV e.2.1 x.key/\RelV e.2.2 x.val/\e.1.ok 8=true
inductive HO where
  |lst (xs:List V)
  |tup (xs:List V)
  |dK (kvs:List (Key×V))|dT (kvs:List (List Key×V))
  |dG (es:List (TK×V×V)) (ep:Nat)
  |set (S:Int->Bool) (n:Nat)
  |ins (C dx:ag) (fs:List (Str×V))
  |own (x:ag)
  |xd (fs:List (Str×V))
  |met (f x:ag)
  |Mr (lo hi:Int)
  |Y (o:Obj) (u:HO)
  |AR (ps:Array ai)
  |ext (φ:bU->Prop)
abbrev Hp:=ag->ak HO
noncomputable def upd(H:Hp)(a:ag)(o:HO):Hp:=λb=>if b=a then some o else H b
theorem aJ{H:Hp}{a:ag}{o:HO}:upd H a o a=some o:=by unfold upd;rw[bI rfl]
theorem c_{H:Hp}{a b:ag}{o:HO}(h:b≠a):upd H a o b=H b:=by unfold upd;rw[ba h]
def Zr{H:Hp}{a:ag}{o u:HO}:upd (upd H a o) a u=upd H a u:=by
 funext b;unfold upd;split <;> rfl
def sZ{H:Hp}{a b:ag}{o:HO}(h:H a=some o)(h':H b=none):a≠b:=by
 lia
section
variable(P:de)(w:cB)
def bG(H:Hp)(h:bU)(a:ag):HO->Prop
 |.lst xs=>xs.length<=sizeLine/\∃(aF:List ai) (n:Nat),Vals xs aF/\h.get? a=some { cls:=.type "list",data:=.seq aF.toArray n}
 |.tup xs=>xs.length<=sizeLine/\∃aF:List ai,Vals xs aF/\IsTup h a aF.toArray
 |.dK kvs=>kvs.length<=sizeLine/\(a == sysModules)=false/\∃vs,KV kvs vs/\h.DictOf (JZ P w) a vs
 |.dT kvs=>kvs.length<=sizeLine/\(a == sysModules)=false/\∃xs:List (List Key×ag×ai),
   Paired (λ(p:List Key×V) (q:List Key×ag×ai)=>p.1=q.1/\H q.2.1=some (.tup (p.1.map kV))/\RelV p.2 q.2.2) kvs xs/\
   ∃o es ep,h.get? a=some o/\o.ExactDict/\o.data=.dict es ep/\es.toList=xs.map (entryOfKey (tupleKind (JZ P w)))/\(xs.map (·.1)).Nodup
 |.dG es ep=>es.length<=sizeLine/\(a == sysModules)=false/\∃o xs,h.get? a=some o/\o.ExactDict/\o.data=.dict xs ep/\Paired (i7 w) es xs.toList/\(es.map (·.1)).Nodup
 |.set S n=>h.SetOf (intKind P w) a S n
 |.ins C dx fs=>H dx=some (.own a)/\fs.length<=1000/\dx≠a/\h.get? a=some (PySem.W.instObj C dx)/\
   ∃mA,h.Ns1 dx mA/\(∀f,ir (fs.lookup f) (mA f))/\PySem.Within mA (fs.map (·.1))
 |.own _=>∃o,h.get? a=some o
 |.xd fs=>∃mA,h.Ns1 a mA/\∀f,ir (fs.lookup f) (mA f)
 |.Mr lo hi=>∃t u v,h.get? a=some { cls:=.type "range",data:=.fields #[.int lo t,.int hi u,.int 1 v]}
 |.Y o u=>h.get? a=some o/\bG H h a u
 |.AR ps=>h.get? a=some { cls:=.none,data:=.fields ps}
 |.met f x=>h.get? a=some (PySem.W.methodObj (.ref f) (.ref x))
 |.ext φ=>φ h/\(∃o,h.get? a=some o)/\∀h1 h2:bU,φ h1->(∀o,h1.get? a=some o->h2.get? a=some o)->φ h2
def jb(H:Hp)(h:bU):Prop:=∀a o,H a=some o->bG P w H h a o
end
section
variable{P:de}{w:cB}{H H':Hp}{h h':bU}{a:ag}{o:HO}
theorem bG.lt(x:bG P w H h a o):a<h.objs.size:=by
 cases o with
 |lst xs=>obtain⟨_,_,_,_,e⟩:=x;exact cP e
 |tup xs=>obtain⟨_,_,_,p⟩:=x;exact p.lt
 |dK kvs=>obtain⟨_,_,_,_,o,_,_,e,_⟩:=x;exact cP e
 |dT kvs=>obtain⟨_,_,_,_,o,_,_,e,_⟩:=x;exact cP e
 |dG es ep=>obtain⟨_,_,o,_,e,_⟩:=x;exact cP e
 |set S n=>obtain⟨o,_,_,_,e,_⟩:=x;exact cP e
 |ins C dx fs=>obtain⟨_,_,_,e,_⟩:=x;exact cP e
 |own y=>obtain⟨_,e⟩:=x;exact cP e
 |xd fs=>obtain⟨_,⟨_,_,_,e,_⟩,_⟩:=x;exact cP e
 |Mr lo hi=>obtain⟨_,_,_,e⟩:=x;exact cP e
 |Y ob u=>obtain⟨e,_⟩:=x;exact cP e
 |AR ps=>exact cP (show h.get? a=some _ from x)
 |met f y=>exact cP (show h.get? a=some _ from x)
 |ext φ=>obtain⟨_,⟨_,e⟩,_⟩:=x;exact cP e
def Paired.En{α β:Type}{F G:α->β->Prop}{l₁:List α}{l₂:List β}(h:Paired F l₁ l₂)(f:∀a b,F a b->G a b):Paired G l₁ l₂:=by
 induction h with
 |nil=>exact .nil
 |cons r t ih=>exact .cons (f _ _ r) ih
def bG.jo(x:bG P w H h a o)(k:∀b u,(b=a\/H b=some (.own a))->h.get? b=some u->h'.get? b=some u)
  (ho:∀b,H b=some (.own a)->H' b=some (.own a)) (ht:∀b xs,H b=some (.tup xs)->H' b=some (.tup xs)):bG P w H' h' a o:=by
 induction o with
 |lst xs=>obtain⟨z,aF,n,r,e⟩:=x;exact⟨z,aF,n,r,k _ _ (.inl rfl) e⟩
 |tup xs=>obtain⟨z,aF,r,ob,e,c⟩:=x;exact⟨z,aF,r,ob,k _ _ (.inl rfl) e,c⟩
 |dK kvs=>obtain⟨z,y,vs,r,ob,es,ep,e,c⟩:=x;exact⟨z,y,vs,r,ob,es,ep,k _ _ (.inl rfl) e,c⟩
 |dT kvs=>
  obtain⟨z,y,xs,r,ob,es,ep,e,c⟩:=x;exact⟨z,y,xs,Paired.En r λp q z=>⟨z.1,ht _ _ z.2.1,z.2.2⟩,ob,es,ep,k _ _ (.inl rfl) e,c⟩
 |dG es ep=>obtain⟨z,y,ob,xs,e,c⟩:=x;exact⟨z,y,ob,xs,k _ _ (.inl rfl) e,c⟩
 |set S n=>obtain⟨ob,es,ep,t,e,c⟩:=x;exact⟨ob,es,ep,t,k _ _ (.inl rfl) e,c⟩
 |ins C dx fs=>
  obtain⟨d,z,ne,e,mA,⟨od,es,ep,e2,c⟩,r⟩:=x;exact⟨ho _ d,z,ne,k _ _ (.inl rfl) e,mA,⟨od,es,ep,k _ _ (.inr d) e2,c⟩,r⟩
 |own y=>obtain⟨ob,e⟩:=x;exact⟨ob,k _ _ (.inl rfl) e⟩
 |xd fs=>obtain⟨mA,⟨od,es,ep,e,c⟩,r⟩:=x;exact⟨mA,⟨od,es,ep,k _ _ (.inl rfl) e,c⟩,r⟩
 |Mr lo hi=>obtain⟨t,u,v,e⟩:=x;exact⟨t,u,v,k _ _ (.inl rfl) e⟩
 |Y ob u ih=>obtain⟨e,q⟩:=x;exact⟨k _ _ (.inl rfl) e,ih q⟩
 |AR ps=>
  have e:h.get? a=some { cls:=.none,data:=.fields ps}:=x;show h'.get? a=some { cls:=.none,data:=.fields ps};exact k a _ (.inl rfl) e
 |met f y=>
  have e:h.get? a=some (PySem.W.methodObj (.ref f) (.ref y)):=x;show h'.get? a=some (PySem.W.methodObj (.ref f) (.ref y));exact k a _ (.inl rfl) e
 |ext φ=>obtain⟨p,⟨o,e⟩,st⟩:=x;exact⟨st _ _ p λo q=>k _ _ (.inl rfl) q,⟨o,k _ _ (.inl rfl) e⟩,st⟩
theorem jb.lt(x:jb P w H h)(e:H a=some o):a<h.objs.size:=(x a o e).lt
def jb.fresh(x:jb P w H h)(e:h.objs.size<=a):H a=none:=by
 cases q:H a with
 |none=>rfl
 |some u=>exact cC (fU (x.lt q) e) (j5 _)
def jb.kept(x:jb P w H h)(k:∀b u,h.get? b=some u->h'.get? b=some u):jb P w H h':=λa o e=>
 (x a o e).jo (λb u _ q=>k b u q) (λ_ q=>q) λ_ _ q=>q
def jb.laid(x:jb P w H h)(k:∀b u,h.get? b=some u->h'.get? b=some u)(hp:h.objs.size<=a)(new:bG P w (upd H a o) h' a o):jb P w (upd H a o) h':=λb u e=>by
 have hn:=x.fresh hp;by_cases hb:b=a
 .grind [aJ]
 .rw[c_ hb] at e;exact(x b u e).jo (λc v _ q=>k c v q) (λc q=>by rw[c_ (sZ q hn)];exact q) λc xs q=>by rw[c_ (sZ q hn)];exact q
end
def Rd(H:Hp)(a:ag)(u:HO):Prop:=H a=some u\/∃o,H a=some (.Y o u)
def Rd.ok{P:de}{w:cB}{H:Hp}{h:bU}{a:ag}{u:HO}(r:Rd H a u)(x:jb P w H h):bG P w H h a u:=by
 rcases r with r|⟨o,r⟩
 .exact x a u r
 .obtain⟨_,q⟩:=x a _ r;exact q
def Cm:ak HO->Prop
 |some (.lst _)=>True
 |some (.dK _)=>True
 |some (.dT _)=>True
 |some (.dG _ _)=>True
 |some (.set _ _)=>True
 |some (.ins _ _ _)=>True
 |some (.ext _)=>True
 |_=>False
section
variable{P:de}{w:cB}{H:Hp}{h h':bU}{x e:ag}{o':HO}
def jb.write(ok:jb P w H h)(mu:Cm (H x))(he:e=x\/H e=some (.own x))(k:∀b u,b≠e->h.get? b=some u->h'.get? b=some u)(DT:∃u,h'.get? e=some u)
  (new:bG P w (upd H x o') h' x o'):jb P w (upd H x o') h':=λb u q=>by
 have L5:∀c y,H c=some (.own y)->c≠x:=λc y r z=>by subst z;rw[r] at mu;exact mu
 have L6:∀c xs,H c=some (.tup xs)->c≠x:=λc xs r z=>by subst z;rw[r] at mu;exact mu
 by_cases hb:b=x
 .grind [aJ]
 .rw[c_ hb] at q;by_cases hbe:b=e
  .have q':H b=some (.own x):=by
    lia
   rw[q] at q';cases q';obtain⟨v,hv⟩:=DT;exact⟨v,by rw[hbe];exact hv⟩
  .refine(ok b u q).jo (λc v hc r=>k c v ?_ r) (λc r=>by rw[c_ (L5 c b r)];exact r) λc xs r=>by rw[c_ (L6 c xs r)];exact r
   grind
end
structure Un (fs ex:List ag) (H H':Hp) (h h':bU):Prop where
 keep:∀b o,h.get? b=some o->H b=none->b∉fs->b∉ex->h'.get? b=some o
 slot:∀b o,h.get? b=some o->H b=none->b∈fs->b∉ex->∃sl,h'.get? b=some { o with slots:=sl}
 free:∀b o,h.get? b=some o->H b=none->b∉ex->H' b=none
 there:∀b o,h.get? b=some o->b∉ex->∃o',h'.get? b=some o'
 lR:∀b xs,H b=some (.tup xs)->H' b=some (.tup xs)
 kQ:∀b o u,H b=some (.Y o u)->H' b=some (.Y o u)
 nJ:∀b ps,H b=some (.AR ps)->∃more,H' b=some (.AR (ps++more))
section
variable{fs BO ex ex':List ag}{H H1 H2:Hp}{h h1 h2 h':bU}{a x e:ag}{o:HO}
def Un.any(u:Un fs ex H H1 h h1){b:ag}{ob:Obj}(q:h.get? b=some ob)(n:H b=none)(hx:b∉ex):∃sl,h1.get? b=some { ob with slots:=sl}:=by
 by_cases hb:b∈fs
 .exact u.slot b ob q n hb hx
 .exact⟨ob.slots,u.keep b ob q n hb hx⟩
def Un.kept(k:∀b u,h.get? b=some u->h'.get? b=some u):Un fs ex H H h h':=
 ⟨λb ob q _ _ _=>k b ob q,λb ob q _ _ _=>⟨ob.slots,k b ob q⟩,λ_ _ _ n _=>n,λb ob q _=>⟨ob,k b ob q⟩,λ_ _ q=>q,λ_ _ _ q=>q,λ_ ps q=>⟨#[],by rw[q];simp⟩⟩
def Un.refl:Un fs ex H H h h:=Un.kept λ_ _ q=>q
def Un.laid(k:∀b u,h.get? b=some u->h'.get? b=some u)(hp:h.objs.size<=a)(hn:H a=none):Un fs ex H (upd H a o) h h' where
 keep:=λb u q _ _ _=>k b u q
 slot:=λb u q _ _ _=>⟨u.slots,k b u q⟩
 free:=λb u q n _=>by rw[c_ (gM (fU (cP q) hp))];exact n
 there:=λb u q _=>⟨u,k b u q⟩
 lR:=λb xs q=>by rw[c_ (sZ q hn)];exact q
 kQ:=λb u xs q=>by rw[c_ (sZ q hn)];exact q
 nJ:=λb ps q=>⟨#[],by rw[c_ (sZ q hn),q];simp⟩
def Un.write(mu:Cm (H x))(he:e=x\/H e=some (.own x))(k:∀b u,b≠e->h.get? b=some u->h'.get? b=some u)(DT:∃u,h'.get? e=some u):Un fs ex H (upd H x o) h h':=by
 have hx:∀b,H b=none->b≠x:=λb n z=>by subst z;rw[n] at mu;exact mu
 have hb:∀b,H b=none->b≠e:=λb n z=>by
  lia
 have hm:∀b u,H b=some u->¬Cm (some u)->b≠x:=λb u q nm z=>by subst z;rw[q] at mu;exact nm mu
 refine⟨λb u q n _ _=>k b u (hb b n) q,λb u q n _ _=>⟨u.slots,k b u (hb b n) q⟩,λb u q n _=>by rw[c_ (hx b n)];exact n,λb u q _=>?_,
  λb xs q=>by rw[c_ (hm b _ q λz=>z)];exact q,λb u xs q=>by rw[c_ (hm b _ q λz=>z)];exact q,λb ps q=>⟨#[],by rw[c_ (hm b _ q λz=>z),q];simp⟩⟩
 grind
end
noncomputable def MU(h:bU)(H:Hp):List ag:=(List.range h.objs.size).filter λa=>(H a).isSome
def nh(h:bU)(H:Hp):bU:=PySem.W.hideAll h (MU h H)
def Vt(h:bU)(H:Hp):(nh h H).objs.size=h.objs.size:=PySem.W.hideAll_size _ _
def WI{h:bU}{H:Hp}{b:ag}{o:Obj}(e:h.get? b=some o)(n:H b=none):(nh h H).get? b=some o:=
 PySem.W.hideAll_get _ e λhm=>by
  have q:(H b).isSome=true:=(yJ.mp hm).2
  simp_all
def Zs{h:bU}{H:Hp}{b:ag}{o:Obj}(e:(nh h H).get? b=some o):h.get? b=some o/\H b=none:=by
 have e':h.get? b=some o:=PySem.W.of_hideAll (MU h H) e;refine⟨e',?_⟩;cases q:H b with
 |none=>rfl
 |some x=>
  grind [MU,PySem.Heap.lt_size,nh,PySem.W.hideAll_none]
noncomputable def Zt(g h:bU)(L:ag):List (ag×Obj):=(List.range h.objs.size).filterMap λa=>if a=L\/(g.get? a).isSome=true then none else(h.get? a).map λo=>(a,o)
def rest(g h:bU)(L d:ag):List (ag×Obj):=(Zt g h L).filter λp=>decide (p.1≠d)
variable{t' i:Nat}{ch:List ag}{x:Str}{M:Model}{A:cQ}{E:ai->au->Prop}{v:V}{u:ai}{Q:Unit->au->Prop}
structure Mod (K:PySem.W.Frag) (mg:Str->ak ai) (base:bU):Prop where
 BW:K.In base
 glob:base.Ns mainGlobals mg
 blt:∃mb,base.Ns builtinsNs mb/\∀x:Str,x≠"__name__"->mb x=bootBuiltins x
 nolimit:base.NoLimit
set_option genInjectivity false in
structure Cx where
 prog:de
 w:cB
 K:PySem.W.Frag
 mg:Str->ak ai
 base:bU
 A:cQ
 N:List Str
 s₀:au
 H₀:Hp
 env:Env
 outer:List Env
 stack:List Env
 ex:List ag
 fn:Str->Bool
 calm:Bool
 pn:List (ag×Obj)
 xe:ai->au->Prop
noncomputable def kP(l:List Env):List ag:=l.filterMap (·.frame)
abbrev Cx.fs(X:Cx):List ag:=kP X.outer
def FE(sc:Scope)(x:Str):Prop:=sc.names.lookup x=some .local \/ sc.names.lookup x=some .cell\/sc.names.lookup x=some .free
def Loc(sc:Scope)(x:Str):Prop:=sc.names.lookup x=some .local \/ sc.names.lookup x=some .cell
def Look(env:Env)(h:bU)(m:Str->ak ai)(x:Str)(u:ai):Prop:=
 (env.kindOf x=some .local /\ m x=some u)\/((env.kindOf x=some .cell\/env.kindOf x=some .free)/\∃c,env.cells.lookup x=some c/\h.IsCell c (some u))
structure Cx.Ok (X:Cx):Prop where
 mod:Mod X.K X.mg X.base
 kind:X.env.scope.kind=.function
 glob:X.env.globals=mainGlobals
 blt:X.env.builtins=builtinsNs
 above:X.s₀.heap.objs.size<=X.env.locals
 inj:∀x y c,X.env.cells.lookup x=some c->X.env.cells.lookup y=some c->x=y
 has:∀x,(X.env.kindOf x=some .cell\/X.env.kindOf x=some .free)->∃c,X.env.cells.lookup x=some c
 zL:∀x c,X.fn x=true->X.env.cells.lookup x=some c->X.s₀.heap.objs.size<=c
 hd:X.calm=true->X.A.handled=none
 frames:X.A.frames=some X.stack
 B3:X.stack=X.outer\/(X.stack=X.env::X.outer/\X.env.frame=some X.env.locals)
 Ht:∀b∈X.ex,b≠X.env.locals/\∀x c,X.env.cells.lookup x=some c->c≠b
 bs:∀b o,X.base.get? b=some o->X.s₀.heap.get? b=some o/\X.H₀ b=none
 tF:X.base.objs.size<=X.s₀.heap.objs.size
 qb:∀b o,X.base.get? b=some o->b∉X.ex
 rE:∀b∈X.ex,b∉X.fs
 iP:X.s₀.heap.FunFrames X.base X.outer
 vW:∀b∈X.fs,X.H₀ b=none
structure Inv (X:Cx) (aa:List (ag×Obj)) (Z:List (ak V)) (H:Hp) (s:au):Prop where
 ok:X.Ok
 os:s.os=X.s₀.os
 bare:AllBare s.gens
 base:Un X.fs X.ex X.H₀ H X.s₀.heap s.heap
 loc:∃m,s.heap.Ns X.env.locals m/\∀(i:Nat) (x:Str) (v:V),X.N[i]?=some x->Z[i]?=some (some v)->FE X.env.scope x->∃u,RelV v u/\Look X.env s.heap m x u
 cell:∀x c,X.env.cells.lookup x=some c->∃v,s.heap.IsCell c v
 free:H X.env.locals=none
 eC:∀x c,X.env.cells.lookup x=some c->H c=none
 pin:∀p∈X.pn++aa,s.heap.get? p.1=some p.2/\H p.1=none/\p.1≠X.env.locals/\p.1∉X.fs/\∀v,p.2.data≠.cell v
 bA:jb X.prog X.w H s.heap
 len:Z.length=X.N.length
section
variable{X:Cx}{aa:List (ag×Obj)}{Z:List (ak V)}{H H':Hp}{s:au}{h':bU}
def Cx.Ok.L4(ok:X.Ok){b:ag}{o:Obj}(e:X.base.get? b=some o):b∉X.fs:=λhb=>by
 have:=(ok.iP.mem hb).1
 lia
theorem Inv.bs(I:Inv X aa Z H s):∀b o,X.base.get? b=some o->s.heap.get? b=some o/\H b=none:=λb o e=>
 ⟨I.base.keep b o (I.ok.bs b o e).1 (I.ok.bs b o e).2 (I.ok.L4 e) (I.ok.qb b o e),I.base.free b o (I.ok.bs b o e).1 (I.ok.bs b o e).2 (I.ok.qb b o e)⟩
def Inv.bk(I:Inv X aa Z H s):∀b o,X.base.get? b=some o->s.heap.get? b=some o:=λb o e=>(I.bs b o e).1
theorem Inv.mod(I:Inv X aa Z H s):Mod X.K X.mg X.base:=I.ok.mod
def Inv.ke(I:Inv X aa Z H s):X.K.In s.heap:=I.ok.mod.BW.keeps I.bk
theorem Inv.lt(I:Inv X aa Z H s):X.env.locals<s.heap.objs.size:=let ⟨_,hn,_⟩:=I.loc;hn.lt
def Inv.sz(I:Inv X aa Z H s):X.s₀.heap.objs.size<=s.heap.objs.size:=jN I.ok.above (Ij I.lt)
def Inv.Ar(I:Inv X aa Z H s){a:ag}(h:s.heap.objs.size<=a):a∉X.fs:=λhb=>by
 obtain⟨_,o,ho,_⟩:=I.ok.iP.mem hb;exact cC (fU (cP ho) (jN I.sz h)) (j5 _)
def Inv.zN(I:Inv X aa Z H s):∀x c,X.env.cells.lookup x=some c->c≠X.env.locals:=λx c e z=>by
 obtain⟨v,o,ho,hd⟩:=I.cell x c e;obtain⟨m,⟨o',es,ep,x8,qJ,_⟩,_⟩:=I.loc
 lia
theorem Inv.iP(I:Inv X aa Z H s):s.heap.FunFrames X.base X.outer:=by
 have all:∀(l:List Env),(∀b∈kP l,b∈X.fs)->X.s₀.heap.FunFrames X.base l->s.heap.FunFrames X.base l:=by
  intro l
  induction l with
  |nil=>intro _ _;trivial
  |cons env r ih=>
   intro hs hl;obtain⟨hk,⟨L,o,hf,hn,ho,hd⟩,hr⟩:=hl;have hL:L∈X.fs:=hs L (by unfold kP;rw[qf,hf];exact AV)
   obtain⟨sl,e⟩:=I.base.slot L o ho (I.ok.vW L hL) hL λz=>I.ok.rE L z hL
   exact⟨hk,⟨L,_,hf,hn,e,hd⟩,ih (λb hb=>hs b (by unfold kP;rw[qf,hf];exact uG _ hb)) hr⟩
 exact all X.outer (λ_ hb=>hb) I.ok.iP
def Inv.stack(I:Inv X aa Z H s):s.heap.FunFrames X.base X.stack:=by
 rcases I.ok.B3 with e|⟨e,hf⟩
 .rw[e];exact I.iP
 .rw[e];obtain⟨m,hn,_⟩:=I.loc;refine .cons (by rw[I.ok.kind];decide) hf hn ?_ I.iP
  exact Heap.get?_none_of_le (jN I.ok.tF I.ok.above)
def Inv.k_(I:Inv X aa Z H s):∀b∈kP X.stack,b∈X.env.locals::X.fs:=λb hb=>by
 rcases I.ok.B3 with e|⟨e,hf⟩
 .rw[e] at hb;exact uG _ hb
 .rw[e] at hb;unfold kP at hb;rw[qf,hf] at hb;exact hb
def Inv.kh(I:Inv X aa Z H s):∀b∈kP X.stack,H b=none:=λb hb=>by
 rcases y0a.mp (I.k_ b hb) with e|hb
 .rw[e];exact I.free
 .obtain⟨_,o,ho,_⟩:=I.ok.iP.mem hb;exact I.base.free b o ho (I.ok.vW b hb) λz=>I.ok.rE b z hb
def Inv.step{g':Array GenState}{t':Nat}{d':Drawn}{ch:List ag}(I:Inv X aa Z H s)
  (lz:∀b∈ch,(b∈X.ex\/X.s₀.heap.objs.size<=b)/\b≠X.env.locals/\(∀x c,X.env.cells.lookup x=some c->c≠b)/\∀p∈X.pn++aa,p.1≠b)
  (keep:∀b o,b≠X.env.locals->b∉X.fs->b∉ch->s.heap.get? b=some o->H b=none->h'.get? b=some o)
  (slot:∀b o,b≠X.env.locals->b∈X.fs->b∉ch->s.heap.get? b=some o->H b=none->∃sl,h'.get? b=some { o with slots:=sl}) (free:∀b o,b∉ch->s.heap.get? b=some o->H b=none->H' b=none)
  (there:∀b o,b∉ch->s.heap.get? b=some o->∃o',h'.get? b=some o')
  (lR:∀b xs,H b=some (.tup xs)->H' b=some (.tup xs)) (kQ:∀b o u,H b=some (.Y o u)->H' b=some (.Y o u)) (nJ:∀b ps,H b=some (.AR ps)->∃more,H' b=some (.AR (ps++more)))
  (ns:∀m,s.heap.Ns X.env.locals m->h'.Ns X.env.locals m) (bA:jb X.prog X.w H' h') (hg:AllBare g') :
  Inv X aa Z H' { s with heap:=h',gens:=g',drawn:=d',toks:=t'}:=by
 have Tb:∀b o,X.s₀.heap.get? b=some o->b≠X.env.locals:=λb o e=>gM (fU (cP e) I.ok.above)
 have HW:∀b o,X.s₀.heap.get? b=some o->b∉X.ex->b∉ch:=λb o e hx hb=>by
  rcases(lz b hb).1 with z|z
  .exact hx z
  .exact cC (fU (cP e) z) (j5 _)
 have cellK:∀x c,X.env.cells.lookup x=some c->∀v,s.heap.IsCell c v->h'.IsCell c v:=λx c e v ⟨o,ho,hd⟩=>by
  have wj:c∉ch:=λz=>(lz c z).2.2.1 x c e rfl
  by_cases hc:c∈X.fs
  .obtain⟨sl,q⟩:=slot c o (I.zN x c e) hc wj ho (I.eC x c e);exact⟨_,q,hd⟩
  .exact⟨o,keep c o (I.zN x c e) hc wj ho (I.eC x c e),hd⟩
 refine⟨I.ok,I.os,hg,⟨λb o e n hb hx=>?_,λb o e n hb hx=>?_,λb o e n hx=>?_,λb o e hx=>?_,λb xs e=>lR b xs (I.base.lR b xs e),λb o xs e=>kQ b o xs (I.base.kQ b o xs e),λb ps e=>?_⟩,?_,λx c e=>?_,?_,λx c e=>?_,λp hp=>?_,bA,I.len⟩
 .exact keep b o (Tb b o e) hb (HW b o e hx) (I.base.keep b o e n hb hx) (I.base.free b o e n hx)
 .obtain⟨sl,e1⟩:=I.base.slot b o e n hb hx;obtain⟨Mz,e2⟩:=slot b _ (Tb b o e) hb (HW b o e hx) e1 (I.base.free b o e n hx);exact⟨Mz,e2⟩
 .obtain⟨o',e1⟩:=I.base.there b o e hx;exact free b o' (HW b o e hx) e1 (I.base.free b o e n hx)
 .obtain⟨o',e1⟩:=I.base.there b o e hx;exact there b o' (HW b o e hx) e1
 .obtain⟨m1,e1⟩:=I.base.nJ b ps e
  grind
 .obtain⟨m,hn,hl⟩:=I.loc;refine⟨m,ns m hn,λi x v e1 e2 e3=>?_⟩
  obtain⟨u,r,l⟩:=hl i x v e1 e2 e3;refine⟨u,r,?_⟩;rcases l with l|⟨k,c,e,z⟩
  .exact .inl l
  .exact .inr ⟨k,c,e,cellK x c e _ z⟩
 .obtain⟨v,z⟩:=I.cell x c e;exact⟨v,cellK x c e v z⟩
 .obtain⟨m,⟨o,_,_,ho,_⟩,_⟩:=I.loc;exact free _ o (λz=>(lz _ z).2.1 rfl) ho I.free
 .obtain⟨v,o,ho,hd⟩:=I.cell x c e;exact free c o (λz=>(lz c z).2.2.1 x c e rfl) ho (I.eC x c e)
 .obtain⟨e,n,ne,nf,d⟩:=I.pin p hp;have wj:p.1∉ch:=λz=>(lz p.1 z).2.2.2 p hp rfl
  exact⟨keep p.1 p.2 ne nf wj e n,free p.1 p.2 wj e n,ne,nf,d⟩
def Inv.un(I:Inv X aa Z H s)(u:Un X.fs [] H H' s.heap h')(bA:jb X.prog X.w H' h'):Inv X aa Z H' { s with heap:=h',toks:=t'}:=by
 obtain⟨m,⟨o,es,ep,ho,r⟩,_⟩:=id I.loc;obtain⟨sl,hL⟩:=u.any ho I.free (by simp)
 exact I.step (g':=s.gens) (d':=s.drawn) (ch:=[]) (λ_ z=>nomatch z) (λb o _ hb _ e n=>u.keep b o e n hb (by simp)) (λb o _ hb _ e n=>u.slot b o e n hb (by simp)) (λb o _ e n=>u.free b o e n (by simp)) (λb o _ e=>u.there b o e (by simp)) u.lR u.kQ u.nJ (λm' hm=>by
  obtain⟨o',vV,p_,x8,r'⟩:=hm;rw[ho] at x8;cases x8;exact⟨_,vV,p_,hL,r'⟩) bA I.bare
def Inv.call{g':Array GenState}{d':Drawn}(I:Inv X aa Z H s)(u:Un (kP X.stack) ch H H' s.heap h')(bA:jb X.prog X.w H' h')(hg:AllBare g')
  (lz:∀b∈ch,(b∈X.ex\/X.s₀.heap.objs.size<=b)/\b≠X.env.locals/\(∀x c,X.env.cells.lookup x=some c->c≠b)/\∀p∈X.pn++aa,p.1≠b) :
  Inv X aa Z H' { s with heap:=h',gens:=g',drawn:=d',toks:=t'}:=by
 obtain⟨m,⟨o,es,ep,ho,r⟩,_⟩:=id I.loc;obtain⟨sl,hL⟩:=u.any ho I.free λz=>(lz _ z).2.1 rfl
 exact I.step (ch:=ch) lz (λb o hL hb hc e n=>u.keep b o e n (λz=>(y0a.mp (I.k_ b z)).elim hL hb) hc) (λb o _ _ hc e n=>u.any e n hc) (λb o hc e n=>u.free b o e n hc) (λb o hc e=>u.there b o e hc) u.lR u.kQ u.nJ (λm' hm=>by
  obtain⟨o',vV,p_,x8,r'⟩:=hm;rw[ho] at x8;cases x8;exact⟨_,vV,p_,hL,r'⟩) bA hg
def Inv.turned{it:ag}(I:Inv X aa Z H s)(k:∀b o,b≠it->s.heap.get? b=some o->h'.get? b=some o)(hn:H it=none)(hL:it≠X.env.locals)
  (h1:it∈X.ex\/X.s₀.heap.objs.size<=it) (h2:∀x c,X.env.cells.lookup x=some c->c≠it) (h3:∀p∈X.pn++aa,p.1≠it):Inv X aa Z H { s with heap:=h',toks:=t'}:=by
 have Td:∀b u,H b=some u->b≠it:=λb u e z=>by rw[z,hn] at e;cases e
 refine I.step (g':=s.gens) (d':=s.drawn) (ch:=[it]) (λb hb=>?_) (λb o _ _ hc e _=>k b o (λz=>hc (by simp[z])) e) (λb o _ _ hc e _=>⟨o.slots,k b o (λz=>hc (by simp[z])) e⟩) (λ_ _ _ _ n=>n)
  (λb o hc e=>⟨o,k b o (λz=>hc (by simp[z])) e⟩) (λ_ _ e=>e) (λ_ _ _ e=>e) (λb ps e=>⟨#[],by rw[e];simp⟩) (λm hm=>?_) (λb u e=>?_) I.bare
 .have e:b=it:=by simpa using hb
  subst e;exact⟨h1,hL,h2,h3⟩
 .obtain⟨o,es,ep,ho,r⟩:=hm;exact⟨o,es,ep,k _ o (Ne.symm hL) ho,r⟩
 .refine(I.bA b u e).jo (λc v hc q=>k c v ?_ q) (λ_ q=>q) λ_ _ q=>q
  rcases hc with z|z
  .rw[z];exact Td b u e
  .exact Td c _ z
def Inv.tok(I:Inv X aa Z H s)(t:Nat):Inv X aa Z H { s with toks:=t}:=I.un (h':=s.heap) (t':=t) Un.refl I.bA
theorem Inv.kept{t':Nat}(I:Inv X aa Z H s)(k:∀b u,s.heap.get? b=some u->h'.get? b=some u):Inv X aa Z H { s with heap:=h',toks:=t'}:=I.un (Un.kept k) (I.bA.kept k)
theorem Inv.laid{a:ag}{o:HO}{t':Nat}(I:Inv X aa Z H s)(k:∀b u,s.heap.get? b=some u->h'.get? b=some u)(hp:s.heap.objs.size<=a)(new:bG X.prog X.w (upd H a o) h' a o):
  Inv X aa Z (upd H a o) { s with heap:=h',toks:=t'}:=I.un (Un.laid k hp (I.bA.fresh hp)) (I.bA.laid k hp new)
theorem Inv.write{x e:ag}{o:HO}{t':Nat}(I:Inv X aa Z H s)(mu:Cm (H x))(he:e=x\/H e=some (.own x))(k:∀b u,b≠e->s.heap.get? b=some u->h'.get? b=some u)(DT:∃u,h'.get? e=some u)
  (new:bG X.prog X.w (upd H x o) h' x o):Inv X aa Z (upd H x o) { s with heap:=h',toks:=t'}:=I.un (Un.write mu he k DT) (I.bA.write mu he k DT new)
def Inv.kf{pe:List (ag×Obj)}(I:Inv X aa Z H s)(h:∀p∈pe,s.heap.get? p.1=some p.2/\H p.1=none/\p.1≠X.env.locals/\p.1∉X.fs/\∀v,p.2.data≠.cell v):Inv X pe Z H s:=
 ⟨I.ok,I.os,I.bare,I.base,I.loc,I.cell,I.free,I.eC,λp hp=>(dN.mp hp).elim (λz=>I.pin p (Fo _ z)) (h p),I.bA,I.len⟩
def O7{N:List Str}(hN:N.Nodup){j:Nat}(a:N[i]?=some x)(b:N[j]?=some x):i=j:=by
 obtain⟨h1,e1⟩:=fA.mp a;obtain⟨h2,e2⟩:=fA.mp b;exact(Fp hN).mp (e1.trans e2.symm)
def Ow(I:Inv X aa Z H s)(hN:X.N.Nodup)(hi:X.N[i]?=some x)(hx:Loc X.env.scope x)(r:RelV v u)
  (h:∀s',Inv X aa (Z.set i (some v)) H s'->(∃a,Heap.SameBut a s.heap s'.heap/\(a=X.env.locals\/X.env.cells.lookup x=some a))->Q () s') (hf:X.fn x=true\/X.env.scope.names.lookup x=some .local := by first|exact .inl rfl|exact .inr rfl|assumption):wpAny M A (storeName X.env x u) Q E s:=by
 obtain⟨m,hn,hl⟩:=id I.loc;have Li:(X.env.scope.kind == .class || (X.env.scope.kind == .module&&X.env.locals != X.env.globals))=false:=by rw[I.ok.kind];rfl
 have SJ:i<Z.length:=by rw[I.len];exact(fA.mp hi).1
 have zN:=I.zN;have tracked:∀{a:ag} {h':bU},(∃o,s.heap.get? a=some o/\H a=none)->Heap.SameBut a s.heap h'->jb X.prog X.w H h':=λ{a h'} ha hs b ob e=>by
  obtain⟨_,_,hfree⟩:=ha;refine(I.bA b ob e).jo (λc w' hc q=>(hs.2 c ?_).trans q) (λ_ q=>q) λ_ _ q=>q
  lia
 rcases hx with hk|hk
 .refine wpAny_storeName_local hk hn (λh' HK hs=>?_) Li
  obtain⟨oL,_,_,ie,_⟩:=id hn;refine h _ ⟨I.ok,I.os,I.bare,⟨λb o e n hb hx=>?_,λb o e n hb hx=>?_,I.base.free,λb o e hx=>?_,I.base.lR,I.base.kQ,I.base.nJ⟩,⟨_,HK,λj y v' e1 e2 e3=>?_⟩,λy c e=>?_,I.free,I.eC,λp hp=>?_,tracked ⟨oL,ie,I.free⟩ hs,by simpa using I.len⟩ ⟨_,hs,.inl rfl⟩
  .exact(hs.2 b (gM (fU (cP e) I.ok.above))).trans (I.base.keep b o e n hb hx)
  .obtain⟨sl,e1⟩:=I.base.slot b o e n hb hx;exact⟨sl,(hs.2 b (gM (fU (cP e) I.ok.above))).trans e1⟩
  .obtain⟨o',e1⟩:=I.base.there b o e hx;exact⟨o',(hs.2 b (gM (fU (cP e) I.ok.above))).trans e1⟩
  .by_cases hj:j=i
   .subst hj;rw[hi] at e1;cases e1;rw[w9 SJ] at e2;cases e2;exact⟨u,r,.inl ⟨hk,by simp⟩⟩
   .rw[B6 (Ne.symm hj)] at e2;obtain⟨u',r',q⟩:=hl j y v' e1 e2 e3;refine⟨u',r',?_⟩;rcases q with⟨k,e⟩|⟨k,c,e,z⟩
    .refine .inl ⟨k,?_⟩;have:y≠x:=λe=>hj (O7 hN e1 (e ▸ hi))
     simp[this,e]
    .exact .inr ⟨k,c,e,z.sameBut hs (zN y c e)⟩
  .obtain⟨w',z⟩:=I.cell y c e;exact⟨w',z.sameBut hs (zN y c e)⟩
  .obtain⟨e,n,ne,nf,d⟩:=I.pin p hp;exact⟨(hs.2 p.1 ne).trans e,n,ne,nf,d⟩
 .have DU:X.fn x=true:=by
   lia
  obtain⟨c,hc⟩:=I.ok.has x (.inl hk);obtain⟨w',z⟩:=I.cell x c hc;refine wpAny_storeName_cell I.ok.kind hk hc z (λh' nP hs=>?_)
  obtain⟨oc,v8,Lv⟩:=id z;refine h { s with heap:=h'} ⟨I.ok,I.os,I.bare,⟨λb o e n hb hx=>?_,λb o e n hb hx=>?_,I.base.free,λb o e hx=>?_,I.base.lR,I.base.kQ,I.base.nJ⟩,⟨m,hn.sameBut hs (Ne.symm (zN x c hc)),λj y v' e1 e2 e3=>?_⟩,λy c' e=>?_,I.free,I.eC,λp hp=>?_,tracked ⟨oc,v8,I.eC x c hc⟩ hs,by simpa using I.len⟩ ⟨c,hs,.inr hc⟩
  .exact(hs.2 b (gM (fU (cP e) (I.ok.zL x c DU hc)))).trans (I.base.keep b o e n hb hx)
  .obtain⟨sl,e1⟩:=I.base.slot b o e n hb hx;exact⟨sl,(hs.2 b (gM (fU (cP e) (I.ok.zL x c DU hc)))).trans e1⟩
  .obtain⟨o',e1⟩:=I.base.there b o e hx;exact⟨o',(hs.2 b (gM (fU (cP e) (I.ok.zL x c DU hc)))).trans e1⟩
  .by_cases hj:j=i
   .subst hj;rw[hi] at e1;cases e1;rw[w9 SJ] at e2;cases e2;exact⟨u,r,.inr ⟨.inl hk,c,hc,nP⟩⟩
   .rw[B6 (Ne.symm hj)] at e2;obtain⟨u',r',q⟩:=hl j y v' e1 e2 e3;refine⟨u',r',?_⟩;rcases q with q|⟨k,c',e,z'⟩
    .exact .inl q
    .refine .inr ⟨k,c',e,z'.sameBut hs ?_⟩;rintro rfl;exact hj (O7 hN e1 (I.ok.inj _ _ _ e hc ▸ hi))
  .by_cases SG:c'=c
   .subst SG;exact⟨_,nP⟩
   .obtain⟨w2,z2⟩:=I.cell y c' e;exact⟨w2,z2.sameBut hs SG⟩
  .obtain⟨e,n,ne,nf,d⟩:=I.pin p hp;refine⟨(hs.2 p.1 ?_).trans e,n,ne,nf,d⟩;intro q;rw[q,v8] at e;have q':oc=p.2:=Option.some.inj e;exact d w' (by rw[<-q'];exact Lv)
def O8(I:Inv X aa Z H s)(hN:X.N.Nodup)(hi:X.N[i]?=some x)(hx:Loc X.env.scope x)(r:RelV v u)
  (h:∀s',Inv X aa (Z.set i (some v)) H s'->Q () s') (hf:X.fn x=true\/X.env.scope.names.lookup x=some .local := by first|exact .inl rfl|exact .inr rfl|assumption):wpAny M A (storeName X.env x u) Q E s:=
 Ow I hN hi hx r (λs' I' _=>h s' I') hf
def Inv.xG{s':au}(I:Inv X aa Z H s)(ho:s'.os=s.os)(u:Un (kP X.stack) ch H H' s.heap s'.heap)(bA:jb X.prog X.w H' s'.heap)(hg:AllBare s'.gens)
  (lz:∀b∈ch,(b∈X.ex\/X.s₀.heap.objs.size<=b)/\b≠X.env.locals/\(∀x c,X.env.cells.lookup x=some c->c≠b)/\∀p∈X.pn++aa,p.1≠b):Inv X aa Z H' s':=by
 obtain⟨h',g',d',t',o'⟩:=s';have e:o'=s.os:=ho;subst e;exact I.call (g':=g') (t':=t') (d':=d') u bA hg lz
end
abbrev XK:=ai->ak ag->Hp->Prop
abbrev St:=List (ak V)
abbrev VK:=V->Hp->Prop
abbrev TE:=St->Hp->VK->Prop
abbrev TT:=St->Hp->(Bool->Hp->Prop)->Prop
abbrev TA:=St->Hp->(List V->Hp->Prop)->Prop
set_option genInjectivity false in
structure Ends where
 nx:St->Hp->Prop
 rt:VK
 bk:St->Hp->Prop:=λ_ _=>False
 ct:St->Hp->Prop:=λ_ _=>False
abbrev TS:=Ends->St->Hp->Prop
def EP(X:Cx)(aa:List (ag×Obj))(Z:St)(Q:VK)(u:ai)(s':au):Prop:=∃v H',Inv X aa Z H' s'/\RelV v u/\Q v H'
def TP(X:Cx)(aa:List (ag×Obj))(Z:St)(Q:Bool->Hp->Prop)(b:Bool)(s':au):Prop:=∃H',Inv X aa Z H' s'/\Q b H'
def AP(X:Cx)(aa:List (ag×Obj))(Z:St)(Q:List V->Hp->Prop)(us:List ai)(s':au):Prop:=∃vs H',Inv X aa Z H' s'/\Vals vs us/\Q vs H'
def SP(X:Cx)(aa:List (ag×Obj))(D:Ends)(f:Flow)(s':au):Prop:=
 match f with
 |.next=>∃Z' H',Inv X aa Z' H' s'/\D.nx Z' H'
 |.brk=>∃Z' H',Inv X aa Z' H' s'/\D.bk Z' H'
 |.cont=>∃Z' H',Inv X aa Z' H' s'/\D.ct Z' H'
 |.ret u=>∃v Z' H',Inv X aa Z' H' s'/\RelV v u/\D.rt v H'
def PE(X:Cx)(e:Expr)(t:TE):Prop:=
 ∀(aa:List (ag×Obj)) (s:au) (Z:St) (H:Hp) (Q:VK),Inv X aa Z H s->t Z H Q->wpAny (model X.prog X.w) X.A (eval e X.env) (EP X aa Z Q) X.xe s
def PT(X:Cx)(e:Expr)(t:TT):Prop:=
 ∀(aa:List (ag×Obj)) (s:au) (Z:St) (H:Hp) (Q:Bool->Hp->Prop),Inv X aa Z H s->t Z H Q->wpAny (model X.prog X.w) X.A (isTrue e X.env (eval e X.env)) (TP X aa Z Q) X.xe s
def PW(X:Cx)(e:Expr)(t:TT):Prop:=
 ∀(whole:Sem ai) (aa:List (ag×Obj)) (s:au) (Z:St) (H:Hp) (Q:Bool->Hp->Prop),Inv X aa Z H s->t Z H Q->wpAny (model X.prog X.w) X.A (isTrue e X.env whole) (TP X aa Z Q) X.xe s
def PW.pt{X:Cx}{e:Expr}{t:TT}(h:PW X e t):PT X e t:=h _
def PA(X:Cx)(es:List Expr)(t:TA):Prop:=
 ∀(pos:Pos) (aa:List (ag×Obj)) (s:au) (Z:St) (H:Hp) (Q:List V->Hp->Prop),Inv X aa Z H s->t Z H Q->wpAny (model X.prog X.w) X.A (spliced (backTo pos (starEach es X.env))) (AP X aa Z Q) X.xe s
def PS(X:Cx)(st:Stmt)(t:TS):Prop:=
 ∀(aa:List (ag×Obj)) (s:au) (Z:St) (H:Hp) (D:Ends),Inv X aa Z H s->t D Z H->wpAny (model X.prog X.w) X.A (exec st X.env) (SP X aa D) X.xe s
def je(X:Cx)(st:List Stmt)(t:TS):Prop:=
 ∀(aa:List (ag×Obj)) (s:au) (Z:St) (H:Hp) (D:Ends),Inv X aa Z H s->t D Z H->wpAny (model X.prog X.w) X.A (execs st X.env) (SP X aa D) X.xe s
def bK{α:Type}{t:Sem α}{Q Q':α->au->Prop}{s:au}(h:wpAny M A t Q E s)(hQ:∀a s,Q a s->Q' a s):wpAny M A t Q' E s:=wpAny_mono h hQ λ_ _ x=>x
section
variable{X:Cx}
def AQ(i:Nat):TE:=λZ H Q=>∃v,Z[i]?=some (some v)/\Q v H
def tC(v:V):TE:=λ_ H Q=>Q v H
def Rc{i:Nat}{x:Str}{pos:Pos}(hN:X.N[i]?=some x)(hv:FE X.env.scope x)(hd:(x == ("__debug__":Str))=false:=by decide)(rH:(x == ("__classdict__":Str))=false:=by decide):PE X (.Name x pos) (AQ i):=by
 intro aa s Z H Q I h;obtain⟨v,e,h⟩:=h;obtain⟨m,hn,hl⟩:=I.loc;obtain⟨u,r,l⟩:=hl i x v hN e hv;have fin:EP X aa Z Q u s:=⟨v,H,I,r,h⟩;rcases l with⟨hk,hm⟩|⟨hk,c,hc,qI⟩
 .exact wpAny_Name (wpAny_loadName_local I.ok.kind hk hn hm fin) hd
 .rcases hk with hk|hk
  .exact wpAny_Name (wpAny_loadName_cell I.ok.kind hk hc qI fin) hd
  .exact wpAny_Name (wpAny_loadName_free I.ok.kind hk hc qI fin rH) hd
def e1q{i j pos}:PE X (.Constant (.int i) j pos) (tC (.int i)):=λ_ _ _ H _ I h=>wpAny_Constant_int ⟨.int i,H,I.tok _,⟨_,rfl⟩,h⟩
def e7v{b j pos}:PE X (.Constant (.bool b) j pos) (tC (.bl b)):=λ_ _ _ H _ I h=>Constant_bool ⟨.bl b,H,I,rfl,h⟩
def e1r{j pos}:PE X (.Constant .none j pos) (tC .aI):=λ_ _ _ H _ I h=>Constant_none ⟨.aI,H,I,rfl,h⟩
def e1s{x j pos}:PE X (.Constant (.str x) j pos) (tC (.str x)):=λ_ _ _ H _ I h=>Calls.Constant_str ⟨.str x,H,I.tok _,⟨_,rfl⟩,h⟩
def Gl(X:Cx)(x:Str):Prop:=X.env.kindOf x=some .globalImplicit
def Bu{E:ai->au->Prop}{aa:List (ag×Obj)}{s:au}{Z:St}{H:Hp}{x:Str}{u:ai}{pos:Pos}{Q:ai->au->Prop}(I:Inv X aa Z H s)(hg:Gl X x)(hm:X.mg x=some u)(h:Q u s)
  (hd:(x == ("__debug__":Str))=false:=by decide):wpAny (model X.prog X.w) X.A (eval (.Name x pos) X.env) Q E s:=
 Calls.Name_function_global I.ok.kind hg (Calls.loadGlobal_global (by rw[I.ok.glob];exact I.mod.glob.keeps I.bk) hm h) hd
def xx{E:ai->au->Prop}{aa:List (ag×Obj)}{s:au}{Z:St}{H:Hp}{x:Str}{u:ai}{pos:Pos}{Q:ai->au->Prop}(I:Inv X aa Z H s)(hg:Gl X x)(hm:X.mg x=none)(hv:bootBuiltins x=some u)(h:Q u s)
  (hn:x≠"__name__":=by decide) (hd:(x == ("__debug__":Str))=false:=by decide):wpAny (model X.prog X.w) X.A (eval (.Name x pos) X.env) Q E s:=by
 obtain⟨mb,h1,h2⟩:=I.mod.blt;exact Calls.Name_function_global I.ok.kind hg (Calls.loadGlobal_builtin (by rw[I.ok.glob];exact I.mod.glob.keeps I.bk) hm (by rw[I.ok.blt];exact h1.keeps I.bk) ((h2 x hn).trans hv) h) hd
def Zu{x:Str}{v:V}{u:ai}{pos:Pos}(hg:Gl X x)(hm:X.mg x=none)(hv:bootBuiltins x=some u)(r:RelV v u)(hn:x≠"__name__":=by decide)(hd:(x == ("__debug__":Str))=false:=by decide):PE X (.Name x pos) (tC v):=
 λ_ _ _ H _ I h=>xx I hg hm hv ⟨v,H,I,r,h⟩ hn hd
variable{a b:Expr}{ta tb:TE}{pos:Pos}
def tB(t:TE):TT:=λZ H Q=>t Z H λx H1=>∃c,x=.bl c/\Q c H1
variable{tA Ib:TT}{rest:List Expr}
def MH(t u:TT):TT:=λZ H Q=>t Z H λc H1=>if c=true then u Z H1 Q else Q false H1
def tOr(t u:TT):TT:=λZ H Q=>t Z H λc H1=>if c=true then Q true H1 else u Z H1 Q
def MN(t:TT):TT:=λZ H Q=>t Z H λc H1=>Q (!c) H1
def Zv(ha:PT X a tA):PW X (.BoolOp .And [a] pos) tA:=by
 intro wh aa s Z H Q I h;refine isTrue_and (bK (ha aa s Z H Q I h) λc s1 e=>?_)
 cases c with
 |true=>exact isTrue_and_nil e
 |false=>exact e
def e1t(ha:PT X a tA):PW X (.BoolOp .Or [a] pos) tA:=by
 intro wh aa s Z H Q I h;refine isTrue_or (bK (ha aa s Z H Q I h) λc s1 e=>?_)
 cases c with
 |false=>exact isTrue_or_nil e
 |true=>exact e
def e1u(ha:PT X a tA)(hb:PW X (.BoolOp .And (b::rest) pos) Ib):PW X (.BoolOp .And (a::b::rest) pos) (MH tA Ib):=by
 intro wh aa s Z H Q I h;refine isTrue_and (bK (ha aa s Z H _ I h) λc s1 hh=>?_)
 obtain⟨H1,I1,q1⟩:=hh;cases c with
 |true=>exact hb wh aa s1 Z H1 Q I1 q1
 |false=>exact⟨H1,I1,q1⟩
def e7w(ha:PT X a tA)(hb:PW X (.BoolOp .Or (b::rest) pos) Ib):PW X (.BoolOp .Or (a::b::rest) pos) (tOr tA Ib):=by
 intro wh aa s Z H Q I h;refine isTrue_or (bK (ha aa s Z H _ I h) λc s1 hh=>?_)
 obtain⟨H1,I1,q1⟩:=hh;cases c with
 |true=>exact⟨H1,I1,q1⟩
 |false=>exact hb wh aa s1 Z H1 Q I1 q1
def e1v(ha:PT X a tA):PT X (.UnaryOp .Not a pos) (MN tA):=by
 intro aa s Z H Q I h;exact isTrue_not (ha aa s Z H (λc H1=>Q (!c) H1) I h)
def E5(ta tb:TE):TE:=λZ H Q=>ta Z H λx H1=>∃c,x=.bl c/\if c=true then tb Z H1 Q else Q (.bl false) H1
def Az{op}{t:TE}(h:PE X a t):PE X (.BoolOp op [a] pos) t:=λaa s Z H Q I hw=>BoolOp_one (h aa s Z H Q I hw)
def e1w(ha:PE X a ta)(hb:PE X (.BoolOp .And (b::rest) pos) tb):PE X (.BoolOp .And (a::b::rest) pos) (E5 ta tb):=by
 intro aa s Z H Q I h;refine BoolOp_and (bK (ha aa s Z H _ I h) λv s1 hh=>?_)
 obtain⟨x,H1,I1,r1,q1⟩:=hh;obtain⟨c,rfl,q1⟩:=q1;cases r1;refine wpAny_truthy_bool ?_;cases c with
 |true=>exact hb aa s1 Z H1 Q I1 q1
 |false=>exact⟨.bl false,H1,I1,rfl,q1⟩
def tIf(t:TT)(ta tb:TE):TE:=λZ H Q=>t Z H λc H1=>if c=true then ta Z H1 Q else tb Z H1 Q
def WJ{c:Expr}(hc:PT X c tA)(ha:PE X a ta)(hb:PE X b tb):PE X (.IfExp c a b pos) (tIf tA ta tb):=by
 intro aa s Z H Q I h;refine wpAny_IfExp (bK (hc aa s Z H _ I h) λd s1 hh=>?_)
 obtain⟨H1,I1,q1⟩:=hh;cases d with
 |true=>exact ha aa s1 Z H1 Q I1 q1
 |false=>exact hb aa s1 Z H1 Q I1 q1
end
variable{x:Str}{u:ai}{aa:List (ag×Obj)}{Z:St}{H:Hp}{s:au}{c i e o tg:Expr}{tc:TT}{es:List Expr}{to ti te:TE}{P:de}{w:cB}{K:PySem.W.Frag}
def cM(K:PySem.W.Frag)(H:Hp)(a:ag)(xs:List V):Prop:=
 Rd H a (.lst xs)\/
  ∃(o:Obj) (aF:Array ai) (n:Nat),K.lookup a=some o/\o.cls=.type "list"/\o.dict=none/\o.data=.seq aF n/\aF.size<=sizeLine/\Vals xs aF.toList
def gY(K:PySem.W.Frag)(H:Hp)(a:ag)(xs:List V):Prop:=
 Rd H a (.tup xs)\/
  ∃(o:Obj) (aF:Array ai) (n:Nat),K.lookup a=some o/\o.cls=.type "tuple"/\o.data=.seq aF n/\aF.size<=sizeLine/\Vals xs aF.toList
noncomputable def Jw:ai->ak V
 |.none=>some .aI
 |.bool b=>some (.bl b)
 |.int i _=>some (.int i)
 |.str x _=>some (.str x)
 |.bytes b _=>some (.xF b)
 |.float b _=>some (.xX b)
 |.ref a=>some (.ref a)
 |.type n=>some (.ty n)
 |_=>none
def RelV.abs{x:V}(r:RelV x u):Jw u=some x:=by
 cases x with
 |aI=>cases r;rfl
 |bl _=>cases r;rfl
 |int _=>obtain⟨t,rfl⟩:=r;rfl
 |str _=>obtain⟨t,rfl⟩:=r;rfl
 |xF _=>obtain⟨t,rfl⟩:=r;rfl
 |xX _=>obtain⟨t,rfl⟩:=r;rfl
 |ref _=>cases r;rfl
 |ty _=>cases r;rfl
theorem RelV.inj{x y:V}{u:ai}(r:RelV x u)(q:RelV y u):x=y:=Option.some.inj (r.abs.symm.trans q.abs)
theorem Vals.inj{xs ys:List V}{us:List ai}(h:Vals xs us)(h':Vals ys us):xs=ys:=by
 induction h generalizing ys with
 |nil=>cases h';rfl
 |cons r t ih=>
  cases h' with
  |cons r' t'=>rw[r.inj r',ih t']
section
variable{X:Cx}{aa:List (ag×Obj)}{Z:St}{H:Hp}{s:au}{a:ag}{xs ys:List V}
def Inv.list(I:Inv X aa Z H s)(h:cM X.K H a xs):∃aF:List ai,Vals xs aF/\PlainL s.heap a aF.toArray/\xs.length<=sizeLine:=by
 rcases h with h|⟨o,aF,n,hk,hc,hd,hs,hz,r⟩
 .obtain⟨z,aF,n,r,e⟩:=h.ok I.bA;exact⟨aF,r,⟨_,n,e,rfl,rfl,rfl⟩,z⟩
 .refine⟨aF.toList,r,⟨o,n,I.ke a o hk,hc,hd,by simpa using hs⟩,?_⟩
  have e:=r.length
  simp_all
def Inv.tuple(I:Inv X aa Z H s)(h:gY X.K H a xs):∃aF:List ai,Vals xs aF/\IsTup s.heap a aF.toArray/\xs.length<=sizeLine:=by
 rcases h with h|⟨o,aF,n,hk,hc,hs,hz,r⟩
 .obtain⟨z,aF,r,p⟩:=h.ok I.bA;exact⟨aF,r,p,z⟩
 .refine⟨aF.toList,r,⟨o,I.ke a o hk,hc,n,by simpa using hs⟩,?_⟩
  have e:=r.length
  simp_all
def Inv.k6(I:Inv X aa Z H s)(h:cM X.K H a xs)(h':cM X.K H a ys):xs=ys:=by
 obtain⟨aF,r,⟨o,n,e,_,_,d⟩,_⟩:=I.list h;obtain⟨its',r',⟨o',n',e',_,_,d'⟩,_⟩:=I.list h';rw[e] at e';cases e';rw[d] at d';injection d' with d1 _;have:aF=its':=by simpa using congrArg Array.toList d1
 subst this;exact r.inj r'
def Inv.mK(I:Inv X aa Z H s)(h:gY X.K H a xs)(h':gY X.K H a ys):xs=ys:=by
 obtain⟨aF,r,⟨o,e,_,n,d⟩,_⟩:=I.tuple h;obtain⟨its',r',⟨o',e',_,n',d'⟩,_⟩:=I.tuple h';rw[e] at e';cases e';rw[d] at d';injection d' with d1 _;have:aF=its':=by simpa using congrArg Array.toList d1
 subst this;exact r.inj r'
end
section
variable{X:Cx}{aa:List (ag×Obj)}{Z:St}{H:Hp}{s:au}{E:ai->au->Prop}
end
section
variable{X:Cx}{st:Stmt}{rest:List Stmt}{t u:TS}{e:Expr}{te:TE}{pos:Pos}
def E_:TS:=λD Z H=>D.nx Z H
def MP(t u:TS):TS:=λD Z H=>t { D with nx:=u D} Z H
def qO:je X [] E_:=λ_ _ Z H _ I h=>wpAny_execs_nil ⟨Z,H,I,h⟩
def WK(h1:PS X st t)(h2:je X rest u):je X (st::rest) (MP t u):=by
 intro aa s Z H D I h;refine wpAny_execs_cons (bK (h1 aa s Z H { D with nx:=u D} I h) λf s1 q=>?_)
 cases f with
 |next=>
  obtain⟨Z',H',I',q⟩:=q;exact h2 aa s1 Z' H' D I' q
 |ret v=>exact q
 |brk=>exact q
 |cont=>exact q
def Inv.quiet(I:Inv X aa Z H s):interactive X.env=false:=by simp[interactive,I.ok.kind]
def E9(te:TE):TS:=λD Z H=>te Z H λ_ H1=>D.nx Z H1
def Zw(he:PE X e te)(hs:swapsWith e none pos.line X.env=pure false:=by rfl):PS X (.Expr e pos) (E9 te):=by
 intro aa s Z H D I h;exact wpAny_Expr_any (bK (he aa s Z H _ I h) λv s1 ⟨x,H1,I1,r1,q1⟩=>⟨Z,H1,I1,q1⟩) I.quiet hs
def MO(te:TE):TS:=λD Z H=>te Z H D.rt
def e1x(he:PE X e te):PS X (.Return (some e) pos) (MO te):=by
 intro aa s Z H D I h;exact wpAny_Return_some (bK (he aa s Z H _ I h) λv s1 ⟨x,H1,I1,r1,q1⟩=>⟨x,Z,H1,I1,r1,q1⟩)
def ML(c:TT)(t u:TS):TS:=λD Z H=>c Z H λb H1=>if b=true then t D Z H1 else u D Z H1
def e7x{a b:List Stmt}(hc:PT X c tc)(ha:je X a t)(hb:je X b u):PS X (.If c a b pos) (ML tc t u):=by
 intro aa s Z H D I h;refine wpAny_If (bK (hc aa s Z H _ I h) λd s1 hh=>?_)
 obtain⟨H1,I1,q1⟩:=hh;cases d with
 |true=>exact ha aa s1 Z H1 D I1 q1
 |false=>exact hb aa s1 Z H1 D I1 q1
end
abbrev TG:=V->St->Hp->(St->Hp->Prop)->Prop
abbrev uO:=List V->St->Hp->(St->Hp->Prop)->Prop
def PG(X:Cx)(target:Expr)(t:TG):Prop:=
 ∀(aa:List (ag×Obj)) (s:au) (Z:St) (H:Hp) (v:V) (u:ai) (Q:St->Hp->Prop),Inv X aa Z H s->RelV v u->t v Z H Q->
  wpAny (model X.prog X.w) X.A (assign target X.env u) (λ_ s'=>∃Z' H',Inv X aa Z' H' s'/\Q Z' H') X.xe s
def Co(X:Cx)(ts:List Expr)(t:uO):Prop:=
 ∀(aa:List (ag×Obj)) (s:au) (Z:St) (H:Hp) (vs:List V) (us:List ai) (Q:St->Hp->Prop),Inv X aa Z H s->Vals vs us->t vs Z H Q->
  wpAny (model X.prog X.w) X.A (assignInOrder ((assignEach ts X.env).map (·.2)) us) (λ_ s'=>∃Z' H',Inv X aa Z' H' s'/\Q Z' H') X.xe s
abbrev rn:=V->V->V->Hp->(Hp->Prop)->Prop
def vA(X:Cx)(t:rn):Prop:=
 ∀(aa:List (ag×Obj)) (s:au) (Z:St) (H:Hp) (o i v:V) (ov iv u:ai) (Q:Hp->Prop),Inv X aa Z H s->RelV o ov->RelV i iv->RelV v u->t o i v H Q->
  wpAny (model X.prog X.w) X.A (setItem ov iv u) (λ_ s'=>∃H',Inv X aa Z H' s'/\Q H') X.xe s
abbrev FC:=V->V->Hp->VK->Prop
def Fz(X:Cx)(op:Operator)(t:FC):Prop:=
 ∀(aa:List (ag×Obj)) (s:au) (Z:St) (H:Hp) (x y:V) (v u:ai) (Q:VK),Inv X aa Z H s->RelV x v->RelV y u->t x y H Q->
  wpAny (model X.prog X.w) X.A (inplaceOp op v u) (EP X aa Z Q) X.xe s
section
variable{X:Cx}{pos:Pos}
def qD(i:Nat):TG:=λv Z H Q=>Q (Z.set i (some v)) H
def Zx{i:Nat}(hN:X.N.Nodup)(hi:X.N[i]?=some x)(hx:Loc X.env.scope x)(hf:X.fn x=true\/X.env.scope.names.lookup x=some .local := by first|exact .inl rfl|exact .inr rfl|assumption):PG X (.Name x pos) (qD i):=by
 intro aa s Z H v u Q I r h;exact wpAny_assign_Name (O8 I hN hi hx r (λs' I'=>⟨_,H,I',h⟩) hf)
def DG:uO:=λvs Z H Q=>vs=[]/\Q Z H
def xY(t:TG)(u:uO):uO:=λvs Z H Q=>∃v r,vs=v::r/\t v Z H λZ' H'=>u r Z' H' Q
def wy:Co X [] DG:=by
 intro aa s Z H vs us Q I r h;obtain⟨e,h⟩:=h;subst e;cases r;exact assignInOrder_nil ⟨Z,H,I,h⟩
def ur{t:TG}{u:uO}(h1:PG X e t)(h2:Co X es u)
  (hs:(assignEach (e::es) X.env).map (·.2)=assign e X.env::(assignEach es X.env).map (·.2):=by rfl):Co X (e::es) (xY t u):=by
 intro aa s Z H vs us Q I r h;obtain⟨v,vr,e1,h⟩:=h;subst e1;cases r with
 |cons r rr=>
  rw[hs];refine assignInOrder_cons (bK (h1 aa s Z H _ _ _ I r h) λ_ s1 hh=>?_)
  obtain⟨Z1,H1,I1,q1⟩:=hh;exact h2 aa s1 Z1 H1 _ _ Q I1 rr q1
def zZ(K:PySem.W.Frag)(n:Nat)(t:uO):TG:=λv Z H Q=>∃a xs,v=.ref a/\gY K H a xs/\xs.length=n/\t xs Z H Q
def e1y{k:Nat}{t:uO}{n:Nat}(hc:X.calm=true)(h:Co X es t)
  (hn:(assignEach es X.env).length=n:=by rfl) (lP:(assignEach es X.env).findIdx? (·.1)=none:=by rfl):PG X (.Tuple es k pos) (zZ X.K n t):=by
 intro aa s Z H v u Q I r hw;obtain⟨a,xs,e1,hq,hl,hw⟩:=hw;subst e1;cases r;obtain⟨aF,rv,ht,hz⟩:=I.tuple hq;refine assign_Tuple_tuple (I.ok.hd hc) ht (by simp[hn,<-hl,rv.length]) lP λh' hx=>?_
 have I1:Inv X aa Z H { s with heap:=h'}:=I.kept (t':=s.toks) λb o e=>hx b o (gM (cP e)) e
 exact h aa _ Z H xs _ Q I1 (by simpa using rv) hw
def K9(to ti:TE)(t:rn):TG:=λv Z H Q=>to Z H λo H1=>ti Z H1 λi H2=>t o i v H2 λH3=>Q Z H3
def e1z{t:rn}(ho:PE X o to)(hi:PE X i ti)(hs:vA X t)
  (ha:∀v,assign (.Subscript o i pos) X.env v=(do
   let ov <-holding [v] (eval o X.env)
   let iv <-holding [v,ov] (eval i X.env)
   standAt pos
   holding [v,ov,iv] (setItem ov iv v)
   release [v,ov,iv] []):=by intro _;rfl):PG X (.Subscript o i pos) (K9 to ti t):=by
 intro aa s Z H v u Q I r h;rw[ha];refine ay (lD (bK (ho aa s Z H _ I h) λov s1 hh=>?_))
 obtain⟨x,H1,I1,r1,q1⟩:=hh;refine ay (lD (bK (hi aa s1 Z H1 _ I1 q1) λiv s2 hh=>?_))
 obtain⟨y,H2,I2,r2,q2⟩:=hh;refine ay (wpAny_standAt (ay (lD (bK (hs aa s2 Z H2 x y v ov iv u _ I2 r1 r2 r q2) λ_ s3 hh=>?_))))
 obtain⟨H3,I3,q3⟩:=hh;exact wpAny_release ⟨Z,H3,I3,q3⟩
def E6(te:TE)(g:TG):TS:=λD Z H=>te Z H λx H1=>g x Z H1 D.nx
def e2a{g:TG}(he:PE X e te)(hg:PG X tg g)(hs:swapsWithSole [tg] e pos.line X.env=pure false:=by rfl)(hw:swappedStores [tg] e X.env=pure none:=by rfl)
  (h1:(assignEach [tg] X.env).map (·.2)=[assign tg X.env]:=by rfl):PS X (.Assign [tg] e pos) (E6 te g):=by
 intro aa s Z H D I h;refine wpAny_Assign_stores (bK (he aa s Z H _ I h) λv s1 hh=>?_) hs hw
 obtain⟨x,H1,I1,r1,q1⟩:=hh;rw[h1];exact bK (hg aa s1 Z H1 x v _ I1 r1 q1) λ_ s2 q=>q
def e2b{i:Nat}{pos':Pos}(hN:X.N.Nodup)(hi:X.N[i]?=some x)(hx:Loc X.env.scope x)(he:PE X e te)(hs:swapsWith e (some (.Name x pos')) pos.line X.env=pure false:=by rfl)(hf:X.fn x=true\/X.env.scope.names.lookup x=some .local := by first|exact .inl rfl|exact .inr rfl|assumption):
  PS X (.Assign [.Name x pos'] e pos) (E6 te (qD i)):=by
 intro aa s Z H D I h;refine wpAny_Assign_Name (bK (he aa s Z H _ I h) λv s1 hh=>?_) hs
 obtain⟨y,H1,I1,r1,q1⟩:=hh;exact O8 I1 hN hi hx r1 (λs2 I2=>⟨_,H1,I2,q1⟩) hf
def E7(to ti te:TE)(wJ:V->V->Hp->VK->Prop)(Ie:FC)(wO:rn):TS:=λD Z H=>to Z H λo H1=>ti Z H1 λi H2=>wJ o i H2 λx H3=>te Z H3 λy H4=>Ie x y H4 λz H5=>wO o i z H5 λH6=>D.nx Z H6
def Cn(X:Cx)(t:V->V->Hp->VK->Prop):Prop:=
 ∀(aa:List (ag×Obj)) (s:au) (Z:St) (H:Hp) (o i:V) (ov iv:ai) (Q:VK),Inv X aa Z H s->RelV o ov->RelV i iv->t o i H Q->
  wpAny (model X.prog X.w) X.A (getItem ov iv) (EP X aa Z Q) X.xe s
def Zy{wJ:V->V->Hp->VK->Prop}{Ie:FC}{wO:rn}{op:Operator}{fq:Pos}(ho:PE X o to)(hi:PE X i ti)(hg:Cn X wJ)(he:PE X e te)(hp:Fz X op Ie)(hs:vA X wO)
  (ha:∀ov iv new,augStore i ov iv new=(do holding [new,ov,iv] (setItem ov iv new);release [new,ov,iv] [];pure .next):=by intros;rfl):PS X (.AugAssign (.Subscript o i fq) op e pos) (E7 to ti te wJ Ie wO):=by
 intro aa s Z H D I h;refine wpAny_AugAssign_SubscriptAny (bK (ho aa s Z H _ I h) λov s1 hh=>?_) ha
 obtain⟨x1,H1,I1,r1,q1⟩:=hh;refine bK (hi aa s1 Z H1 _ I1 q1) λiv s2 hh=>?_
 obtain⟨x2,H2,I2,r2,q2⟩:=hh;refine bK (hg aa s2 Z H2 x1 x2 ov iv _ I2 r1 r2 q2) λold s3 hh=>?_
 obtain⟨x3,H3,I3,r3,q3⟩:=hh;refine bK (he aa s3 Z H3 _ I3 q3) λv s4 hh=>?_
 obtain⟨x4,H4,I4,r4,q4⟩:=hh;refine bK (hp aa s4 Z H4 x3 x4 old v _ I4 r3 r4 q4) λnew s5 hh=>?_
 obtain⟨x5,H5,I5,r5,q5⟩:=hh;exact bK (hs aa s5 Z H5 x1 x2 x5 ov iv new _ I5 r1 r2 r5 q5) λ_ s6 ⟨H6,I6,q6⟩=>⟨Z,H6,I6,q6⟩
def LJ(f:Int->Int->Int):FC:=λx y H Q=>∃i j,x=.int i/\y=.int j/\Q (.int (f i j)) H
def Af:Fz X .Add (LJ λi j=>i+j):=by
 intro aa s Z H x y v u Q I r1 r2 h;obtain⟨i,j,e1,e2,q⟩:=h;subst e1;subst e2;obtain⟨t,rfl⟩:=r1;obtain⟨t',rfl⟩:=r2;exact iadd_int ⟨.int _,H,I.tok _,⟨_,rfl⟩,q⟩
end
section
variable{X:Cx}{pos:Pos}
def e2c(c:TT)(tb:TS):TS:=λD Z H=>∃W:Nat->St->Hp->Prop,(∃m,W m Z H)/\∀m Z H,W m Z H->
 c Z H λb H1=>if b=true then ∃N:St->Hp->Prop,(∀Z' H',N Z' H'->∃m',m'<m/\W m' Z' H')/\tb { D with nx:=N,ct:=N,bk:=D.nx} Z H1 else D.nx Z H1
def WL{body:List Stmt}{tb:TS}(hp:PassesOwn (model X.prog X.w) X.A X.env X.xe)(hc:PT X c tc)(hb:je X body tb):PS X (.While c body [] pos) (e2c tc tb):=by
 intro aa s Z H D I h;obtain⟨W,⟨m0,w0⟩,turn⟩:=h;refine wpAny_While (codeAny_whileLoop (λn s'=>∃Z' H',Inv X aa Z' H' s'/\W n Z' H') ?_ m0 ⟨Z,H,I,w0⟩)
 rintro n s1 ⟨Z1,H1,I1,w1⟩;refine wpAny_passesOwn hp (bK (hc aa s1 Z1 H1 _ I1 (turn n Z1 H1 w1)) λb s2 hh=>?_)
 obtain⟨H2,I2,q2⟩:=hh;cases b with
 |true=>
  obtain⟨N,hN,q2⟩:=q2;rw[bI rfl];refine wpAny_passesOwn hp (bK (hb aa s2 Z1 H2 _ I2 q2) λf s3 q3=>?_)
  cases f with
  |next=>
   obtain⟨Z3,H3,I3,n3⟩:=q3;obtain⟨m',hm,w3⟩:=hN Z3 H3 n3;exact⟨m',hm,Z3,H3,I3,w3⟩
  |cont=>
   obtain⟨Z3,H3,I3,n3⟩:=q3;obtain⟨m',hm,w3⟩:=hN Z3 H3 n3;exact⟨m',hm,Z3,H3,I3,w3⟩
  |brk=>exact q3
  |ret v=>exact q3
 |false=>
  rw[ba si];exact wpAny_execs_nil ⟨Z1,H2,I2,q2⟩
end
set_option genInjectivity false in
structure It where
 go:Nat->Hp->Prop
 uK:Nat->Hp->V->Hp->Prop
 stop:Nat->Hp->Prop
def ja(X:Cx)(aa:List (ag×Obj))(H:Hp)(b:ag):Prop:=
 H b=none/\b≠X.env.locals/\b∉X.fs/\(b∈X.ex\/X.s₀.heap.objs.size<=b)/\(∀x c,X.env.cells.lookup x=some c->c≠b)/\∀p∈X.pn++aa,p.1≠b
def Inv.lM{X:Cx}{H':Hp}{b:ag}(I:Inv X aa Z H s)(hb:s.heap.objs.size<=b)(hn:H' b=none):ja X aa H' b:=by
 refine⟨hn,yK (fU I.lt hb),I.Ar hb,.inr (jN I.sz hb),λx c e z=>?_,λp hp z=>?_⟩
 .obtain⟨v,q⟩:=I.cell x c e;exact cC (fU q.lt (by rw[z];exact hb)) (j5 _)
 .exact cC (fU (cP (I.pin p hp).1) (by rw[z];exact hb)) (j5 _)
structure Turn (P:de) (w:cB) (K:PySem.W.Frag) (tg:Expr) (J:It) (fp:List ag) (it:ag) (tn:Nat->bU->Prop):Prop where
 mem:it∈fp
 obj:∀i h,tn i h->∀b∈fp,∃o,h.get? b=some o/\∀v,o.data≠.cell v
 keep:∀i h h',tn i h->(∀b∈fp,∀o,h.get? b=some o->h'.get? b=some o)->tn i h'
 item:∀(X:Cx),X.prog=P->X.w=w->X.K=K->X.calm=true->∀(i:Nat) (aa:List (ag×Obj)) (s:au) (Z:St) (H:Hp) (E:ai->au->Prop),Inv X aa Z H s->(∀b∈fp,ja X aa H b)->tn i s.heap->J.go i H->
  wpAny (model P w) X.A (pyNext (.ref it)) (λr s1=>∃u,r=some u/\ wpAny (model P w) X.A (letOwnedTupleGo tg (.ref it) u) (λ_ s2=>∃x H',Inv X aa Z H' s2/\RelV x u/\J.uK i H x H'/\tn (i+1) s2.heap/\∀b∈fp,H' b=none) E s1) E s
 done:∀(X:Cx),X.prog=P->X.w=w->X.K=K->X.calm=true->∀(i:Nat) (aa:List (ag×Obj)) (s:au) (Z:St) (H:Hp) (E:ai->au->Prop),Inv X aa Z H s->(∀b∈fp,ja X aa H b)->tn i s.heap->J.stop i H->
  wpAny (model P w) X.A (pyNext (.ref it)) (λr s1=>r=none/\Inv X aa Z H s1) E s
 self:∀(A:cQ) (i:Nat) (s:au) (Q:ai->au->Prop) (E:ai->au->Prop),tn i s.heap->Q (.ref it) s->wpAny (model P w) A (pyIter (.ref it)) Q E s
abbrev TI:=St->Hp->(It->Hp->Prop)->Prop
def IK(X:Cx)(aa:List (ag×Obj))(Z:St)(tg:Expr)(R:It->Hp->Prop)(HU:ai)(s2:au):Prop:=
 ∃(it:ag) (fp:List ag) (tn:Nat->bU->Prop) (J:It) (H':Hp),HU=.ref it/\Inv X aa Z H' s2/\Turn X.prog X.w X.K tg J fp it tn/\tn 0 s2.heap/\(∀b∈fp,ja X aa H' b)/\R J H'
def PI(X:Cx)(tg iter:Expr)(wi:TI):Prop:=
 ∀(aa:List (ag×Obj)) (s:au) (Z:St) (H:Hp) (R:It->Hp->Prop),Inv X aa Z H s->wi Z H R->
  wpAny (model X.prog X.w) X.A (eval iter X.env) (λv s1=>wpAny (model X.prog X.w) X.A (pyIter v) (IK X aa Z tg R) X.xe s1) X.xe s
def zI{M:Model}{A:cQ}{E:ai->au->Prop}{it:ag}{o:Obj}{n:String}{vs:Array ai}{Q:Unit->au->Prop}(ho:s.heap.get? it=some o)(hc:o.cls=.type n)(hd:o.data=.fields vs)
  (hn:["enumerate","zip","dict_itemiterator","dict_reverseitemiterator","odict_iterator","itertools.zip_longest","itertools.pairwise"].contains n=false) (hQ:Q () s):wpAny M A (letOwnedTupleGo tg (.ref it) u) Q E s:=by
 unfold letOwnedTupleGo;cases tg <;> first
  |exact aU hQ
  |(cases u <;> first
    |exact aU hQ
    |(refine ay (wpAny_load ho ?_)
      rw[hc,hd];show wpAny M A (if(["enumerate","zip","dict_itemiterator","dict_reverseitemiterator","odict_iterator","itertools.zip_longest","itertools.pairwise"].contains n&&vs[0]? == some (rawInt _))=true then _ else _) Q E s
      rw[ba (by intro h;rw[hn,Bool.false_and] at h;cases h)]
      exact aU hQ))
def IE(K:PySem.W.Frag)(a:ag):It:=
 ⟨λi H=>∃xs x,cM K H a xs/\xs[i]?=some x,λi H x H'=>H'=H/\∀xs,cM K H a xs->xs[i]?=some x,λi H=>∃xs,cM K H a xs/\xs.length<=i⟩
def IF(K:PySem.W.Frag)(a:ag):It:=
 ⟨λi H=>∃xs x,gY K H a xs/\xs[i]?=some x,λi H x H'=>H'=H/\∀xs,gY K H a xs->xs[i]?=some x,λi H=>∃xs,gY K H a xs/\xs.length<=i⟩
def Fx(lo:Int)(n:Nat):It:=⟨λi _=>i<n,λi H x H'=>H'=H/\x=.int (lo+i),λi _=>n<=i⟩
def Vu(a it:ag):Turn P w K tg (IE K a) [it] it (λi h=>h.IsListIter it a i) where
 mem:=by simp
 obj:=λi h st b hb=>by
  have e:b=it:=by simpa using hb
  subst e;obtain⟨o,e,c,d⟩:=st
  simp_all
 keep:=λi h h' st k=>st.at λo e=>k it (by simp) o e
 item:=by
  intro X hP hw hK hc i aa s Z H E I hf st hg;subst hP hw hK;obtain⟨xs,x,hq,hx⟩:=hg;obtain⟨aF,rv,p,hz⟩:=I.list hq;obtain⟨u,hu,ru⟩:=rv.get hx;obtain⟨f0,f1,f2,f3,f4,f5⟩:=hf it (by simp)
  refine wpAny_pyNext_list_item st p.isList (x:=u) (by simpa using hu) λh' kg sb=>?_
  have I1:Inv X aa Z H { s with heap:=h'}:=I.turned (t':=s.toks) (λb o hb e=>(sb.2 b hb).trans e) f0 f1 f3 f4 f5
  obtain⟨o,e,c,d⟩:=id kg;exact⟨u,rfl,zI (s:={ s with heap:=h'}) e c d (by decide) ⟨x,H,I1,ru,⟨rfl,λys hy=>by rw[I.k6 hy hq];exact hx⟩,kg,λb hb=>(hf b hb).1⟩⟩
 done:=by
  intro X hP hw hK hc i aa s Z H E I hf st hg;subst hP hw hK;obtain⟨xs,hq,hx⟩:=hg;obtain⟨aF,rv,p,hz⟩:=I.list hq;obtain⟨f0,f1,f2,f3,f4,f5⟩:=hf it (by simp)
  have hl:=rv.length;exact wpAny_pyNext_list_end (I.ok.hd hc) st p.isList (by simp;lia) λh' eb=>⟨rfl,I.turned (t':=s.toks) (λb o hb e=>eb b o hb e) f0 f1 f3 f4 f5⟩
 self:=λ_ _ _ _ _ st h=>wpAny_pyIter_listiter st h
def UO(a it:ag):Turn P w K tg (IF K a) [it] it (λi h=>h.IsTupleIter it a i) where
 mem:=by simp
 obj:=λi h st b hb=>by
  have e:b=it:=by simpa using hb
  subst e;obtain⟨o,e,c,d⟩:=st
  simp_all
 keep:=λi h h' st k=>st.at λo e=>k it (by simp) o e
 item:=by
  intro X hP hw hK hc i aa s Z H E I hf st hg;subst hP hw hK;obtain⟨xs,x,hq,hx⟩:=hg;obtain⟨aF,rv,p,hz⟩:=I.tuple hq;obtain⟨u,hu,ru⟩:=rv.get hx;obtain⟨f0,f1,f2,f3,f4,f5⟩:=hf it (by simp)
  refine wpAny_pyNext_tuple_item st (show s.heap.IsTuple a aF.toArray from p) (x:=u) (by simpa using hu) λh' kg sb=>?_
  have I1:Inv X aa Z H { s with heap:=h'}:=I.turned (t':=s.toks) (λb o hb e=>(sb.2 b hb).trans e) f0 f1 f3 f4 f5
  obtain⟨o,e,c,d⟩:=id kg;exact⟨u,rfl,zI (s:={ s with heap:=h'}) e c d (by decide) ⟨x,H,I1,ru,⟨rfl,λys hy=>by rw[I.mK hy hq];exact hx⟩,kg,λb hb=>(hf b hb).1⟩⟩
 done:=by
  intro X hP hw hK hc i aa s Z H E I hf st hg;subst hP hw hK;obtain⟨xs,hq,hx⟩:=hg;obtain⟨aF,rv,p,hz⟩:=I.tuple hq;obtain⟨f0,f1,f2,f3,f4,f5⟩:=hf it (by simp)
  have hl:=rv.length;exact wpAny_pyNext_tuple_end (I.ok.hd hc) st (show s.heap.IsTuple a aF.toArray from p) (by simp;lia) λh' eb=>⟨rfl,I.turned (t':=s.toks) (λb o hb e=>eb b o hb e) f0 f1 f3 f4 f5⟩
 self:=λ_ _ _ _ _ st h=>wpAny_pyIter_tupleiter st h
def UP(it:ag)(lo:Int)(n:Nat):Turn P w K tg (Fx lo n) [it] it (λi h=>IsRangeIter h it (lo+(i:Nat)*1) ((n:Int) - (i:Nat)) 1) where
 mem:=by simp
 obj:=λi h st b hb=>by
  simp_all
 keep:=λi h h' st k=>k it (by simp) _ st
 item:=by
  intro X hP hw hK hc i aa s Z H E I hf st hg;subst hP hw hK;obtain⟨f0,f1,f2,f3,f4,f5⟩:=hf it (by simp)
  have W:=Walks.range (prog:=X.prog) (w:=X.w) (I.ok.hd hc) it lo 1 n;refine W.item i s _ _ hg st λv h' tk hv kg kk=>?_
  obtain⟨t,rfl⟩:=hv;have I1:Inv X aa Z H { s with heap:=h',toks:=tk}:=I.turned (λb o hb e=>kk b o (by simpa using hb) e) f0 f1 f3 f4 f5
  refine⟨_,rfl,zI (s:={ s with heap:=h',toks:=tk}) (n:="range_iterator") kg rfl rfl (by decide) ⟨.int (lo+i),H,I1,⟨t,?_⟩,⟨rfl,rfl⟩,kg,λb hb=>(hf b hb).1⟩⟩
  rw[Int.mul_one]
 done:=by
  intro X hP hw hK hc i aa s Z H E I hf st hg;subst hP hw hK;obtain⟨f0,f1,f2,f3,f4,f5⟩:=hf it (by simp)
  exact wpAny_pyNext_range_end (I.ok.hd hc) st (by have:n<=i:=hg;lia) λh' eb=>⟨rfl,I.turned (t':=s.toks) (λb o hb e=>eb b o hb e) f0 f1 f3 f4 f5⟩
 self:=λ_ _ _ _ _ st h=>wpAny_pyIter_rangeiter st h
section
variable{X:Cx}{tg:Expr}
def yd(K:PySem.W.Frag)(tl:TE):TI:=λZ H R=>tl Z H λx H1=>∃a,x=.ref a/\(∃xs,cM K H1 a xs)/\R (IE K a) H1
def Ee(K:PySem.W.Frag)(tl:TE):TI:=λZ H R=>tl Z H λx H1=>∃a,x=.ref a/\(∃xs,gY K H1 a xs)/\R (IF K a) H1
def Zz{l:Expr}{tl:TE}(hl:PE X l tl):PI X tg l (yd X.K tl):=by
 intro aa s Z H R I h;refine bK (hl aa s Z H _ I h) λv s1 hh=>?_
 obtain⟨x,H1,I1,r1,q1⟩:=hh;obtain⟨a,e,⟨xs,hq⟩,q⟩:=q1;subst e;cases r1;obtain⟨aF,rv,p,hz⟩:=I1.list hq;refine wpAny_pyIter_list p.isList ?_;refine⟨s1.heap.objs.size,[s1.heap.objs.size],_,_,H1,rfl,I1.kept (t':=s1.toks) λb o e=>c8 _ e,Vu a _,⟨_,jO _ rfl,rfl,rfl⟩,λb hb=>?_,q⟩
 have e:b=s1.heap.objs.size:=by simpa using hb
 subst e;exact I1.lM (bP _) (I1.bA.fresh (bP _))
def e2d{l:Expr}{tl:TE}(hl:PE X l tl):PI X tg l (Ee X.K tl):=by
 intro aa s Z H R I h;refine bK (hl aa s Z H _ I h) λv s1 hh=>?_
 obtain⟨x,H1,I1,r1,q1⟩:=hh;obtain⟨a,e,⟨xs,hq⟩,q⟩:=q1;subst e;cases r1;obtain⟨aF,rv,p,hz⟩:=I1.tuple hq;refine wpAny_pyIter_tuple (show s1.heap.IsTuple a aF.toArray from p) ?_;refine⟨s1.heap.objs.size,[s1.heap.objs.size],_,_,H1,rfl,I1.kept (t':=s1.toks) λb o e=>c8 _ e,UO a _,⟨_,jO _ rfl,rfl,rfl⟩,λb hb=>?_,q⟩
 have e:b=s1.heap.objs.size:=by simpa using hb
 subst e;exact I1.lM (bP _) (I1.bA.fresh (bP _))
def WM{aa:List (ag×Obj)}{Z:St}{H:Hp}{s:au}{R:It->Hp->Prop}{E:ai->au->Prop}{lo hi:Int}{t u v:Tok}{tk:Nat}(I:Inv X aa Z H s)(h1:-(2^62)<=lo)(h2:lo<2^62)(h3:-(2^62)<=hi)(h4:hi<2^62)
  (q:R (Fx lo (hi - lo).toNat) H):wpAny (model X.prog X.w) X.A (pyIter (.ref s.heap.objs.size)) (IK X aa Z tg R) E { s with heap:=s.heap.push { cls:=.type "range",data:=.fields #[.int lo t,.int hi u,.int 1 v]},toks:=tk}:=by
 refine wpAny_pyIter_range (IsRange.new ..) (small_one h1 h2 h3 h4) ?_;have I1:Inv X aa Z H { s with heap:=s.heap.push { cls:=.type "range",data:=.fields #[.int lo t,.int hi u,.int 1 v]},toks:=tk}:=I.kept λb o e=>c8 _ e
 refine⟨(s.heap.push { cls:=.type "range",data:=.fields #[.int lo t,.int hi u,.int 1 v]}).objs.size,[(s.heap.push { cls:=.type "range",data:=.fields #[.int lo t,.int hi u,.int 1 v]}).objs.size],_,_,H,rfl,I1.kept (t':=tk) λb o e=>c8 _ e,UP _ lo (hi - lo).toNat,?_,λb hb=>?_,q⟩
 .have e1:lo+((0:Nat):Int)*1=lo:=by simp
  have e2:(((hi - lo).toNat:Nat):Int) - ((0:Nat):Int)=Builtin.Range.rangeSize lo hi 1:=by rw[rangeSize_one];split <;> lia
  show IsRangeIter _ _ (lo+((0:Nat):Int)*1) ((((hi - lo).toNat:Nat):Int) - ((0:Nat):Int)) 1;rw[e1,e2];exact jO _ rfl
 .have e:b=(s.heap.push { cls:=.type "range",data:=.fields #[.int lo t,.int hi u,.int 1 v]}).objs.size:=by simpa using hb
  subst e;exact I1.lM (bP _) (I1.bA.fresh (bP _))
def ye(ta:TA):TI:=λZ H R=>ta Z H λvs H1=>∃j:Int,vs=[.int j] /\ -(2^62)<=j/\j<2^62/\R (Fx 0 j.toNat) H1
def Vv{a:Expr}{ta:TA}{p pos:Pos}(hg:Gl X "range")(hm:X.mg "range"=none)(ha:PA X [a] ta)(hs:starEach [a] X.env=[(false,eval a X.env)]:=by rfl):PI X tg (.Call (.Name "range" p) [a] [] pos) (ye ta):=by
 intro aa s Z H R I h;refine Call_ (xx I hg hm boot_range (PyProof.Rows.callWith_type1 (bK (ha pos aa s Z H _ I h) λus s1 hh=>?_) hs rfl))
 obtain⟨vs,H1,I1,r1,q1⟩:=hh;obtain⟨j,e,q1,q2,q⟩:=q1;subst e;cases r1 with
 |cons r rr=>
  cases rr;obtain⟨t,rfl⟩:=r;exact call_range_1 (WM I1 (by lia) (by lia) q1 q2 (by simpa using q))
def MK(wi:TI)(g:TG)(tb:TS):TS:=λD Z H=>wi Z H λJ H1=>∃W:Nat->Nat->St->Hp->Prop,(∃m,W 0 m Z H1)/\∀i m Z H,W i m Z H->
 (J.stop i H/\D.nx Z H)\/(J.go i H/\∃N:St->Hp->Prop,(∀Z' H',N Z' H'->∃m',m'<m/\W (i+1) m' Z' H')/\∀x H',J.uK i H x H'->g x Z H' λZ2 H2=>tb { D with nx:=N,ct:=N,bk:=D.nx} Z2 H2)
noncomputable def C9(fp:List ag)(h:bU):List (ag×Obj):=fp.filterMap λb=>(h.get? b).map λo=>(b,o)
def CB{fp:List ag}{h:bU}{b:ag}{o:Obj}(hb:b∈fp)(e:h.get? b=some o):(b,o)∈C9 fp h:=qg.mpr ⟨b,hb,by rw[e];rfl⟩
def Vw{fp:List ag}{h:bU}{p:ag×Obj}(hp:p∈C9 fp h):p.1∈fp/\h.get? p.1=some p.2:=by
 obtain⟨b,hb,e⟩:=qg.mp hp;cases q:h.get? b with
 |none=>rw[q] at e;cases e
 |some o=>
  rw[q] at e;have e':(b,o)=p:=Option.some.inj e;subst e';exact⟨hb,q⟩
def Inv.pinned{aa:List (ag×Obj)}{Z:St}{H:Hp}{s:au}{fp:List ag}(I:Inv X aa Z H s)(hf:∀b∈fp,ja X aa H b)(ho:∀b∈fp,∃o,s.heap.get? b=some o/\∀v,o.data≠.cell v):Inv X (aa++C9 fp s.heap) Z H s:=
 I.kf λp hp=>(dN.mp hp).elim (λz=>I.pin p (pJ _ z)) λz=>by
  obtain⟨hb,e⟩:=Vw z;obtain⟨f0,f1,f2,_⟩:=hf p.1 hb;obtain⟨o,e',d⟩:=ho p.1 hb;rw[e] at e';cases e';exact⟨e,f0,f1,f2,d⟩
def Inv.eG{aa pl:List (ag×Obj)}{Z:St}{H:Hp}{s:au}(I:Inv X (aa++pl) Z H s):Inv X aa Z H s:=I.kf λp hp=>I.pin p (pJ _ (Fo _ hp))
def Rf{iter:Expr}{body:List Stmt}{wi:TI}{g:TG}{tb:TS}{pos:Pos}(hp:PassesOwn (model X.prog X.w) X.A X.env X.xe)(hc:X.calm=true)(hi:PI X tg iter wi)(hg:PG X tg g)(hb:je X body tb)
  (hs:∀x,foldedSetIterable iter X.env x=pure x:=by intro _;rfl):PS X (.For tg iter body [] pos) (MK wi g tb):=by
 intro aa s Z H D I h;refine wpAny_For (bK (hi aa s Z H _ I h) λv s1 h1=>bK h1 λHU s2 h2=>?_) hs
 obtain⟨it,fp,tn,J,H2,e,I2,T,sf,f2,W,⟨m0,w0⟩,turn⟩:=h2;subst e;have qd:∀{H':Hp},(∀b∈fp,H' b=none)->∀b∈fp,ja X aa H' b:=λhn b hb=>⟨hn b hb,(f2 b hb).2⟩
 refine codeAny_forLoop_any (λn s'=>∃i Z' H',Inv X aa Z' H' s'/\tn i s'.heap/\(∀b∈fp,H' b=none)/\W i n Z' H') ?_ m0 ⟨0,Z,H2,I2,sf,λb hb=>(f2 b hb).1,w0⟩
 rintro n s3 ⟨i,Z3,H3,I3,Tu,Sw,w3⟩;rcases turn i n Z3 H3 w3 with⟨stop,qn⟩|⟨go,N,hN,step⟩
 .refine wpAny_passesOwn hp (bK (T.done X rfl rfl rfl hc i aa s3 Z3 H3 X.xe I3 (qd Sw) Tu stop) λr s4 ⟨hr,I4⟩=>?_)
  subst hr;exact wpAny_execs_nil ⟨Z3,H3,I4,qn⟩
 .refine wpAny_passesOwn hp (bK (T.item X rfl rfl rfl hc i aa s3 Z3 H3 X.xe I3 (qd Sw) Tu go) λr s4 ⟨u,hr,h4⟩=>?_)
  subst hr;refine wpAny_passesOwn hp (bK h4 λ_ s5 hh=>?_)
  obtain⟨x,H5,I5,r5,y5,AN,K6⟩:=hh;have IB:=I5.pinned (qd K6) (T.obj _ _ AN);refine wpAny_passesOwn hp (bK (hg _ s5 Z3 H5 x u _ IB r5 (step x H5 y5)) λ_ s6 hh=>?_)
  obtain⟨Z6,H6,I6,q6⟩:=hh;refine wpAny_passesOwn hp (bK (hb _ s6 Z6 H6 _ I6 q6) λf s7 q7=>?_)
  have again:∀{Z7:St} {H7:Hp},Inv X (aa++C9 fp s5.heap) Z7 H7 s7->N Z7 H7->∃m,m<n/\∃i Z' H',Inv X aa Z' H' s7/\tn i s7.heap/\(∀b∈fp,H' b=none)/\W i m Z' H':=λ{Z7 H7} I7 n7=>by
   obtain⟨m',hm,w7⟩:=hN Z7 H7 n7;refine⟨m',hm,i+1,Z7,H7,I7.eG,T.keep _ _ _ AN λb hb o e=>(I7.pin (b,o) (pJ _ (pJ _ (CB hb e)))).1,λb hb=>?_,w7⟩
   obtain⟨o,e,d⟩:=T.obj _ _ AN b hb;exact(I7.pin (b,o) (pJ _ (pJ _ (CB hb e)))).2.1
  cases f with
  |next=>obtain⟨Z7,H7,I7,n7⟩:=q7;exact again I7 n7
  |cont=>obtain⟨Z7,H7,I7,n7⟩:=q7;exact again I7 n7
  |brk=>obtain⟨Z7,H7,I7,q7⟩:=q7;exact⟨Z7,H7,I7.eG,q7⟩
  |ret v=>obtain⟨x7,Z7,H7,I7,r7,q7⟩:=q7;exact⟨x7,Z7,H7,I7.eG,r7,q7⟩
end
variable{aa:List (ag×Obj)}{s:au}{Z:St}{H:Hp}{f:ai->ai->Sem ai}{op:CmpOp}{g:Int->Int->Int}{x:V}{us:List ai}
abbrev R2:=V->V->Hp->VK->Prop
variable{r r':R2}
def dB(X:Cx)(f:ai->ai->Sem ai)(r:R2):Prop:=
 ∀(aa:List (ag×Obj)) (s:au) (Z:St) (H:Hp) (x y:V) (v u:ai) (Q:VK),Inv X aa Z H s->RelV x v->RelV y u->r x y H Q->
  wpAny (model X.prog X.w) X.A (f v u) (EP X aa Z Q) X.xe s
def FD(X:Cx)(f:ai->Sem ai)(r:V->Hp->VK->Prop):Prop:=
 ∀(aa:List (ag×Obj)) (s:au) (Z:St) (H:Hp) (x:V) (v:ai) (Q:VK),Inv X aa Z H s->RelV x v->r x H Q->
  wpAny (model X.prog X.w) X.A (f v) (EP X aa Z Q) X.xe s
def bR(X:Cx)(f:ai)(r:List V->Hp->VK->Prop):Prop:=
 ∀(aa:List (ag×Obj)) (s:au) (Z:St) (H:Hp) (xs:List V) (us:List ai) (Q:VK),Inv X aa Z H s->Vals xs us->r xs H Q->
  wpAny (model X.prog X.w) X.A (call f us) (EP X aa Z Q) X.xe s
def IL(X:Cx)(r:V->Hp->(Bool->Hp->Prop)->Prop):Prop:=
 ∀(aa:List (ag×Obj)) (s:au) (Z:St) (H:Hp) (x:V) (v:ai) (Q:Bool->Hp->Prop),Inv X aa Z H s->RelV x v->r x H Q->
  wpAny (model X.prog X.w) X.A (truthy v) (TP X aa Z Q) X.xe s
def Ic(r:R2)(ta tb:TE):TE:=λZ H Q=>ta Z H λx H1=>tb Z H1 λy H2=>r x y H2 Q
def tUn(r:V->Hp->VK->Prop)(ta:TE):TE:=λZ H Q=>ta Z H λx H1=>r x H1 Q
def rI(C:Int->Int->Prop)(g:Int->Int->V):R2:=λx y H Q=>∃i j,x=.int i/\y=.int j/\C i j/\Q (g i j) H
def qP(g:Int->Int->V):R2:=λx y H Q=>∃i j,x=.int i/\y=.int j/\Q (g i j) H
def rU(g:Int->V):V->Hp->VK->Prop:=λx H Q=>∃i,x=.int i/\Q (g i) H
section
variable{X:Cx}{a b c:Expr}{ta tb tc:TE}{pos:Pos}
def zJ(ha:PE X a ta)(hb:PE X b tb){R:V->V->Hp->Prop}(I:Inv X aa Z H s)
  (h:ta Z H λx H1=>tb Z H1 λy H2=>R x y H2) {Q:ai->au->Prop} 
  (hf:∀v u s2 x y H2,Inv X aa Z H2 s2->RelV x v->RelV y u->R x y H2->wpAny (model X.prog X.w) X.A (f v u) Q X.xe s2) :
  wpAny (model X.prog X.w) X.A (eval a X.env) (λv s₁=>wpAny (model X.prog X.w) X.A (eval b X.env) (λu s₂=>wpAny (model X.prog X.w) X.A (f v u) Q X.xe s₂) X.xe s₁) X.xe s:=by
 refine bK (ha aa s Z H _ I h) λv s1 hh=>?_
 obtain⟨x,H1,I1,r1,q1⟩:=hh;refine bK (hb aa s1 Z H1 _ I1 q1) λu s2 hh=>?_
 obtain⟨y,H2,I2,r2,q2⟩:=hh;exact hf v u s2 x y H2 I2 r1 r2 q2
def e7y{op:Operator}(ho:dB X (binaryOp op) r)(ha:PE X a ta)(hb:PE X b tb):PE X (.BinOp a op b pos) (Ic r ta tb):=by
 intro aa s Z H Q I h;exact wpAny_BinOp (zJ ha hb I h λv u s2 x y H2 I2 rx ry q=>ho aa s2 Z H2 x y v u Q I2 rx ry q)
def e7z{op:UnaryOp}{r:V->Hp->VK->Prop}(ho:FD X (unaryOp op) r)(ha:PE X a ta):PE X (.UnaryOp op a pos) (tUn r ta):=by
 intro aa s Z H Q I h;exact UnaryOp_ (bK (ha aa s Z H _ I h) λv s1 ⟨x,H1,I1,r1,q1⟩=>ho aa s1 Z H1 x v Q I1 r1 q1)
def H0{C:Int->Int->Prop}
  (rule:∀(i j:Int) (t u:Tok) (s:au) (Q:ai->au->Prop) (E:ai->au->Prop),C i j->Q (.int (g i j) s.toks) { s with toks:=s.toks+1}->wpAny (model X.prog X.w) X.A (f (.int i t) (.int j u)) Q E s) :
  dB X f (rI C λi j=>.int (g i j)):=by
 intro aa s Z H x y v u Q I rx ry h;obtain⟨i,j,rfl,rfl,hc,q⟩:=h;obtain⟨t,rfl⟩:=rx;obtain⟨t',rfl⟩:=ry;exact rule i j t t' s _ _ hc ⟨.int (g i j),H,I.tok _,⟨_,rfl⟩,q⟩
def EA
  (rule:∀(i j:Int) (t u:Tok) (s:au) (Q:ai->au->Prop) (E:ai->au->Prop),Q (.int (g i j) s.toks) { s with toks:=s.toks+1}->wpAny (model X.prog X.w) X.A (f (.int i t) (.int j u)) Q E s) :
  dB X f (qP λi j=>.int (g i j)):=by
 intro aa s Z H x y v u Q I rx ry h;obtain⟨i,j,rfl,rfl,q⟩:=h;obtain⟨t,rfl⟩:=rx;obtain⟨t',rfl⟩:=ry;exact rule i j t t' s _ _ ⟨.int (g i j),H,I.tok _,⟨_,rfl⟩,q⟩
def Au{g:Int->Int->Bool}
  (rule:∀(i j:Int) (t u:Tok) (s:au) (Q:ai->au->Prop) (E:ai->au->Prop),Q (.bool (g i j)) s->wpAny (model X.prog X.w) X.A (f (.int i t) (.int j u)) Q E s) :
  dB X f (qP λi j=>.bl (g i j)):=by
 intro aa s Z H x y v u Q I rx ry h;obtain⟨i,j,rfl,rfl,q⟩:=h;obtain⟨t,rfl⟩:=rx;obtain⟨t',rfl⟩:=ry;exact rule i j t t' s _ _ ⟨.bl (g i j),H,I,rfl,q⟩
def yS(i j:Int):Prop:=0<j/\j<1073741824
def yT(i j:Int):Prop:=0<=j/\j<=1000000/\i.natAbs<2^64
def vv(i j:Int):Prop:=(-(2^64)<i/\i<2^64)\/(-(2^64)<j/\j<2^64)
def vv.ok{i j:Int}(h:vv i j):IntMulOk i j:=by
 rcases h with⟨h1,h2⟩|⟨h1,h2⟩
 .exact .of_left (intBits_le_64 h1 h2)
 .exact .of_right (intBits_le_64 h1 h2)
def Av:dB X (binaryOp .Add) (qP λi j=>.int (i+j)):=EA λ_ _ _ _ _ _ _ q=>add_int q
def e2e:dB X (binaryOp .Sub) (qP λi j=>.int (i - j)):=EA λ_ _ _ _ _ _ _ q=>sub_int q
def Ax:dB X (binaryOp .Mult) (rI vv λi j=>.int (i*j)):=H0 λ_ _ _ _ _ _ _ hc q=>mul_int q hc.ok
def ZA:dB X (binaryOp .FloorDiv) (rI yS λi j=>.int (i / j)):=H0 λi j _ _ _ _ _ hc q=>by
 have h1:(0:Int)<j:=hc.1;have h2:j<1073741824:=hc.2
 grind [PyProof.Rows.floordiv_int,PyProof.noPylong_small]
def e2f:dB X (binaryOp .Mod) (rI (λ_ j=>0<j) λi j=>.int (i%j)):=H0 λi j _ _ _ _ _ hc q=>by
 have h1:(0:Int)<j:=hc;exact mod_int' (by lia) (by rw[Int.fmod_eq_emod_of_nonneg i (by lia)];exact q)
def e2g:dB X (binaryOp .Pow) (rI yT λi j=>.int (i^j.toNat)):=H0 λ_ _ _ _ _ _ _ hc q=>pow_int_small hc.1 hc.2.1 hc.2.2 q
def unI{f:ai->Sem ai}{g:Int->Int}
  (rule:∀(i:Int) (t:Tok) (s:au) (Q:ai->au->Prop) (E:ai->au->Prop),Q (.int (g i) s.toks) { s with toks:=s.toks+1}->wpAny (model X.prog X.w) X.A (f (.int i t)) Q E s) :
  FD X f (rU λi=>.int (g i)):=by
 intro aa s Z H x v Q I rx h;obtain⟨i,rfl,q⟩:=h;obtain⟨t,rfl⟩:=rx;exact rule i t s _ _ ⟨.int (g i),H,I.tok _,⟨_,rfl⟩,q⟩
def e2h:FD X (unaryOp .USub) (rU λi=>.int (-i)):=unI λ_ _ _ _ _ q=>neg_int q
end
section
variable{X:Cx}{a b c:Expr}{ta tb tc:TE}{pos:Pos}
def vL{Q:VK}{k k':Bool}(I:Inv X aa Z H s)(q:Q (.bl k) H)(e:k=k'):EP X aa Z Q (.bool k') s:=by
 subst e;exact⟨.bl k,H,I,rfl,q⟩
def yu:dB X (compareOp .Lt) (qP λi j=>.bl (decide (i<j))):=Au λ_ _ _ _ _ _ _ q=>lt_int q
def yr:dB X (compareOp .LtE) (qP λi j=>.bl (decide (i<=j))):=Au λ_ _ _ _ _ _ _ q=>le_int q
def e8a:dB X (compareOp .Gt) (qP λi j=>.bl (decide (j<i))):=Au λ_ _ _ _ _ _ _ q=>gt_int q
def Vx:dB X (compareOp .In) (λx y H Q=>∃i j,x=.str i/\y=.str j/\Q (.bl (!(Builtin.Str.occurrences j i 0 j.length 1).isEmpty)) H):=by
 intro aa s Z H x y v u Q I rx ry h;obtain⟨i,j,rfl,rfl,q⟩:=h;obtain⟨t,rfl⟩:=rx;obtain⟨t',rfl⟩:=ry;exact in_str (vL I q rfl)
def Aw:dB X (compareOp .Is) (λx y H Q=>y=.aI/\Q (.bl (decide (x=.aI))) H):=by
 intro aa s Z H x y v u Q I rx ry h;obtain⟨rfl,q⟩:=h;cases ry;refine is_none_gen (vL I q ?_);cases x <;> first
  |(cases rx;rfl)
  |(obtain⟨t,rfl⟩:=rx;rfl)
def wt:dB X (compareOp .IsNot) (λx y H Q=>y=.aI/\Q (.bl (!decide (x=.aI))) H):=by
 intro aa s Z H x y v u Q I rx ry h;obtain⟨rfl,q⟩:=h;cases ry;refine isnot_none_gen (vL I q ?_);cases x <;> first
  |(cases rx;rfl)
  |(obtain⟨t,rfl⟩:=rx;rfl)
def Ui:dB X (compareOp .NotIn) (λx y H Q=>∃i j,x=.str i/\y=.str j/\Q (.bl (!(!(Builtin.Str.occurrences j i 0 j.length 1).isEmpty))) H):=by
 intro aa s Z H x y v u Q I rx ry h;obtain⟨i,j,rfl,rfl,q⟩:=h;obtain⟨t,rfl⟩:=rx;obtain⟨t',rfl⟩:=ry;exact notIn_str (vL I q rfl)
def dB.or(h:dB X f r)(h':dB X f r'):dB X f (λx y H Q=>r x y H Q\/r' x y H Q):=by
 intro aa s Z H x y v u Q I rx ry q;rcases q with q|q
 .exact h aa s Z H x y v u Q I rx ry q
 .exact h' aa s Z H x y v u Q I rx ry q
def ZC(ho:dB X (compareOp op) r)(ha:PE X a ta)(hb:PE X b tb)(hm:behindInMarks op b=false):PE X (.Compare a [op] [b] pos) (Ic r ta tb):=by
 intro aa s Z H Q I h;exact wpAny_Compare1 (zJ ha hb I h λv u s2 x y H2 I2 rx ry q=>ho aa s2 Z H2 x y v u Q I2 rx ry q) hm
def uD(t:TE):TT:=λZ H Q=>t Z H λx H'=>∃k,x=.bl k/\Q k H'
def ZD(ho:dB X (compareOp op) r)(ha:PE X a ta)(hb:PE X b tb)(hm:behindInMarks op b=false):PT X (.Compare a [op] [b] pos) (uD (Ic r ta tb)):=by
 intro aa s Z H Q I h;refine wpAny_isTrue_Compare1 (bK (ha aa s Z H _ I h) λv s1 ⟨x,H1,I1,r1,q1⟩=>bK (hb aa s1 Z H1 _ I1 q1) λu s2 ⟨y,H2,I2,r2,q2⟩=> bK (ho aa s2 Z H2 x y v u _ I2 r1 r2 q2) λc s3 ⟨z,H3,I3,r3,k,e,q3⟩=>?_) hm
 subst e;cases r3;exact wpAny_truthy_bool ⟨H3,I3,q3⟩
def Rg(r r':R2)(ta tb tc:TE):TE:=λZ H Q=>ta Z H λx H1=>tb Z H1 λy H2=>r x y H2 λz H3=>∃k,z=.bl k/\
 (if k=true then tc Z H3 λw' H4=>r' y w' H4 Q else Q (.bl false) H3)
def WN{As:CmpOp}(ho:dB X (compareOp op) r)(x8:dB X (compareOp As) r')(ha:PE X a ta)(hb:PE X b tb)(hc:PE X c tc)
  (hm:lastMarks [op,As] [b,c]=false:=by with_unfolding_all rfl):PT X (.Compare a [op,As] [b,c] pos) (uD (Rg r r' ta tb tc)):=by
 intro aa s Z H Q I h;refine isTrue_chain (bK (ha aa s Z H _ I h) λv s1 ⟨x,H1,I1,r1,q1⟩=>test_link (bK (hb aa s1 Z H1 _ I1 q1) λu s2 ⟨y,H2,I2,r2,q2⟩=> bK (ho aa s2 Z H2 x y v u _ I2 r1 r2 q2) λd s3 ⟨z,H3,I3,r3,k,e,q3⟩=>?_)) hm
 subst e;cases r3;refine wpAny_truthy_bool ?_;cases k with
 |false=>
  obtain⟨k',e',q'⟩:=q3;cases e';exact ite_ff ⟨H3,I3,q'⟩
 |true=>
  refine ite_tt (test_last (bK (hc aa s3 Z H3 _ I3 q3) λw' s4 ⟨z',H4,I4,r4,q4⟩=>bK (x8 aa s4 Z H4 y z' u w' _ I4 r2 r4 q4) λd' s5 ⟨z2,H5,I5,r5,k2,e2,q5⟩=>?_))
  subst e2;cases r5;exact wpAny_truthy_bool ⟨H5,I5,q5⟩
def y6(K:PySem.W.Frag)(x:V)(H:Hp)(k:Bool):Prop:=
 match x with
 |.aI=>k=false
 |.bl b=>k=b
 |.int i=>k=(i != 0)
 |.str y=>y.length<=sizeLine/\k=((y.length:Int) != 0)
 |.xF y=>y.size<=sizeLine/\k=((y.size:Int) != 0)
 |.ref p=>(∃xs,cM K H p xs/\k = !xs.isEmpty)\/(∃xs,gY K H p xs/\k = !xs.isEmpty)\/∃kvs,H p=some (.dK kvs)/\k = !kvs.isEmpty
 |_=>False
def UQ{κ:Type}{kvs:List (κ×V)}{vs:List (κ×ai)}(r:KV kvs vs):(!vs.isEmpty) = !kvs.isEmpty:=by
 cases r <;> rfl
def N_{xs:List V}{aF:List ai}(r:Vals xs aF):(!aF.toArray.isEmpty) = !xs.isEmpty:=by
 cases r <;> simp
def zB:(sizeLine:Nat)<2^63:=by rw[sizeLine_eq];decide
def e2i:IL X (λx H Q=>∃k,y6 X.K x H k/\Q k H):=by
 intro aa s Z H x v Q I rx h;obtain⟨k,e,q⟩:=h;have hl:=zB;have hs:sizeLine=16777216:=sizeLine_eq;cases x with
 |aI=>
  cases rx;have e':k=false:=e;subst e';exact truthy_none ⟨H,I,q⟩
 |bl b=>
  cases rx;have e':k=b:=e;subst e';exact wpAny_truthy_bool ⟨H,I,q⟩
 |int i=>
  obtain⟨t,rfl⟩:=rx;have e':k=(i != 0):=e;subst e';exact PySem.P.truthy_int ⟨H,I,q⟩
 |str y=>
  obtain⟨t,rfl⟩:=rx;obtain⟨hy,e'⟩:y.length<=sizeLine/\k=((y.length:Int) != 0):=e;subst e';exact PySem.P.truthy_str (by lia) ⟨H,I.tok _,q⟩
 |xF y=>
  obtain⟨t,rfl⟩:=rx;obtain⟨hy,e'⟩:y.size<=sizeLine/\k=((y.size:Int) != 0):=e;subst e';exact PySem.W.truthy_bytes (by lia) ⟨H,I.tok _,q⟩
 |ref p=>
  cases rx;have e':(∃xs,cM X.K H p xs/\k = !xs.isEmpty)\/(∃xs,gY X.K H p xs/\k = !xs.isEmpty)\/∃kvs,H p=some (.dK kvs)/\k = !kvs.isEmpty:=e;rcases e' with⟨xs,hx,e'⟩|⟨xs,hx,e'⟩|⟨kvs,hx,e'⟩
  .subst e';obtain⟨aF,r,pl,hz⟩:=I.list hx;have hlen:=r.length;exact wpAny_truthy_list pl.isList (by simp only[dw];lia) ⟨H,I.tok _,by rw[N_ r];exact q⟩
  .subst e';obtain⟨aF,r,pl,hz⟩:=I.tuple hx;have hlen:=r.length;exact truthy_tuple pl (by simp only[dw];lia) ⟨H,I.tok _,by rw[N_ r];exact q⟩
  .subst e';obtain⟨hz,hS,vs,r,m⟩:kvs.length<=sizeLine/\(p == sysModules)=false/\∃vs,KV kvs vs/\s.heap.DictOf (JZ X.prog X.w) p vs:=I.bA p _ hx;have hlen:kvs.length=vs.length:=Paired.length r;exact wpAny_truthy_dict hS m (by lia) ⟨H,I.tok _,by rw[UQ r];exact q⟩
 |_=>exact(show False from e).elim
def WO(ha:PE X a ta)(he:∀whole,isTrue a X.env whole=(do let v <-whole;standAt a.pos;holding [v] (truthy v))):
  PT X a (λZ H Q=>ta Z H λx H'=>∃k,y6 X.K x H' k/\Q k H'):=by
 intro aa s Z H Q I h;exact isTrue_plain (bK (ha aa s Z H _ I h) λv s1 ⟨x,H1,I1,r1,q1⟩=>e2i aa s1 Z H1 x v Q I1 r1 q1) (he _)
def qc:dB X (binaryOp .Add) (λx y H Q=>∃i j,x=.str i/\y=.str j/\i.length+j.length<=sizeLine/\Q (.str (i++j)) H):=by
 intro aa s Z H x y v u Q I rx ry h;obtain⟨i,j,rfl,rfl,hz,q⟩:=h;obtain⟨t,rfl⟩:=rx;obtain⟨t',rfl⟩:=ry;exact add_str (λt' tk=>⟨.str (i++j),H,I.tok _,⟨_,rfl⟩,q⟩) hz
def vals1(r:Vals [x] us):∃u,us=[u]/\RelV x u:=by
 cases r with
 |cons r1 r2=>cases r2;exact⟨_,rfl,r1⟩
def vals2{y:V}(r:Vals [x,y] us):∃u w',us=[u,w']/\RelV x u/\RelV y w':=by
 cases r with
 |cons r1 r2=>
  cases r2 with
  |cons r3 r4=>cases r4;exact⟨_,_,rfl,r1,r3⟩
end
variable{h:bU}{dx C:ag}{mA:Str->ak ai}{Q:ai->au->Prop}{v:V}{o:ak ai}{u:ai}{K:PySem.W.Frag}{f:Str}
structure pU (h:bU) (x dx C:ag) (mA:Str->ak ai):Prop where
 obj:h.get? x=some (PySem.W.instObj C dx)
 ns:h.Ns1 dx mA
 ne:dx≠x
def Vy(n:h.Ns1 dx mA):∃od,h.get? dx=some od/\∀name,PySem.W.lookIn name od=some (mA name):=by
 obtain⟨o,es,ep,ho,hd,hk,_,hm⟩:=n;refine⟨o,ho,λname=>?_⟩
 have e:=hm name;unfold nsFind findBy at e;rw[<-Array.find?_toList] at e;unfold PySem.W.lookIn;rw[hd];dsimp only;split
 .simp_all
 .rename_i q
  rw[q] at e;have a:es.toList.any (·.refKey)=false:=by
   rw[List.any_eq_false];intro y hy;obtain⟨z,t,Lp⟩:=hk y (M'.mp hy);simp[DictEntry.refKey,Lp]
  have a':¬es.toList.any (·.refKey)=true:=by rw[a];exact si
  rw[ba a'];exact congrArg some e
theorem pU.look{x:ag}(I:pU h x dx C mA):∃od,PySem.W.InstAt h x (PySem.W.instObj C dx) C (some od)/\∀name,PySem.W.lookIn name od=some (mA name):=
 let ⟨od,ho,hl⟩:=Vy I.ns
 ⟨od,⟨I.obj,rfl,rfl,ho⟩,hl⟩
section
variable{prog:de}{w:cB}{A:cQ}{E:ai->au->Prop}{s:au}{K:PySem.W.Frag}{x dx C f:ag}{mA:Str->ak ai}{name:Str}{v:ai}
def ZE{expr:Bool}(X:K.In s.heap)(I:pU s.heap x dx C mA)(hg:PySem.W.plainGet K C name=true)(hh:PySem.W.hasDictIn K C=true)
  (ha:PySem.W.findIn K (.ref C) name=some none) (hv:mA name=some v) (LD:PySem.W.handedIn v=true) (h:Q v { s with toks:=s.toks+1}) :
  wpAny (model prog w) A (getAttr (.ref x) name expr) Q E s:=by
 obtain⟨od,J,hl⟩:=I.look;exact PySem.W.get_value X J (PySem.W.plainGet_of hg).1 (PySem.W.findObj_own hh ha rfl (by rw[hl,hv])) LD h
def WQ{pl:Sem Bool}{Q:ai×List ai->au->Prop}(X:K.In s.heap)(I:pU s.heap x dx C mA)(hg:PySem.W.plainGet K C name=true)
  (hf:PySem.W.findIn K (.ref C) name=some (some (.ref f))) (ht:PySem.W.isFn K (.ref f)=true) (hv:mA name=none) (h:Q (.ref f,[.ref x]) s) :
  wpAny (model prog w) A (getMethod (.ref x) name pl) Q E s:=by
 obtain⟨od,J,hl⟩:=I.look;exact PySem.W.method_fn X J (PySem.W.plainGet_of hg).1 (PySem.W.plainGet_of hg).2 hf (beq_iff_eq.mp ht) (by show(PySem.W.lookIn name od).map (·.isSome)=some false;rw[hl,hv];rfl) h
def ZF{ns:List Str}{Q:Unit->au->Prop}(X:K.In s.heap)(I:pU s.heap x dx C mA)
  (hs:PySem.W.findIn K (.ref C) "__setattr__"=some (some (.builtin "object.__setattr__"))) (hp:PySem.W.plainOver K C=true) (ht:PySem.W.takerIn K C name=some none) (hh:PySem.W.hasDictIn K C=true)
  (hw:PySem.Within mA ns) (hsz:ns.length<=sizeLine)
  (h:∀h',pU h' x dx C (λy=>if y=name then some v else mA y)->Heap.SameBut dx s.heap h'->Q () { s with heap:=h',toks:=s.toks+2}) :
  wpAny (model prog w) A (setAttr (.ref x) name v) Q E s:=by
 obtain⟨od,J,hl⟩:=I.look;refine PySem.W.set_plain X J hs (PySem.W.osa_open (s:={ s with toks:=s.toks+1}) (r:=none) X J hp ht λb=>?_)
 obtain⟨cd,hc,qJ⟩:=PySem.W.any_some hh;have hx:s.heap.get? x=some ⟨.ref C,some dx,.plain,#[]⟩:=I.obj;refine ay (aU (ay (ay (wpAny_loadPart hx (ay (PySem.W.Looks.here (s:={ s with toks:=s.toks+1}) (PySem.W.looks_clsIn X hc) ?_))))));rw[qJ];refine aU (a:=some dx) (ay (aU (ay ?_)));refine wpAny_nsSet1 (s:={ s with toks:=s.toks+1}) I.ns λh' z_ v_=>?_
 obtain⟨oD,esD,epD,Lu,Lj,hcD⟩:=z_.count (PySem.Within.cons name v hw);refine ay (wpAny_lookBehind Lu (by rw[Lj];exact pastItsLine_dict (jN hcD (by rw[lS];lia))) ?_)
 exact aU (h _ ⟨(v_.2 _ (Ne.symm I.ne)).trans I.obj,z_,I.ne⟩ v_)
def WR{R:Result->au->Prop}{vs:List ai}{kw:List (Str×ai)}(X:K.In s.heap)(hm:PySem.W.makesIn K C=true)
  (hi:PySem.W.findIn K (.ref C) "__init__"=some (some (.ref f))) (hf:PySem.W.typeIn K (.ref f)=some (.type "function"))
  (h:codeAny (model prog w) (A.under (.builtin "type.__call__" ⟨.ref C::vs,kw⟩)) (.call (.ref f) ⟨.ref (s.heap.objs.size+1)::vs,kw⟩) (PySem.W.InitBack (s.heap.objs.size+1) R) {s with heap:=(s.heap.push PySem.W.emptyDict).push (PySem.W.instObj C s.heap.objs.size)}) :
  codeAny (model prog w) A (.call (.ref C) ⟨vs,kw⟩) R s:=by
 obtain⟨hh,g,d,t,os⟩:=s;exact PySem.W.make_core (PySem.W.makes_of X hm) (PySem.W.looks_findIn X hi) (λself=>PySem.W.bind_fn X self hf) (.inl rfl) h
end
noncomputable def eJ(f:Str)(v:V):List (Str×V)->List (Str×V)
 |[]=>[(f,v)]
 |(g,x)::r=>if g=f then(g,v)::r else(g,x)::eJ f v r
theorem NY(f g:Str)(v:V):∀fs:List (Str×V),(eJ f v fs).lookup g=if g=f then some v else fs.lookup g
 |[]=>by
  show List.lookup g [(f,v)]=_
  grind
 |(k,x)::r=>by
  have ih:=NY f g v r
  grind [eJ]
theorem Jx(f:Str)(v:V):∀fs:List (Str×V),f∈(eJ f v fs).map (·.1)/\∀g,g∈fs.map (·.1)->g∈(eJ f v fs).map (·.1)
 |[]=>⟨by simp[eJ],λg h=>by simp at h⟩
 |(k,x)::r=>by
  obtain⟨i1,i2⟩:=Jx f v r
  grind [eJ]
theorem NZ(f:Str)(v:V):∀fs:List (Str×V),(eJ f v fs).length<=fs.length+1
 |[]=>by simp[eJ]
 |(k,x)::r=>by
  have ih:=NZ f v r
  grind [eJ]
def ir.some_of(r:ir (some v) o):∃u,o=some u/\RelV v u:=by
 cases o with
 |none=>exact(show False from r).elim
 |some u=>exact⟨u,rfl,r⟩
def ir.none_of(r:ir none o):o=none:=by
 cases o with
 |none=>rfl
 |some u=>exact(show False from r).elim
def Vz(r:RelV v u):PySem.W.handedIn u=true:=by
 cases v with
 |aI=>cases(show u=Value.none from r);rfl
 |bl b=>cases(show u=Value.bool b from r);rfl
 |int i=>obtain⟨t,e⟩:=(show ∃t,u=Value.int i t from r);cases e;rfl
 |str x=>obtain⟨t,e⟩:=(show ∃t,u=Value.str x t from r);cases e;rfl
 |xF b=>obtain⟨t,e⟩:=(show ∃t,u=Value.bytes b t from r);cases e;rfl
 |xX b=>obtain⟨t,e⟩:=(show ∃t,u=Value.float b t from r);cases e;rfl
 |ref a=>cases(show u=Value.ref a from r);rfl
 |ty n=>cases(show u=Value.type n from r);rfl
section
variable{P:de}{w:cB}{H H':Hp}{h h':bU}{a C dx:ag}{fs BO:List (Str×V)}
def J0(bA:jb P w H h)(e:H a=some (.ins C dx fs)):∃mA,pU h a dx C mA/\(∀f,ir (fs.lookup f) (mA f))/\PySem.Within mA (fs.map (·.1))/\fs.length<=1000/\H dx=some (.own a):=by
 obtain⟨d,z,ne,ob,mA,n,r,q⟩:=(show bG P w H h a (.ins C dx fs) from bA a _ e);exact⟨mA,⟨ob,n,ne⟩,r,q,z,d⟩
end
structure pO (K:PySem.W.Frag) (C:ag):Prop where
 pg:PySem.W.plainGet K C Str.empty=true
 hd:PySem.W.hasDictIn K C=true
 po:PySem.W.plainOver K C=true
 sa:PySem.W.findIn K (.ref C) "__setattr__"=some (some (.builtin "object.__setattr__"))
def pO.get(c:pO K C)(f:Str):PySem.W.plainGet K C f=true:=c.pg
def fI(K:PySem.W.Frag)(C:ag)(f:Str):Prop:=PySem.W.findIn K (.ref C) f=some none
def fI.Fb(n:fI K C f):PySem.W.takerIn K C f=some none:=by
 unfold PySem.W.takerIn;rw[show PySem.W.findIn K (.ref C) f=some none from n];rfl
structure Con (K:PySem.W.Frag) (C:ag) (f:Str) (v:V) (u:ai):Prop where
 at_:PySem.W.findIn K (.ref C) f=some (some u)
 rel:RelV v u
 get:PySem.W.specialIn K u "__get__"=some none
 cp:PySem.W.copiedNames.contains f=false
structure Meth (K:PySem.W.Frag) (C:ag) (m:Str) (f:ag):Prop where
 at_:PySem.W.findIn K (.ref C) m=some (some (.ref f))
 fn:PySem.W.isFn K (.ref f)=true
 kp:PySem.W.keepIn K (.ref f)=true
section
variable{X:Cx}{aa:List (ag×Obj)}{Z:St}{H:Hp}{s:au}{a C dx:ag}{fs:List (Str×V)}{f:Str}{v:V}{A:cQ}{E:ai->au->Prop}
def Oa{b:Bool}(I:Inv X aa Z H s)(e:H a=some (.ins C dx fs))(c:pO X.K C)(n:fI X.K C f)(l:fs.lookup f=some v)
  (h:∀u s',Inv X aa Z H s'->RelV v u->Q u s'):wpAny (model X.prog X.w) A (getAttr (.ref a) f b) Q E s:=by
 obtain⟨mA,O,r,_,_,_⟩:=J0 I.bA e;obtain⟨u,hu,ru⟩:=ir.some_of (v:=v) (o:=mA f) (by rw[<-l];exact r f)
 exact ZE I.ke O (c.get f) c.hd n hu (Vz ru) (h u _ (I.tok _) ru)
def Ob{m:Str}{g:ag}{pl:Sem Bool}{Q:ai×List ai->au->Prop}(I:Inv X aa Z H s)(e:H a=some (.ins C dx fs))(c:pO X.K C)(k:Meth X.K C m g)(l:fs.lookup m=none)
  (h:Q (.ref g,[.ref a]) s):wpAny (model X.prog X.w) A (getMethod (.ref a) m pl) Q E s:=by
 obtain⟨mA,O,r,_,_,_⟩:=J0 I.bA e;have hn:mA m=none:=ir.none_of (by rw[<-l];exact r m)
 exact WQ I.ke O (c.get m) k.at_ k.fn hn h
def b2i{y:V}{Q:Unit->au->Prop}(I:Inv X aa Z H s)(e:H a=some (.ins C dx fs))(c:pO X.K C)(n:fI X.K C f)(hl:fs.length<1000)(ry:RelV y u)
  (h:∀s',Inv X aa Z (upd H a (.ins C dx (eJ f y fs))) s'->Q () s'):wpAny (model X.prog X.w) A (setAttr (.ref a) f u) Q E s:=by
 obtain⟨mA,O,r,wi,_,ho⟩:=J0 I.bA e;have hz:(fs.map (·.1)).length<=sizeLine:=by rw[bw,sizeLine_eq];lia
 refine ZF I.ke O c.sa c.po n.Fb c.hd wi hz λh' O' sb=>h _ ?_
 have hd:∃o,h'.get? dx=some o:=let ⟨o,_,_,e',_⟩:=O'.ns;⟨o,e'⟩
 refine I.write (x:=a) (e:=dx) (by rw[e];exact uJ) (.inr ho) (λb q hb z=>(sb.2 b hb).trans z) hd ?_
 refine⟨by rw[c_ O.ne];exact ho,?_,O.ne,O'.obj,_,O'.ns,λg=>?_,λg hg=>?_⟩
 .have:=NZ f y fs;lia
 .show ir ((eJ f y fs).lookup g) (if g=f then some u else mA g)
  rw[NY];by_cases q:g=f
  .rw[bI q,bI q];exact ry
  .rw[ba q,ba q];exact r g
 .by_cases q:g=f
  .rw[q];exact(Jx f y fs).1
  .refine(Jx f y fs).2 g (wi g λz=>hg ?_)
   show(if g=f then some u else mA g)=none
   rw[ba q];exact z
def Inv.made(I:Inv X aa Z H s):Inv X aa Z (upd (upd H s.heap.objs.size (.own (s.heap.objs.size+1))) (s.heap.objs.size+1) (.ins C s.heap.objs.size []))
  {s with heap:=(s.heap.push PySem.W.emptyDict).push (PySem.W.instObj C s.heap.objs.size)}:=by
 have e1:(s.heap.push PySem.W.emptyDict).get? s.heap.objs.size=some PySem.W.emptyDict:=jO s.heap rfl;have e2:((s.heap.push PySem.W.emptyDict).push (PySem.W.instObj C s.heap.objs.size)).get? (s.heap.objs.size+1)=some (PySem.W.instObj C s.heap.objs.size):=by
  have:=jO (s.heap.push PySem.W.emptyDict) (o:=PySem.W.instObj C s.heap.objs.size) rfl
  rwa[Heap.size_push] at this
 have e3:(s.heap.push PySem.W.emptyDict).Ns s.heap.objs.size (λ_=>none):=⟨PySem.W.emptyDict,#[],_,e1,rfl,(λe he=>cC he (by simp)),λ_=>rfl⟩
 have I1:=I.laid (a:=s.heap.objs.size) (o:=.own (s.heap.objs.size+1)) (h':=s.heap.push PySem.W.emptyDict) (t':=s.toks) (λb u q=>c8 _ q) (bP _) ⟨_,e1⟩
 refine I1.laid (a:=s.heap.objs.size+1) (o:=.ins C s.heap.objs.size []) (t':=s.toks) (λb u q=>c8 _ q) (Fq (Heap.size_push _ _)) ?_
 have ne:s.heap.objs.size≠s.heap.objs.size+1:=gM (w_ _);refine⟨by rw[c_ ne,aJ],mL _,ne,e2,λ_=>none,(Heap.Ns1.of_empty e3).at λo q=>c8 _ q,λ_=>uJ,λy hy=>cC rfl hy⟩
def ZG{prog:de}{w:cB}{env:Env}{e:Expr}{pos:Pos}{s:au}(hb:attributeBase e f env (eval e env)=eval e env)
  (h:wpAny (model prog w) A (eval e env) (λo s₁=>wpAny (model prog w) A (getAttr o f true) Q E s₁) E s):wpAny (model prog w) A (eval (.Attribute e f pos) env) Q E s:=
 Attribute_any_ h (by rw[arm_eval_Attribute,hb])
end
def MJ(K:PySem.W.Frag)(ta:TE)(f:Str):TE:=λZ H Q=>ta Z H λx H1=>∃a C dx fs v,x=.ref a/\H1 a=some (.ins C dx fs)/\pO K C/\fI K C f/\fs.lookup f=some v/\Q v H1
def Mu(K:PySem.W.Frag)(ta tv:TE)(f:Str):TS:=λD Z H=>tv Z H λy H1=>ta Z H1 λx H2=>∃a C dx fs,x=.ref a/\H2 a=some (.ins C dx fs)/\pO K C/\fI K C f/\fs.length<1000/\
 D.nx Z (upd H2 a (.ins C dx (eJ f y fs)))
def yY(X:Cx)(op:Operator)(rd:V->V->Hp->VK->Prop):Prop:=
 ∀(aa:List (ag×Obj)) (s:au) (Z:St) (H:Hp) (x y:V) (u v:ai) (Q:VK),Inv X aa Z H s->RelV x u->RelV y v->rd x y H Q->wpAny (model X.prog X.w) X.A (inplaceOp op u v) (EP X aa Z Q) X.xe s
def ZH(K:PySem.W.Frag)(ta tv:TE)(rd:V->V->Hp->VK->Prop)(f:Str):TS:=λD Z H=>ta Z H λx H1=>∃a C dx fs v,x=.ref a/\H1 a=some (.ins C dx fs)/\pO K C/\fI K C f/\fs.lookup f=some v/\
 tv Z H1 λy H2=>rd v y H2 λz H3=>∃KP BO,H3 a=some (.ins C KP BO)/\BO.length<1000/\D.nx Z (upd H3 a (.ins C KP (eJ f z BO)))
section
variable{X:Cx}{o e value:Expr}{f:Str}{pos pos' fq:Pos}{ta tv:TE}
def e2j(he:PE X e ta)(hb:attributeBase e f X.env (eval e X.env)=eval e X.env):PE X (.Attribute e f pos) (MJ X.K ta f):=by
 intro aa s Z H Q I h;refine ZG hb (bK (he aa s Z H _ I h) λu s1 hh=>?_)
 obtain⟨x,H1,I1,rx,a,C,dx,fs,v,ex,ea,c,n,l,q⟩:=hh;subst ex;obtain rfl:u=Value.ref a:=rx;exact Oa I1 ea c n l λu' s2 I2 ru=>⟨v,H1,I2,ru,q⟩
def e2k(ha:PE X o ta)(hv:PE X value tv)(hs:swapsWith value (some (.Attribute o f pos')) pos.line X.env=pure false):PS X (.Assign [.Attribute o f pos'] value pos) (Mu X.K ta tv f):=by
 intro aa s Z H D I h;refine plainObj_wpAny_Assign_Attribute (bK (hv aa s Z H _ I h) λu s1 ⟨y,H1,I1,ry,q⟩=>bK (ha aa s1 Z H1 _ I1 q) λov s2 ⟨x,H2,I2,rx,a,C,dx,fs,ex,ea,c,n,l,q2⟩=>?_) hs
 subst ex;obtain rfl:ov=Value.ref a:=rx;exact b2i I2 ea c n l ry λs3 I3=>⟨Z,_,I3,q2⟩
def VA{op:Operator}{rd:V->V->Hp->VK->Prop}(ha:PE X o ta)(hv:PE X value tv)(Ad:yY X op rd):PS X (.AugAssign (.Attribute o f fq) op value pos) (ZH X.K ta tv rd f):=by
 intro aa s Z H D I h;refine wpAny_AugAssign_AttributeAny (bK (ha aa s Z H _ I h) λov s1 hh=>?_)
 obtain⟨x,H1,I1,rx,a,C,dx,fs,v,ex,ea,c,n,l,q⟩:=hh;subst ex;obtain rfl:ov=Value.ref a:=rx;refine Oa I1 ea c n l λu s2 I2 ru=>bK (hv aa s2 Z H1 _ I2 q) λw3 s3 ⟨y,H2,I3,ry,q3⟩=>bK (Ad aa s3 Z H2 v y u w3 _ I3 ru ry q3) λw4 s4 ⟨z,H3,I4,rz,KP,BO,ea',l',q4⟩=>?_
 exact b2i I4 ea' c n l' rz λs5 I5=>⟨Z,_,I5,q4⟩
def Mo:V->V->Hp->VK->Prop:=λx y H Q=>∃i j,x=.int i/\y=.int j/\Q (.int (i+j)) H
def e2l:yY X .Add Mo:=by
 rintro aa s Z H x y u v Q I rx ry ⟨i,j,rfl,rfl,q⟩;obtain⟨t,rfl⟩:=(show ∃t,u=Value.int i t from rx);obtain⟨t',rfl⟩:=(show ∃t',v=Value.int j t' from ry);exact PyProof.Rows.iadd_int ⟨.int (i+j),H,I.tok _,⟨_,rfl⟩,q⟩
end
section
variable{X:Cx}{aa:List (ag×Obj)}{Z:St}{H:Hp}{s:au}{A:cQ}{E:ai->au->Prop}{Q:ai->au->Prop}{c:ai}{b:Bool}
inductive kr (K:PySem.W.Frag) (H:Hp):V->ai->Prop where
 |aI:kr K H .aI (.type "NoneType")
 |bl (x:Bool):kr K H (.bl x) (.type "bool")
 |int (i:Int):kr K H (.int i) (.type "int")
 |str (x:Str):kr K H (.str x) (.type "str")
 |xX (x:UInt64):kr K H (.xX x) (.type "float")
 |lst {a:ag} {xs:List V} (e:H a=some (.lst xs)):kr K H (.ref a) (.type "list")
 |Y {a:ag} {o:Obj} {xs:List V} (e:H a=some (.Y o (.lst xs))):kr K H (.ref a) (.type "list")
 |tup {a:ag} {xs:List V} (e:H a=some (.tup xs)):kr K H (.ref a) (.type "tuple")
 |dK {a:ag} {kvs:List (Key×V)} (e:H a=some (.dK kvs)):kr K H (.ref a) (.type "dict")
 |dT {a:ag} {kvs:List (List Key×V)} (e:H a=some (.dT kvs)):kr K H (.ref a) (.type "dict")
 |ins {a C dx:ag} {fs:List (Str×V)} (e:H a=some (.ins C dx fs)) (cl:pO K C) (ha:PySem.W.findIn K (.ref C) "__class__"=some (some (.builtin "object.__class__")))
   (hn:PySem.W.specialIn K (.builtin "object.__class__") "__get__"=some (some (.builtin "getset_descriptor.__get__"))) (htk:PySem.W.takesIn K (.builtin "object.__class__")=some true)
   (hm:PySem.W.mroIn K C (.type "object")=some true):kr K H (.ref a) (.ref C)
end
variable{k:Nat}{A:cQ}{C f:ag}{us:List ai}{kw:List (Str×ai)}{P:de}{w:cB}{K:PySem.W.Frag}{mg:Str->ak ai}{base:bU}{outer:List Env}{s:au}{H:Hp}{Q:VK}{ps N:List Str}{aa:List (ag×Obj)}{Z:St}{vs:List V}{qual:Str}{scope:Scope}
structure cv (k:Nat) (A:cQ):Prop where
 hd:A.handled=none
 dp:A.depth+3*k+5<recursionLimit
 un:A.units+16*k+200<cLine
def cv.mono{j:Nat}(r:cv k A)(h:j<=k):cv j A:=⟨r.hd,by have:=r.dp;lia,by have:=r.un;lia⟩
def cv.deeper{k:Nat}{A:cQ}(r:cv (k+1) A)(env:Env):cv k (A.deeper env):=
 ⟨r.hd,by have:=r.dp;show A.depth+1+3*k+5<_;lia,by have:=r.un;show A.units+3+16*k+200<_;lia⟩
def UR:(A.under (.builtin "type.__call__" ⟨.ref C::us,kw⟩)).depth=A.depth+1:=by
 rfl
def UT:(A.under (.builtin "type.__call__" ⟨.ref C::us,kw⟩)).units=A.units+1:=by
 rfl
def cv.make(r:cv (k+1) A)(C:ag)(us:List ai)(kw:List (Str×ai)):cv k (A.under (.builtin "type.__call__" ⟨.ref C::us,kw⟩)):=
 ⟨r.hd,by have:=r.dp;rw[UR];lia,by have:=r.un;rw[UT];lia⟩
def cv.depth{k:Nat}{A:cQ}(r:cv k A):A.depth<recursionLimit:=by have:=r.dp;lia
def cv.units{k:Nat}{A:cQ}(r:cv k A):A.units+64<cLine:=by have:=r.un;lia
def wH:TA:=λ_ H Q=>Q [] H
def uB(ta:TE)(tr:TA):TA:=λZ H Q=>ta Z H λx H1=>tr Z H1 λxs H2=>Q (x::xs) H2
section
variable{X:Cx}{e:Expr}{es:List Expr}{te:TE}{t:TA}{pos:Pos}
def nA:PA X [] wH:=λ_ _ _ _ H Q I h=>Calls.spliced_nil ⟨[],H,I,.nil,h⟩
def GF(ha:PE X e te)(hr:PA X es t)(hs:starEach (e::es) X.env=(false,eval e X.env)::starEach es X.env:=by rfl):PA X (e::es) (uB te t):=by
 intro pos aa s Z H Q I h;rw[hs];show wpAny _ _ (spliced ((false,eval e X.env)::backTo pos (starEach es X.env))) _ _ s;refine Calls.spliced_cons (bK (ha aa s Z H _ I h) λu s1 hh=>?_)
 obtain⟨x,H1,I1,r1,q1⟩:=hh;exact bK (hr pos aa s1 Z H1 _ I1 q1) λus s2 ⟨xs,H2,I2,r2,q2⟩=>⟨x::xs,H2,I2,.cons r1 r2,q2⟩
def MQ(t:TA):TE:=λZ H Q=>t Z H λxs H1=>xs.length<=sizeLine/\∀p,H1 p=none->Q (.ref p) (upd H1 p (.tup xs))
def MM(t:TA):TE:=λZ H Q=>t Z H λxs H1=>xs.length<=sizeLine/\∀p,H1 p=none->Q (.ref p) (upd H1 p (.lst xs))
def e2m{x1}(h:PA X es t):PE X (.Tuple es x1 pos) (MQ t):=by
 intro aa s Z H Q I hq;refine wpAny_Tuple_spliced (bK (h pos aa s Z H _ I hq) λus s1 ⟨xs,H1,I1,r,z,q⟩=>⟨by rw[<-r.length];exact z,?_⟩)
 have hf:H1 s1.heap.objs.size=none:=I1.bA.fresh (bP _);refine⟨.ref s1.heap.objs.size,upd H1 s1.heap.objs.size (.tup xs),I1.laid (t':=s1.toks) (λb u e=>c8 _ e) (bP _) ?_,rfl,q _ hf⟩
 exact⟨z,us,r,⟨_,jO _ rfl,rfl,_,rfl⟩⟩
def e2n(h:PA X es t):PE X (.List es pos) (MM t):=by
 intro aa s Z H Q I hq;refine wpAny_List_spliced (bK (h pos aa s Z H _ I hq) λus s1 ⟨xs,H1,I1,r,z,q⟩=>⟨by rw[<-r.length];exact z,?_⟩)
 have hf:H1 s1.heap.objs.size=none:=I1.bA.fresh (bP _);refine⟨.ref s1.heap.objs.size,upd H1 s1.heap.objs.size (.lst xs),I1.laid (t':=s1.toks) (λb u e=>c8 _ e) (bP _) ?_,rfl,q _ hf⟩
 exact⟨z,us,0,r,jO _ rfl⟩
end
abbrev Sp:=List V->Hp->VK->XK->Prop
abbrev uL:=List Env->Hp->au->XK->ai->au->Prop
variable{CX:uL}
structure pP (P:de) (w:cB) (K:PySem.W.Frag) (mg:Str->ak ai) (base:bU) (A:cQ) (outer:List Env) (s:au) (H:Hp):Prop where
 frames:A.frames=some outer
 mod:Mod K mg base
 bs:∀b o,base.get? b=some o->s.heap.get? b=some o/\H b=none
 tF:base.objs.size<=s.heap.objs.size
 iP:s.heap.FunFrames base outer
 vW:∀b∈kP outer,H b=none
 bA:jb P w H s.heap
 bare:AllBare s.gens
def CE(outer:List Env)(P:de)(w:cB)(H:Hp)(s:au)(Q:VK)(u:ai)(s':au):Prop:=
 ∃v H',s'.os=s.os/\AllBare s'.gens/\Un (kP outer) [] H H' s.heap s'.heap/\jb P w H' s'.heap/\RelV v u/\Q v H'
def CR(CX:uL)(outer:List Env)(P:de)(w:cB)(H:Hp)(s:au)(Q:VK)(E:XK)(r:Result)(s':au):Prop:=
 match r with
 |.ok (.ret u)=>CE outer P w H s Q u s'
 |.ok _=>False
 |.error e=>CX outer H s E e s'
structure dA (P:de) (w:cB) (K:PySem.W.Frag) (mg:Str->ak ai) (base:bU) (CX:uL) (k:Nat) (f:ag) (fd:bQ) (ps:List Str) (sp:Sp):Prop where
 len:∀vs H Q E,sp vs H Q E->vs.length=ps.length
 run:∀(A:cQ) (outer:List Env) (s:au) (H:Hp) (args:Args) (us:List ai) (vs:List V) (Q:VK) (E:XK),cv k A->pP P w K mg base A outer s H->BindsTo s fd args (ps.zip us)->Vals vs us->sp vs H Q E->
  codeAny (model P w) A (.call (.ref f) args) (CR CX outer P w H s Q E) s
def pP.make(e:pP P w K mg base A outer s H)(C:ag)(us:List ai)(kw:List (Str×ai)):
  pP P w K mg base (A.under (.builtin "type.__call__" ⟨.ref C::us,kw⟩)) outer s H:=⟨by first|exact e.frames|(simpa[Around.under,Code.envs,Code.isFrame,pushEnvs] using e.frames),e.mod,e.bs,e.tF,e.iP,e.vW,e.bA,e.bare⟩
section
variable{X:Cx}{aa:List (ag×Obj)}{Z:St}{H:Hp}{s s':au}
def Inv.DD(I:Inv X aa Z H s):pP X.prog X.w X.K X.mg X.base X.A X.stack s H:=
 ⟨I.ok.frames,I.ok.mod,I.bs,jN I.ok.tF I.sz,I.stack,I.kh,I.bA,I.bare⟩
def Inv.after{u:ai}(I:Inv X aa Z H s)(h:CE X.stack X.prog X.w H s Q u s'):EP X aa Z Q u s':=by
 obtain⟨v,H',os,bare,un,bA,r,q⟩:=h;obtain⟨hh,g,d,t,os'⟩:=s';obtain rfl:os'=s.os:=os;exact⟨v,H',I.call (h':=hh) (g':=g) (d':=d) (t':=t) (ch:=[]) un bA bare (λb z=>cC z (by simp)),r,q⟩
end
def E8(sp:Sp)(lL:List V)(E:St->XK)(t:TA):TE:=λZ H Q=>t Z H λvs H1=>sp (vs++lL) H1 Q (E Z)
def uC(C:ag)(m:Str)(sp:Sp)(lL:List V)(E:St->XK)(ta:TE)(t:TA):TE:=λZ H Q=>ta Z H λx H1=>∃a dx fs,x=.ref a/\H1 a=some (.ins C dx fs)/\fs.lookup m=none/\
 t Z H1 λvs H2=>sp (x::(vs++lL)) H2 Q (E Z)
def yH(C:ag)(sp:Sp)(lL:List V)(E:St->XK)(t:TA):TE:=λZ H Q=>t Z H λvs H1=>∀x dx,H1 x=none->H1 dx=none->dx≠x->
 sp (.ref x::(vs++lL)) (upd (upd H1 dx (.own x)) x (.ins C dx [])) (λv H2=>v=.aI/\Q (.ref x) H2) (E Z)
def Binds(K:PySem.W.Frag)(fd:bQ)(ps:List Str)(ds:List ai):Prop:=
 ∀(s:au) (us:List ai),K.In s.heap->(us++ds).length=ps.length->BindsTo s fd ⟨us,[]⟩ (ps.zip (us++ds))
def Binds.all{fd:bQ}(h:∀us:List ai,us.length=ps.length->bindArgs fd ⟨us,[]⟩=pure (ps.zip us)):Binds K fd ps []:=λs us _ hl=>by
 rw[mO] at hl ⊢;exact .of_eq (h us hl)
def zC(CX:uL)(X:Cx)(E:St->XK):Prop:=∀(aa:List (ag×Obj)) (Z:St) (H:Hp) (s:au) (e:ai) (s':au),Inv X aa Z H s->CX X.stack H s (E Z) e s'->X.xe e s'
section
variable{X:Cx}{CX:uL}{k:Nat}{f C:ag}{fd:bQ}{ps:List Str}{sp:Sp}{lL:List V}{ds:List ai}{E:St->XK}{x m:Str}{p pos apos:Pos}{e o:Expr}{es:List Expr}{ta:TE}{t:TA}
def Kg(F:dA X.prog X.w X.K X.mg X.base CX k f fd ps sp)(hr:cv k X.A)(hb:Binds X.K fd ps ds)(hd:Vals lL ds)(hx:zC CX X E)
  (I:Inv X aa Z H s) (r:Vals vs us) (h:sp (vs++lL) H Q (E Z)):wpAny (model X.prog X.w) X.A (call (.ref f) us) (EP X aa Z Q) X.xe s:=by
 have r2:Vals (vs++lL) (us++ds):=r.append hd;have hl:(us++ds).length=ps.length:=by rw[<-r2.length];exact F.len _ _ _ _ h
 refine wpAny_call (codeAny_mono (F.run X.A X.stack s H ⟨us,[]⟩ (us++ds) (vs++lL) Q (E Z) hr I.DD (hb s us I.ke hl) r2 h) λr s' hq=>?_)
 cases r with
 |error e=>exact hx aa Z H s e s' I hq
 |ok fl=>
  cases fl with
  |ret u=>exact I.after hq
  |next=>exact False.elim hq
  |brk=>exact False.elim hq
  |cont=>exact False.elim hq
def ZI(F:dA X.prog X.w X.K X.mg X.base CX k f fd ps sp)(hr:cv k X.A)(hg:Gl X x)(hm:X.mg x=some (.ref f))(hk:PySem.W.keepIn X.K (.ref f)=true)(hb:Binds X.K fd ps ds)(hd:Vals lL ds)(hx:zC CX X E)
  (ha:PA X (e::es) t) (lO:(x == ("__debug__":Str))=false:=by decide) (he:starEach (e::es) X.env=(false,eval e X.env)::starEach es X.env:=by rfl) (ka:(backTo pos (starEach es X.env)).any (·.1)=false:=by rfl) :
  PE X (.Call (.Name x p) (e::es) [] pos) (E8 sp lL E t):=by
 intro aa s Z H Q I h;refine wpAny_Call_Name_kw (Bu I hg hm ?_ lO);refine PySem.W.callWith_K (h₀:=X.base) I.ok.mod.BW hk (bK (ha pos aa s Z H _ I h) λus s1 ⟨vs,H1,I1,r,q⟩=>⟨I1.ke,?_⟩) he ka
 exact Kg F hr hb hd hx I1 r q
def ZJ{pl:Sem Bool}(he:PE X o ta)(c:pO X.K C)(hm:Meth X.K C m f)(F:dA X.prog X.w X.K X.mg X.base CX k f fd ps sp)(hr:cv k X.A)(hb:Binds X.K fd ps ds)(hd:Vals lL ds)(hx:zC CX X E)(ha:PA X (e::es) t)
  (lP:starEach (e::es) X.env=(false,eval e X.env)::starEach es X.env:=by rfl) (ka:(backTo pos (starEach es X.env)).any (·.1)=false:=by rfl)
  (ht:eval (.Call (.Attribute o m apos) (e::es) [] pos) X.env=(do
   let ov <-eval o X.env
   standAt apos.atName
   let (f,first) <-holding [ov] (getMethod ov m pl)
   callWith pos f first (backTo pos (starEach (e::es) X.env)) (backToKw pos (keywordEach [] X.env))):=by rfl) :
  PE X (.Call (.Attribute o m apos) (e::es) [] pos) (uC C m sp lL E ta t):=by
 intro aa s Z H Q I h;refine PySem.W.methodCall_KW (pl:=pl) (bK (he aa s Z H _ I h) λu s1 hh=>?_) ht
 obtain⟨x,H1,I1,rx,a,dx,fs,ex,ea,l,q⟩:=hh;subst ex;obtain rfl:u=Value.ref a:=rx;refine Ob I1 ea c hm l ?_;refine PySem.W.callWith_K (first:=[.ref a]) (h₀:=X.base) I.ok.mod.BW hm.kp (bK (ha pos aa s1 Z H1 _ I1 q) λus s2 ⟨vs,H2,I2,r,q2⟩=>⟨I2.ke,?_⟩) lP ka
 exact Kg (us:=.ref a::us) (vs:=.ref a::vs) F hr hb hd hx I2 (.cons rfl r) q2
def WS{pl:Sem Bool}(he:PE X o ta)(c:pO X.K C)(hm:Meth X.K C m f)(F:dA X.prog X.w X.K X.mg X.base CX k f fd ps sp)(hr:cv k X.A)(hb:Binds X.K fd ps ds)(hd:Vals lL ds)(hx:zC CX X E)
  (ht:eval (.Call (.Attribute o m apos) [] [] pos) X.env=(do
   let ov <-eval o X.env
   standAt apos.atName
   let (f,first) <-holding [ov] (getMethod ov m pl)
   callWith pos f first (backTo pos (starEach [] X.env)) (backToKw pos (keywordEach [] X.env))):=by rfl) :
  PE X (.Call (.Attribute o m apos) [] [] pos) (uC C m sp lL E ta wH):=by
 intro aa s Z H Q I h;refine PySem.W.methodCall_KW (pl:=pl) (bK (he aa s Z H _ I h) λu s1 hh=>?_) ht
 obtain⟨x,H1,I1,rx,a,dx,fs,ex,ea,l,q⟩:=hh;subst ex;obtain rfl:u=Value.ref a:=rx;refine Ob I1 ea c hm l ?_;exact PySem.W.callWith_K0 (first:=[.ref a]) I1.ke hm.kp (Kg (us:=[.ref a]) (vs:=[.ref a]) F hr hb hd hx I1 (.cons rfl .nil) q)
structure Mk (K:PySem.W.Frag) (C f:ag):Prop where
 makes:PySem.W.makesIn K C=true
 init:PySem.W.findIn K (.ref C) "__init__"=some (some (.ref f))
 fn:PySem.W.isFn K (.ref f)=true
 kp:PySem.W.keepIn K (.ref C)=true
def WT(M:Mk X.K C f)(F:dA X.prog X.w X.K X.mg X.base CX k f fd ps sp)(hr:cv (k+1) X.A)(hb:Binds X.K fd ps ds)(hd:Vals lL ds)
  (hx:zC CX X E) (I:Inv X aa Z H s) (r:Vals vs us)
  (h:∀x dx,H x=none->H dx=none->dx≠x->sp (.ref x::(vs++lL)) (upd (upd H dx (.own x)) x (.ins C dx [])) (λv H2=>v=.aI/\Q (.ref x) H2) (E Z)) :
  wpAny (model X.prog X.w) X.A (call (.ref C) us) (EP X aa Z Q) X.xe s:=by
 have hq:=h (s.heap.objs.size+1) s.heap.objs.size (I.bA.fresh (xa _)) (I.bA.fresh (bP _)) (gM (w_ _));have I2:=Inv.made (C:=C) I;have r2:Vals (V.ref (s.heap.objs.size+1)::(vs++lL)) (Value.ref (s.heap.objs.size+1)::(us++ds)):=.cons rfl (r.append hd);have hl:(Value.ref (s.heap.objs.size+1)::us++ds).length=ps.length:=by
  have e:=r2.length;rw[F.len _ _ _ _ hq] at e;exact e.symm
 refine wpAny_call (WR (f:=f) I.ke M.makes M.init (beq_iff_eq.mp M.fn) (codeAny_mono (F.run _ X.stack _ _ ⟨Value.ref (s.heap.objs.size+1)::us,[]⟩ (Value.ref (s.heap.objs.size+1)::(us++ds)) _ _ (E Z) (hr.make C us []) (I2.DD.make C us []) (hb _ (Value.ref (s.heap.objs.size+1)::us) I2.ke hl) r2 hq) λr s' D7=>?_))
 cases r with
 |error e=>exact hx aa Z _ _ e s' I2 D7
 |ok fl=>
  cases fl with
  |ret u=>
   obtain⟨v,H',I3,rv,ev,q3⟩:=I2.after D7;subst ev;exact⟨rv,⟨V.ref (s.heap.objs.size+1),H',I3,rfl,q3⟩⟩
  |next=>exact False.elim D7
  |brk=>exact False.elim D7
  |cont=>exact False.elim D7
def ZK(M:Mk X.K C f)(F:dA X.prog X.w X.K X.mg X.base CX k f fd ps sp)(hr:cv (k+1) X.A)(hg:Gl X x)(hm:X.mg x=some (.ref C))(hb:Binds X.K fd ps ds)(hd:Vals lL ds)(hx:zC CX X E)
  (ha:PA X (e::es) t) (lO:(x == ("__debug__":Str))=false:=by decide) (he:starEach (e::es) X.env=(false,eval e X.env)::starEach es X.env:=by rfl) (ka:(backTo pos (starEach es X.env)).any (·.1)=false:=by rfl) :
  PE X (.Call (.Name x p) (e::es) [] pos) (yH C sp lL E t):=by
 intro aa s Z H Q I h;refine wpAny_Call_Name_kw (Bu I hg hm ?_ lO);refine PySem.W.callWith_K (h₀:=X.base) I.ok.mod.BW M.kp (bK (ha pos aa s Z H _ I h) λus s1 ⟨vs,H1,I1,r,q⟩=>⟨I1.ke,?_⟩) he ka
 exact WT M F hr hb hd hx I1 r q
end
section
variable{X:Cx}{CX:uL}{k:Nat}{f C:ag}{fd:bQ}{ps ks:List Str}{sp:Sp}{E:St->XK}{x m:Str}{p pos apos kpos:Pos}{e o:Expr}{es:List Expr}{kws:List Keyword}{te ta:TE}{t tk:TA}{nm:ak Str}
structure KBinds (K:PySem.W.Frag) (fd:bQ) (ps ks:List Str) (g:List ai->List ai->List ai) (gV:List V->List V->List V):Prop where
 to:∀(s:au) (us ws:List ai),K.In s.heap->(g us ws).length=ps.length->BindsTo s fd ⟨us,ks.zip ws⟩ (ps.zip (g us ws))
 rel:∀{vs:List V} {us:List ai} {zs:List V} {ws:List ai},Vals vs us->Vals zs ws->Vals (gV vs zs) (g us ws)
variable{g:List ai->List ai->List ai}{gV:List V->List V->List V}
end
structure iq (N P:List Str) (sc:Scope):Prop where
 kind:sc.kind=.function
 co:sc.isCoroutine=false
 gen:sc.isGenerator=false
 nd:N.Nodup
 pre:N.take P.length=P
 par:∀x∈P,sc.names.lookup x=some .local \/ sc.names.lookup x=some .cell
 Aq:∀y∈sc.names,y.2≠.free
theorem Ox{kindOf:Str->ak qk}{x:Str}:∀{binds:List (Str×ai)} {m:Str->ak ai},(∀v,(x,v)∉binds)->bindL kindOf binds m x=m x
 |[],_,_=>rfl
 |(n,v)::r,m,h=>by
  unfold bindL;rw[Ox λw hw=>h w (uG _ hw)]
  split
  .have:x≠n:=by rintro rfl;exact h v AV
   simp[this]
  .rfl
theorem Oy{kindOf:Str->ak qk}{x:Str}:∀{binds:List (Str×ai)} {m:Str->ak ai},(∀v,(x,v)∉binds)->bindC kindOf binds m x=m x
 |[],_,_=>rfl
 |(n,v)::r,m,h=>by
  unfold bindC;rw[Oy λw hw=>h w (uG _ hw)]
  split
  .rfl
  .have:x≠n:=by rintro rfl;exact h v AV
   simp[this]
theorem Oz{kindOf:Str->ak qk}{x:Str}{v:ai}:∀{P:List Str} {vs:List ai} {i:Nat} {m:Str->ak ai},P.Nodup->P[i]?=some x->vs[i]?=some v->kindOf x=some .local ->
  bindL kindOf (P.zip vs) m x=some v
 |[],_,_,_,_,h,_,_=>by simp at h
 |_::_,[],_,_,_,_,h,_=>by simp at h
 |p::P,w::vs,0,m,nd,h1,h2,hk=>by
  simp at h1 h2;subst h1;subst h2;show bindL kindOf ((p,w)::P.zip vs) m p=_;unfold bindL;rw[Ox λv hv=>(sj.mp nd).1 (List.of_mem_zip hv).1,bI hk]
  simp
 |p::P,w::vs,i+1,m,nd,h1,h2,hk=>by
  show bindL kindOf ((p,w)::P.zip vs) m x=_;unfold bindL;exact Oz (i:=i) (sj.mp nd).2 (by simpa using h1) (by simpa using h2) hk
theorem OA{kindOf:Str->ak qk}{x:Str}{v:ai}:∀{P:List Str} {vs:List ai} {i:Nat} {m:Str->ak ai},P.Nodup->P[i]?=some x->vs[i]?=some v->kindOf x≠some .local ->
  bindC kindOf (P.zip vs) m x=some v
 |[],_,_,_,_,h,_,_=>by simp at h
 |_::_,[],_,_,_,_,h,_=>by simp at h
 |p::P,w::vs,0,m,nd,h1,h2,hk=>by
  simp at h1 h2;subst h1;subst h2;show bindC kindOf ((p,w)::P.zip vs) m p=_;unfold bindC;rw[Oy λv hv=>(sj.mp nd).1 (List.of_mem_zip hv).1,ba hk]
  simp
 |p::P,w::vs,i+1,m,nd,h1,h2,hk=>by
  show bindC kindOf ((p,w)::P.zip vs) m x=_;unfold bindC;exact OA (i:=i) (sj.mp nd).2 (by simpa using h1) (by simpa using h2) hk
noncomputable def start(N:List Str)(vs:List V):St:=vs.map some++List.replicate (N.length - vs.length) none
noncomputable def m8(CX:uL)(P:de)(w:cB)(K:PySem.W.Frag)(mg:Str->ak ai)(base:bU)(N:List Str)(qual:Str)(scope:Scope)(f:ag)(cd:ai)(A:cQ)(outer:List Env)(s:au)(H:Hp)(E:XK):Cx where
 prog:=P
 w:=w
 K:=K
 mg:=mg
 base:=base
 A:=A.deeper (envOfC qual scope s.heap.objs.size f cd)
 N:=N
 s₀:=s
 H₀:=H
 env:=envOfC qual scope s.heap.objs.size f cd
 outer:=outer
 stack:=envOfC qual scope s.heap.objs.size f cd::outer
 ex:=[]
 calm:=true
 fn:=λ_=>true
 pn:=[]
 xe:=λe s'=>wpAny (model P w) (A.deeper (envOfC qual scope s.heap.objs.size f cd)) (leaving (envOfC qual scope s.heap.objs.size f cd) e) (λ_ uz=>CX outer H s E e uz) (λe' uz=>CX outer H s E e' uz) s'
def O9{sc:Scope}{n:Nat}{x:Str}(h:sc.names.lookup x=some .cell):∃c,(cellsFrom n sc.names []).lookup x=some c:=by
 have q:=PySem.W.cellsFrom_some sc.names n [] (.inl h);exact Option.isSome_iff_exists.mp q
def VB{cd:ai}{s1:au}{E:XK}
  (S:iq N ps scope) (hd:A.handled=none) (e0:pP P w K mg base A outer s H) (hl:vs.length=ps.length) (r:Vals vs us)
  (x:InCallC s s.heap.objs.size (bindL (envOfC qual scope s.heap.objs.size f cd).kindOf (ps.zip us) λ_=>none) (cellsFrom (s.heap.objs.size+1) scope.names []) (bindC (envOfC qual scope s.heap.objs.size f cd).kindOf (ps.zip us) λ_=>none) s1) :
  Inv (m8 CX P w K mg base N qual scope f cd A outer s H E) [] (start N vs) H s1:=by
 have ka:ps.length<=N.length:=by have:=congrArg List.length S.pre;rw[yL] at this;lia
 obtain⟨h1,tk,rfl,hk⟩:=x.done;have Eu:∀b:ag,b∉(m8 CX P w K mg base N qual scope f cd A outer s H E).ex:=λb z=>cC (show b∈([]:List ag) from z) (by simp)
 refine⟨⟨e0.mod,S.kind,rfl,rfl,bP _,λy z c h1 h2=>?_,λy hy=>?_,λy c _ h=>?_,λ_=>hd,Around.frames_deeper e0.frames,.inr ⟨rfl,rfl⟩,λb z=>cC z (Eu b),e0.bs,e0.tF,λb _ _=>Eu b,λb z=>cC z (Eu b),e0.iP,e0.vW⟩,rfl,e0.bare,Un.kept hk,⟨_,x.toInCall.ns,λi y v h1 h2 h3=>?_⟩,λy c h=>⟨_,x.cell y c h⟩,e0.bA.fresh (bP _),λy c h=>?_,λp hp=>cC (show p∈([]:List (ag×Obj)) from hp) (by simp),e0.bA.kept hk,?_⟩
 .exact name_of_addr x.apart (PySem.mem_of_lookup h1) (PySem.mem_of_lookup h2)
 .have hy:scope.names.lookup y=some .cell\/scope.names.lookup y=some .free:=hy;rcases hy with hy|hy
  .exact O9 hy
  .exact cC rfl (S.Aq _ (PySem.mem_of_lookup hy))
 .exact Ij (x.above y c (PySem.mem_of_lookup h))
 .have hi:i<vs.length:=by
   unfold start at h2;by_cases hi:i<vs.length
   .exact hi
   .rw[vk (by simpa using hi)] at h2
    rw[Na] at h2;split at h2 <;> cases h2
  have ha:vs[i]?=some v:=by
   unfold start at h2;rw[xg (by simpa using hi),gP] at h2
   cases e:vs[i]? with
   |none=>rw[e] at h2;cases h2
   |some a=>rw[e] at h2;cases h2;rfl
  obtain⟨u,hu,rv⟩:=r.get ha;have hp:ps[i]?=some y:=by
   rw[<-S.pre,List.getElem?_take_of_lt (by lia)];exact h1
  have Ta:ps.Nodup:=by rw[<-S.pre];exact S.nd.sublist (List.take_sublist _ _)
  refine⟨u,rv,?_⟩;rcases S.par y (uH hp) with k|k
  .exact .inl ⟨k,Oz Ta hp hu k⟩
  .obtain⟨c,e⟩:=O9 (n:=s.heap.objs.size+1) k;refine .inr ⟨.inl k,c,e,?_⟩;have q:=x.cell y c e;rw[OA Ta hp hu (by show scope.names.lookup y≠_;rw[k];decide)] at q
   exact q
 .exact e0.bA.fresh (Ij (x.above y c (PySem.mem_of_lookup h)))
 .unfold start;show _=N.length
  simp_all
def e8b{name:Str}{params:Arguments}{body:List Stmt}{dV kV doc pm gd ct oc:ai}{an od:ak ag}
  {vi:Array (ak ai)}  {sp:Sp} (lk:K.lookup f=some ⟨oc,od,.func (PySem.W.fnOf name qual params body scope dV kV doc pm an gd ct),vi⟩) (rH:PySem.W.codeIn K gd qual=true) (S:iq N ps scope)
  (len:∀vs H Q E,sp vs H Q E->vs.length=ps.length)
  (tY:∀(A:cQ) (outer:List Env) (s:au) (H:Hp) (vs:List V) (Q:VK) (E:XK),cv k (A.deeper (envOfC qual scope s.heap.objs.size f gd))->sp vs H Q E-> ∃t,je (m8 CX P w K mg base N qual scope f gd A outer s H E) body t/\t { nx:=λ_ H'=>Q .aI H',rt:=Q} (start N vs) H) :
  dA P w K mg base CX (k+1) f (PySem.W.fnOf name qual params body scope dV kV doc pm an gd ct) ps sp:=by
 refine⟨len,λA outer s H args us vs Q E hr e0 hb r x9=>?_⟩
 have hl:=len _ _ _ _ x9;have KX:K.In s.heap:=e0.mod.BW.keeps λb o e=>(e0.bs b o e).1
 have lim:s.heap.NoLimit:=e0.mod.nolimit.keeps λb o e=>(e0.bs b o e).1
 have DY:∀y∈ps.zip us,scope.names.lookup y.1=some .local \/ (scope.names.lookup y.1=some .cell/\((cellsFrom (s.heap.objs.size+1) scope.names []).lookup y.1).isSome=true):=λ⟨n,v⟩ hy=>by
  rcases S.par n (List.of_mem_zip hy).1 with q|q
  .exact .inl q
  .exact .inr ⟨q,PySem.W.cellsFrom_some _ _ _ (.inl q)⟩
 refine codeAny_call_function hr.depth (KX _ _ lk) rfl S.co S.gen rfl (PySem.W.codeRec_of KX rH) (hb _ _ _ _ ?_);refine wpAny_newFunctionEnv_cells S.kind DY λenv he s1 x=>?_
 subst he;refine⟨lim.keeps x.toInCall.keep,codeAny_func ?_⟩;obtain⟨t,ht,hq⟩:=tY A outer s H vs Q E (hr.deeper _) x9;have I:Inv (m8 CX P w K mg base N qual scope f gd A outer s H E) [] (start N vs) H s1:=VB S hr.hd e0 hl r x;refine wpAny_mono (ht [] s1 (start N vs) H _ I hq) (λfl s' hs=>?_) λe s' hs=>hs
 have fin:∀{Z':St} {H':Hp} {v:V} {u:ai},Inv (m8 CX P w K mg base N qual scope f gd A outer s H E) [] Z' H' s'->RelV v u->Q v H'->CE outer P w H s Q u s':=
  λ{Z' H' v u} J rv q=>⟨v,H',J.os,J.bare,J.base,J.bA,rv,q⟩
 cases fl with
 |ret u=>
  obtain⟨v,Z',H',J,rv,q⟩:=hs;exact fin J rv q
 |next=>
  obtain⟨Z',H',J,q⟩:=hs;exact fin (v:=V.aI) (u:=Value.none) J rfl q
 |brk=>
  obtain⟨_,_,_,q⟩:=hs;exact False.elim q
 |cont=>
  obtain⟨_,_,_,q⟩:=hs;exact False.elim q
section
variable{X:Cx}{x:Str}{p pos:Pos}{e:Expr}{es:List Expr}{t:TA}{id T:String}{r:List V->Hp->VK->Prop}
def Tv(r:List V->Hp->VK->Prop)(t:TA):TE:=λZ H Q=>t Z H λvs H1=>r vs H1 Q
def WU(hc:bR X (.builtin id) r)(hg:Gl X x)(hm:X.mg x=none)(hv:bootBuiltins x=some (.builtin id))(ha:PA X (e::es) t)(hn:x≠"__name__":=by decide)(lO:(x == ("__debug__":Str))=false:=by decide)
  (he:starEach (e::es) X.env=(false,eval e X.env)::starEach es X.env:=by rfl) (ka:(backTo pos (starEach es X.env)).any (·.1)=false:=by rfl):PE X (.Call (.Name x p) (e::es) [] pos) (Tv r t):=by
 intro aa s Z H Q I h;refine wpAny_Call_Name_kw (xx I hg hm hv ?_ hn lO);exact PyProof.Rows.callWith_builtin1 (bK (ha pos aa s Z H _ I h) λus s1 ⟨vs,H1,I1,r1,q1⟩=>hc aa s1 Z H1 vs us Q I1 r1 q1) he ka
def VC(hc:bR X (.type T) r)(hg:Gl X x)(hm:X.mg x=none)(hv:bootBuiltins x=some (.type T))(ha:PA X (e::es) t)(hn:x≠"__name__":=by decide)(lO:(x == ("__debug__":Str))=false:=by decide)
  (he:starEach (e::es) X.env=(false,eval e X.env)::starEach es X.env:=by rfl) (ka:(backTo pos (starEach es X.env)).any (·.1)=false:=by rfl):PE X (.Call (.Name x p) (e::es) [] pos) (Tv r t):=by
 intro aa s Z H Q I h;refine wpAny_Call_Name_kw (xx I hg hm hv ?_ hn lO);exact PyProof.Rows.callWith_type1 (bK (ha pos aa s Z H _ I h) λus s1 ⟨vs,H1,I1,r1,q1⟩=>hc aa s1 Z H1 vs us Q I1 r1 q1) he ka
end
end L2
namespace HT
open PySem PyProof.Rows
section
open PySem.SeqAt
open PySem.AutoSeq1 (wpAny_loadPart')
open PySem.MeetsSeq PySem.MeetsSeq2 PySem.MeetsSeq3
end
variable{sl:ag}{vu:ai}{lo hi:ak Int}
section
variable{prog:de}{w:cB}{A:cQ}{E:ai->au->Prop}{s:au}
def cG(n d:Nat):ak Int->Nat
 |none=>d
 |some v=>if v<0 then(v+(n:Int)).toNat else min v.toNat n
def e2o(n d:Nat)(hd:d<=n)(o:ak Int):cG n d o<=n:=by
 cases o with
 |none=>exact hd
 |some v=>
  show(if v<0 then(v+(n:Int)).toNat else min v.toNat n)<=n
  by_cases hv:v<0
  .rw[bI hv];lia
  .rw[ba hv];exact Nat.min_le_right _ _
def Qb(v:Int)(n d:Nat):(if v<0 then max (v+(n:Int)) 0 else min v (n:Int))=((cG n d (some v):Nat):Int):=by
 show(if v<0 then max (v+(n:Int)) 0 else min v (n:Int))=(((if v<0 then(v+(n:Int)).toNat else min v.toNat n):Nat):Int)
 lia
def UU(lo hi:ak Int)(n:Nat):Builtin.Slice.sliceAdjust lo hi 1 (n:Int)=(((cG n 0 lo:Nat):Int),((cG n n hi:Nat):Int)):=by
 have h1:¬((1:Int)<0):=by lia
 unfold Builtin.Slice.sliceAdjust;simp only[h1,j7];refine Prod.ext ?_ ?_
 .cases lo with
  |none=>rfl
  |some v=>exact Qb v n 0
 .cases hi with
  |none=>rfl
  |some v=>exact Qb v n n
def UW(i j:Nat):Builtin.Slice.slicePlaces (i:Int) (j:Int) 1=j - i:=by
 unfold Builtin.Slice.slicePlaces;have h1:(1:Int) > 0:=by lia
 simp only[h1,pL,Int.ediv_one];split <;> lia
def Oc{v:ai}{o:ak Int}{Q:ak Int->au->Prop}(p:IsPart v o)(h:Q o s):wpAny (model prog w) A (Builtin.Slice.slicePartIndex v) Q E s:=by
 cases p with
 |none=>exact slicePart_none h
 |int i t=>exact slicePart_int h
def TR{vl:ai}{n:Nat}{Q:Int×Int×Nat->au->Prop}(hs:s.heap.IsSliceOf sl vl vu .none)(pl:IsPart vl lo)(pu:IsPart vu hi)
  (h:Q (((cG n 0 lo:Nat):Int),1,cG n n hi - cG n 0 lo) s):wpAny (model prog w) A (Builtin.Slice.sliceApplied (.ref sl) (pure (n:Int))) Q E s:=by
 obtain⟨os,D6,HE,HF⟩:=id hs;unfold Builtin.Slice.sliceApplied Builtin.Slice.sliceFields;refine ay (ay (wpAny_field D6 HF (x:=vl) rfl (ay (wpAny_field D6 HF (x:=vu) rfl (ay (wpAny_field D6 HF (x:=.none) rfl (aU ?_)))))));refine ay (slicePart_none ?_);show wpAny _ _ (if((1:Int) == 0)=true then _ else _) _ _ s
 rw[ba (by decide)]
 refine ay (Oc pl (ay (Oc pu (ay (aU ?_)))));show wpAny _ _ (match Builtin.Slice.sliceAdjust lo hi 1 (n:Int) with|(lo,hi)=>pure (lo,(1:Int),Builtin.Slice.slicePlaces lo hi 1)) _ _ s
 rw[UU lo hi n];show wpAny _ _ (pure (((cG n 0 lo:Nat):Int),(1:Int),Builtin.Slice.slicePlaces ((cG n 0 lo:Nat):Int) ((cG n n hi:Nat):Int) 1)) _ _ s;rw[UW];exact aU h
def WV(xs:Array ai)(i k:Nat):((List.range k).filterMap λ(m:Nat)=>xs[((i:Int)+(m:Int)*1).toNat]?).toArray=((xs.toList.drop i).take k).toArray:=by
 have e:(λ(m:Nat)=>xs[((i:Int)+(m:Int)*1).toNat]?)=λm=>xs[i+m]?:=by
  funext m;have:((i:Int)+(m:Int)*1).toNat=i+m:=by lia
  rw[this]
 rw[e];have:=pick_run xs i k;rw[List.filterMap_map] at this;have e2:((λx=>xs[x]?)∘λx=>i+x)=λm=>xs[i+m]?:=rfl
 rw[e2] at this;rw[this]
def iQ{t:ag}{items:Array ai}{vl:ai}{Q:ai->au->Prop}(ht:IsTup s.heap t items)(hs:s.heap.IsSliceOf sl vl vu .none)(pl:IsPart vl lo)(pu:IsPart vu hi)
  (hw:¬(cG items.size 0 lo=0/\cG items.size items.size hi=items.size))
  (h:Q (.ref s.heap.objs.size) { s with heap:=s.heap.push { cls:=.type "tuple",data:=.seq ((items.toList.drop (cG items.size 0 lo)).take (cG items.size items.size hi - cG items.size 0 lo)).toArray}})
  (hsz:items.size<=sizeLine):wpAny (model prog w) A (getItem (.ref t) (.ref sl)) Q E s:=by
 have qL:sizeOk (.seq ((items.toList.drop (cG items.size 0 lo)).take (cG items.size items.size hi - cG items.size 0 lo)).toArray):=by
  show((items.toList.drop (cG items.size 0 lo)).take (cG items.size items.size hi - cG items.size 0 lo)).toArray.size<=sizeLine;rw[dw,yL,B7,Nb];lia
 have hj:cG items.size items.size hi<=items.size:=e2o _ _ (bP _) hi;obtain⟨os,D6,HE,HF⟩:=id hs;have hTs:s.TypeIs (.ref sl) "slice":=⟨os,D6,HE⟩;unfold getItem;try with_reducible refine lD ?_
 first|refine ay (aU ?_)|skip
 refine ay (wpAny_sequenceKey ht.typeIs (by decide) ?_)
 refine ay (wpAny_callSpecial?_slot (name:=Str.ofString "__getitem__") ht.typeIs PyProof.Rows.slot_tuple_getitem (wpAny_call_entry PyProof.Rows.slot_tuple_getitem ht.typeIs entry_tuple_getitem ?_ (args_tuple_getitem _ _)))
 show wpAny _ _ (Builtin.Tuple.tupleItemsOf (.ref t) >>= _) _ _ s;refine ay (tupleItemsOf_ ht ?_);refine ay (wpAny_typeOf hTs ?_);rw[bI (by decide)]
 refine ay (TR hs pl pu ?_);have vd:¬((((cG items.size 0 lo:Nat):Int) == 0&&(1:Int) == 1&&(cG items.size items.size hi - cG items.size 0 lo) == items.size)=true):=by
  lia
 show wpAny _ _ (if(((cG items.size 0 lo:Nat):Int) == 0&&(1:Int) == 1&&(cG items.size items.size hi - cG items.size 0 lo) == items.size)=true then _ else _) _ _ s
 rw[ba vd,WV];first
  |exact ay (m:=Builtin.Tuple.tupleExact _) (wpAny_newObj_type (aU ⟨_,rfl,aU h⟩) qL)
  |exact ay (m:=Builtin.Tuple.tupleExact _) (wpAny_newObj_type (ay (aU (aU ⟨_,rfl,aU h⟩))) qL)
  |exact ay (ay (m:=Builtin.Tuple.tupleExact _) (wpAny_newObj_type (aU (aU ⟨_,rfl,aU h⟩)) qL))
  |exact ay (ay (m:=Builtin.Tuple.tupleExact _) (wpAny_newObj_type (aU ⟨_,rfl,aU h⟩) qL))
end
end HT
namespace L2
open PySem PySem.Spec PyProof.Rows
variable{r:V->ak Int->ak Int->Hp->VK->Prop}
abbrev TO:=St->Hp->(ak Int->Hp->Prop)->Prop
def PO(X:Cx)(e:ak Expr)(t:TO):Prop:=
 ∀(aa:List (ag×Obj)) (s:au) (Z:St) (H:Hp) (Q:ak Int->Hp->Prop),Inv X aa Z H s->t Z H Q->
  wpAny (model X.prog X.w) X.A (evalPart e X.env) (λu s'=>∃o H',Inv X aa Z H' s'/\IsPart u o/\Q o H') X.xe s
def ZM:TO:=λ_ H Q=>Q none H
def E'(t:TE):TO:=λZ H Q=>t Z H λx H1=>∃i,x=.int i/\Q (some i) H1
section
variable{X:Cx}{e:Expr}{te:TE}{lo hi:ak Expr}{tl th:TO}{pos p2:Pos}
def ZN:PO X none ZM:=by
 intro aa s Z H Q I h;rw[evalPart_none];exact aU ⟨none,H,I,.none,h⟩
def ZO(h:PE X e te):PO X (some e) (E' te):=by
 intro aa s Z H Q I hw;rw[evalPart_some];refine bK (h aa s Z H _ I hw) λu s1 hh=>?_
 obtain⟨x,H1,I1,r1,q1⟩:=hh;obtain⟨i,rfl,q⟩:=q1;obtain⟨t,rfl⟩:=r1;exact⟨some i,H1,I1,.int i t,q⟩
def sV(X:Cx)(r:V->ak Int->ak Int->Hp->VK->Prop):Prop:=
 ∀(aa:List (ag×Obj)) (s:au) (Z:St) (H:Hp) (x:V) (v vl vu:ai) (lo hi:ak Int) (sl:ag) (Q:VK),Inv X aa Z H s->RelV x v->s.heap.IsSliceOf sl vl vu .none->IsPart vl lo->IsPart vu hi->r x lo hi H Q->
  ∃T id,typeLookup (.type T) "__getitem__"=pure (some (.builtin id))/\s.TypeIs v T/\wpAny (model X.prog X.w) X.A (getItem v (.ref sl)) (EP X aa Z Q) X.xe s
def sV.or{r':V->ak Int->ak Int->Hp->VK->Prop}(h:sV X r)(h':sV X r'):sV X (λx lo hi H Q=>r x lo hi H Q\/r' x lo hi H Q):=by
 intro aa s Z H x v vl vu lo hi sl Q I rx hs pl pu q;rcases q with q|q
 .exact h aa s Z H x v vl vu lo hi sl Q I rx hs pl pu q
 .exact h' aa s Z H x v vl vu lo hi sl Q I rx hs pl pu q
def tSl(r:V->ak Int->ak Int->Hp->VK->Prop)(te:TE)(tl th:TO):TE:=λZ H Q=>te Z H λx H1=>tl Z H1 λl H2=>th Z H2 λu H3=>r x l u H3 Q
def WW(hr:sV X r)(he:PE X e te)(hl:PO X lo tl)(hu:PO X hi th):PE X (.Subscript e (.Slice lo hi none p2) pos) (tSl r te tl th):=by
 intro aa s Z H Q I h;refine Subscript_ (bK (he aa s Z H _ I h) λv s1 hh=>?_)
 obtain⟨x,H1,I1,r1,q1⟩:=hh;refine wpAny_Slice (bK (hl aa s1 Z H1 _ I1 q1) λvl s2 ⟨l,H2,I2,pl,q2⟩=>bK (hu aa s2 Z H2 _ I2 q2) λvu s3 ⟨u,H3,I3,pu,q3⟩=>?_)
 rw[evalPart_none];refine aU ?_;have I4:Inv X aa Z H3 { s3 with heap:=s3.heap.push { cls:=.type "slice",data:=.fields #[vl,vu,.none]}}:=I3.kept (t':=s3.toks) λb ob q=>c8 _ q
 obtain⟨T,id,hT,ht,hg⟩:=hr aa { s3 with heap:=s3.heap.push { cls:=.type "slice",data:=.fields #[vl,vu,.none]}} Z H3 x v vl vu l u s3.heap.objs.size Q I4 r1 (Heap.IsSliceOf.new ..) pl pu q3;show wpAny (model X.prog X.w) X.A (subscriptTail e (.Slice lo hi none p2) v (.ref s3.heap.objs.size)) (EP X aa Z Q) X.xe { s3 with heap:=s3.heap.push { cls:=.type "slice",data:=.fields #[vl,vu,.none]}};exact tail_any (ops:=[.ref s3.heap.objs.size,v]) ht hT hg (by with_unfolding_all rfl)
noncomputable def oo(xs:List V)(lo hi:ak Int):List V:=(xs.drop (HT.cG xs.length 0 lo)).take (HT.cG xs.length xs.length hi - HT.cG xs.length 0 lo)
def N0(xs:List V)(lo hi:ak Int):(oo xs lo hi).length<=xs.length:=by
 unfold oo;rw[yL,B7];lia
def AH(K:PySem.W.Frag):V->ak Int->ak Int->Hp->VK->Prop:=λx lo hi H Q=>∃a xs,x=.ref a/\gY K H a xs/\
 ¬(HT.cG xs.length 0 lo=0/\HT.cG xs.length xs.length hi=xs.length)/\∀p,H p=none->Q (.ref p) (upd H p (.tup (oo xs lo hi)))
def e2p:sV X (AH X.K):=by
 intro aa s Z H x v vl vu lo hi sl Q I rx hs pl pu h;obtain⟨a,xs,rfl,hx,hw,q⟩:=h;cases rx;obtain⟨aF,r,ht,hz⟩:=I.tuple hx;have hlen:aF.toArray.size=xs.length:=by rw[dw];exact r.length.symm
 refine⟨"tuple",_,PyProof.Rows.slot_tuple_getitem.lookup,ht.typeIs,?_⟩;refine HT.iQ ht hs pl pu (by rw[hlen];exact hw) ?_ (by rw[hlen];exact hz)
 rw[hlen];refine⟨.ref s.heap.objs.size,_,I.laid (t':=s.toks) (o:=.tup (oo xs lo hi)) (λb ob q=>c8 _ q) (bP _) ?_,rfl,q _ (I.bA.fresh (bP _))⟩
 exact⟨jN (N0 xs lo hi) hz,_,(r.drop (HT.cG xs.length 0 lo)).take (HT.cG xs.length xs.length hi - HT.cG xs.length 0 lo),IsTup.new _ _⟩
end
variable{n j:Nat}{i:Int}{r:R2}{aa:List (ag×Obj)}{Z:St}{H:Hp}{s:au}
def wd(n:Nat)(i:Int):ak Nat:=if 0<=i then(if i<n then some i.toNat else none) else if -(n:Int)<=i then some (i+n).toNat else none
def dQ{α:Type}(xs:List α)(i:Int):ak α:=(wd xs.length i).bind λj=>xs[j]?
def Qc(h:wd n i=some j):seqIndex? i n=some j/\j<n /\ -(n:Int)<=i/\i<n:=by
 unfold wd at h;by_cases h0:0<=i
 .rw[bI h0] at h;by_cases h1:i<n
  .rw[bI h1] at h;have e:i.toNat=j:=Option.some.inj h;exact⟨by rw[seqIndex_of h0 h1,e],by lia,by lia,h1⟩
  .rw[ba h1] at h;cases h
 .rw[ba h0] at h;by_cases h1:-(n:Int)<=i
  .rw[bI h1] at h;have e:(i+n).toNat=j:=Option.some.inj h;exact⟨by rw[seqIndex_neg (by lia) h1,e],by lia,h1,by lia⟩
  .rw[ba h1] at h;cases h
def J3{α:Type}{xs:List α}{v:α}(h:dQ xs i=some v):∃j,seqIndex? i xs.length=some j/\xs[j]?=some v/\j<xs.length /\ -(xs.length:Int)<=i/\i<xs.length:=by
 unfold dQ at h;cases e:wd xs.length i with
 |none=>rw[e] at h;cases h
 |some j=>
  rw[e] at h;obtain⟨h1,h2,h3,h4⟩:=Qc e;exact⟨j,h1,h,h2,h3,h4⟩
def vF{α:Type}{xs:List α}{v:α}(h:xs[j]?=some v):dQ xs (j:Int)=some v:=by
 have hj:j<xs.length:=(fA.mp h).1;have e:wd xs.length (j:Int)=some j:=by
  unfold wd;rw[bI (by lia),bI (by lia)];simp
 unfold dQ;rw[e];exact h
def J4(b:Expr):Prop:=∀o i,subscripted b false o i=operate [o,i] (getItem o i)
def rm(X:Cx)(r:R2):Prop:=
 ∀(value slice:Expr) (aa:List (ag×Obj)) (s:au) (Z:St) (H:Hp) (x y:V) (v u:ai) (Q:VK),Inv X aa Z H s->RelV x v->RelV y u->r x y H Q->
  subscripted slice false v u=operate [v,u] (getItem v u)->wpAny (model X.prog X.w) X.A (subscriptTail value slice v u) (EP X aa Z Q) X.xe s
def IJ(X:Cx)(id:String)(r:V->List V->Hp->VK->Prop):Prop:=
 ∀(aa:List (ag×Obj)) (s:au) (Z:St) (H:Hp) (x:V) (xs:List V) (v:ai) (us:List ai) (Q:VK),Inv X aa Z H s->RelV x v->Vals xs us->r x xs H Q->
  wpAny (model X.prog X.w) X.A (call (.builtin id) (v::us)) (EP X aa Z Q) X.xe s
section
variable{X:Cx}{a b:Expr}{ta tb:TE}{pos:Pos}
def rm.or{r':R2}(h:rm X r)(h':rm X r'):rm X (λx y H Q=>r x y H Q\/r' x y H Q):=by
 intro value slice aa s Z H x y v u Q I rx ry q hs;rcases q with q|q
 .exact h value slice aa s Z H x y v u Q I rx ry q hs
 .exact h' value slice aa s Z H x y v u Q I rx ry q hs
def e8c(hr:rm X r)(ha:PE X a ta)(hb:PE X b tb)(hs:J4 b):PE X (.Subscript a b pos) (Ic r ta tb):=by
 intro aa s Z H Q I h;exact Subscript_ (zJ ha hb I h λv u s2 x y H2 I2 rx ry q=>hr a b aa s2 Z H2 x y v u Q I2 rx ry q (hs _ _))
def AE(K:PySem.W.Frag):R2:=λx y H Q=>∃p xs i v,x=.ref p/\y=.int i/\cM K H p xs/\dQ xs i=some v/\Q v H
def AF(K:PySem.W.Frag):R2:=λx y H Q=>∃p xs i v,x=.ref p/\y=.int i/\gY K H p xs/\dQ xs i=some v/\Q v H
def EF:R2:=λx y H Q=>∃z i c,x=.str z/\y=.int i/\z.length<=sizeLine/\dQ z.cps.toList i=some c/\Q (.str ⟨#[c]⟩) H
def ZP:rm X (AE X.K):=by
 intro value slice aa s Z H x y v u Q I rx ry h hs;obtain⟨p,xs,i,z,rfl,rfl,hq,he,q⟩:=h;cases rx;obtain⟨t,rfl⟩:=ry;obtain⟨aF,r,pl,hz⟩:=I.list hq;obtain⟨j,h1,h2,h3,h4,h5⟩:=J3 he;obtain⟨w,ew,nH⟩:=r.get h2;have hl:=r.length;have hn:=zB;have fin:EP X aa Z Q w s:=⟨z,H,I,nH,q⟩;by_cases h0:0<=i
 .have hj:i.toNat=j:=by
   rw[seqIndex_of h0 h5] at h1;exact Option.some.inj h1
  exact item_listR pl.isList h0 (by lia) (by rw[hj];simpa using ew) fin hs
 .have hj:(i+(aF.toArray.size:Int)).toNat=j:=by
   rw[seqIndex_neg (by lia) h4] at h1
   rw[dw,<-hl];exact Option.some.inj h1
  exact subscriptTail_builtinR (x:=w) pl.isList.typeIs slot_list_getitem.lookup
   (wpAny_getItem_list_neg (Q:=λr s'=>r=w/\EP X aa Z Q r s') pl.isList (by lia) (by rw[dw] <;> lia) (by lia) (by rw[hj];simpa using ew) ⟨rfl,fin⟩) hs
def e2q:rm X (AF X.K):=by
 intro value slice aa s Z H x y v u Q I rx ry h hs;obtain⟨p,xs,i,z,rfl,rfl,hq,he,q⟩:=h;cases rx;obtain⟨t,rfl⟩:=ry;obtain⟨aF,r,pl,hz⟩:=I.tuple hq;obtain⟨j,h1,h2,h3,h4,h5⟩:=J3 he;obtain⟨w,ew,nH⟩:=r.get h2;have hl:=r.length;have hn:=zB;have fin:EP X aa Z Q w s:=⟨z,H,I,nH,q⟩;exact subscriptTail_builtinR (x:=w) pl.typeIs slot_tuple_getitem.lookup
  (getItem_tuple (j:=j) (Q:=λr s'=>r=w/\EP X aa Z Q r s') pl (by lia) (by lia) (by rw[dw,<-hl];exact h1) (by simpa using ew) ⟨rfl,fin⟩) hs
def Ah:rm X EF:=by
 intro value slice aa s Z H x y v u Q I rx ry h hs;obtain⟨z,i,c,rfl,rfl,hz,he,q⟩:=h;obtain⟨t,rfl⟩:=rx;obtain⟨t',rfl⟩:=ry;obtain⟨j,h1,h2,h3,h4,h5⟩:=J3 he;have hl:z.cps.toList.length=z.length:=by simp[Str.length]
 rw[hl] at h1 h4 h5;have hn:=zB;exact tail_any (typeIs_str s z t) slot_str_getitem.lookup (getItem_str (c:=c) (by
  lia) (by rw[h1];simpa using h2) ⟨.str ⟨#[c]⟩,H,I.tok _,⟨_,rfl⟩,q⟩) hs
def UX(aF:List ai)(n j:Nat)(u:ai):Obj.mapSeq (·.setIfInBounds j u) { cls:=.type "list",data:=.seq aF.toArray n}={ cls:=.type "list",data:=.seq (aF.set j u).toArray n}:=by
 simp[Obj.mapSeq]
def Inv.lst{aa:List (ag×Obj)}{Z:St}{H:Hp}{s:au}{p:ag}{xs:List V}(I:Inv X aa Z H s)(h:H p=some (.lst xs)):
  ∃(aF:List ai) (n:Nat),Vals xs aF/\s.heap.get? p=some { cls:=.type "list",data:=.seq aF.toArray n}/\xs.length<=sizeLine:=by
 obtain⟨z,aF,n,r,e⟩:=I.bA p _ h;exact⟨aF,n,r,e,z⟩
def Inv.Al{p:ag}{xs ys:List V}{aF its':List ai}{n':Nat}{f:Obj->Obj}(I:Inv X aa Z H s)(h:H p=some (.lst xs))
  (ho:s.heap.get? p=some { cls:=.type "list",data:=.seq aF.toArray n}) (hf:f { cls:=.type "list",data:=.seq aF.toArray n}={ cls:=.type "list",data:=.seq its'.toArray n'}) (r:Vals ys its') (hz:ys.length<=sizeLine) (t:Nat) :
  Inv X aa Z (upd H p (.lst ys)) { s with heap:=s.heap.update p f,toks:=t}:=by
 have e:(s.heap.update p f).get? p=some { cls:=.type "list",data:=.seq its'.toArray n'}:=by
  rw[sk f ho (by rw[hf] <;> rfl),hf]
 refine I.write (x:=p) (e:=p) (by rw[h];trivial) (.inl rfl) (λb u hb q=>(qh _ _ (Ne.symm hb)).trans q) ⟨_,e⟩ ?_
 exact⟨hz,its',n',r,e⟩
def yC:V->V->V->Hp->(Hp->Prop)->Prop:=λo i v H Q=>∃p xs k j,o=.ref p/\i=.int k/\H p=some (.lst xs)/\wd xs.length k=some j/\Q (upd H p (.lst (xs.set j v)))
def WX:vA X yC:=by
 intro aa s Z H o i v ov iv u Q I ro ri rv h;obtain⟨p,xs,k,j,rfl,rfl,hp,hj,q⟩:=h;cases ro;obtain⟨t,rfl⟩:=ri;obtain⟨aF,n,r,ho,hz⟩:=I.lst hp;obtain⟨h1,h2,h3,h4⟩:=Qc hj;have hl:=r.length;have hn:=zB;have I':Inv X aa Z (upd H p (.lst (xs.set j v))) { s with heap:=s.heap.update p (Obj.mapSeq (·.setIfInBounds j u))}:=
  I.Al hp ho (UX aF n j u) (r.set rv j) (by rw[sr];exact hz) s.toks
 by_cases h0:0<=k
 .have hk:k.toNat=j:=by
   rw[seqIndex_of h0 h4] at h1;exact Option.some.inj h1
  exact PySem.W.ki_setAt ho h0 (by lia) (by rw[dw,<-hl];exact h4) (by rw[hk];exact⟨_,I',q⟩)
 .have hk:(k+(aF.toArray.size:Int)).toNat=j:=by
   rw[seqIndex_neg (by lia) h3] at h1
   rw[dw,<-hl];exact Option.some.inj h1
  exact PySem.W.ki_setBack ho (by lia) (by rw[dw,<-hl];exact h3) (by lia) (by rw[hk];exact⟨_,I',q⟩)
def Uj(lo hi:ak Int)(n:Nat):(sliceBounds lo hi none n).1=((HT.cG n 0 lo:Nat):Int)/\(sliceBounds lo hi none n).2.1=((HT.cG n n hi:Nat):Int)/\(sliceBounds lo hi none n).2.2=1:=by
 refine⟨?_,?_,rfl⟩
 .cases lo with
  |none=>simp[sliceBounds,HT.cG]
  |some i=>
   simp only[sliceBounds,HT.cG,Option.getD_none,show(1:Int) > 0 by decide,pL]
   by_cases h:i<0
   .simp only[h,pL] <;> lia
   .simp only[h,j7] <;> lia
 .cases hi with
  |none=>simp[sliceBounds,HT.cG]
  |some i=>
   simp only[sliceBounds,HT.cG,Option.getD_none,show(1:Int) > 0 by decide,pL]
   by_cases h:i<0
   .simp only[h,pL] <;> lia
   .simp only[h,j7] <;> lia
def Ua(aF:List ai)(lo hi:ak Int):slicePick aF.toArray lo hi none=((aF.drop (HT.cG aF.length 0 lo)).take (HT.cG aF.length aF.length hi - HT.cG aF.length 0 lo)).toArray:=by
 obtain⟨h1,h2,h3⟩:=Uj lo hi aF.toArray.size;unfold slicePick;rw[h1,h2,h3];simp only[sliceRange_one,pick_run,dw] <;> rfl
def AG(K:PySem.W.Frag):V->ak Int->ak Int->Hp->VK->Prop:=λx lo hi H Q=>∃a xs,x=.ref a/\cM K H a xs/\∀p,H p=none->Q (.ref p) (upd H p (.lst (oo xs lo hi)))
def ZQ:sV X (AG X.K):=by
 intro aa s Z H x v vl vu lo hi sl Q I rx hs pl pu h;obtain⟨a,xs,rfl,hx,q⟩:=h;cases rx;obtain⟨aF,r,ht,hz⟩:=I.list hx;have hlen:=r.length;refine⟨"list",_,slot_list_getitem.lookup,ht.isList.typeIs,?_⟩;refine wpAny_getItem_list_slice ht.isList hs pl pu .none (by simp) ?_ (by rw[dw] <;> lia)
 rw[Ua,<-hlen];refine⟨.ref s.heap.objs.size,_,I.laid (t':=s.toks) (o:=.lst (oo xs lo hi)) (λb ob q=>c8 _ q) (bP _) ?_,rfl,q _ (I.bA.fresh (bP _))⟩
 exact⟨jN (N0 xs lo hi) hz,_,0,(r.drop (HT.cG xs.length 0 lo)).take (HT.cG xs.length xs.length hi - HT.cG xs.length 0 lo),jO _ rfl⟩
def xW:V->Bool
 |.aI=>true
 |.bl _=>true
 |.int _=>true
 |.str _=>true
 |_=>false
noncomputable def eqV:V->V->Bool
 |.aI,.aI=>true
 |.bl a,.bl b=>a == b
 |.bl a,.int b=>(if a then 1 else 0) == b
 |.int a,.bl b=>a == (if b then 1 else 0)
 |.int a,.int b=>a == b
 |.str a,.str b=>a == b
 |_,_=>false
def Uk:bR X (.builtin "len") (λxs H Q=>∃p ys,xs=[.ref p]/\(cM X.K H p ys\/gY X.K H p ys)/\Q (.int ys.length) H):=by
 intro aa s Z H xs us Q I r h;obtain⟨p,ys,rfl,hq,q⟩:=h;obtain⟨u,rfl,rx⟩:=vals1 r;cases rx;have hn:=zB;rcases hq with hq|hq
 .obtain⟨aF,r',pl,hz⟩:=I.list hq;have hlen:=r'.length;exact Calls.call_len_list pl.isList (by simp only[dw] <;> lia) ⟨.int ys.length,H,I.tok _,⟨s.toks+1,by rw[dw,hlen]⟩,q⟩
 .obtain⟨aF,r',pl,hz⟩:=I.tuple hq;have hlen:=r'.length;exact len_tuple pl (by simp only[dw] <;> lia) ⟨.int ys.length,H,I.tok _,⟨s.toks+1,by rw[dw,hlen]⟩,q⟩
def m7:bR X (.builtin "len") (λxs H Q=>∃z,xs=[.str z]/\z.length<=sizeLine/\Q (.int z.length) H):=by
 intro aa s Z H xs us Q I r h;obtain⟨z,rfl,hz,q⟩:=h;obtain⟨u,rfl,t,rfl⟩:=vals1 r;have hn:=zB;exact len_str (by lia) ⟨.int z.length,H,I.tok _,⟨_,rfl⟩,q⟩
def bR.or{f:ai}{r r':List V->Hp->VK->Prop}(h:bR X f r)(h':bR X f r'):bR X f (λxs H Q=>r xs H Q\/r' xs H Q):=by
 intro aa s Z H xs us Q I rs q;rcases q with q|q
 .exact h aa s Z H xs us Q I rs q
 .exact h' aa s Z H xs us Q I rs q
def Ul:bR X (.type "list") (λxs H Q=>∃p ys,xs=[.ref p]/\(cM X.K H p ys\/gY X.K H p ys)/\∀l,H l=none->Q (.ref l) (upd H l (.lst ys))):=by
 intro aa s Z H xs us Q I r h;obtain⟨p,ys,rfl,hq,q⟩:=h;obtain⟨u,rfl,rx⟩:=vals1 r;cases rx;have fin:∀(aF:List ai),Vals ys aF->ys.length<=sizeLine->∀(h':bU) (c':Nat),(∀b o',s.heap.get? b=some o'->h'.get? b=some o')->
   h'.get? s.heap.objs.size=some { cls:=.type "list",dict:=none,data:=.seq aF.toArray c',slots:=#[]}->EP X aa Z Q (.ref s.heap.objs.size) { s with heap:=h'}:=λaF r' hz h' c' kp e=>
  ⟨.ref s.heap.objs.size,_,I.laid (t':=s.toks) kp (bP _) (show bG X.prog X.w _ h' _ (.lst ys) from⟨hz,aF,c',r',e⟩),rfl,q _ (I.bA.fresh (bP _))⟩
 rcases hq with hq|hq
 .obtain⟨aF,r',pl,hz⟩:=I.list hq;have hlen:=r'.length;obtain⟨o,ho,hc,n,hd⟩:=pl.isList;exact call_list_seq p (.inl rfl) ho hc hd (λh' c' kp e=>fin aF r' hz h' c' kp e) (by simp only[dw] <;> lia)
 .obtain⟨aF,r',pl,hz⟩:=I.tuple hq;have hlen:=r'.length;obtain⟨o,ho,hc,n,hd⟩:=pl;exact call_list_seq p (.inr rfl) ho hc hd (λh' c' kp e=>fin aF r' hz h' c' kp e) (by simp only[dw] <;> lia)
def Ih(K:PySem.W.Frag)(T:String)(x:V)(H:Hp):Prop:=match x with
 |.str _=>T="str"
 |.int _=>T="int"
 |.ref p=>(T="list"/\∃xs,cM K H p xs)\/(T="tuple"/\∃o,K.lookup p=some o/\o.cls=.type "tuple"/\o.dict=none)\/
   (T="dict"/\((∃kvs,H p=some (.dK kvs))\/(∃kvs,H p=some (.dT kvs))\/∃es ep,H p=some (.dG es ep)))\/(T="set"/\∃S n,H p=some (.set S n))
 |_=>False
def Rh{T:String}{x:V}{v:ai}(I:Inv X aa Z H s)(r:RelV x v)(ty:Ih X.K T x H):
  s.TypeIs v T/\∀a,v=.ref a->∃ob,s.heap.get? a=some ob/\ob.dict=none:=by
 cases x with
 |str z=>
  obtain⟨t,rfl⟩:=r;cases(show T="str" from ty);exact⟨typeIs_str s z t,λ_ e=>nomatch e⟩
 |int i=>
  obtain⟨t,rfl⟩:=r;cases(show T="int" from ty);exact⟨typeIs_int s i t,λ_ e=>nomatch e⟩
 |ref p=>
  cases r;rcases ty with⟨rfl,xs,hq⟩|⟨rfl,o,hk,hc,hd⟩|⟨rfl,hk⟩|⟨rfl,S,n,hk⟩
  .obtain⟨aF,_,pl,_⟩:=I.list hq;refine⟨pl.isList.typeIs,λa e=>?_⟩
   cases e;obtain⟨o,n,e,c,hd,_⟩:=pl;exact⟨o,e,hd⟩
  .refine⟨⟨o,I.ke p o hk,hc⟩,λa e=>?_⟩
   cases e;exact⟨o,I.ke _ o hk,hd⟩
  .have z:∃o,s.heap.get? p=some o/\o.ExactDict:=by
    rcases hk with⟨kvs,hk⟩|⟨kvs,hk⟩|⟨es,ep,hk⟩
    .obtain⟨_,_,_,_,o,_,_,e,ex,_⟩:=I.bA p _ hk;exact⟨o,e,ex⟩
    .obtain⟨_,_,_,_,o,_,_,e,ex,_⟩:=I.bA p _ hk;exact⟨o,e,ex⟩
    .obtain⟨_,_,o,_,e,ex,_⟩:=I.bA p _ hk;exact⟨o,e,ex⟩
   obtain⟨o,e,ex⟩:=z;refine⟨⟨o,e,ex.1⟩,λa e2=>?_⟩
   cases e2;exact⟨o,e,ex.2.1⟩
  .obtain⟨o,_,_,_,e,ex,_⟩:=I.bA p _ hk;refine⟨⟨o,e,ex.1⟩,λa e2=>?_⟩
   cases e2;exact⟨o,e,ex.2.1⟩
 |_=>exact False.elim ty
def MI(K:PySem.W.Frag)(T:String)(r:V->List V->Hp->VK->Prop)(to:TE)(t:TA):TE:=λZ H Q=>to Z H λx H1=>Ih K T x H1/\t Z H1 λxs H2=>r x xs H2 Q
variable{o e:Expr}{es:List Expr}{to:TE}{t:TA}{name:Str}{apos bM:Pos}{T id:String}{r:V->List V->Hp->VK->Prop}
def R_(pa:PlainAttrs T)(slot:Slot T name id)(wa:typeOf (.builtin id)=pure (.type "method_descriptor"))(hm:IJ X id r)(ho:PE X o to)(ha:PA X (e::es) t)
  (eD:attributeBase o name X.env (eval o X.env)=eval o X.env:=by rfl)
  (t5:((backTo bM (starEach (e::es) X.env)).all (λx => !x.1)&&(backToKw bM (keywordEach [] X.env)).all (λx=>x.1.isSome) && decide ((e::es).length+([]:List Keyword).length+(if([]:List Keyword).isEmpty then 0 else 1)<30))=true:=by rfl)
  (eE:(apos.endLine == bM.line)=true:=by rfl) (hs:starEach (e::es) X.env=(false,eval e X.env)::starEach es X.env:=by rfl) (kU:(backTo bM (starEach es X.env)).any (·.1)=false:=by rfl) :
  PE X (.Call (.Attribute o name apos) (e::es) [] bM) (MI X.K T r to t):=by
 intro aa s Z H Q I h;refine wpAny_Call_method_late eD t5 eE rfl (bK (ho aa s Z H _ I h) λv s1 hh=>?_)
 obtain⟨x,H1,I1,r1,ty,q1⟩:=hh;obtain⟨h1,h2⟩:=Rh I1 r1 ty;refine⟨T,id,pa,slot,wa,h1,h2,?_⟩;have hA:=ha bM aa s1 Z H1 _ I1 q1;rw[hs] at hA ⊢;refine Calls.callWith_builtin (by show(false || (backTo bM (starEach es X.env)).any (·.1))=false;rw[kU] <;> rfl) (Calls.evalArgs_plain ?_)
 exact bK hA λus s2 ⟨vs,H2,I2,r2,q2⟩=>hm aa s2 Z H2 x vs v us Q I2 r1 r2 q2
end
variable{x:V}{us aF:List ai}{t':Nat}
def A9(X:Cx)(id:String)(r:V->List V->Hp->VK->Prop):Prop:=
 ∀(aa:List (ag×Obj)) (s:au) (Z:St) (H:Hp) (x:V) (xs:List V) (v:ai) (us:List ai) (Q:VK),Inv X aa Z H s->RelV x v->Vals xs us->r x xs H Q->
  wpAny (model X.prog X.w) X.A (call (.builtin id) (v::us)) (EP X aa Z Q) X.xe s
def Vals.one(h:Vals [x] us):∃u,us=[u]/\RelV x u:=by
 cases h with
 |cons r t=>
  cases t;exact⟨_,rfl,r⟩
def Vals.two{y:V}(h:Vals [x,y] us):∃u v,us=[u,v]/\RelV x u/\RelV y v:=by
 cases h with
 |cons r t=>
  obtain⟨v,rfl,q⟩:=Vals.one t;exact⟨_,_,rfl,r,q⟩
section
variable{X:Cx}{aa:List (ag×Obj)}{Z:St}{H:Hp}{s:au}{l b:ag}{xs ys zs:List V}
def Inv.Aj{its':List ai}{n:Nat}{f:Array ai->Array ai}(I:Inv X aa Z H s)(hH:H l=some (.lst xs))
  (e:s.heap.get? l=some { cls:=.type "list",data:=.seq aF.toArray n}) (hf:f aF.toArray=its'.toArray) (hv:Vals ys its') (hz:ys.length<=sizeLine) :
  Inv X aa Z (upd H l (.lst ys)) { s with heap:=s.heap.update l (Obj.mapSeq f),toks:=t'}:=by
 have q:=PySem.IsL.update e f;rw[hf] at q;refine I.write (x:=l) (e:=l) (by rw[hH];exact trivial) (.inl rfl) (λb' u hb hu=>(qh s.heap (Obj.mapSeq f) (Ne.symm hb)).trans hu) ⟨_,q⟩ ?_
 exact⟨hz,its',_,hv,q⟩
def Inv.LX(I:Inv X aa Z H s)(hv:Vals ys aF)(hz:ys.length<=sizeLine):
  Inv X aa Z (upd H s.heap.objs.size (.lst ys)) { s with heap:=s.heap.push { cls:=.type "list",data:=.seq aF.toArray},toks:=t'}:=
 I.laid (λ_ _ q=>c8 _ q) (bP _) ⟨hz,aF,0,hv,jO _ rfl⟩
theorem Inv.fresh(I:Inv X aa Z H s):H s.heap.objs.size=none:=I.bA.fresh (bP _)
def Inv.Ak(I:Inv X aa Z H s)(hH:H l=some (.lst xs)):xs.length<=sizeLine/\∃(aF:List ai) (n:Nat),Vals xs aF/\xs.length=aF.length/\s.heap.get? l=some { cls:=.type "list",data:=.seq aF.toArray n}:=by
 obtain⟨z,aF,n,r,e⟩:=I.bA l _ hH;exact⟨z,aF,n,r,r.length,e⟩
end
section
variable{X:Cx}
def Qd:V->List V->Hp->VK->Prop:=λx vs H Q=>∃l xs y,x=.ref l/\vs=[y]/\H l=some (.lst xs)/\xs.length<sizeLine/\Q .aI (upd H l (.lst (xs++[y])))
theorem VE:A9 X "list.append" Qd:=by
 intro aa s Z H x vs v us Q I rx rv h;obtain⟨l,xs,y,rfl,rfl,hH,hz,q⟩:=h;cases rx;obtain⟨u,rfl,ru⟩:=rv.one;obtain⟨z,aF,n,r,hl,e⟩:=I.Ak hH;refine call_meets F.slot_list_append ⟨_,e,rfl⟩ F.entry_list_append (F.args_list_append_2 _ _) (PySem.list_append l aF.toArray n u (by rw[dw];lia)) ⟨e,?_⟩
 refine⟨.aI,_,I.Aj (its':=aF++[u]) hH e (by simp) (r.append (.cons ru .nil)) ?_,rfl,q⟩
 rw[dy,vm];lia
end
section
variable{prog:de}{w:cB}{A:cQ}{E:ai->au->Prop}{s:au}
end
section
variable{X:Cx}
end
section
variable{κ:Type}[DecidableEq κ]
def ir.rN{o:ak V}{u:ak ai}(r:ir o u):o.isSome=u.isSome:=by
 cases o with
 |none=>cases u with
  |none=>rfl
  |some _=>exact(show False from r).elim
 |some _=>cases u with
  |none=>exact(show False from r).elim
  |some _=>rfl
end
variable{X:Cx}{pos:Pos}
section
variable{P:de}{w:cB}{H:Hp}{h:bU}{a:ag}
end
section
variable{X:Cx}{aa:List (ag×Obj)}{Z:St}{H:Hp}{s:au}{a:ag}{y v:V}{u r:ai}{o:ak V}{A:cQ}{E:ai->au->Prop}
def Inv.big(I:Inv X aa Z H s):sysModules<s.heap.objs.size:=by
 have h:mainGlobals<s.heap.objs.size:=(I.mod.glob.keeps I.bk).lt;exact Nat.lt_trans (by decide) h
def J5{h':bU}{t':Nat}{ob:HO}(I:Inv X aa Z H s)(mu:Cm (H a))(hs:Heap.SameBut a s.heap h')(he:∃q,h'.get? a=some q)(new:bG X.prog X.w (upd H a ob) h' a ob):
  Inv X aa Z (upd H a ob) { s with heap:=h',toks:=t'}:=
 I.write (x:=a) (e:=a) mu (.inl rfl) (λb q hb z=>(hs.2 b hb).trans z) he new
end
section
variable{X:Cx}{aa:List (ag×Obj)}{Z:St}{H:Hp}{s:au}{a:ag}{kvs:List (Key×V)}{k:Key}{u:ai}{A:cQ}{E:ai->au->Prop}
end
section
variable{X:Cx}{o i e value:Expr}{pos pos' fq:Pos}{td ty tv:TE}
end
section
variable{X:Cx}{pos:Pos}
end
def G3:List (TE×TE)->St->Hp->(List (V×V)->Hp->Prop)->Prop
 |[],_,H,Q=>Q [] H
 |(tk,tv)::r,Z,H,Q=>tk Z H λx H1=>tv Z H1 λy H2=>G3 r Z H2 λps H3=>Q ((x,y)::ps) H3
abbrev VV:List (V×V)->List (ai×ai)->Prop:=Paired λp q=>RelV p.1 q.1/\RelV p.2 q.2
def A_(X:Cx)(pos:Pos)(keys:List (ak Expr))(values:List Expr)(wM:List (TE×TE)):Prop:=
 ∀(aa:List (ag×Obj)) (s:au) (Z:St) (H:Hp) (Q:List (V×V)->Hp->Prop),Inv X aa Z H s->G3 wM Z H Q->
  wpAny (model X.prog X.w) X.A (evalPairs (pairTrees keys values X.env pos)) (λvs s'=>∃ps H',Inv X aa Z H' s'/\VV ps vs/\Q ps H') X.xe s
def wz:A_ X pos [] [] []:=λaa s Z H Q I h=>pairTrees_nil_walk ⟨[],H,I,.nil,h⟩
def uw{k v:Expr}{ks:List (ak Expr)}{vs:List Expr}{tk tv:TE}{wM:List (TE×TE)}(hk:PE X k tk)(hv:PE X v tv)(hr:A_ X pos ks vs wM):
  A_ X pos (some k::ks) (v::vs) ((tk,tv)::wM):=λaa s Z H Q I h=>
 pairTrees_cons_walk (bK (hk aa s Z H _ I h) λu s1 ⟨x,H1,I1,rx,q1⟩=>bK (hv aa s1 Z H1 _ I1 q1) λw2 s2 ⟨y,H2,I2,ry,q2⟩=> bK (hr aa s2 Z H2 _ I2 q2) λws s3 ⟨ps,H3,I3,rel,q3⟩=>⟨(x,y)::ps,H3,I3,.cons ⟨rx,ry⟩ rel,q3⟩)
structure M1 (X:Cx) (o:Expr) (m:Str) (apos:Pos) (e:Expr) (bM:Pos):Prop where
 base:attributeBase o m X.env (eval o X.env)=eval o X.env
 few:((backTo bM (starEach [e] X.env)).all (λx => !x.1)&&(backToKw bM (keywordEach [] X.env)).all (λx=>x.1.isSome) && decide (([e]:List Expr).length+([]:List Keyword).length+(if([]:List Keyword).isEmpty then 0 else 1)<30))=true
 line:(apos.endLine == bM.line)=true
 trees:backTo bM (starEach [e] X.env)=[(false,eval e X.env)]
structure M2 (X:Cx) (o:Expr) (m:Str) (apos:Pos) (e f:Expr) (bM:Pos):Prop where
 base:attributeBase o m X.env (eval o X.env)=eval o X.env
 few:((backTo bM (starEach [e,f] X.env)).all (λx => !x.1)&&(backToKw bM (keywordEach [] X.env)).all (λx=>x.1.isSome) && decide (([e,f]:List Expr).length+([]:List Keyword).length+(if([]:List Keyword).isEmpty then 0 else 1)<30))=true
 line:(apos.endLine == bM.line)=true
 trees:backTo bM (starEach [e,f] X.env)=[(false,eval e X.env),(false,eval f X.env)]
section
variable{X:Cx}{aa:List (ag×Obj)}{Z:St}{H:Hp}{s:au}{a:ag}{y d:V}{u r:ai}{o:ak V}{A:cQ}{E:ai->au->Prop}
end
section
variable{X:Cx}{o e f:Expr}{apos bM:Pos}{td ty tx:TE}
end
section
variable{X:Cx}{aa:List (ag×Obj)}{Z:St}{H:Hp}{s:au}{a:ag}{kvs:List (Key×V)}{A:cQ}{E:ai->au->Prop}
end
section
variable{X:Cx}{aa:List (ag×Obj)}{Z:St}{H:Hp}{s:au}{a:ag}{y:V}{u:ai}{A:cQ}{E:ai->au->Prop}
end
end L2
namespace Nw
open PySem PySem.W PySem.Calls PyProof.Rows
variable{P:Params}{h:bU}{l:OpenLaw}{n:Nat}
def T1:∀(ns:List Int) (vs:List ai),WellAll P h vs (ns.map WData.int)->IntsAre vs ns:=by
 intro ns
 induction ns with
 |nil=>
  intro vs w;rw[yM] at w;cases w;exact .nil
 |cons n ns ih=>
  intro vs w;rw[cq] at w;cases w with
  |cons a b=>
   cases a;exact .cons _ _ (ih _ b)
def VF(hn:l.most=some n){args:List WData}{vals:List ai}
  (v9:l.row.toRowW.claim.pre args=true) (HM:WellAll P h vals args) :
  ∃a vs ns,vals=[Value.ref a]/\args=[WData.list (ns.map WData.int)]/\h.get? a=some { cls:=.type "list",data:=.seq vs.toArray}/\IntsAre vs ns/\ns.length<=n:=by
 have hsh:WShape.hasAll [] args [.list .int]=true:=(pre_splitW v9).1;have hc:l.pre.holds [] { args:=args}=true:=(pre_splitW v9).2;obtain⟨d,r,rfl,h1,h2⟩:=hasAllW_cons hsh;obtain rfl:=hasAllW_nil h2;obtain⟨xs,rfl,h3⟩:=hasW_list h1;obtain⟨ns,rfl⟩:=items_int h3;have hlen:ns.length<=n:=by
  unfold OpenLaw.pre at hc;have h4:(WTm.not (.lt (.lit (.int (n:Int))) (.len (.arg 0)))).holds [] { args:=[.list (ns.map .int)]}=true:=by
   have h4:=(holds_andW hc).1;rw[hn] at h4;exact h4
  have h5:=condW_of h4 (w_not (w_lt w_lit (w_len_list (w_arg rfl))))
  simp_all
 cases HM with
 |cons w1 w2=>
  cases w2;cases w1 with
  |list ho jX=>exact⟨_,_,ns,rfl,rfl,ho,T1 ns _ jX,hlen⟩
def VG(l:OpenLaw)(args:List WData):l.row.toRowW.claim.post args (.bool true) args=true:=
 postW_of (r:=l.row.toRowW) (X:=(true == true))
  (show WShape.has [] (.bool true) .bool=true by first|rfl|decide|simp[WShape.has,WShape.arms,WShape.armsAll])
  (show(WTm.eq .res (.lit (.bool true))).value [] { args:=args,res:=some (.bool true),after:=args}=some (.bool (true == true)) from w_eq_bool (w_res rfl) w_lit) rfl
def oi{q:de}{loose:List Str}{XP:(Str->ak ai)->bU->Prop}{YP:cB->bU->Prop}{d:DefRec}
  (hn:l.most=some n) (DS:d.params.defaults=[])
  (call:∀(w:cB) (s₀ s₁:au) (mg mb:Str->ak ai) (fa:ag) (o:Obj) (pm cd doc:ai) (a:ag) (vs:List ai) (ns:List Int),Ground q loose [] XP w s₀ mg mb s₁.heap->YP w s₁.heap-> s₁.heap.get? fa=some o->o.data=.func (docDef d.name d.params d.body d.scope pm cd doc)->s₁.heap.CodeRec cd d.name->mg d.name=some (.ref fa)-> s₁.heap.get? a=some { cls:=.type "list",data:=.seq vs.toArray}->IntsAre vs ns->ns.length<=n->s₁.gens=#[]-> codeAny (model l.prog w) callerA (.call (.ref fa) ⟨[.ref a],[]⟩) (λr s'=>r=.ok (.ret (.bool true))/\OldK s₁.heap s'.heap/\s'.os=s₁.os/\AllBare s'.gens) s₁) :
  WalkO q loose XP YP l.row.toRowW d [] (λf vs=>PySem.call f vs):=by
 intro w s₀ s₁ mg mb G Y fa o pm cd doc dV kV ho hd rH hD hmg hg args vals as v9 hlay hrd HM hlo;obtain rfl:dV=.none:=Dflts.none hD DS;obtain rfl:kV=.none:=Dflts.noKw hD;obtain⟨a,vs,ns,rfl,rfl,Ac,hints,hlen⟩:=VF hn v9 HM;refine enter_call (codeAny_mono (call w s₀ s₁ mg mb fa o pm cd doc a vs ns G Y ho (fd_plain hd) rH hmg Ac hints hlen hg) λr s' hq=>?_)
 obtain⟨rfl,h2,h3,h4⟩:=hq;exact⟨.inl ⟨.bool true,.bool true,[],rfl,λ_=>rfl,.bool true,VG l _,λ_=>⟨List.Pairwise.nil,λ_ hm=>(nomatch hm)⟩⟩,h2,h3,h4⟩
section
variable{prog:de}{w:cB}{A:cQ}{E:ai->au->Prop}{s:au}{K:Frag}
end
end Nw
namespace L2
open PySem PySem.Spec PyProof.Rows
theorem OB:∀{vs:List ai} {ns:List Int},IntsAre vs ns->Vals (ns.map V.int) vs
 |_,_,.nil=>.nil
 |_,_,.cons n t h=>.cons ⟨t,rfl⟩ (OB h)
def yZ(H:Hp):Prop:=∀b,H b=none\/∃o xs,H b=some (.Y o (.lst xs))
def WY{P:de}{w:cB}{K:PySem.W.Frag}{mg mb:Str->ak ai}{CX:uL}{k:Nat}{fa a:ag}{fd:bQ}{x:Str}{sp:Sp}{s₁:au}{vs:List ai}{ns:List Int}
  (KX:K.In s₁.heap) (SO:s₁.heap.Ns mainGlobals mg) (hb:s₁.heap.Ns builtinsNs mb) (hbb:∀x:Str,x≠"__name__"->mb x=bootBuiltins x) (Lq:s₁.heap.NoLimit) (hg:s₁.gens=#[])
  (ha:s₁.heap.get? a=some { cls:=.type "list",data:=.seq vs.toArray}) (hi:IntsAre vs ns) (hl:ns.length<=sizeLine) (hr:cv k callerA)
  (F:∀base:bU,K.In base->base.Ns mainGlobals mg->dA P w K mg base CX k fa fd [x] sp) (DP:∀(s:au) (u:ai),BindsTo s fd ⟨[u],[]⟩ [(x,u)])
  (x9:∀H:Hp,yZ H->cM K H a (ns.map V.int)->sp [.ref a] H (λv _=>v=.bl true) λ_ _ _=>False)
  (K_:∀H e s',CX [] H s₁ (λ_ _ _=>False) e s'->False) :
  codeAny (model P w) callerA (.call (.ref fa) ⟨[.ref a],[]⟩) (λr s'=>r=.ok (.ret (.bool true))/\OldK s₁.heap s'.heap/\s'.os=s₁.os/\AllBare s'.gens) s₁:=by
 have rv:=OB hi;have LW:=hi.length;have core:∀H:Hp,yZ H->cM K H a (ns.map V.int)->jb P w H s₁.heap->(∀b,H b≠none->b=a)->(H a≠none->K.lookup a=none)->
   codeAny (model P w) callerA (.call (.ref fa) ⟨[.ref a],[]⟩) (λr s'=>r=.ok (.ret (.bool true))/\OldK s₁.heap s'.heap/\s'.os=s₁.os/\AllBare s'.gens) s₁:=by
  intro H hO hS bA hA hK;have qv:∀{b:ag} {o:Obj},s₁.heap.get? b=some o->H b=none->(nh s₁.heap H).get? b=some o:=λe n=>WI e n
  have Eu:∀{b:ag} {o:Obj} {es:Array DictEntry} {ep:Nat},s₁.heap.get? b=some o->o.data=.dict es ep->H b=none:=λ{b o es ep} e d=>by
   grind
  have HX:∀{b:ag} {m:Str->ak ai},s₁.heap.Ns b m->(nh s₁.heap H).Ns b m:=λ{b m} ⟨o,es,ep,e,d,r⟩=>⟨o,es,ep,qv e (Eu e d),d,r⟩
  have Sz:K.In (nh s₁.heap H):=λb o e=>qv (KX b o e) (by
   grind)
  have hM:Mod K mg (nh s₁.heap H):=⟨Sz,HX SO,⟨mb,HX hb,hbb⟩,let ⟨mc,h1,h2⟩:=Lq;⟨mc,HX h1,h2⟩⟩
  have e0:pP P w K mg (nh s₁.heap H) callerA [] s₁ H:=⟨rfl,hM,λb o e=>Zs e,Fq (Vt _ _),trivial,λb hb=>cC (show b∈([]:List ag) from hb) (by simp),bA,.of_eq hg⟩
  refine codeAny_mono ((F _ Sz (HX SO)).run callerA [] s₁ H ⟨[.ref a],[]⟩ [.ref a] [.ref a] _ _ hr e0 (DP s₁ (.ref a)) (.cons rfl .nil) (x9 H hO hS)) λr s' h=>?_
  cases r with
  |error e=>exact(K_ H e s' h).elim
  |ok fl=>
   cases fl with
   |next=>exact False.elim h
   |brk=>exact False.elim h
   |cont=>exact False.elim h
   |ret u=>
    obtain⟨v,H',os,bare,un,Lw,r',q⟩:=h;have q':v=.bl true:=q;subst q';obtain rfl:u=Value.bool true:=r';refine⟨rfl,OldK.of_keep λb o e=>?_,os,bare⟩
    cases q:H b with
    |none=>exact un.keep b o e q (by intro z;exact cC (show b∈([]:List ag) from z) (by simp)) (by simp)
    |some u=>
     rcases hO b with z|⟨ob,xs,z⟩
     .lia
     .have z2:=un.kQ b ob _ z;obtain⟨e1,_⟩:=bA b _ z;obtain⟨e2,_⟩:=Lw b _ z2
      lia
 cases hk:K.lookup a with
 |some o=>
  have e:=KX a o hk;rw[ha] at e;cases e;refine core (λ_=>none) (λ_=>.inl rfl) (.inr ⟨_,vs.toArray,_,hk,rfl,rfl,rfl,by rw[dw,LW];exact hl,by simpa using rv⟩) (λb u z=>by have z':(none:ak HO)=some u:=z;cases z') (λb z=>cC rfl z) λz=>cC rfl z
 |none=>
  refine core (λb=>if b=a then some (.Y { cls:=.type "list",data:=.seq vs.toArray} (.lst (ns.map V.int))) else none) (λb=>?_) (.inl (.inr ⟨{ cls:=.type "list",data:=.seq vs.toArray},bI rfl⟩)) (λb u z=>?_) (λb z=>?_) λ_=>hk
  .by_cases hb:b=a
   .exact .inr ⟨_,_,bI hb⟩
   .exact .inl (ba hb)
  .by_cases hb:b=a
   .have z':=(bI hb).symm.trans z;cases z';subst hb;exact⟨ha,by rw[bw];exact hl,vs,_,rv,ha⟩
   .have z':=(ba hb).symm.trans z;cases z'
  .by_cases hb:b=a
   .exact hb
   .exact cC (ba hb) z
def wZ{l:PySem.W.OpenLaw}{n k:Nat}{q:de}{loose:List Str}{XP:(Str->ak ai)->bU->Prop}{YP:cB->bU->Prop}{d:DefRec}{K:Params->PySem.W.Frag}{CX:cB->uL}{sp:cB->Sp}{x:Str}
  (hn:l.most=some n) (z_:n<=sizeLine) (DS:d.params.defaults=[]) (hr:cv k callerA)
  (hY:∀(w:cB) (h:bU),YP w h->(K w.params).In h)
  (F:∀(w:cB) (mg:Str->ak ai) (fa:ag) (h:bU),(K w.params).In h->h.Ns mainGlobals mg->mg d.name=some (.ref fa)-> ∃fd:bQ,(∀(s:au) (u:ai),BindsTo s fd ⟨[u],[]⟩ [(x,u)])/\ ∀base:bU,(K w.params).In base->base.Ns mainGlobals mg->dA l.prog w (K w.params) mg base (CX w) k fa fd [x] (sp w))
  (x9:∀(w:cB) (H:Hp) (a:ag) (ns:List Int),ns.length<=n->yZ H->cM (K w.params) H a (ns.map V.int)->sp w [.ref a] H (λv _=>v=.bl true) λ_ _ _=>False)
  (K_:∀(w:cB) (H:Hp) (s:au) (e:ai) (s':au),CX w [] H s (λ_ _ _=>False) e s'->False) :
  PySem.W.WalkO q loose XP YP l.row.toRowW d [] (λf vs=>PySem.call f vs):=by
 refine Nw.oi hn DS λw s₀ s₁ mg mb fa o pm cd doc a vs ns G Y ho hd rH hmg Ac hints hlen hg=>?_
 have KX:=hY w _ Y;obtain⟨fd,hb,hF⟩:=F w mg fa _ KX G.T.g hmg;exact WY KX G.T.g G.T.b G.T.builtins G.T.nolimit hg Ac hints (jN hlen z_) hr hF hb (λH hO hS=>x9 w H a ns hlen hO hS) λH e s'=>K_ w H s₁ e s'
variable{x qual:Str}{st:Stmt}{f:ag}{H H':Hp}
noncomputable def kx(s:Stmt)(j:Nat):Stmt:=match s with
 |.ClassDef _ _ _ body _ _ _ _ _ _ _=>body.getD j (.Pass ⟨0,0,0,0⟩)
 |_=>.Pass ⟨0,0,0,0⟩
noncomputable def C1(s:Stmt):Arguments:=match s with
 |.FunctionDef _ a _ _ _ _ _ _ _ _=>a
 |_=>{ posonlyargs:=[],args:=[],vararg:=none,kwonlyargs:=[],kw_defaults:=[],kwarg:=none,defaults:=[]}
def zq(s:Stmt):List Stmt:=match s with
 |.FunctionDef _ _ b _ _ _ _ _ _ _=>b
 |_=>[]
noncomputable def rX(s:Stmt):Scope:=match s with
 |.FunctionDef _ _ _ _ _ _ sc _ _ _=>sc
 |_=>{ kind:=.function,names:=[],isGenerator:=false,isCoroutine:=false}
structure Fun (K:PySem.W.Frag) (x qual:Str) (st:Stmt) (f:ag) (fd:bQ):Prop where
 ex:∃(oc:ai) (od:ak ag) (kV doc pm:ai) (an:ak ag) (gd ct:ai) (vi:Array (ak ai)),
  fd=PySem.W.fnOf x qual (C1 st) (zq st) (rX st) .none kV doc pm an gd ct/\K.lookup f=some ⟨oc,od,.func fd,vi⟩/\PySem.W.codeIn K gd qual=true
 kp:PySem.W.keepIn K (.ref f)=true
section
variable{P:de}{w:cB}{K:PySem.W.Frag}{mg:Str->ak ai}{base:bU}
def Fun.binds{fd:bQ}{ps:List Str}(F:Fun K x qual st f fd)
  (h:∀(kV doc pm:ai) (an:ak ag) (gd ct:ai) (us:List ai),us.length=ps.length->bindArgs (PySem.W.fnOf x qual (C1 st) (zq st) (rX st) .none kV doc pm an gd ct) ⟨us,[]⟩=pure (ps.zip us)):Binds K fd ps []:=by
 obtain⟨oc,od,kV,doc,pm,an,gd,ct,vi,rfl,lk,rH⟩:=F.ex;exact .all (h kV doc pm an gd ct)
def fun_mk{oc:ai}{od an:ak ag}{vi:Array (ak ai)}{kV doc pm gd ct:ai}(l:K.lookup f=some ⟨oc,od,.func (PySem.W.fnOf x qual (C1 st) (zq st) (rX st) .none kV doc pm an gd ct),vi⟩)
  (c:PySem.W.codeIn K gd qual=true) (k:PySem.W.keepIn K (.ref f)=true):Fun K x qual st f (PySem.W.fnOf x qual (C1 st) (zq st) (rX st) .none kV doc pm an gd ct):=⟨⟨oc,od,kV,doc,pm,an,gd,ct,vi,rfl,l,c⟩,k⟩
end
section
variable{X:Cx}
def pv(i:Nat){pos:Pos}(hN:X.N[i]?=some x:=by rfl)(hv:FE X.env.scope x:=by first|exact Or.inl rfl|exact Or.inr (Or.inl rfl)|exact Or.inr (Or.inr rfl))(hd:(x == ("__debug__":Str))=false:=by decide)
  (rH:(x == ("__classdict__":Str))=false:=by decide):PE X (.Name x pos) (AQ i):=Rc hN hv hd rH
end
def t_{A B:Prop}(h:B):if false=true then A else B:=by
 lia
def ua{A B:Prop}(h:A):if true=true then A else B:=by
 rw[bI rfl];exact h
def aw(H H':Hp):Prop:=∀b o,H b=some o->H' b=some o
def aw.refl(H:Hp):aw H H:=λ_ _ h=>h
def aw.trans{H1 H2:Hp}(a:aw H H1)(b:aw H1 H2):aw H H2:=λc o h=>b c o (a c o h)
def aw.free(e:aw H H'){l:ag}(h:H' l=Option.none):H l=Option.none:=by
 cases q:H l with
 |none=>rfl
 |some o=>
  rw[e l o q] at h;cases h
def aw.seq{K:PySem.W.Frag}{a:ag}{xs:List V}(e:aw H H')(h:cM K H a xs):cM K H' a xs:=by
 rcases h with(h|⟨o,h⟩)|h
 .exact .inl (.inl (e _ _ h))
 .exact .inl (.inr ⟨o,e _ _ h⟩)
 .exact .inr h
section
variable{κ:Type}[DecidableEq κ]
end
end L2
set_option maxHeartbeats 4000000
namespace L2
open PySem PySem.Spec PyProof.Rows
variable{env:Env}{names:List (Str×qk)}{x:Str}{c:ag}{scope:Scope}{X:Cx}
noncomputable def kB(env:Env)(names:List (Str×qk)):List (Str×ag):=((names.filter λy=>y.2 == .free).reverse).map λy=>(y.1,(env.cells.lookup y.1).getD 0)
theorem N1{g:Str->ag}{x:Str}:∀{l:List (Str×qk)},(∃k,(x,k)∈l)->(l.map λy=>(y.1,g y.1)).lookup x=some (g x)
 |[],h=>by obtain⟨k,h⟩:=h;cases h
 |(n,k)::r,h=>by
  show List.lookup x ((n,g n)::_)=_;cases hx:x == n with
  |true=>
   simp_all
  |false=>
   simp only[List.lookup_cons,hx];refine N1 (l:=r) ?_
   simp_all
theorem ND{g:Str->ag}{x:Str}{c:ag}:∀{l:List (Str×qk)},(l.map λy=>(y.1,g y.1)).lookup x=some c->c=g x/\∃k,(x,k)∈l
 |[],h=>by cases h
 |(n,k)::r,h=>by
  have h:List.lookup x ((n,g n)::(r.map λy=>(y.1,g y.1)))=some c:=h
  cases hx:x == n with
  |true=>
   simp_all
  |false=>
   simp only[List.lookup_cons,hx] at h;obtain⟨e,k',hk⟩:=ND h;exact⟨e,k',uG _ hk⟩
def O_(h:(x,NameKind.free)∈names)(hc:env.cells.lookup x=some c):(kB env names).lookup x=some c:=by
 have:=N1 (g:=λn=>(env.cells.lookup n).getD 0) (x:=x) (l:=(names.filter λy=>y.2 == .free).reverse) ⟨.free,by simp[h]⟩
 unfold kB;rw[this,hc];rfl
def J6(hf:∀y∈names,y.2=.free->∃c,env.cells.lookup y.1=some c)(h:(kB env names).lookup x=some c):env.cells.lookup x=some c:=by
 obtain⟨e,k,hk⟩:=ND (g:=λn=>(env.cells.lookup n).getD 0) h
 grind
theorem Jj{env:Env}:∀(names:List (Str×qk)) (cs:List (Str×ag)),(∀y∈names,y.2=.free->∃c,env.cells.lookup y.1=some c)->
  (forIn names cs (λ(x:Str×qk) (r:List (Str×ag))=>if(x.2 == NameKind.free)=true then(do let a <-cellOf env x.1;pure (ForInStep.yield ((x.1,a)::r))) else(pure (ForInStep.yield r):Sem (ForInStep (List (Str×ag)))))) =
   pure (kB env names++cs)
 |[],cs,_=>by rw[List.forIn_nil];rfl
 |(n,k)::r,cs,h=>by
  rw[List.forIn_cons];cases hk:k == NameKind.free with
  |true=>
   obtain⟨c,hc⟩:=h (n,k) AV (by simpa using hk)
   have nP:env.cells.lookup n=some c:=hc;have e:cellOf env n=pure c:=by unfold cellOf;rw[nP]
   simp only[hk,pL,e,pure_bind];rw[Jj r _ λy hy=>h y (uG _ hy)]
   congr 1
   unfold kB
   simp_all
  |false=>
   simp only[hk,su,j7,pure_bind];rw[Jj r _ λy hy=>h y (uG _ hy)]
   congr 1
   unfold kB;rw[B8];simp[hk]
def Nz(h:∀y∈scope.names,y.2=.free->∃c,env.cells.lookup y.1=some c):closureFor scope env=pure (kB env scope.names):=by
 have:=Jj (env:=env) scope.names [] h;rw[mO] at this;unfold closureFor;show(forIn scope.names [] _ >>= λr=>pure r)=_
 rw[bind_pure];exact this
theorem NO{env:Env}:∀{names:List (Str×qk)} {x:Str},names.lookup x=some .free->
  (names.map λ(n,k)=>if(k == NameKind.free&&env.scope.kind == .function&&env.kindOf n == some .cell) then(n,NameKind.cell) else(n,k)).lookup x=some .cell\/
  (names.map λ(n,k)=>if(k == NameKind.free&&env.scope.kind == .function&&env.kindOf n == some .cell) then(n,NameKind.cell) else(n,k)).lookup x=some .free
 |[],_,h=>by simp at h
 |(n,k)::r,x,h=>by
  have ih:=@NO env r x
  grind
theorem Jk{env:Env}:∀{names:List (Str×qk)} {x:Str} {q:qk},(q=.cell\/q=.free)->(∀y∈names,y.2≠.cell)->
  (names.map λ(n,k)=>if(k == NameKind.free&&env.scope.kind == .function&&env.kindOf n == some .cell) then(n,NameKind.cell) else(n,k)).lookup x=some q->(x,NameKind.free)∈names
 |[],_,_,_,_,h=>by simp at h
 |(n,k)::r,x,q,hq,hn,h=>by
  have ih:=@Jk env r x q hq λy hy=>hn y (uG _ hy)
  grind
def fj(X:Cx)(scope:Scope)(M:List Str)(C:ag)(s:au)(H:Hp)(fp:List ag):Cx:=
 {X with N:=M,s₀:=s,H₀:=H,env:=compEnvC scope (kB X.env scope.names) C X.env,outer:=X.stack,ex:=fp,fn:=λ_=>false,pn:=[],xe:=λ_ _=>False}
noncomputable def kA(k:Nat)(cY:List Nat)(Z:St):St:=List.replicate k none++cY.map λi=>(Z[i]?).join
def sT(X:Cx)(ifs:List Expr)(t:TT):Prop:=
 ∀(aa:List (ag×Obj)) (s:au) (Z:St) (H:Hp) (Q:Bool->Hp->Prop),Inv X aa Z H s->t Z H Q->
  wpAny (model X.prog X.w) X.A (forIn ifs true λc r=>if r=true then do let ok <-isTrue c X.env (eval c X.env);pure (ForInStep.yield ok) else pure (ForInStep.yield r)) (TP X aa Z Q) X.xe s
def MS:TT:=λ_ H Q=>Q true H
def ZR:sT X [] MS:=λ_ _ Z H _ I h=>wpAny_tests_nil ⟨H,I,h⟩
def ZS{c:Expr}{t:TT}(hc:PT X c t):sT X [c] t:=λaa s Z H Q I h=>wpAny_tests_one (hc aa s Z H Q I h)
def TN{prog:de}{w:cB}{A:cQ}{R:Result->au->Prop}{s:au}{elt target iter:Expr}{ifs:List Expr}{pos:Pos}{it aY:ai}(I:Nat->au->Prop)
  (turn:∀n s,I n s->wpAny (model prog w) A (pyNext it) (λr s₁=>match r with
   |none=>R (.ok .next) s₁
   |some v=>wpAny (model prog w) A (letOwnedTupleGo target it v) (λ_ s₀=>wpAny (model prog w) A (assign target env v) (λ_ s₂=>
     wpAny (model prog w) A (forIn ifs true λc r=>if r=true then do let ok <-isTrue c env (eval c env);pure (ForInStep.yield ok) else pure (ForInStep.yield r)) (λok s₃=>
      if ok=true then wpAny (model prog w) A (eval elt env) (λx s₄=>
       wpAny (model prog w) A (call (.builtin "list.append") [aY,x]) (λ_ s₅=>∃m,m<n/\I m s₅) (λ_ _=>False) s₄) (λ_ _=>False) s₃
      else ∃m,m<n/\I m s₃) (λ_ _=>False) s₂) (λ_ _=>False) s₀) (λ_ _=>False) s₁) (λ_ _=>False) s)
  (n:Nat) (h:I n s) :
  codeAny (model prog w) A (.compLoop (.ListComp elt [⟨target,iter,ifs,0⟩] scope pos) 0 it aY env) R s:=by
 refine codeAny_loop rfl I (λn s hI=>?_) n h
 show wpAny _ A ((compTurn (.ListComp elt [⟨target,iter,ifs,0⟩] scope pos) 0 it aY env).onRaise (λx=>do noteFrame x env;theTreesLotGoes x)) _ _ s
 refine wpAny_noted ?_;rw[compTurn_list];refine ay (wpAny_standAt (ay (wpAny_mono (turn n s hI) (λr s₁ h₁=>?_) λ_ _ h'=>h'.elim)))
 cases r with
 |none=>exact aU h₁
 |some v=>
  refine ay (wpAny_mono h₁ (λ_ s₀ h₀=>?_) λ_ _ h'=>h'.elim)
  refine ay (wpAny_mono h₀ (λ_ s₂ h₂=>ay (wpAny_mono h₂ (λok s₃ h₃=>?_) λ_ _ h'=>h'.elim)) λ_ _ h'=>h'.elim)
  cases ok with
  |false=>exact aU ⟨rfl,h₃⟩
  |true=>
   exact ay (ay (wpAny_mono h₃ (λx s₄ h₄=>ay (wpAny_mono h₄ (λ_ s₅ h₅=>aU (aU ⟨rfl,h₅⟩)) λ_ _ h'=>h'.elim)) λ_ _ h'=>h'.elim))
variable{H:Hp}{s:au}{fp:List ag}{wi:TI}
def Inv.Fd{X:Cx}{aa:List (ag×Obj)}{Z:St}{a:ag}{o:HO}(I:Inv X aa Z H s)(hn:H a=none)(hy:X.s₀.heap.objs.size<=a)(hL:a≠X.env.locals)(hC:∀x c,X.env.cells.lookup x=some c->c≠a)
  (hP:∀p∈X.pn++aa,p.1≠a) (new:bG X.prog X.w (upd H a o) s.heap a o):Inv X aa Z (upd H a o) s:=by
 refine⟨I.ok,I.os,I.bare,⟨I.base.keep,I.base.slot,λb ob e n hx=>?_,I.base.there,λb xs e=>?_,λb ob u e=>?_,λb ps e=>?_⟩,I.loc,I.cell,?_,λx c e=>?_,λp hp=>?_,λb u e=>?_,I.len⟩
 .rw[c_ (gM (fU (cP e) hy))];exact I.base.free b ob e n hx
 .have z:=I.base.lR b xs e;rw[c_ (sZ z hn)];exact z
 .have z:=I.base.kQ b ob u e;rw[c_ (sZ z hn)];exact z
 .obtain⟨m,z⟩:=I.base.nJ b ps e;exact⟨m,by rw[c_ (sZ z hn)];exact z⟩
 .rw[c_ (Ne.symm hL)];exact I.free
 .rw[c_ (hC x c e)];exact I.eC x c e
 .obtain⟨e,n,r⟩:=I.pin p hp;exact⟨e,by rw[c_ (hP p hp)];exact n,r⟩
 .by_cases hb:b=a
  .grind [aJ]
  .rw[c_ hb] at e;exact(I.bA b u e).jo (λc v _ q=>q) (λc q=>by rw[c_ (sZ q hn)];exact q) λc xs q=>by rw[c_ (sZ q hn)];exact q
def ql(J:It)(g:TG)(tt:TT)(te:TE)(τ₀:St)(H1:Hp)(Fin:List V->Hp->Prop):Prop:=
 ∃(n:Nat) (W:Nat->St->List V->Hp->Prop),W 0 τ₀ [] H1/\∀i τ aY H,i<=n->W i τ aY H->
  (J.stop i H/\Fin aY H)\/(i<n/\J.go i H/\∀x H',J.uK i H x H'->g x τ H' λτ2 H2=>tt τ2 H2 λb H3=>if b=true then te τ2 H3 λv H4=>aY.length<sizeLine/\W (i+1) τ2 (aY++[v]) H4 else W (i+1) τ2 aY H3)
structure dO (X:Cx) (scope:Scope) (M:List Str) (k:Nat) (cY:List Nat):Prop where
 kind:scope.kind=.function
 cell:∀y∈scope.names,y.2≠.cell
 free:∀y∈scope.names,y.2=.free->X.env.kindOf y.1=some .cell\/X.env.kindOf y.1=some .free
 names:∀y∈scope.names,y.2=.local -> scope.names.lookup y.1=some .local
 len:M.length=k+cY.length
 KD:∀(j i:Nat) (x:Str),cY[j]?=some i->M[k+j]?=some x->X.N[i]?=some x/\scope.names.lookup x=some .free
section
variable{X:Cx}{aa:List (ag×Obj)}{Z:St}{tg elt iter:Expr}{ifs:List Expr}{scope:Scope}{pos:Pos}{M:List Str}{k:Nat}{cY:List Nat}{g:TG}{tt:TT}{te:TE}
def Inv.iT(I:Inv X aa Z H s)(ok:dO X scope M k cY):∀y∈scope.names,y.2=.free->∃c,X.env.cells.lookup y.1=some c:=λy hy e=>I.ok.has y.1 (ok.free y hy e)
def Inv.block{s4:au}{C D:ag}{oD:Obj}{m:Str->ak ai}(I:Inv X aa Z H s)(ok:dO X scope M k cY)(f2:∀b∈fp,ja X aa H b)(HG:∀b∈fp,∃o,s.heap.get? b=some o/\∀v,o.data≠.cell v)
  (hC:s.heap.objs.size<=C) (DL:D≠C) (hD:s.heap.objs.size<=D) (old:∀b o,s.heap.get? b=some o->s4.heap.get? b=some o) (os:s4.os=s.os) (gens:s4.gens=s.gens)
  (ns:s4.heap.Ns C m) (Lu:s4.heap.get? D=some oD) (Lj:∀v,oD.data≠.cell v):Inv (fj X scope M C s H fp) [(D,oD)] (kA k cY Z) H s4:=by
 have hf:=I.iT ok;have fr:∀a,s.heap.objs.size<=a->H a=none:=λa ha=>I.bA.fresh ha
 have nfs:∀b∈kP X.stack,b<s.heap.objs.size:=λb hb=>by
  rcases y0a.mp (I.k_ b hb) with e|e
  .rw[e];exact I.lt
  .exact Nat.lt_of_not_le λz=>I.Ar z e
 have cl:∀x c,(kB X.env scope.names).lookup x=some c->X.env.cells.lookup x=some c:=λx c e=>J6 hf e
 refine⟨⟨I.ok.mod,ok.kind,I.ok.glob,I.ok.blt,hC,λx y c e1 e2=>I.ok.inj x y c (cl x c e1) (cl y c e2),λx hx=>?_,λx c e _=>?_,I.ok.hd,I.ok.frames,.inl rfl,λb hb=>?_,I.bs,jN I.ok.tF I.sz,λb o e hb=>?_,λb hb z=>?_,I.stack,I.kh⟩,os,by rw[gens];exact I.bare,Un.kept old,⟨m,ns,λi x v h1 h2 h3=>?_⟩,λx c e=>?_,fr C hC,λx c e=>I.eC x c (cl x c e),λp hp=>?_,I.bA.kept old,?_⟩
 .have hx:(relabel scope X.env).names.lookup x=some .cell\/(relabel scope X.env).names.lookup x=some .free:=hx;have hm:(x,NameKind.free)∈scope.names:=by
   rcases hx with h|h
   .exact Jk (env:=X.env) (.inl rfl) ok.cell h
   .exact Jk (env:=X.env) (.inr rfl) ok.cell h
  obtain⟨c,hc⟩:=hf _ hm rfl;exact⟨c,O_ hm hc⟩
 .cases e
 .obtain⟨f0,f1,f2,f3,f4,f5⟩:=f2 b hb;obtain⟨ob,eb,_⟩:=HG b hb;exact⟨gM (fU (cP eb) hC),λx c e=>f4 x c (cl x c e)⟩
 .obtain⟨f0,f1,f2,f3,f4,f5⟩:=f2 b hb;rcases f3 with q|q
  .exact I.ok.qb b o e q
  .exact cC (fU (cP e) (jN I.ok.tF q)) (j5 _)
 .obtain⟨f0,f1,f2,f3,f4,f5⟩:=f2 b hb;rcases y0a.mp (I.k_ b z) with q|q
  .exact f1 q
  .exact f2 q
 .unfold kA at h2;have hk:¬i<k:=λq=>by
   rw[xg (by simpa using q),Na] at h2
   split at h2 <;> cases h2
  rw[vk (by simpa using hk),qW,gP] at h2
  cases e:cY[i - k]? with
  |none=>rw[e] at h2;cases h2
  |some j=>
   rw[e] at h2;have DK:(Z[j]?).join=some v:=Option.some.inj h2;have hj:Z[j]?=some (some v):=by
    cases q:Z[j]? with
    |none=>rw[q] at DK;cases DK
    |some z=>rw[q] at DK;simp at DK;rw[DK]
   have z9:k+(i - k)=i:=by lia
   obtain⟨hN,t6⟩:=ok.KD (i - k) j x e (by rw[z9];exact h1)
   have hm:(x,NameKind.free)∈scope.names:=PySem.mem_of_lookup t6;have hkx:=ok.free _ hm rfl;obtain⟨mX,hnX,hlX⟩:=I.loc;obtain⟨u,ru,lk⟩:=hlX j x v hN hj (by rcases hkx with q|q;exact .inr (.inl q);exact .inr (.inr q))
   refine⟨u,ru,.inr ⟨NO (env:=X.env) t6,?_⟩⟩;rcases lk with⟨q,_⟩|⟨_,c,hc,qI⟩
   .lia
   .exact⟨c,O_ hm hc,qI.keeps old⟩
 .obtain⟨v,z⟩:=I.cell x c (cl x c e);exact⟨v,z.keeps old⟩
 .have e:p=(D,oD):=by simpa[fj] using hp
  subst e;exact⟨Lu,fr D hD,DL,λz=>cC (fU (nfs D z) hD) (j5 _),Lj⟩
 .unfold kA;rw[dy,qW,bw];exact ok.len.symm
def OC{H2:Hp}{s2:au}{J:It}{it:ag}{tn:Nat->bU->Prop}{RR:ai->ag->Result->au->Prop}{E:ai->au->Prop}{Fin:List V->Hp->Prop}(I2:Inv X aa Z H2 s2)(hc:X.calm=true)(ok:dO X scope M k cY)
  (T:Turn X.prog X.w X.K tg J fp it tn) (sf:tn 0 s2.heap) (f2:∀b∈fp,ja X aa H2 b)
  (hg:∀C s H fp,PG (fj X scope M C s H fp) tg g) (ht:∀C s H fp,sT (fj X scope M C s H fp) ifs tt) (he:∀C s H fp,PE (fj X scope M C s H fp) elt te)
  (hW:ql J g tt te (kA k cY Z) H2 Fin)
  (hRR:∀D C s' H' aY,Inv X aa Z (upd H' D (.lst aY)) s'->ja X aa (upd H' D (.lst aY)) C->(∃m,s'.heap.Ns C m)->H' D=none->Fin aY H'->RR (.ref D) C (.ok .next) s') :
  wpAny (model X.prog X.w) X.A (newList []) (λaY s₃=>wpAny (model X.prog X.w) X.A (newFunctionEnv scope X.env.globals (kB X.env scope.names) [] X.env.qual none .none (some X.env)) (λDv s₄=> codeAny (model X.prog X.w) X.A (.compStart (.ListComp elt [⟨tg,iter,ifs,0⟩] scope pos) 0 (.ref it) aY { Dv with scope:=relabel scope X.env}) (RR aY Dv.locals) s₄) E s₃) E s2:=by
 refine wpAny_newObj_type (wpAny_newFunctionEnv ok.cell (by intro y hy;simp at hy) (λh₁ hns₁ hsb₁=>?_) ok.kind)
 dsimp only at hns₁ hsb₁ ⊢;generalize La:s2.heap.push { cls:=.type "list",dict:=none,data:=.seq ([]:List ai).toArray}=H3 at hns₁ hsb₁ ⊢;have K':H3.objs.size=s2.heap.objs.size+1:=by rw[<-La,Heap.size_push]
 have DL:s2.heap.objs.size≠H3.objs.size:=by rw[K'];exact gM (w_ _)
 have below:∀b,b<s2.heap.objs.size->b≠H3.objs.size/\b≠s2.heap.objs.size:=λb hb=>⟨by rw[K'];exact gM (AW hb),gM hb⟩
 have old:∀b o,s2.heap.get? b=some o->h₁.get? b=some o:=λb o e=>hsb₁.extBut b o (below b (cP e)).1 (c8 _ (La ▸ c8 _ e))
 have vY:h₁.get? s2.heap.objs.size=some { cls:=.type "list",data:=.seq ([]:List ai).toArray 0}:=hsb₁.extBut _ _ DL (c8 _ (La ▸ jO _ rfl));have HG:=T.obj 0 _ sf;have vX:s2.heap.objs.size<=H3.objs.size:=by rw[K'];exact xa _
 obtain⟨N,W,w0,turn⟩:=hW;have Tt:tn 0 h₁:=T.keep _ _ _ sf λb _ o e=>old b o e
 have loop:∀s₃:au,s₃={ s2 with heap:=h₁,toks:=s2.toks+([]:List (Str×ai)).length}->
   codeAny (model X.prog X.w) X.A (.compLoop (.ListComp elt [⟨tg,iter,ifs,0⟩] scope pos) 0 (.ref it) (.ref s2.heap.objs.size) (compEnvC scope (kB X.env scope.names) H3.objs.size X.env))
    (RR (.ref s2.heap.objs.size) H3.objs.size) s₃:=by
  rintro s₃ rfl;have I3:Inv (fj X scope M H3.objs.size s2 H2 fp) [(s2.heap.objs.size,{ cls:=.type "list",data:=.seq ([]:List ai).toArray 0})] (kA k cY Z) H2 { s2 with heap:=h₁,toks:=s2.toks+([]:List (Str×ai)).length}:=
   I2.block ok f2 HG vX DL (bP _) old rfl rfl hns₁ vY (λv z=>by cases z)
  have K4:∀b∈fp,b≠H3.objs.size/\b≠s2.heap.objs.size:=λb hb=>let ⟨o,e,_⟩:=HG b hb;below b (cP e)
  have qd:∀{H':Hp} {oD:Obj},(∀b∈fp,H' b=none)->∀b∈fp,ja (fj X scope M H3.objs.size s2 H2 fp) [(s2.heap.objs.size,oD)] H' b:=λ{H' oD} hn b hb=>by
   obtain⟨f0,f1,f2,f3,f4,f5⟩:=f2 b hb;refine⟨hn b hb,(K4 b hb).1,λz=>?_,.inl hb,λx c e=>f4 x c (J6 (I2.iT ok) e),λp hp z=>?_⟩
   .rcases y0a.mp (I2.k_ b z) with q|q
    .exact f1 q
    .exact f2 q
   .have e:p=(s2.heap.objs.size,oD):=by simpa[fj] using hp
    subst e;exact(K4 b hb).2 z.symm
  refine TN (λn s'=>∃(i:Nat) (τ:St) (aY:List V) (us:List ai) (c:Nat) (H':Hp),Vals aY us/\aY.length<=sizeLine/\ Inv (fj X scope M H3.objs.size s2 H2 fp) [(s2.heap.objs.size,{ cls:=.type "list",data:=.seq us.toArray c})] τ H' s'/\tn i s'.heap/\(∀b∈fp,H' b=none)/\n=N - i/\i<=N/\W i τ aY H') ?_ N
   ⟨0,kA k cY Z,[],[],0,H2,.nil,mL _,I3,Tt,λb hb=>(f2 b hb).1,rfl,mL _,w0⟩
  rintro n s3 ⟨i,τ,aY,us,c,H',rv,hlen,I,st,fr,rfl,hiN,w⟩;have pinD:=(I.pin (s2.heap.objs.size,{ cls:=.type "list",data:=.seq us.toArray c}) (by simp[fj]))
  rcases turn i τ aY H' hiN w with⟨stop,qn⟩|⟨ji,go,step⟩
  .refine bK (T.done (fj X scope M H3.objs.size s2 H2 fp) rfl rfl rfl hc i _ s3 τ H' (λ_ _=>False) I (qd fr) st stop) λr s4 ⟨hr,I4⟩=>?_
   subst hr;have uv:=(I4.pin (s2.heap.objs.size,{ cls:=.type "list",data:=.seq us.toArray c}) (by simp[fj]))
   have lz:∀b∈fp,(b∈X.ex\/X.s₀.heap.objs.size<=b)/\b≠X.env.locals/\(∀x c,X.env.cells.lookup x=some c->c≠b)/\∀p∈X.pn++aa,p.1≠b:=λb hb=>by
    obtain⟨f0,f1,f2,f3,f4,f5⟩:=f2 b hb;exact⟨f3,f1,f4,f5⟩
   have J1:Inv X aa Z H' s4:=I2.xG (ch:=fp) I4.os I4.base I4.bA I4.bare lz;have young:X.s₀.heap.objs.size<=s2.heap.objs.size:=I2.sz;have apart:∀a,s2.heap.objs.size<=a->a≠X.env.locals/\(∀x c,X.env.cells.lookup x=some c->c≠a)/\∀p∈X.pn++aa,p.1≠a:=λa ha=>
    ⟨yK (fU I2.lt ha),λx c e z=>by
     obtain⟨v,q⟩:=I2.cell x c e;exact cC (fU q.lt (by rw[z];exact ha)) (j5 _),λp hp z=>cC (fU (cP (I2.pin p hp).1) (by rw[z];exact ha)) (j5 _)⟩
   have aD:=apart _ (bP _);have aC:=apart _ vX;have J2:Inv X aa Z (upd H' s2.heap.objs.size (.lst aY)) s4:=J1.Fd uv.2.1 young aD.1 aD.2.1 aD.2.2 ⟨hlen,us,c,rv,uv.1⟩;obtain⟨m,hn,_⟩:=I4.loc;have hCn:H' H3.objs.size=none:=I4.free;refine hRR _ _ s4 H' aY J2 ⟨?_,aC.1,I2.Ar vX,.inr (jN young vX),aC.2.1,aC.2.2⟩ ⟨m,hn⟩ uv.2.1 qn;rw[c_ (Ne.symm DL)];exact hCn
  .refine bK (T.item (fj X scope M H3.objs.size s2 H2 fp) rfl rfl rfl hc i _ s3 τ H' (λ_ _=>False) I (qd fr) st go) λr s4 ⟨u,hr,h4⟩=>?_
   subst hr;refine bK h4 λ_ s5 hh=>?_
   obtain⟨x,H5,I5,r5,y5,AN,K6⟩:=hh;have IB:=I5.pinned (qd K6) (T.obj _ _ AN);refine bK (hg _ _ _ _ _ s5 τ H5 x u _ IB r5 (step x H5 y5)) λ_ s6 hh=>?_
   obtain⟨τ6,H6,I6,q6⟩:=hh;refine bK (ht _ _ _ _ _ s6 τ6 H6 _ I6 q6) λb s7 hh=>?_
   obtain⟨H7,I7,q7⟩:=hh;have uc:∀{s':au} {τ':St} {Hn:Hp},Inv (fj X scope M H3.objs.size s2 H2 fp) ([(s2.heap.objs.size,{ cls:=.type "list",data:=.seq us.toArray c})]++C9 fp s5.heap) τ' Hn s'->tn (i+1) s'.heap/\∀b∈fp,Hn b=none:=λ{s' τ' Hn} I'=>by
    refine⟨T.keep _ _ _ AN λb hb o e=>(I'.pin (b,o) (pJ _ (pJ _ (CB hb e)))).1,λb hb=>?_⟩
    obtain⟨o,e,d⟩:=T.obj _ _ AN b hb;exact(I'.pin (b,o) (pJ _ (pJ _ (CB hb e)))).2.1
   cases b with
   |false=>
    rw[ba si] at q7;show ∃m,m<N - i/\_;obtain⟨st7,fr7⟩:=uc I7;exact⟨N - (i+1),by lia,i+1,τ6,aY,us,c,H7,rv,hlen,I7.eG,st7,fr7,rfl,ji,q7⟩
   |true=>
    rw[bI rfl] at q7;show wpAny _ _ (eval elt _) _ _ s7;refine bK (he _ _ _ _ _ s7 τ6 H7 _ I7 q7) λv s8 hh=>?_
    obtain⟨y,H8,I8,r8,hl8,w8⟩:=hh;obtain⟨st8,fr8⟩:=uc I8;have mJ:=(I8.pin (s2.heap.objs.size,{ cls:=.type "list",data:=.seq us.toArray c}) (by simp[fj]))
    have hul:=rv.length;refine append_at (hsz:=by show us.toArray.size<=sizeLine;rw[dw,<-hul];exact hlen) mJ.1 λh9 Tj e9=>?_
    have e9':h9.get? s2.heap.objs.size=some { cls:=.type "list",data:=.seq (us++[v]).toArray (c+1)}:=by rw[e9,List.push_toArray]
    have TL:=I8.eG;have DM:s2.heap.objs.size≠(fj X scope M H3.objs.size s2 H2 fp).env.locals:=mJ.2.2.1;have nx:∀(b:ag),H8 b≠none->b≠s2.heap.objs.size:=λb hb z=>hb (by rw[z];exact mJ.2.1)
    refine⟨N - (i+1),by lia,i+1,τ6,aY++[y],us++[v],c+1,H8,rv.append (.cons r8 .nil),by rw[dy,vm];exact hl8,?_,?_,fr8,rfl,ji,w8⟩
    .have I9:Inv (fj X scope M H3.objs.size s2 H2 fp) [] τ6 H8 s8:=TL.kf (λp hp=>cC hp (by simp))
     have TH:Inv (fj X scope M H3.objs.size s2 H2 fp) [] τ6 H8 { s8 with heap:=h9}:=I9.turned (t':=s8.toks) (λb o hb e=>(Tj.2 b hb).trans e) mJ.2.1 DM (.inr (bP _))
      (λx cc e z=>by
       obtain⟨v',q⟩:=I2.cell x cc (J6 (I2.iT ok) e);exact cC (fU q.lt (by rw[z];exact bP _)) (j5 _)) (λp hp=>cC hp (by simp[fj]))
     refine TH.kf λp hp=>?_
     have e:p=(s2.heap.objs.size,{ cls:=.type "list",data:=.seq (us++[v]).toArray (c+1)}):=by simpa using hp
     subst e;exact⟨e9',mJ.2.1,DM,mJ.2.2.2.1,λv' z=>by cases z⟩
    .exact T.keep _ _ _ st8 λb hb o e=>Tj.extBut b o (K4 b hb).2 e
 exact codeAny_compStart_list (loop _ rfl) (T.self _ 0 _ _ _ Tt (loop _ rfl))
def yG(wi:TI)(g:TG)(tt:TT)(te:TE)(k:Nat)(cY:List Nat):TE:=λZ H Q=>wi Z H λJ H1=>ql J g tt te (kA k cY Z) H1 λaY H'=>∀l,H' l=none->Q (.ref l) (upd H' l (.lst aY))
def ZT(hc:X.calm=true)(ok:dO X scope M k cY)(hi:PI X tg iter wi)
  (hg:∀C s H fp,PG (fj X scope M C s H fp) tg g) (ht:∀C s H fp,sT (fj X scope M C s H fp) ifs tt) (he:∀C s H fp,PE (fj X scope M C s H fp) elt te)
  (hs:∀x,foldedSetIterable iter X.env x=pure x:=by intro _;rfl):PE X (.ListComp elt [⟨tg,iter,ifs,0⟩] scope pos) (yG wi g tt te k cY):=by
 intro aa s Z H Q I h;rw[eval_ListComp];refine wpAny_comprehension_free (use:=none) rfl hs (Nz (I.iT ok)) ok.kind ok.names (bK (hi aa s Z H _ I h) λv s1 h1=>bK h1 λHU s2 h2=>?_)
 obtain⟨it,fp,tn,J,H2,e,I2,T,sf,f2,hW⟩:=h2;subst e;refine OC (RR:=λaY C=>compPost (model X.prog X.w) X.A X.xe none (EP X aa Z Q) aY C) I2 hc ok T sf f2 hg ht he hW ?_
 intro D C s' H' aY I' fC ⟨m,hn⟩ hD hq;refine⟨m,hn,λh' sb=>?_⟩
 obtain⟨f0,f1,f2,f3,f4,f5⟩:=fC;exact⟨.ref D,_,I'.turned (t':=s'.toks) (λb o hb e=>(sb.2 b hb).trans e) f0 f1 f3 f4 f5,rfl,hq D hD⟩
def EK(wi:TI)(g:TG)(tt:TT)(te:TE)(k:Nat)(cY:List Nat)(i:Nat):TS:=λD Z H=>yG wi g tt te k cY Z H λv H'=>D.nx (Z.set i (some v)) H'
def ZU{i:Nat}{x:Str}{px pk:Pos}(hc:X.calm=true)(ok:dO X scope M k cY)(hN:X.N.Nodup)(z9:X.N[i]?=some x)(hx:Loc X.env.scope x)(hi:PI X tg iter wi)
  (hg:∀C s H fp,PG (fj X scope M C s H fp) tg g) (ht:∀C s H fp,sT (fj X scope M C s H fp) ifs tt) (he:∀C s H fp,PE (fj X scope M C s H fp) elt te)
  (D8:swapsWith (.ListComp elt [⟨tg,iter,ifs,0⟩] scope pos) (some (.Name x px)) pk.line X.env=pure true)
  (hs:∀x,foldedSetIterable iter X.env x=pure x:=by intro _;rfl) (hf:X.fn x=true\/X.env.scope.names.lookup x=some .local := by first|exact .inl rfl|exact .inr rfl|assumption) :
  PS X (.Assign [.Name x px] (.ListComp elt [⟨tg,iter,ifs,0⟩] scope pos) pk) (EK wi g tt te k cY i):=by
 intro aa s Z H D I h;rw[exec_Assign_Name_used _ _ _ _ D8];refine ay (wpAny_standAt (ay ?_));show wpAny _ X.A (do let _ <-comprehension (.ListComp elt [⟨tg,iter,ifs,0⟩] scope pos) scope X.env _ (newList []) false (eval iter X.env) (some (assign (.Name x px) X.env))) _ _ s
 refine ay (wpAny_mono (wpAny_comprehension_free (use:=some (assign (.Name x px) X.env)) (Q:=λ_ s'=>SP X aa D .next s') rfl hs (Nz (I.iT ok)) ok.kind ok.names (bK (hi aa s Z H _ I h) λv s1 h1=>bK h1 λHU s2 h2=>?_)) (λ_ s' hq=>aU (aU hq)) λ_ _ e=>e)
 obtain⟨it,fp,tn,J,H2,e,I2,T,sf,f2,hW⟩:=h2;subst e;refine OC (RR:=λaY C=>compPost (model X.prog X.w) X.A X.xe (some (assign (.Name x px) X.env)) (λ_ s'=>SP X aa D .next s') aY C) I2 hc ok T sf f2 hg ht he hW ?_
 intro D' C s' H' aY I' fC ⟨m,hn⟩ hD hq;obtain⟨f0,f1,f2,f3,f4,f5⟩:=fC;show wpAny _ X.A (assign (.Name x px) X.env (.ref D')) _ _ _;refine wpAny_assign_Name (Ow I' hN z9 hx (v:=.ref D') rfl (λuz TF hh=>?_) hf)
 obtain⟨a,sb,ha⟩:=hh;have hCa:C≠a:=by
  rcases ha with e|e
  .rw[e];exact f1
  .exact λz=>f4 _ _ e z.symm
 refine⟨m,hn.sameBut sb hCa,λh' sb'=>⟨_,_,TF.turned (t':=uz.toks) (λb o hb e=>(sb'.2 b hb).trans e) f0 f1 f3 f4 f5,hq D' hD⟩⟩
end
variable{w:cB}{tg:Expr}{X:Cx}
def jV(c:Nat):Str:=⟨#[c]⟩
def Fy(x:Str):It:=⟨λi _=>i<x.cps.size,λi H v H'=>H'=H/\∃c,x.cps[i]?=some c/\v=.str (jV c),λi _=>x.cps.size<=i⟩
def WZ{P:de}{K:PySem.W.Frag}(it:ag)(x:Str)(t:Tok)(ty:String)(wa:ty="str_ascii_iterator"\/ty="str_iterator"):Turn P w K tg (Fy x) [it] it (λi h=>h.IsStrIter it ty x t i) where
 mem:=by simp
 obj:=λi h st b hb=>by
  have e:b=it:=by simpa using hb
  subst e;obtain⟨o,e,c,d⟩:=st
  simp_all
 keep:=λi h h' st k=>by
  obtain⟨o,e,c,d⟩:=st;exact⟨o,k it (by simp) o e,c,d⟩
 item:=by
  intro X hP hw hK hc i aa s Z H E I hf st hg;subst hP hw hK;have hi:i<x.cps.size:=hg;obtain⟨f0,f1,f2,f3,f4,f5⟩:=hf it (by simp)
  have fin:∀h',h'.IsStrIter it ty x t (i+1)->Heap.SameBut it s.heap h'->∃u,some (Value.str ⟨#[x.cps[i]]⟩ s.toks)=some u/\
    wpAny (model X.prog X.w) X.A (letOwnedTupleGo tg (.ref it) u) (λ_ s2=>∃y H',Inv X aa Z H' s2/\RelV y u/\(Fy x).uK i H y H'/\s2.heap.IsStrIter it ty x t (i+1)/\∀b∈[it],H' b=none) E { s with heap:=h',toks:=s.toks+1}:=λh' kg sb=>by
   have I1:Inv X aa Z H { s with heap:=h',toks:=s.toks+1}:=I.turned (λb o hb e=>(sb.2 b hb).trans e) f0 f1 f3 f4 f5
   obtain⟨o,e,c,d⟩:=id kg;refine⟨_,rfl,zI (s:={ s with heap:=h',toks:=s.toks+1}) e c d (by rcases wa with z|z <;> subst z <;> decide) ⟨.str (jV x.cps[i]),H,I1,⟨_,rfl⟩,⟨rfl,_,by simp[hi],rfl⟩,kg,λb hb=>(hf b hb).1⟩⟩
  rcases wa with z|z
  .subst z;exact wpAny_pyNext_ascii_item st (c:=x.cps[i]) (by simp[hi]) fin
  .subst z;exact wpAny_pyNext_wide_item st (c:=x.cps[i]) (by simp[hi]) fin
 done:=by
  intro X hP hw hK hc i aa s Z H E I hf st hg;subst hP hw hK;have hi:x.cps.size<=i:=hg;obtain⟨f0,f1,f2,f3,f4,f5⟩:=hf it (by simp)
  rcases wa with z|z
  .subst z;exact wpAny_pyNext_ascii_end (I.ok.hd hc) st (by simp;lia) λh' eb=>⟨rfl,I.turned (t':=s.toks) (λb o hb e=>eb b o hb e) f0 f1 f3 f4 f5⟩
  .subst z;exact wpAny_pyNext_wide_end (I.ok.hd hc) st (by simp;lia) λh' eb=>⟨rfl,I.turned (t':=s.toks) (λb o hb e=>eb b o hb e) f0 f1 f3 f4 f5⟩
 self:=λ_ _ _ _ _ st h=>by
  rcases wa with z|z
  .subst z;exact wpAny_pyIter_striter_ascii st h
  .subst z;exact wpAny_pyIter_striter_wide st h
def Ed(tl:TE):TI:=λZ H R=>tl Z H λx H1=>∃z,x=.str z/\R (Fy z) H1
def e2s{l:Expr}{tl:TE}(hl:PE X l tl):PI X tg l (Ed tl):=by
 intro aa s Z H R I h;refine bK (hl aa s Z H _ I h) λv s1 hh=>?_
 obtain⟨x,H1,I1,r1,q1⟩:=hh;obtain⟨z,e,q⟩:=q1;subst e;obtain⟨t,rfl⟩:=r1;have key:∀ty:String,ty="str_ascii_iterator"\/ty="str_iterator"->IK X aa Z tg R (.ref s1.heap.objs.size) { s1 with heap:=s1.heap.push { cls:=.type ty,data:=.fields #[.str z t,.int 0 0]}}:=λty wa=>by
  refine⟨s1.heap.objs.size,[s1.heap.objs.size],_,_,H1,rfl,I1.kept (t':=s1.toks) λb o e=>c8 _ e,WZ _ z t ty wa,⟨_,jO _ (by rcases wa with e|e <;> subst e <;> rfl),rfl,rfl⟩,λb hb=>?_,q⟩
  have e:b=s1.heap.objs.size:=by simpa using hb
  subst e;exact I1.lM (bP _) (I1.bA.fresh (bP _))
 cases ha:z.cps.all (· < 128)
 .exact wpAny_pyIter_wide ha (key _ (.inr rfl))
 .exact wpAny_pyIter_ascii ha (key _ (.inl rfl))
def fV(names outer:List (Str×qk))(N M:List Str)(k:Nat)(cY:List Nat):Bool:=
 names.all (λy=>y.2 != .cell)&&(names.all (λy=>y.2 != .free || (outer.lookup y.1 == some .cell || outer.lookup y.1 == some .free))&&(names.all (λy=>y.2 != .local || names.lookup y.1 == some .local) && (M.length == k+cY.length&&(List.range cY.length).all (λj=>match cY[j]?,M[k+j]? with|some i,some x=>N[i]? == some x&&names.lookup x == some .free|_,_=>true))))
def dO.of{scope:Scope}{M:List Str}{k:Nat}{cY:List Nat}(outer:List (Str×qk))(N:List Str)(h:fV scope.names outer N M k cY=true)(ho:X.env.scope.names=outer:=by rfl)(hN:X.N=N:=by rfl)(hk:scope.kind=.function:=by rfl):dO X scope M k cY:=by
 unfold fV at h;simp only[fX,pK,Nc,bne_iff_ne,ne_eq,beq_iff_eq] at h;obtain⟨h1,h2,h3,h4,h5⟩:=h;refine⟨hk,h1,λy hy e=>?_,λy hy e=>?_,h4,λj i x e1 e2=>?_⟩
 .rcases h2 y hy with z|z
  .exact cC e z
  .show X.env.scope.names.lookup y.1=_\/X.env.scope.names.lookup y.1=_;rw[ho];exact z
 .rcases h3 y hy with z|z
  .exact cC e z
  .exact z
 .have hj:j<cY.length:=(fA.mp e1).1;have:=h5 j (xh.mpr hj);rw[e1,e2] at this;simp only[fX,beq_iff_eq] at this;rw[hN];exact this
section
variable{X:Cx}
def e2t:dB X (compareOp .Is) (λx y H Q=>∃a b,x=.bl a/\y=.bl b/\Q (.bl (a == b)) H):=by
 intro aa s Z H x y v u Q I rx ry h;obtain⟨a,b,rfl,rfl,q⟩:=h;cases rx;cases ry;exact is_bool (vL I q rfl)
def ZV:dB X (compareOp .IsNot) (λx y H Q=>∃a b,x=.bl a/\y=.bl b/\Q (.bl (a != b)) H):=by
 intro aa s Z H x y v u Q I rx ry h;obtain⟨a,b,rfl,rfl,q⟩:=h;cases rx;cases ry;exact isnot_bool (vL I q rfl)
def C_(K:PySem.W.Frag)(H:Hp):V->String->Prop
 |.aI,n=>n="NoneType"
 |.bl _,n=>n="bool"
 |.int _,n=>n="int"
 |.str _,n=>n="str"
 |.ref a,n=>(n="list"/\∃xs,cM K H a xs)\/(n="tuple"/\∃xs,gY K H a xs)
 |_,_=>False
def rO(k T:String):Bool:=k == T || (k == "bool" && T == "int")
def W4:bR X (.builtin "isinstance") (λxs H Q=>∃x k T,xs=[x,.ty T]/\C_ X.K H x k/\(T="int"\/T="str"\/T="bool"\/T="list"\/T="tuple")/\Q (.bl (rO k T)) H):=by
 intro aa s Z H xs us Q I r h;obtain⟨x,k,T,rfl,hk,hT,q⟩:=h;obtain⟨u,w',rfl,rx,ry⟩:=vals2 r;cases ry;have fin:∀b,b=rO k T->EP X aa Z Q (.bool b) s:=λb e=>vL I q e.symm
 have df:∀b,b=rO k T->EP X aa Z Q (.bool b) { s with toks:=s.toks+1}:=λb e=>vL (I.tok _) q e.symm
 cases x with
 |aI=>
  cases rx;have hk:k="NoneType":=hk;subst hk;rcases hT with rfl|rfl|rfl|rfl|rfl
  .exact IsiPair.NoneType_int (df _ (by decide))
  .exact IsiPair.NoneType_str (df _ (by decide))
  .exact IsiPair.NoneType_bool (df _ (by decide))
  .exact IsiPair.NoneType_list (df _ (by decide))
  .exact IsiPair.NoneType_tuple (df _ (by decide))
 |bl b=>
  cases rx;have hk:k="bool":=hk;subst hk;rcases hT with rfl|rfl|rfl|rfl|rfl
  .exact IsiPair.bool_int (fin _ (by decide))
  .exact IsiPair.bool_str (df _ (by decide))
  .exact IsiPair.bool_bool (fin _ (by decide))
  .exact IsiPair.bool_list (df _ (by decide))
  .exact IsiPair.bool_tuple (df _ (by decide))
 |int i=>
  obtain⟨t,rfl⟩:=rx;have hk:k="int":=hk;subst hk;rcases hT with rfl|rfl|rfl|rfl|rfl
  .exact IsiPair.int_int (fin _ (by decide))
  .exact IsiPair.int_str (df _ (by decide))
  .exact IsiPair.int_bool (df _ (by decide))
  .exact IsiPair.int_list (df _ (by decide))
  .exact IsiPair.int_tuple (df _ (by decide))
 |str z=>
  obtain⟨t,rfl⟩:=rx;have hk:k="str":=hk;subst hk;rcases hT with rfl|rfl|rfl|rfl|rfl
  .exact IsiPair.str_int (df _ (by decide))
  .exact IsiPair.str_str (fin _ (by decide))
  .exact IsiPair.str_bool (df _ (by decide))
  .exact IsiPair.str_list (df _ (by decide))
  .exact IsiPair.str_tuple (df _ (by decide))
 |ref a=>
  cases rx;rcases hk with⟨hk,ys,hs⟩|⟨hk,ys,hs⟩
  .subst hk;obtain⟨aF,_,⟨o,n,e,hc,_⟩,_⟩:=I.list hs;rcases hT with rfl|rfl|rfl|rfl|rfl
   .exact IsiPair.list_int e hc (df _ (by decide))
   .exact IsiPair.list_str e hc (df _ (by decide))
   .exact IsiPair.list_bool e hc (df _ (by decide))
   .exact IsiPair.list_list e hc (fin _ (by decide))
   .exact IsiPair.list_tuple e hc (df _ (by decide))
  .subst hk;obtain⟨aF,_,⟨o,e,hc,_⟩,_⟩:=I.tuple hs;rcases hT with rfl|rfl|rfl|rfl|rfl
   .exact IsiPair.tuple_int e hc (df _ (by decide))
   .exact IsiPair.tuple_str e hc (df _ (by decide))
   .exact IsiPair.tuple_bool e hc (df _ (by decide))
   .exact IsiPair.tuple_list e hc (df _ (by decide))
   .exact IsiPair.tuple_tuple e hc (fin _ (by decide))
 |xF _=>exact False.elim hk
 |xX _=>exact False.elim hk
 |ty _=>exact False.elim hk
def e8d{x:Str}{n:String}{pos:Pos}(hg:Gl X x)(hm:X.mg x=none)(hv:bootBuiltins x=some (.type n))(hn:x≠"__name__":=by decide)(hd:(x == ("__debug__":Str))=false:=by decide):PE X (.Name x pos) (tC (.ty n)):=
 Zu hg hm hv rfl hn hd
def Uz{prog:de}{A:cQ}(aF:List ai)(bs:List Bool)(hv:Vals (bs.map V.bl) aF):TruthOf prog w A (λi v=>aF.toArray[i]?=some v) (λi=>bs.getD i false):=by
 intro i v s Q E hP hQ;have SD:aF[i]?=some v:=by simpa using hP
 have hl:=hv.length;rw[bw] at hl;have hi:i<aF.length:=(fA.mp SD).1;have hb:(bs.map V.bl)[i]?=some (.bl bs[i]):=by simp[show i<bs.length by lia]
 obtain⟨u,hu,ru⟩:=hv.get hb;rw[SD] at hu;cases hu;cases ru;have e:bs.getD i false=bs[i]:=by simp[show i<bs.length by lia]
 have SE:Q (bs.getD i false) s:=hQ;rw[e] at SE;exact wpAny_truthy_bool SE
def VH(bs:List Bool):(List.range bs.length).all (λi=>bs.getD i false)=bs.all id:=by
 rw[AX,pK,pK];constructor
 .intro h b hb;obtain⟨i,hi,e⟩:=List.mem_iff_getElem.mp hb
  simp_all
 .intro h i hi;have hi:=xh.mp hi;have:=h bs[i] (Fs hi);simp[hi];exact this
def VI(hc:X.calm=true):bR X (.builtin "all") (λxs H Q=>∃(a:ag) (bs:List Bool),xs=[.ref a]/\cM X.K H a (bs.map V.bl)/\Q (.bl (bs.all id)) H):=by
 intro aa s Z H xs us Q I r h;obtain⟨a,bs,rfl,hs,q⟩:=h;obtain⟨u,rfl,ru⟩:=vals1 r;cases ru;obtain⟨aF,rv,p,hz⟩:=I.list hs;have hl:=rv.length;rw[bw] at hl;refine call_all_walk (wpAny_pyIter_list p.isList ?_);have fP:a≠s.heap.objs.size:=by obtain⟨o,n,e,_⟩:=p;exact gM (cP e)
 refine⟨s.heap.objs.size,_,_,aF.toArray.size,_,_,λi=>bs.getD i false,rfl,Walks.list (A:=X.A.in1) (show X.A.in1.handled=none from I.ok.hd hc) _ a fP aF.toArray,⟨⟨_,jO _ rfl,rfl,rfl⟩,?_⟩,Uz aF bs rv,λh' tk hk=>?_⟩
 .exact p.isList.at λo e=>c8 _ e
 .have e1:aF.toArray.size=bs.length:=by rw[dw,<-hl]
  refine⟨.bl (bs.all id),H,I.kept (h':=h') (t':=tk) (λb o e=>hk b o (λz=>cC (fU (cP e) (Fq (lB.mp z).symm)) (j5 _)) (c8 _ e)),?_,q⟩
  show Value.bool _=Value.bool _;rw[e1,VH]
end
structure aW (K:PySem.W.Frag) (mg:Str->ak ai) (x:Str) (st:Stmt) (f:ag) (fd:bQ) (ps:List Str):Prop where
 fn:Fun K x x st f fd
 mg:mg x=some (.ref f)
 bd:Binds K fd ps []
section
variable{X:Cx}{k:Nat}{f:ag}{fd:bQ}{ps:List Str}{sp:Sp}{x:Str}{p pos:Pos}{e:Expr}{es:List Expr}{t:TA}{st:Stmt}
end
section
variable{X:Cx}{a b:Expr}{rest:List Expr}{pos:Pos}{ta tb:TE}{tA tB:TT}
end
def aw.put{H H':Hp}{a:ag}{o:HO}(s:aw H H')(h:H' a=none):aw H (upd H' a o):=λb u e=>by
 have z:=s b u e;rw[c_ (sZ z h)];exact z
def s_{H:Hp}{a:ag}{o:HO}(h:H a=none):aw H (upd H a o):=(aw.refl H).put h
def W5{α:Type}{xs:List α}{k:Int}(d:α)(h0:0<=k)(hk:k<xs.length):dQ xs k=some (xs.getD k.toNat d):=by
 have Ln:k.toNat<xs.length:=by lia
 have e:xs[k.toNat]?=some (xs.getD k.toNat d):=by simp[Ln]
 have z:=vF e
 rwa[show((k.toNat:Nat):Int)=k by lia] at z
def qw:bootBuiltins "list"=some (.type "list"):=by decide +kernel
section
variable{X:Cx}
noncomputable def rL(xs:List V)(k:Nat)(y:V):List V:=xs.take k++y::xs.drop k
def UA(xs:List V)(k:Nat)(y:V):(rL xs k y).length=xs.length+1:=by
 grind [rL]
def Qe:V->List V->Hp->VK->Prop:=λx vs H Q=>∃l xs i y,x=.ref l/\vs=[.int i,y]/\H l=some (.lst xs)/\0<=i/\i<2^62/\xs.length<sizeLine/\Q .aI (upd H l (.lst (rL xs i.toNat y)))
theorem VJ:A9 X "list.insert" Qe:=by
 intro aa s Z H x vs v us Q I rx rv h;obtain⟨l,xs,i,y,rfl,rfl,hH,h0,hi,hz,q⟩:=h;cases rx;obtain⟨u,u',rfl,⟨t,rfl⟩,ru⟩:=rv.two;obtain⟨z,aF,n,r,hl,e⟩:=I.Ak hH;have Lk:¬(!Builtin.List.listFitsIndex i)=true:=by
  grind [PySem.Builtin.List.listFitsIndex]
 refine call_meets F.slot_list_insert ⟨_,e,rfl⟩ F.entry_list_insert (F.args_list_insert_3 _ _ _) (PySem.AutoSeq1.list_insert_list_int_val_1 l aF.toArray n i t u' Lk (by rw[dw];lia)) ⟨e,?_⟩
 refine⟨.aI,_,I.Aj (its':=aF.take i.toNat++u'::aF.drop i.toNat) hH e ?_ ((r.take i.toNat).append (.cons ru (r.drop i.toNat))) ?_,rfl,q⟩
 .have h1:¬i<0:=by lia
  simp only[h1,j7];apply Array.ext';simp only[Array.toList_append,Array.toList_push,Array.toList_extract,dw];rw[List.extract_eq_drop_take,List.extract_eq_drop_take];have e1:min i.toNat aF.length - 0=min i.toNat aF.length:=by lia
  rw[e1];simp only[List.drop_zero];have e2:aF.take (min i.toNat aF.length)=aF.take i.toNat:=by rw[List.take_eq_take_iff];lia
  rw[e2];by_cases hc:i.toNat<=aF.length
  .rw[Nat.min_eq_left hc,AY (l:=List.drop i.toNat aF) (by rw[B7];lia)]
   simp
  .have hc:aF.length<=i.toNat:=by lia
   rw[Nat.min_eq_right hc,Ik (bP _),Ik hc];simp
 .show(rL xs i.toNat y).length<=sizeLine;rw[UA];lia
def IC(a c:Int)(n:Nat):It:=⟨λi _=>i<n,λi H x H'=>H'=H/\x=.int (a+i*c),λi _=>n<=i⟩
def UB{P:de}{w:cB}{K:PySem.W.Frag}{tg:Expr}(it:ag)(a c:Int)(n:Nat):Turn P w K tg (IC a c n) [it] it (λi h=>IsRangeIter h it (a+(i:Nat)*c) ((n:Int) - (i:Nat)) c) where
 mem:=by simp
 obj:=λi h st b hb=>by
  simp_all
 keep:=λi h h' st k=>k it (by simp) _ st
 item:=by
  intro X hP hw hK hc i aa s Z H E I hf st hg;subst hP hw hK;obtain⟨f0,f1,f2,f3,f4,f5⟩:=hf it (by simp)
  have W:=Walks.range (prog:=X.prog) (w:=X.w) (I.ok.hd hc) it a c n;refine W.item i s _ _ hg st λv h' tk hv kg kk=>?_
  obtain⟨t,rfl⟩:=hv;have I1:Inv X aa Z H { s with heap:=h',toks:=tk}:=I.turned (λb o hb e=>kk b o (by simpa using hb) e) f0 f1 f3 f4 f5
  exact⟨_,rfl,zI (s:={ s with heap:=h',toks:=tk}) (n:="range_iterator") kg rfl rfl (by decide) ⟨.int (a+i*c),H,I1,⟨t,rfl⟩,⟨rfl,rfl⟩,kg,λb hb=>(hf b hb).1⟩⟩
 done:=by
  intro X hP hw hK hc i aa s Z H E I hf st hg;subst hP hw hK;obtain⟨f0,f1,f2,f3,f4,f5⟩:=hf it (by simp)
  exact wpAny_pyNext_range_end (I.ok.hd hc) st (by have:n<=i:=hg;lia) λh' eb=>⟨rfl,I.turned (t':=s.toks) (λb o hb e=>eb b o hb e) f0 f1 f3 f4 f5⟩
 self:=λ_ _ _ _ _ st h=>wpAny_pyIter_rangeiter st h
def EJ:V->ak Int->ak Int->Hp->VK->Prop:=λx lo hi H Q=>∃z,x=.str z/\z.length<=sizeLine/\Q (.str (Txt.slice z lo hi)) H
theorem AL:sV X EJ:=by
 intro aa s Z H x v vl vu lo hi sl Q I rx hs pl pu h;obtain⟨z,rfl,hz,q⟩:=h;obtain⟨t,rfl⟩:=rx;refine⟨"str",_,F.slot_str_getitem.lookup,typeIs_str _ _ _,?_⟩;have fin:∀t' k,EP X aa Z Q (.str (Txt.slice z lo hi) t') { s with toks:=k}:=λt' k=>⟨.str _,H,I.tok _,⟨_,rfl⟩,q⟩
 cases pl with
 |none=>
  cases pu with
  |none=>exact wpAny_getItem_str_slice (l:=none) (u:=none) (st:=none) hs rfl (post_val_or_str ⟨jN (Txt.slice_le z _ _) hz,fin⟩)
  |int j tj=>exact wpAny_getItem_str_slice (l:=none) (u:=some (j,tj)) (st:=none) hs rfl (post_val_or_str ⟨jN (Txt.slice_le z _ _) hz,fin⟩)
 |int i ti=>
  cases pu with
  |none=>exact wpAny_getItem_str_slice (l:=some (i,ti)) (u:=none) (st:=none) hs rfl (post_val_or_str ⟨jN (Txt.slice_le z _ _) hz,fin⟩)
  |int j tj=>exact wpAny_getItem_str_slice (l:=some (i,ti)) (u:=some (j,tj)) (st:=none) hs rfl (post_val_or_str ⟨jN (Txt.slice_le z _ _) hz,fin⟩)
def UY:dB X (binaryOp .Mult) (λx y H Q=>∃z n,x=.str z/\y=.int n/\MulOk z n/\Q (.str (Txt.mul z n)) H):=by
 intro aa s Z H x y v u Q I rx ry h;obtain⟨z,n,rfl,rfl,hm,q⟩:=h;obtain⟨t,rfl⟩:=rx;obtain⟨t',rfl⟩:=ry;exact SB.mul hm λt' k=>⟨.str _,H,I.tok _,⟨_,rfl⟩,q⟩
end
inductive yV (K:PySem.W.Frag) (H:Hp):Nat->V->V->Bool->Prop
 |flat {d:Nat} {x y:V}:xW x=true->xW y=true->yV K H d x y (eqV x y)
 |same {d:Nat} {a:ag}:yV K H d (.ref a) (.ref a) true
 |lst {d:Nat} {a b:ag} {xs ys:List V} {e:Nat->Bool}:a≠b->cM K H a xs->cM K H b ys->xs.length=ys.length->(∀(i:Nat) x y,xs[i]?=some x->ys[i]?=some y->yV K H d x y (e i))->yV K H (d+1) (.ref a) (.ref b) ((List.range xs.length).all e)
 |lstN {d:Nat} {a b:ag} {xs ys:List V}:a≠b->cM K H a xs->cM K H b ys->xs.length≠ys.length->yV K H (d+1) (.ref a) (.ref b) false
 |tup {d:Nat} {a b:ag} {xs ys:List V} {e:Nat->Bool}:a≠b->gY K H a xs->gY K H b ys->(∀(i:Nat) x y,xs[i]?=some x->ys[i]?=some y->yV K H d x y (e i))->yV K H (d+1) (.ref a) (.ref b) ((List.range (min xs.length ys.length)).all e&&xs.length == ys.length)
section
variable{X:Cx}{aa:List (ag×Obj)}{Z:St}{H:Hp}{s:au}
def Vals.at{xs:List V}{us:List ai}(r:Vals xs us){j:Nat}(h:j<us.toArray.size):∃x,xs[j]?=some x/\RelV x us.toArray[j]:=by
 have hl:=r.length;have h':j<us.length:=by simpa using h
 have hx:xs[j]?=some xs[j]:=by simp[show j<xs.length by lia]
 obtain⟨u,hu,ru⟩:=r.get hx
 simp_all
end
section
variable{X:Cx}
def W6(K:PySem.W.Frag)(hK:X.K=K:=by rfl):rm X (AE K):=hK ▸ ZP
def ZW(K:PySem.W.Frag)(hK:X.K=K:=by rfl):rm X (AF K):=hK ▸ e2q
def Ub(K:PySem.W.Frag)(hK:X.K=K:=by rfl):bR X (.builtin "len") (λxs H Q=>∃p ys,xs=[.ref p]/\(cM K H p ys\/gY K H p ys)/\Q (.int ys.length) H):=hK ▸ Uk
def W7(K:PySem.W.Frag)(hK:X.K=K:=by rfl):sV X (AG K):=hK ▸ ZQ
def ZX(K:PySem.W.Frag)(hK:X.K=K:=by rfl):sV X (AH K):=hK ▸ e2p
def VL(K:PySem.W.Frag)(hK:X.K=K:=by rfl):bR X (.builtin "isinstance") (λxs H Q=>∃x k T,xs=[x,.ty T]/\C_ K H x k/\(T="int"\/T="str"\/T="bool"\/T="list"\/T="tuple")/\Q (.bl (rO k T)) H):=hK ▸ W4
def Uc(K:PySem.W.Frag)(hK:X.K=K:=by rfl):bR X (.type "list") (λxs H Q=>∃p ys,xs=[.ref p]/\(cM K H p ys\/gY K H p ys)/\∀l,H l=none->Q (.ref l) (upd H l (.lst ys))):=hK ▸ Ul
end
end L2
set_option autoImplicit false
namespace L2
open PySem PySem.Spec PyProof.Rows
theorem F_{α β:Type}{R:α->β->Prop}:∀{l:List α} {m:List β} (i:Nat) {b:β},Paired R l m->m[i]?=some b->∃a,l[i]?=some a/\R a b
 |_,_,_,_,.nil,e=>by simp at e
 |_,_,0,_,.cons r _,e=>by simp at e;subst e;exact⟨_,rfl,r⟩
 |_,_,i+1,_,.cons _ t,e=>by
  obtain⟨a,h1,h2⟩:=F_ i t (by simpa using e)
  simp_all
theorem CI{α β:Type}{R:α->β->Prop}:∀{l:List α} {m:List β} (i:Nat) {a:α},Paired R l m->l[i]?=some a->∃b,m[i]?=some b/\R a b
 |_,_,_,_,.nil,e=>by simp at e
 |_,_,0,_,.cons r _,e=>by simp at e;subst e;exact⟨_,rfl,r⟩
 |_,_,i+1,_,.cons _ t,e=>by
  obtain⟨a,h1,h2⟩:=CI i t (by simpa using e)
  simp_all
inductive D where
 |aI|bl (b:Bool)|int (i:Int)|str (x:Str)|ty (n:String)|ref (n:Nat)
 |lst (xs:List D)|tup (xs:List D)|aB (kvs:List (TK×D))
mutual
def TK.d:TK->D
 |.inl i=>.int i
 |.inr x=>.str x
 |.tp l=>.tup (TK.dl l)
 |.aI=>.aI
def TK.dl:List TK->List D
 |[]=>[]
 |k::l=>TK.d k::TK.dl l
end
noncomputable def xy:D->ak V
 |.aI=>some .aI
 |.bl b=>some (.bl b)
 |.int i=>some (.int i)
 |.str x=>some (.str x)
 |.ty n=>some (.ty n)
 |_=>none
structure Kn where
 F:Hp
 A:List ag
 T:List ag
inductive ah (K:PySem.W.Frag) (k:Kn):List V->List D->Prop
 |nil:ah K k [] []
 |flat {v:V} {d:D} {vs:List V} {ds:List D}:xy d=some v->ah K k vs ds->ah K k (v::vs) (d::ds)
 |ref {n:Nat} {a:ag} {vs:List V} {ds:List D}:k.A[n]?=some a->ah K k vs ds->ah K k (.ref a::vs) (.ref n::ds)
 |lst {a:ag} {ws vs:List V} {es ds:List D}:cM K k.F a ws->ah K k ws es->ah K k vs ds->ah K k (.ref a::vs) (.lst es::ds)
 |tup {a:ag} {ws vs:List V} {es ds:List D}:gY K k.F a ws->ah K k ws es->ah K k vs ds->ah K k (.ref a::vs) (.tup es::ds)
 |aB {a:ag} {kvs:List (TK×V×V)} {es:List (TK×D)} {ep:Nat} {vs:List V} {ds:List D}:k.F a=some (.dG kvs ep)->kvs.map (·.1)=es.map (·.1)->ah K k (kvs.map (·.2.1)) (es.map (·.1.d))->ah K k (kvs.map (·.2.2)) (es.map (·.2))->ah K k vs ds->ah K k (.ref a::vs) (.aB es::ds)
def aw.rd{H H':Hp}{a:ag}{u:HO}(e:aw H H')(h:Rd H a u):Rd H' a u:=by
 rcases h with h|⟨o,h⟩
 .exact .inl (e _ _ h)
 .exact .inr ⟨o,e _ _ h⟩
def aw.AM{K:PySem.W.Frag}{H H':Hp}{a:ag}{xs:List V}(e:aw H H')(h:gY K H a xs):gY K H' a xs:=h.imp e.rd id
def aw.MF{K:PySem.W.Frag}{H H':Hp}{a:ag}{xs:List V}(e:aw H H')(h:cM K H a xs):cM K H' a xs:=h.imp e.rd id
structure Kn.le (k k':Kn):Prop where
 f:aw k.F k'.F
 a:k.A <+: k'.A
def G4{α:Type}{l l':List α}{n:Nat}{x:α}(h:l <+: l')(e:l[n]?=some x):l'[n]?=some x:=by
 obtain⟨t,rfl⟩:=h;rw[xg (fA.mp e).1];exact e
section
variable{K:PySem.W.Frag}{k k':Kn}{v:V}{vs ws:List V}{d:D}{ds es:List D}
def ah.mono(s:k.le k')(h:ah K k vs ds):ah K k' vs ds:=by
 induction h with
 |nil=>exact .nil
 |flat e _ ih=>exact .flat e ih
 |ref e _ ih=>exact .ref (G4 s.a e) ih
 |lst e _ _ i1 i2=>exact .lst (s.f.MF e) i1 i2
 |tup e _ _ i1 i2=>exact .tup (s.f.AM e) i1 i2
 |aB e q _ _ _ i0 i1 i2=>exact .aB (s.f _ _ e) q i0 i1 i2
def ah.length(h:ah K k vs ds):vs.length=ds.length:=by
 induction h with
 |nil=>rfl
 |flat _ _ ih=>exact congrArg _ ih
 |ref _ _ ih=>exact congrArg _ ih
 |lst _ _ _ _ ih=>exact congrArg _ ih
 |tup _ _ _ _ ih=>exact congrArg _ ih
 |aB _ _ _ _ _ _ _ ih=>exact congrArg _ ih
def ah.inv(h:ah K k (v::vs) (d::ds)):ah K k [v] [d]/\ah K k vs ds:=by
 cases h with
 |flat e t=>exact⟨.flat e .nil,t⟩
 |ref e t=>exact⟨.ref e .nil,t⟩
 |lst e i t=>exact⟨.lst e i .nil,t⟩
 |tup e i t=>exact⟨.tup e i .nil,t⟩
 |aB e q j i t=>exact⟨.aB e q j i .nil,t⟩
def ah.cons(h:ah K k [v] [d])(t:ah K k vs ds):ah K k (v::vs) (d::ds):=by
 cases h with
 |flat e _=>exact .flat e t
 |ref e _=>exact .ref e t
 |lst e i _=>exact .lst e i t
 |tup e i _=>exact .tup e i t
 |aB e q j i _=>exact .aB e q j i t
def ah.b_(h:ah K k vs (d::ds)):∃w us,vs=w::us/\ah K k [w] [d]/\ah K k us ds:=by
 cases vs with
 |nil=>have:=h.length;cases this
 |cons w us=>exact⟨w,us,rfl,h.inv⟩
def ah.fT(h:ah K k vs []):vs=[]:=List.eq_nil_of_length_eq_zero h.length
def ah.get{i:Nat}(h:ah K k vs ds)(e:ds[i]?=some d):∃v,vs[i]?=some v/\ah K k [v] [d]:=by
 induction ds generalizing vs i with
 |nil=>cases e
 |cons x ds ih=>
  obtain⟨w,us,rfl,h1,h2⟩:=h.b_;cases i with
  |zero=>cases e;exact⟨w,rfl,h1⟩
  |succ i=>exact ih (vs:=us) (i:=i) h2 e
def ah.append(h:ah K k vs ds)(t:ah K k ws es):ah K k (vs++ws) (ds++es):=by
 induction ds generalizing vs with
 |nil=>rw[h.fT];exact t
 |cons x ds ih=>
  obtain⟨w,us,rfl,h1,h2⟩:=h.b_;exact .cons h1 (ih h2)
def ah.take(n:Nat)(h:ah K k vs ds):ah K k (vs.take n) (ds.take n):=by
 induction n generalizing vs ds with
 |zero=>exact .nil
 |succ n ih=>
  cases ds with
  |nil=>rw[h.fT];exact .nil
  |cons x ds=>
   obtain⟨w,us,rfl,h1,h2⟩:=h.b_;exact .cons h1 (ih h2)
def ah.drop(n:Nat)(h:ah K k vs ds):ah K k (vs.drop n) (ds.drop n):=by
 induction n generalizing vs ds with
 |zero=>exact h
 |succ n ih=>
  cases ds with
  |nil=>rw[h.fT];exact .nil
  |cons x ds=>
   obtain⟨w,us,rfl,h1,h2⟩:=h.b_;exact ih h2
def W8(ns:List Int):ah K k (ns.map V.int) (ns.map D.int):=by
 induction ns with
 |nil=>exact .nil
 |cons n ns ih=>exact .flat rfl ih
def ah.a_{u:V}(h:ah K k [v] [d])(e:xy d=some u):v=u:=by
 cases h with
 |flat q _=>rw[e] at q;exact(Option.some.inj q).symm
 |_=>cases e
def ah.isRef{n:Nat}(h:ah K k [v] [.ref n]):∃a,v=.ref a/\k.A[n]?=some a:=by
 cases h with
 |flat q _=>cases q
 |ref e _=>exact⟨_,rfl,e⟩
def ah.yh(h:ah K k [v] [.lst es]):∃a ws,v=.ref a/\cM K k.F a ws/\ah K k ws es:=by
 cases h with
 |flat q _=>cases q
 |lst e i _=>exact⟨_,_,rfl,e,i⟩
def ah.isTup(h:ah K k [v] [.tup es]):∃a ws,v=.ref a/\gY K k.F a ws/\ah K k ws es:=by
 cases h with
 |flat q _=>cases q
 |tup e i _=>exact⟨_,_,rfl,e,i⟩
def ah.yg{kvs:List (TK×D)}(h:ah K k [v] [.aB kvs]):∃a es ep,v=.ref a/\k.F a=some (.dG es ep)/\es.map (·.1)=kvs.map (·.1)/\ah K k (es.map (·.2.1)) (kvs.map (·.1.d))/\ah K k (es.map (·.2.2)) (kvs.map (·.2)):=by
 cases h with
 |flat q _=>cases q
 |aB e q j i _=>exact⟨_,_,_,rfl,e,q,j,i⟩
end
end L2
set_option autoImplicit false
namespace L2
open PySem PySem.Spec PyProof.Rows
inductive Bx where
 |lst (xs:List D)|aB (kvs:List (TK×D))
noncomputable def Bx.d:Bx->D
 |.lst xs=>.lst xs
 |.aB kvs=>.aB kvs
inductive Cell where
 |o (c:Bx)|z (c:Bx)|ins (C:ag) (fs:List (Str×D))
structure aN where
 s:List Cell
 r:List Cell
inductive Val where
 |d (x:D)|c (n:Nat)
abbrev Gm:=List (ak Val)
inductive Rv where
 |v (x:Val)|o (c:Bx)
inductive Rs (α:Type) where
 |ok (a:α) (S:aN)|ex (C:ag) (l:ak Int) (S:aN)
abbrev Gx(α:Type):=Gm->aN->ak (Rs α)
def bd{α β:Type}(x:ak (Rs α))(f:α->aN->ak (Rs β)):ak (Rs β):=match x with
 |none=>none
 |some (.ok a S)=>f a S
 |some (.ex C l S)=>some (.ex C l S)
noncomputable def we:Nat->HO->Bool
 |0,_=>false
 |1,.dG _ _=>true
 |1,_=>false
 |_,_=>true
def dz(K:PySem.W.Frag)(k:Kn)(H:Hp)(a:ag):Bx->Prop
 |.lst xs=>∃ws,H a=some (.lst ws)/\ah K k ws xs
 |.aB kvs=>∃es ep,H a=some (.dG es ep)/\es.map (·.1)=kvs.map (·.1)/\ah K k (es.map (·.2.1)) (kvs.map (·.1.d))/\ah K k (es.map (·.2.2)) (kvs.map (·.2))
def bc(K:PySem.W.Frag)(k:Kn)(H:Hp)(a:ag):Cell->Prop
 |.o c=>k.F a=none/\dz K k H a c
 |.z c=>k.F a≠none/\ah K k [.ref a] [c.d]
 |.ins C fs=>k.F a=none/\∃dx gs,H a=some (.ins C dx gs)/\gs.map (·.1)=fs.map (·.1)/\ah K k (gs.map (·.2)) (fs.map (·.2))
structure Lay (K:PySem.W.Frag) (k:Kn) (H:Hp) (as:List ag) (cs:List Cell):Prop where
 ln:as.length=cs.length
 at':∀(n:Nat) (a:ag) (c:Cell),as[n]?=some a->cs[n]?=some c->bc K k H a c
structure bX (K:PySem.W.Frag) (k:Kn) (H:Hp) (S:aN):Prop where
 le:aw k.F H
 nd:(k.A++k.T).Nodup
 r:Lay K k H k.A S.r
 s:Lay K k H k.T S.s
structure Up (q:Nat) (k:Kn) (H:Hp) (k':Kn) (H':Hp):Prop where
 f:aw k.F k'.F
 a:k.A <+: k'.A
 t:k.T <+: k'.T
 h:∀a o,we q o=true->H a=some o->H' a=some o
def cT(K:PySem.W.Frag)(k:Kn)(x:V):Val->Prop
 |.d y=>ah K k [x] [y]
 |.c n=>∃a,x=.ref a/\k.T[n]?=some a
structure gu (K:PySem.W.Frag) (k:Kn) (Z:St) (U:Gm):Prop where
 ln:Z.length=U.length
 at':∀(i:Nat) (v:Val),U[i]?=some (some v)->∃x,Z[i]?=some (some x)/\cT K k x v
def pW(K:PySem.W.Frag)(k:Kn)(H:Hp)(x:V):Rv->Prop
 |.v y=>cT K k x y
 |.o c=>∃a,x=.ref a/\k.F a=none/\a∉k.A++k.T/\dz K k H a c
section
variable{q:Nat}{K:PySem.W.Frag}{k k' SY:Kn}{F' H H' Cj:Hp}{S S':aN}{Z:St}{U:Gm}{n:Nat}{a:ag}{as:List ag}{cs:List Cell}{c:Cell}{b:Bx}
theorem Kn.le.refl:k.le k:=⟨aw.refl _,lT _⟩
def Up.le(u:Up q k H k' H'):k.le k':=⟨u.f,u.a⟩
theorem Up.refl:Up q k H k H:=⟨aw.refl _,lT _,lT _,λ_ _ _ h=>h⟩
theorem Up.trans(x:Up q k H k' H')(y:Up q k' H' SY Cj):Up q k H SY Cj:=⟨x.f.trans y.f,x.a.trans y.a,x.t.trans y.t,λa o z h=>y.h a o z (x.h a o z h)⟩
def Up.of{F':Hp}(s:aw k.F F')(t:aw H H'):Up q k H ⟨F',k.A,k.T⟩ H':=⟨s,lT _,lT _,λa o _ h=>t a o h⟩
def cT.up{x:V}{v:Val}(h:cT K k x v)(u:Up q k H k' H'):cT K k' x v:=by
 cases v with
 |d y=>exact ah.mono u.le h
 |c n=>obtain⟨a,e,z⟩:=h;exact⟨a,e,G4 u.t z⟩
theorem xm.up{xs:List V}{vs:List Val}(h:Paired (cT K k) xs vs)(u:Up q k H k' H'):Paired (cT K k') xs vs:=Paired.En h λ_ _ r=>r.up u
theorem gu.up(h:gu K k Z U)(u:Up q k H k' H'):gu K k' Z U:=⟨h.ln,λi v e=>let ⟨x,z,r⟩:=h.at' i v e;⟨x,z,r.up u⟩⟩
def dz.keep(h:dz K k H a b)(s:k.le k')(e:∀o,H a=some o->H' a=some o):dz K k' H' a b:=by
 cases b with
 |lst xs=>obtain⟨ws,z,r⟩:=h;exact⟨ws,e _ z,r.mono s⟩
 |aB kvs=>obtain⟨es,ep,z,q,r,t⟩:=h;exact⟨es,ep,e _ z,q,r.mono s,t.mono s⟩
theorem bc.keep(h:bc K k H a c)(s:k.le k')(e:∀o,H a=some o->H' a=some o)(fr:k.F a=none->k'.F a=none):bc K k' H' a c:=by
 cases c with
 |o b=>exact⟨fr h.1,h.2.keep s e⟩
 |z b=>exact⟨λz=>h.1 (s.f.free z),h.2.mono s⟩
 |ins C fs=>obtain⟨h0,dx,gs,h1,h2,h3⟩:=h;exact⟨fr h0,dx,gs,e _ h1,h2,h3.mono s⟩
def dz.there(h:dz K k H a b):H a≠none:=λz=>by
 cases b with
 |lst xs=>obtain⟨_,e,_⟩:=h;rw[e] at z;cases z
 |aB kvs=>obtain⟨_,_,e,_⟩:=h;rw[e] at z;cases z
theorem bc.there(h:bc K k H a c)(le:aw k.F H):H a≠none:=by
 cases c with
 |o b=>exact h.2.there
 |z b=>exact λz=>h.1 (le.free z)
 |ins C fs=>obtain⟨_,dx,gs,h1,_⟩:=h;rw[h1];exact λz=>nomatch z
def Lay.get(h:Lay K k H as cs)(e:as[n]?=some a):∃c,cs[n]?=some c/\bc K k H a c:=by
 have hn:n<cs.length:=h.ln ▸ (fA.mp e).1;exact⟨_,jq hn,h.at' n a _ e (jq hn)⟩
def Lay.keep(h:Lay K k H as cs)(f:∀a∈as,∀c,bc K k H a c->bc K k' H' a c):Lay K k' H' as cs:=⟨h.ln,λn a c e1 e2=>f a (uH e1) c (h.at' n a c e1 e2)⟩
def Qf{α:Type}{l:List α}{x y:α}(e:(l++[x])[n]?=some y):l[n]?=some y\/(n=l.length/\y=x):=by
 by_cases h:n<l.length
 .rw[xg h] at e;exact .inl e
 .have h1:=Nat.le_of_not_lt h;rw[vk h1] at e;have h2:n - l.length=0:=Nat.lt_one_iff.mp (fA.mp e).1;rw[h2] at e;cases e;exact .inr ⟨by lia,rfl⟩
def GI{α:Type}{l:List α}{x:α}:(l++[x])[l.length]?=some x:=by rw[vk (bP _),Nd];rfl
def Lay.push(h:Lay K k H as cs)(hc:bc K k H a c):Lay K k H (as++[a]) (cs++[c]):=by
 refine⟨by rw[dy,dy,h.ln];rfl,λn b d e1 e2=>?_⟩
 rcases Qf e1 with e1|⟨z,rfl⟩ <;> rcases Qf e2 with e2|⟨y,rfl⟩
 .exact h.at' n b d e1 e2
 .exact cC (fA.mp e1).1 (by rw[y,h.ln];exact j5 _)
 .exact cC (fA.mp e2).1 (by rw[z,h.ln];exact j5 _)
 .exact hc
def Pa{α:Type}{l:List α}{i j:Nat}{x:α}(nd:l.Nodup)(e1:l[i]?=some x)(e2:l[j]?=some x):i=j:=by
 obtain⟨h1,z1⟩:=fA.mp e1;obtain⟨h2,z2⟩:=fA.mp e2;exact(Fp nd).mp (z1.trans z2.symm)
def Lay.set(h:Lay K k H as cs)(nd:as.Nodup)(ha:as[n]?=some a)(hc:bc K k' H' a c)(f:∀b∈as,b≠a->∀c,bc K k H b c->bc K k' H' b c):Lay K k' H' as (cs.set n c):=by
 refine⟨by rw[sr];exact h.ln,λj b d e1 e2=>?_⟩
 by_cases e0:n=j
 .subst e0;rw[w9 (h.ln ▸ (fA.mp ha).1)] at e2;cases e2;cases ha.symm.trans e1;exact hc
 .rw[B6 e0] at e2;exact f b (uH e1) (λz=>e0 (Pa nd ha (z ▸ e1))) d (h.at' j b d e1 e2)
def Lay.take(h:Lay K k H as cs)(m:Nat):Lay K k H (as.take m) (cs.take m):=by
 refine⟨by rw[yL,yL,h.ln],λj b d e1 e2=>?_⟩
 rw[List.getElem?_take] at e1 e2;split at e1
 .rename_i hj
  rw[bI hj] at e2;exact h.at' j b d e1 e2
 .cases e1
theorem Lay.there(h:Lay K k H as cs)(le:aw k.F H):∀a∈as,H a≠none:=λa m=>by
 obtain⟨n,e⟩:=AZ.mp m;obtain⟨c,_,hc⟩:=h.get e;exact hc.there le
theorem bX.there(h:bX K k H S):∀a∈k.A++k.T,H a≠none:=λa m=>(dN.mp m).elim (h.r.there h.le a) (h.s.there h.le a)
def bX.fresh(h:bX K k H S)(e:H a=none):k.F a=none/\a∉k.A++k.T:=⟨h.le.free e,λm=>h.there a m e⟩
def bX.new(h:bX K k H S)(s1:aw k.F F')(s2:∀a∈k.A++k.T,∀o,H a=some o->H' a=some o)(s3:aw F' H')(fr:∀p∈k.A++k.T,k.F p=none->F' p=none):bX K ⟨F',k.A,k.T⟩ H' S:=
 have go:∀a∈k.A++k.T,∀c,bc K k H a c->bc K ⟨F',k.A,k.T⟩ H' a c:=λa m _ q=>q.keep ⟨s1,lT _⟩ (s2 a m) (fr a m)
 ⟨s3,h.nd,h.r.keep λa m=>go a (Fo _ m),h.s.keep λa m=>go a (pJ _ m)⟩
def bc.le(h:bc K k H a c)(s:k.le k')(e:k.F=k'.F):bc K k' H a c:=h.keep s (λ_ z=>z) λz=>by rw[<-e];exact z
def JJ{α:Type}{l:List α}{x:α}:l <+: l++[x]:=List.prefix_append _ _
def e2u{α:Type}{l m:List α}{x:α}(h:(l++m).Nodup)(n:x∉l++m):((l++[x])++m).Nodup:=by
 rw[nK];exact(List.perm_middle (l₁:=l) (l₂:=m) (a:=x)).nodup_iff.mpr (sj.mpr ⟨n,h⟩)
def bX.pushS(h:bX K k H S)(hF:k.F a=none)(hn:a∉k.A++k.T)(hb:dz K k H a b):bX K ⟨k.F,k.A,k.T++[a]⟩ H ⟨S.s++[.o b],S.r⟩/\∀q,Up q k H ⟨k.F,k.A,k.T++[a]⟩ H:=by
 have go:k.le ⟨k.F,k.A,k.T++[a]⟩:=⟨aw.refl _,lT _⟩;refine⟨⟨h.le,?_,h.r.keep λ_ _ _ z=>z.le go rfl,(h.s.push (c:=.o b) ⟨hF,hb⟩).keep λ_ _ _ z=>z.le go rfl⟩,λq=>⟨aw.refl _,lT _,JJ,λ_ _ _ z=>z⟩⟩
 rw[<-nK];exact nR.mpr ⟨h.nd,by simp,λx m y m' e=>hn (by rw[lB.mp m'] at e;exact e ▸ m)⟩
def bX.yv(h:bX K k H S)(hn:a∉k.A++k.T)(hc:bc K k H a c):bX K ⟨k.F,k.A++[a],k.T⟩ H ⟨S.s,S.r++[c]⟩/\∀q,Up q k H ⟨k.F,k.A++[a],k.T⟩ H:=by
 have go:k.le ⟨k.F,k.A++[a],k.T⟩:=⟨aw.refl _,JJ⟩;exact⟨⟨h.le,e2u h.nd hn,(h.r.push hc).keep λ_ _ _ z=>z.le go rfl,h.s.keep λ_ _ _ z=>z.le go rfl⟩,λq=>⟨aw.refl _,JJ,lT _,λ_ _ _ z=>z⟩⟩
def lW(H H':Hp)(a:ag):Prop:=∀b,b≠a->H' b=H b
def CM{o:HO}:lW H (upd H a o) a:=λ_ z=>c_ z
def bX.chg(h:bX K k H S)(ho:lW H H' a)(hF:k.F a=none)(hq:∀o,H a=some o->we q o=false):aw k.F H'/\Up q k H k H'/\∀b,b≠a->∀c,bc K k H b c->bc K k H' b c:=
 ⟨λb o e=>by rw[ho b λz=>by rw[z,hF] at e;cases e];exact h.le b o e,⟨aw.refl _,lT _,lT _,λb o e z=>by
  by_cases y:b=a
  .subst y;rw[hq o z] at e;cases e
  .rw[ho b y];exact z⟩,λb y c z=>z.keep .refl (λo e=>by rw[ho b y];exact e) id⟩
def bX.EM(h:bX K k H S)(ha:k.A[n]?=some a)(ho:lW H H' a)(hF:k.F a=none)(hq:∀o,H a=some o->we q o=false)(hc:bc K k H' a c):bX K k H' ⟨S.s,S.r.set n c⟩/\Up q k H k H':=by
 obtain⟨h1,h2,h3⟩:=h.chg ho hF hq;obtain⟨n1,n2,n3⟩:=nR.mp h.nd;exact⟨⟨h1,h.nd,h.r.set n1 ha hc λb _=>h3 b,h.s.keep λb m=>h3 b λz=>n3 a (uH ha) b m z.symm⟩,h2⟩
def bX.My(h:bX K k H S)(ha:k.T[n]?=some a)(ho:lW H H' a)(hF:k.F a=none)(hq:∀o,H a=some o->we q o=false)(hc:bc K k H' a c):bX K k H' ⟨S.s.set n c,S.r⟩/\Up q k H k H':=by
 obtain⟨h1,h2,h3⟩:=h.chg ho hF hq;obtain⟨n1,n2,n3⟩:=nR.mp h.nd;exact⟨⟨h1,h.nd,h.r.keep λb m=>h3 b λz=>n3 b m a (uH ha) z,h.s.set n2 ha hc λb _=>h3 b⟩,h2⟩
def dz.Y(h:dz K k H a b)(le:aw k.F H)(hF:k.F a=none):∃o,H a=some o/\aw k.F (upd k.F a o)/\aw (upd k.F a o) H/\ah K ⟨upd k.F a o,k.A,k.T⟩ [.ref a] [b.d]:=by
 have sm:∀o,aw k.F (upd k.F a o):=λo=>s_ hF
 have sh:∀o,H a=some o->aw (upd k.F a o) H:=λo e p u q=>by
  by_cases z:p=a
  .grind [aJ]
  .rw[c_ z] at q;exact le p u q
 cases b with
 |lst xs=>
  obtain⟨ws,e,r⟩:=h;exact⟨_,e,sm _,sh _ e,.lst (.inl (.inl aJ)) (r.mono ⟨sm _,lT _⟩) .nil⟩
 |aB kvs=>
  obtain⟨es,ep,e,q,r,t⟩:=h;exact⟨_,e,sm _,sh _ e,.aB aJ q (r.mono ⟨sm _,lT _⟩) (t.mono ⟨sm _,lT _⟩) .nil⟩
def bX.K7(h:bX K k H S)(hF:k.F a=none)(hn:a∉k.A++k.T)(hb:dz K k H a b):∃F',bX K ⟨F',k.A,k.T⟩ H S/\(∀q,Up q k H ⟨F',k.A,k.T⟩ H)/\ah K ⟨F',k.A,k.T⟩ [.ref a] [b.d]:=by
 obtain⟨o,e,s1,s2,rp⟩:=hb.Y h.le hF;exact⟨_,h.new s1 (λ_ _ _ z=>z) s2 λp m z=>by rw[c_ (show p≠a from λy=>hn (y ▸ m))];exact z,λq=>.of s1 (aw.refl _),rp⟩
def bX.K8(h:bX K k H S)(ha:k.T[n]?=some a)(hc:S.s[n]?=some (.o b)):∃F',bX K ⟨F',k.A,k.T⟩ H ⟨S.s.set n (.z b),S.r⟩/\(∀q,Up q k H ⟨F',k.A,k.T⟩ H)/\ah K ⟨F',k.A,k.T⟩ [.ref a] [b.d]:=by
 obtain⟨hF,hb⟩:=h.s.at' n a _ ha hc;obtain⟨o,e,s1,s2,rp⟩:=hb.Y h.le hF;obtain⟨n1,n2,n3⟩:=nR.mp h.nd;have go:∀p,p≠a->∀c,bc K k H p c->bc K ⟨upd k.F a o,k.A,k.T⟩ H p c:=λp y c z=>z.keep ⟨s1,lT _⟩ (λ_ z=>z) λz=>(c_ y).trans z
 exact⟨_,⟨s2,h.nd,h.r.keep λp m=>go p λz=>n3 p m a (uH ha) z,h.s.set n2 ha (c:=.z b) ⟨λz=>(nomatch aJ.symm.trans z),rp⟩ λp _=>go p⟩,λq=>.of s1 (aw.refl _),rp⟩
theorem bX.take(h:bX K k H S)(m:Nat):bX K ⟨k.F,k.A,k.T.take m⟩ H ⟨S.s.take m,S.r⟩:=
 have go:k.le ⟨k.F,k.A,k.T.take m⟩:=⟨aw.refl _,lT _⟩
 ⟨h.le,h.nd.sublist ((List.Sublist.refl _).append (List.take_sublist _ _)),h.r.keep λ_ _ _ z=>z.le go rfl,(h.s.take m).keep λ_ _ _ z=>z.le go rfl⟩
def Pb{α:Type}{l l':List α}{m:Nat}(h:l <+: l')(hm:l.length<=m):l <+: l'.take m:=by
 grind
def Up.take(u:Up q k H k' H'){m:Nat}(h:k.T.length<=m):Up q k H ⟨k'.F,k'.A,k'.T.take m⟩ H':=⟨u.f,u.a,Pb u.t h,u.h⟩
end
end L2
set_option autoImplicit false
namespace L2
open PySem PySem.Spec PyProof.Rows
variable{X:Cx}{e:Expr}{t:TE}{t':TT}{v x:V}{k:Kn}{S:aN}{r:R2}{Q:List V->Hp->Prop}{vs:List Val}{ds:List D}{o:List D->ak Rv}
def PE.mono{t':TE}(h:PE X e t)(m:∀Z H Q,t' Z H Q->t Z H Q):PE X e t':=λaa s Z H Q I q=>h aa s Z H Q I (m _ _ _ q)
def PT.mono{t:TT}(h:PT X e t)(m:∀Z H Q,t' Z H Q->t Z H Q):PT X e t':=λaa s Z H Q I q=>h aa s Z H Q I (m _ _ _ q)
def PW.mono{t:TT}(h:PW X e t)(m:∀Z H Q,t' Z H Q->t Z H Q):PW X e t':=λwh aa s Z H Q I q=>h wh aa s Z H Q I (m _ _ _ q)
def PA.mono{e:List Expr}{t t':TA}(h:PA X e t)(m:∀Z H Q,t' Z H Q->t Z H Q):PA X e t':=λpos aa s Z H Q I q=>h pos aa s Z H Q I (m _ _ _ q)
def PS.mono{e:Stmt}{t t':TS}(h:PS X e t)(m:∀D Z H,t' D Z H->t D Z H):PS X e t':=λaa s Z H D I q=>h aa s Z H D I (m _ _ _ q)
def je.mono{e:List Stmt}{t t':TS}(h:je X e t)(m:∀D Z H,t' D Z H->t D Z H):je X e t':=λaa s Z H D I q=>h aa s Z H D I (m _ _ _ q)
abbrev XW:=ag->ak ag->St->Hp->Prop
def Cf(F:Hp)(dx:ak ag):ak Int->Prop
 |none=>dx=none
 |some n=>∃d,dx=some d/\F d=some (.xd [("line",.int n)])
abbrev Rp(α β:Type):=Kn->Hp->β->α->Prop
section
variable{α β α' β':Type}(R:Rp α β){R':Rp α' β'}(K:PySem.W.Frag)(W:XW)(q:Nat){Z:St}{H H':Hp}{k k':Kn}{U:Gm}{S:aN}{Q:β->Hp->Prop}{Q':β'->Hp->Prop}
def fZ(Z:St)(k:Kn)(H:Hp)(Q:β->Hp->Prop):Rs α->Prop
 |.ok a S=>∀b k' H',Up q k H k' H'->bX K k' H' S->R k' H' b a->Q b H'
 |.ex C l S=>∀dx k' H',Up q k H k' H'->bX K k' H' S->Cf k'.F dx l->W C dx Z H'
def tX(g:Gx α):St->Hp->(β->Hp->Prop)->Prop:=λZ H Q=>∃k U S res,bX K k H S/\gu K k Z U/\g U S=some res/\fZ R K W q Z k H Q res
variable{R K W q}
def fZ.up{res:Rs α}(w:fZ R K W q Z k H Q res)(u:Up q k H k' H'):fZ R K W q Z k' H' Q res:=by
 cases res with
 |ok a S=>exact λb k2 H2 u2 k r=>w b k2 H2 (u.trans u2) k r
 |ex C l S=>exact λdx k2 H2 u2 k r=>w dx k2 H2 (u.trans u2) k r
def BF{x:ak (Rs α)}{f:α->aN->ak (Rs α')}{res:Rs α'}(e:bd x f=some res):(∃a S,x=some (.ok a S)/\f a S=some res)\/∃C l S,x=some (.ex C l S)/\res=.ex C l S:=by
 unfold bd at e;split at e
 .cases e
 .exact .inl ⟨_,_,rfl,e⟩
 .cases e;exact .inr ⟨_,_,_,rfl,rfl⟩
def tX.bd{g:Gx α}{f:α->aN->ak (Rs α')}{res:Rs α'}(ok:bX K k H S)(gk:gu K k Z U)(e:bd (g U S) f=some res)(w:fZ R' K W q Z k H Q' res)
  (h:∀a S1 b k1 H1,bX K k1 H1 S1->gu K k1 Z U->R k1 H1 b a->f a S1=some res->fZ R' K W q Z k1 H1 Q' res->Up q k H k1 H1->Q b H1):tX R K W q g Z H Q:=by
 rcases BF e with⟨a,S1,e1,e2⟩|⟨C,l,S1,e1,rfl⟩
 .exact⟨k,U,S,_,ok,gk,e1,λb k' H' u fE r=>h a S1 b k' H' fE (gk.up u) r e2 (w.up u) u⟩
 .exact⟨k,U,S,_,ok,gk,e1,w⟩
def fZ.now{a:α}{b:β}(w:fZ R K W q Z k H Q (.ok a S))(ok:bX K k H S)(r:R k H b a):Q b H:=w b k H .refl ok r
def pZ{g:Gx α}{Q₂:β->Hp->Prop}(h:tX R K W q g Z H Q)(m:∀b H,Q b H->Q₂ b H):tX R K W q g Z H Q₂:=by
 obtain⟨k,U,S,res,ok,gk,e,w⟩:=h;refine⟨k,U,S,res,ok,gk,e,?_⟩;cases res with
 |ok a S=>exact λb k2 H2 u k r=>m _ _ (w b k2 H2 u k r)
 |ex C l S=>exact w
end
abbrev RE(K:PySem.W.Frag):Rp Rv V:=λk H x r=>pW K k H x r
abbrev RA(K:PySem.W.Frag):Rp (List Val) (List V):=λk _ xs vs=>Paired (cT K k) xs vs
abbrev RB:Rp Bool Bool:=λ_ _ b a=>b=a
abbrev GE:=Gx Rv
variable{g f:GE}
abbrev GA:=Gx (List Val)
variable{h:GA}
abbrev GT:=Gx Bool
abbrev tE(K:PySem.W.Frag)(W:XW)(q:Nat)(g:GE):TE:=tX (RE K) K W q g
abbrev gp(K:PySem.W.Frag)(W:XW)(q:Nat)(g:GA):TA:=tX (RA K) K W q g
abbrev tT(K:PySem.W.Frag)(W:XW)(q:Nat)(g:GT):TT:=tX RB K W q g
noncomputable def gC(d:D):GE:=λ_ S=>some (.ok (.v (.d d)) S)
noncomputable def tV(i:Nat):GE:=λU S=>((U[i]?).join).map λv=>.ok (.v v) S
def OD{α:Type}{x:ak (ak α)}{v:α}(h:x.join=some v):x=some (some v):=by
 cases x with
 |none=>cases h
 |some y=>exact congrArg some h
noncomputable def nI:Rv->Val
 |.v x=>x
 |.o c=>.d c.d
noncomputable def hpR(S:aN):Rv->Rs Rv
 |.o c=>.ok (.v (.d (.ref S.r.length))) ⟨S.s,S.r++[.o c]⟩
 |r=>.ok r S
def jH(g:GE):GE:=λU S=>bd (g U S) λr S1=>some (hpR S1 r)
noncomputable def gN:GA:=λ_ S=>some (.ok [] S)
def og(g:GE)(h:GA):GA:=λU S=>bd (g U S) λr S1=>bd (h U S1) λvs S2=>some (.ok (nI r::vs) S2)
section
variable{X:Cx}{K:PySem.W.Frag}{W:XW}{q:Nat}{e a b:Expr}{es:List Expr}{m9 fb fc:GE}{fs:GA}{ft fu:GT}{pos:Pos}{Z:St}{H:Hp}
def zP{d:D}(h:PE X e (tC v))(hf:xy d=some v:=by rfl):PE X e (tE K W q (gC d)):=h.mono λZ H Q t=>by
 obtain⟨k,U,S,res,ok,gk,e,w⟩:=t;cases e;exact w.now ok (show ah K k [v] [d] from .flat hf .nil)
def e2v{i:Nat}(h:PE X e (AQ i)):PE X e (tE K W q (tV i)):=h.mono λZ H Q t=>by
 obtain⟨k,U,S,res,ok,gk,e,w⟩:=t;obtain⟨v,q,rfl⟩:=dm.mp e;obtain⟨x,hx,r⟩:=gk.at' i v (OD q);exact⟨x,hx,w.now ok (show pW K k H x (.v v) from r)⟩
def r9{r:Rv}(ok:bX K k H S)(h:pW K k H x r):∃k',(∀q,Up q k H k' H)/\bX K k' H S/\cT K k' x (nI r):=by
 cases r with
 |v y=>exact⟨k,λ_=>.refl,ok,h⟩
 |o c=>
  obtain⟨p,rfl,hF,hi,hc⟩:=h;obtain⟨F',fE,u,rp⟩:=ok.K7 hF hi hc;exact⟨_,u,fE,rp⟩
def vR(h:PE X e (tE K W q m9)):PE X e (tE K W q (jH m9)):=h.mono λZ H Q t=>by
 obtain⟨k,U,S,res,ok,gk,e,w⟩:=t;refine tX.bd ok gk e w λr S1 x k1 H1 bH g1 r1 e1 w1 _=>?_
 cases r with
 |v y=>cases e1;exact w1.now bH r1
 |o c=>
  cases e1;obtain⟨p,rfl,hF,hi,hc⟩:=r1;obtain⟨cJ,u⟩:=bH.yv hi (c:=.o c) ⟨hF,hc⟩;exact w1 _ _ _ (u q) cJ (show ah K _ [.ref p] [.ref S1.r.length] from .ref (by rw[<-bH.r.ln];exact GI) .nil)
def vG(t:gp K W q (og g h) Z H Q):tE K W q g Z H λx H1=>gp K W q h Z H1 λxs H2=>Q (x::xs) H2:=by
 obtain⟨k,U,S,res,ok,gk,e,w⟩:=t;refine tX.bd ok gk e w λr S1 x k1 H1 bH g1 r1 e1 w1 _=>?_
 obtain⟨k2,u2,cJ,r2⟩:=r9 bH r1;refine tX.bd cJ (g1.up (u2 q)) e1 (w1.up (u2 q)) λvs S3 xs k3 H3 jY g3 r3 e3 w3 u3=>?_
 cases e3;exact w3.now jY (.cons (r2.up u3) r3)
def BG(t:gp K W q gN Z H Q):Q [] H:=by
 obtain⟨k,U,S,res,ok,gk,e,w⟩:=t;cases e;exact w.now ok .nil
def zQ:PA X [] (gp K W q gN):=nA.mono λZ H Q t=>BG t
def ZY(ha:PE X e (tE K W q g))(hr:PA X es (gp K W q h))(hs:starEach (e::es) X.env=(false,eval e X.env)::starEach es X.env):PA X (e::es) (gp K W q (og g h)):=(GF ha hr hs).mono λZ H Q t=>vG t
def Top(K:PySem.W.Frag)(k:Kn)(H:Hp)(x:V)(d:D):Prop:=ah K k [x] [d]\/∃p c,x=.ref p/\d=Bx.d c/\dz K k H p c
noncomputable def Cell.wC:Cell->ak D
 |.o c=>some c.d
 |.z c=>some c.d
 |.ins _ _=>none
def wC(S:aN):Val->ak D
 |.d (.ref n)=>(S.r[n]?).bind Cell.wC
 |.d x=>some x
 |.c n=>(S.s[n]?).bind Cell.wC
def wD(S:aN):List Val->ak (List D)
 |[]=>some []
 |v::vs=>(wC S v).bind λd=>(wD S vs).map λds=>d::ds
def Pc{x:ag}{c:Cell}{d:D}(h:bc K k H x c)(e:c.wC=some d):Top K k H (.ref x) d:=by
 cases c with
 |o b=>cases e;exact .inr ⟨x,b,rfl,rfl,h.2⟩
 |z b=>cases e;exact .inl h.2
 |ins _ _=>cases e
def G5{v:Val}{d:D}(ok:bX K k H S)(h:cT K k x v)(e:wC S v=some d):Top K k H x d:=by
 cases v with
 |d y=>
  cases y with
  |ref n=>
   obtain⟨p,rfl,h1⟩:=ah.isRef h;obtain⟨c,h2,e⟩:=cA.mp e;exact Pc (ok.r.at' n p c h1 h2) e
  |_=>cases e;exact .inl h
 |c n=>
  obtain⟨p,rfl,h1⟩:=h;obtain⟨c,h2,e⟩:=cA.mp e;exact Pc (ok.s.at' n p c h1 h2) e
def Qg{xs:List V}(ok:bX K k H S)(h:Paired (cT K k) xs vs)(e:wD S vs=some ds):Paired (Top K k H) xs ds:=by
 induction h generalizing ds with
 |nil=>cases e;exact .nil
 |cons r _ ih=>
  obtain⟨d,e1,e⟩:=cA.mp e;obtain⟨es,e2,rfl⟩:=dm.mp e;exact .cons (G5 ok r e1) (ih e2)
def TM(K:PySem.W.Frag)(k':Kn)(H H':Hp)(x:V):Rv->Prop
 |.v (.d y)=>ah K k' [x] [y]
 |.o c=>∃p,x=.ref p/\H p=none/\k'.F p=none/\dz K k' H' p c
 |_=>False
def lI(K:PySem.W.Frag)(k:Kn)(H:Hp)(r:Rv)(Q:VK):Prop:=∀x F' H',aw k.F F'->aw H H'->aw F' H'->(∀p,H p≠none->k.F p=none->F' p=none)->TM K ⟨F',k.A,k.T⟩ H H' x r->Q x H'
def bY(K:PySem.W.Frag)(r:List V->Hp->VK->Prop)(o:List D->ak Rv):Prop:=∀k H xs ds y Q,aw k.F H->Paired (Top K k H) xs ds->o ds=some y->lI K k H y Q->r xs H Q
def gO(o:List D->ak Rv)(g:GA):GE:=λU S=>bd (g U S) λvs S1=>(wD S1 vs).bind λds=>(o ds).map λr=>.ok r S1
def lI.fin{y:Rv}{Q:VK}(ok:bX K k H S)(w:fZ (RE K) K W q Z k H Q (.ok y S)):lI K k H y Q:=λx F' H' s1 s2 s3 fr nw=>by
 refine w x ⟨F',k.A,k.T⟩ H' (.of s1 s2) (ok.new s1 (λp _ o z=>s2 p o z) s3 λp m=>fr p (ok.there p m)) ?_
 cases y with
 |v z=>
  cases z with
  |d z=>exact nw
  |_=>exact nw.elim
 |o c=>obtain⟨p,e4,e5,e6,e7⟩:=nw;exact⟨p,e4,e6,(ok.fresh e5).2,e7⟩
def vO{r:List V->Hp->VK->Prop}(bA:bY K r o){g:GA}{Q:VK}(t:tE K W q (gO o g) Z H Q):gp K W q g Z H λxs H1=>r xs H1 Q:=by
 obtain⟨k,U,S,res,ok,gk,e,w⟩:=t;refine tX.bd ok gk e w λvs S1 xs k1 H1 bH g1 r1 e1 w1 _=>?_
 obtain⟨ds,e2,e1⟩:=cA.mp e1;obtain⟨y,e3,rfl⟩:=dm.mp e1;exact bA k1 H1 xs ds y Q bH.le (Qg bH r1 e2) e3 (.fin bH w1)
section
variable{k:Kn}{x:V}{Q:VK}
def lI.rep{y:D}(h:lI K k H (.v (.d y)) Q)(le:aw k.F H)(r:ah K k [v] [y]):Q v H:=h v k.F H (aw.refl _) (aw.refl _) le (λ_ _ z=>z) r
theorem lI.flat{y:D}{v:V}(h:lI K k H (.v (.d y)) Q)(le:aw k.F H)(e:xy y=some v):Q v H:=h.rep le (.flat e .nil)
def lI.lst{ds:List D}{ws:List V}(h:lI K k H (.o (.lst ds)) Q)(le:aw k.F H)(r:ah K k ws ds){l:ag}(hn:H l=none):Q (.ref l) (upd H l (.lst ws)):=
 h _ k.F _ (aw.refl _) (s_ hn) (le.put hn) (λ_ _ z=>z) ⟨l,rfl,hn,le.free hn,ws,aJ,r⟩
def lI.aB{kvs:List (TK×D)}{es:List (TK×V×V)}{ep:Nat}(h:lI K k H (.o (.aB kvs)) Q)(le:aw k.F H)(q:es.map (·.1)=kvs.map (·.1))(r:ah K k (es.map (·.2.1)) (kvs.map (·.1.d)))(t:ah K k (es.map (·.2.2)) (kvs.map (·.2))){l:ag}(hn:H l=none):Q (.ref l) (upd H l (.dG es ep)):=
 h _ k.F _ (aw.refl _) (s_ hn) (le.put hn) (λ_ _ z=>z) ⟨l,rfl,hn,le.free hn,es,ep,aJ,q,r,t⟩
theorem lI.tup{ds:List D}{ws:List V}(h:lI K k H (.v (.d (.tup ds))) Q)(le:aw k.F H)(r:ah K k ws ds){l:ag}(hn:H l=none):Q (.ref l) (upd H l (.tup ws)):=by
 have hF:=le.free hn;refine h _ (upd k.F l (.tup ws)) _ (s_ hF) (s_ hn) (λb u z=>?_) (λp z1 z2=>by rw[c_ (show p≠l from λz=>z1 (z ▸ hn))];exact z2) (show ah K ⟨upd k.F l (.tup ws),k.A,k.T⟩ [.ref l] [.tup ds] from .tup (.inl (.inl aJ)) (r.mono ⟨s_ hF,lT _⟩) .nil)
 by_cases q:b=l
 .subst q;rw[aJ] at z ⊢;exact z
 .rw[c_ q] at z ⊢;exact le b u z
noncomputable abbrev Kn.all(k:Kn)(H:Hp):Kn:=⟨H,k.A,k.T⟩
def ah.all{vs:List V}{ds:List D}(h:ah K k vs ds)(le:aw k.F H):ah K (k.all H) vs ds:=h.mono ⟨le,lT _⟩
def Top.rep{d:D}(h:Top K k H x d)(le:aw k.F H):ah K (k.all H) [x] [d]:=by
 rcases h with h|⟨p,c,rfl,rfl,h⟩
 .exact h.all le
 .cases c with
  |lst xs=>obtain⟨ws,e,r⟩:=h;exact .lst (.inl (.inl e)) (r.all le) .nil
  |aB kvs=>obtain⟨es,ep,e,q,r,t⟩:=h;exact .aB e q (r.all le) (t.all le) .nil
def Top.flat{d:D}(h:Top K k H x d)(e:xy d=some v):x=v:=by
 rcases h with h|⟨p,c,rfl,rfl,h⟩
 .exact h.a_ e
 .cases c <;> cases e
def Top.lst{ds:List D}(h:Top K k H x (.lst ds))(le:aw k.F H):∃p ws,x=.ref p/\cM K H p ws/\ah K k ws ds:=by
 rcases h with h|⟨p,c,rfl,e,h⟩
 .obtain⟨p,ws,rfl,q,r⟩:=h.yh;exact⟨p,ws,rfl,le.MF q,r⟩
 .cases c <;> cases e;obtain⟨ws,e,r⟩:=h;exact⟨p,ws,rfl,.inl (.inl e),r⟩
def Top.tup{ds:List D}(h:Top K k H x (.tup ds))(le:aw k.F H):∃p ws,x=.ref p/\gY K H p ws/\ah K k ws ds:=by
 rcases h with h|⟨p,c,rfl,e,h⟩
 .obtain⟨p,ws,rfl,q,r⟩:=h.isTup;exact⟨p,ws,rfl,le.AM q,r⟩
 .cases c <;> cases e
def Top.aB{kvs:List (TK×D)}(h:Top K k H x (.aB kvs))(le:aw k.F H):∃p es ep,x=.ref p/\H p=some (.dG es ep)/\es.map (·.1)=kvs.map (·.1)/\ah K k (es.map (·.2.1)) (kvs.map (·.1.d))/\ah K k (es.map (·.2.2)) (kvs.map (·.2)):=by
 rcases h with h|⟨p,c,rfl,e,h⟩
 .obtain⟨p,es,ep,rfl,q,r⟩:=h.yg;exact⟨p,es,ep,rfl,le _ _ q,r⟩
 .cases c <;> cases e;obtain⟨es,ep,h⟩:=h;exact⟨p,es,ep,rfl,h⟩
end
def nD(r:R2):List V->Hp->VK->Prop:=λxs H Q=>∃x y,xs=[x,y]/\r x y H Q
def Mn(r:V->Hp->VK->Prop):List V->Hp->VK->Prop:=λxs H Q=>∃x,xs=[x]/\r x H Q
abbrev bj(f:GE):GA:=og f gN
abbrev cy(f g:GE):GA:=og f (og g gN)
def Hr{r:V->V->Hp->Prop}(h:gp K W q (cy f g) Z H λxs H1=>∃x y,xs=[x,y]/\r x y H1):tE K W q f Z H λx H1=>tE K W q g Z H1 λy H2=>r x y H2:=
 pZ (vG h) λx H1 t=>pZ (vG t) λy H2 t=>by
  obtain⟨x',y',e,q⟩:=BG t;cases e;exact q
def KS{r:V->Hp->Prop}(h:gp K W q (bj f) Z H λxs H1=>∃x,xs=[x]/\r x H1):tE K W q f Z H r:=
 pZ (vG h) λx H1 t=>by
  obtain⟨x',e,q⟩:=BG t;cases e;exact q
def e8f{op:Operator}(ho:dB X (binaryOp op) r)(ok:bY K (nD r) o)(ha:PE X a (tE K W q m9))(hb:PE X b (tE K W q fb)):PE X (.BinOp a op b pos) (tE K W q (gO o (cy m9 fb))):=(e7y ho ha hb).mono λ_ _ _ t=>Hr (vO ok t)
def e8g{op:UnaryOp}{r:V->Hp->VK->Prop}(ho:FD X (unaryOp op) r)(ok:bY K (Mn r) o)(ha:PE X a (tE K W q m9)):PE X (.UnaryOp op a pos) (tE K W q (gO o (bj m9))):=(e7z ho ha).mono λ_ _ _ t=>KS (vO ok t)
def e2w{op:CmpOp}(ho:dB X (compareOp op) r)(ok:bY K (nD r) o)(ha:PE X a (tE K W q m9))(hb:PE X b (tE K W q fb))(hm:behindInMarks op b=false):PE X (.Compare a [op] [b] pos) (tE K W q (gO o (cy m9 fb))):=(ZC ho ha hb hm).mono λ_ _ _ t=>Hr (vO ok t)
def e8h(ho:rm X r)(ok:bY K (nD r) o)(ha:PE X a (tE K W q m9))(hb:PE X b (tE K W q fb))(hs:J4 b):PE X (.Subscript a b pos) (tE K W q (gO o (cy m9 fb))):=(e8c ho ha hb hs).mono λ_ _ _ t=>Hr (vO ok t)
end
noncomputable def Rv.bool:Rv->ak Bool
 |.v (.d (.bl b))=>some b
 |_=>none
def Rv.vP{r:Rv}{b:Bool}(h:r.bool=some b):r=.v (.d (.bl b)):=by
 unfold Rv.bool at h;split at h
 .cases h;rfl
 .cases h
noncomputable def AU:D->ak Bool
 |.aI=>some false
 |.bl b=>some b
 |.int i=>some (i != 0)
 |.str y=>if y.length<=1000000 then some ((y.length:Int) != 0) else none
 |.lst xs=>some (!xs.isEmpty)
 |.tup xs=>some (!xs.isEmpty)
 |_=>none
noncomputable def gB(g:GE):GT:=λU S=>bd (g U S) λr S1=>r.bool.map λb=>.ok b S1
def cZ(g:GE):GT:=λU S=>bd (g U S) λr S1=>((wC S1 (nI r)).bind AU).map λb=>.ok b S1
noncomputable def eY(g:GT):GT:=λU S=>bd (g U S) λb S1=>some (.ok (!b) S1)
noncomputable def DI(c g h:GT):GT:=λU S=>bd (c U S) λb S1=>if b=true then g U S1 else h U S1
def iR(b:Bool):GT:=λ_ S=>some (.ok b S)
def du(g h:GT):GT:=DI g h (iR false)
def kT(g h:GT):GT:=DI g (iR true) h
noncomputable def BP(c:GT)(g h:GE):GE:=λU S=>bd (c U S) λb S1=>if b=true then g U S1 else h U S1
def tR(g h:GE):GE:=BP (gB g) h (gC (.bl false))
section
variable{X:Cx}{K:PySem.W.Frag}{W:XW}{q:Nat}{e a b:Expr}{es rest:List Expr}{f g h:GE}{fs:GA}{ft fu:GT}{pos:Pos}{Z:St}{H:Hp}
def Sq{Q:Bool->Hp->Prop}(t:tT K W q (gB f) Z H Q):tE K W q f Z H λx H1=>∃k,x=.bl k/\Q k H1:=by
 obtain⟨k,U,S,res,ok,gk,e,w⟩:=t;refine tX.bd ok gk e w λr S1 x k1 H1 bH g1 r1 e1 w1 _=>?_
 obtain⟨b,e2,rfl⟩:=dm.mp e1;cases Rv.vP e2;exact⟨b,(show ah K k1 [x] [.bl b] from r1).a_ rfl,w1.now bH rfl⟩
def ZZ{d:D}{b:Bool}(le:aw k.F H)(h:Top K k H x d)(e:AU d=some b):y6 K x H b:=by
 cases d with
 |aI=>cases h.flat rfl;cases e;rfl
 |bl b=>cases h.flat rfl;cases e;rfl
 |int i=>cases h.flat rfl;cases e;rfl
 |str y=>
  cases h.flat rfl;unfold AU at e;dsimp only at e;split at e
  .cases e;exact⟨jN (by assumption) (by decide),rfl⟩
  .cases e
 |lst xs=>
  cases e;obtain⟨p,ws,rfl,h1,h2⟩:=h.lst le;refine .inl ⟨ws,h1,?_⟩;have:=h2.length
  grind
 |tup xs=>
  cases e;obtain⟨p,ws,rfl,h1,h2⟩:=h.tup le;refine .inr (.inl ⟨ws,h1,?_⟩);have:=h2.length
  grind
 |_=>cases e
def e2x(hK:X.K=K)(he:PE X a (tE K W q f))(ht:∀whole,isTrue a X.env whole=(do let v <-whole;standAt a.pos;holding [v] (truthy v))):PT X a (tT K W q (cZ f)):=(WO he ht).mono λZ H Q t=>by
 obtain⟨k,U,S,res,ok,gk,e,w⟩:=t;refine tX.bd ok gk e w λr S1 x k1 H1 bH g1 r1 e1 w1 _=>?_
 obtain⟨b,e2,rfl⟩:=dm.mp e1;obtain⟨d,e3,e4⟩:=cA.mp e2;obtain⟨k2,u2,cJ,r2⟩:=r9 bH r1;rw[hK];exact⟨b,ZZ cJ.le (G5 cJ r2 e3) e4,(w1.up (u2 q)).now cJ rfl⟩
def Sr(h:PT X a (uD t))(m:∀Z H Q,tE K W q f Z H Q->t Z H Q):PT X a (tT K W q (gB f)):=h.mono λZ H Q q=>m Z H _ (Sq q)
def zW(h:PT X a (tT K W q ft)):PT X (.UnaryOp .Not a pos) (tT K W q (eY ft)):=(e1v h).mono λZ H Q t=>by
 obtain⟨k,U,S,res,ok,gk,e,w⟩:=t;refine tX.bd ok gk e w λb S1 x k1 H1 bH g1 r1 e1 w1 _=>?_
 cases e1;cases r1;exact w1.now bH rfl
def Hj{β' α':Type}{R':Rp α' β'}{gx gy:Gx α'}{Q':β'->Hp->Prop}(t:tX R' K W q (λU S=>bd (ft U S) λb S1=>if b=true then gx U S1 else gy U S1) Z H Q'):tT K W q ft Z H λb H1=>if b=true then tX R' K W q gx Z H1 Q' else tX R' K W q gy Z H1 Q':=by
 obtain⟨k,U,S,res,ok,gk,e,w⟩:=t;refine tX.bd ok gk e w λb S1 x k1 H1 bH g1 r1 e1 w1 _=>?_
 cases r1;cases b with
 |true=>exact ua ⟨k1,U,S1,res,bH,g1,e1,w1⟩
 |false=>exact t_ ⟨k1,U,S1,res,bH,g1,e1,w1⟩
def Ds{α β:Type}{R:Rp α β}{c:α}{b:β}{Q:β->Hp->Prop}(t:tX R K W q (λ_ S=>some (.ok c S)) Z H Q)(r:∀k H,R k H b c):Q b H:=by
 obtain⟨k,U,S,res,ok,gk,e,w⟩:=t;cases e;exact w.now ok (r k H)
def J7{c:Bool}{p p' q q':Prop}(h:if c=true then p else q)(h1:p->p')(h2:q->q'):if c=true then p' else q':=by
 cases c with
 |true=>exact h1 h
 |false=>exact h2 h
def zX(ha:PT X a (tT K W q ft))(hb:PW X (.BoolOp .And (b::rest) pos) (tT K W q fu)):PW X (.BoolOp .And (a::b::rest) pos) (tT K W q (du ft fu)):=(e1u ha hb).mono λZ H Q t=>
 pZ (Hj t) λc H1 z=>J7 z id λz=>Ds z λ_ _=>rfl
def DB(ha:PT X a (tT K W q ft))(hb:PW X (.BoolOp .Or (b::rest) pos) (tT K W q fu)):PW X (.BoolOp .Or (a::b::rest) pos) (tT K W q (kT ft fu)):=(e7w ha hb).mono λZ H Q t=>
 pZ (Hj t) λc H1 z=>J7 z (λz=>Ds z λ_ _=>rfl) id
def zR(ha:PE X a (tE K W q f))(hb:PE X (.BoolOp .And (b::rest) pos) (tE K W q g)):PE X (.BoolOp .And (a::b::rest) pos) (tE K W q (tR f g)):=(e1w ha hb).mono λZ H Q t=>
 pZ (Sq (Hj t)) λx H1 ⟨c,e,z⟩=>⟨c,e,J7 z id λz=>Ds z λ_ _=>ah.flat rfl .nil⟩
def Dy{c:Expr}(hc:PT X c (tT K W q ft))(ha:PE X a (tE K W q f))(hb:PE X b (tE K W q g)):PE X (.IfExp c a b pos) (tE K W q (BP ft f g)):=(WJ hc ha hb).mono λZ H Q t=>Hj t
end
noncomputable def qa(S:aN):Val->ak (D×aN)
 |.d x=>some (x,S)
 |.c n=>(S.s[n]?).bind λc=>match c with
  |.o b=>some (b.d,⟨S.s.set n (.z b),S.r⟩)
  |.z b=>some (b.d,S)
  |.ins _ _=>none
def rF:List Val->aN->ak (List D×aN)
 |[],S=>some ([],S)
 |v::vs,S=>(qa S v).bind λp=>(rF vs p.2).map λq=>(p.1::q.1,q.2)
section
variable{K:PySem.W.Frag}{k:Kn}{H:Hp}{S S':aN}
def GK{v:Val}{d:D}(ok:bX K k H S)(h:cT K k x v)(e:qa S v=some (d,S')):∃k',(∀q,Up q k H k' H)/\bX K k' H S'/\ah K k' [x] [d]:=by
 cases v with
 |d y=>cases e;exact⟨k,λ_=>.refl,ok,h⟩
 |c n=>
  obtain⟨p,rfl,hp⟩:=h;obtain⟨c,h1,e⟩:=cA.mp e;cases c with
  |o b=>
   cases e;obtain⟨F',fE,u,rp⟩:=ok.K8 hp h1;exact⟨_,u,fE,rp⟩
  |z b=>cases e;exact⟨k,λ_=>.refl,ok,(ok.s.at' n p _ hp h1).2⟩
  |ins C fs=>cases e
def GL{xs:List V}(ok:bX K k H S)(h:Paired (cT K k) xs vs)(e:rF vs S=some (ds,S')):∃k',(∀q,Up q k H k' H)/\bX K k' H S'/\ah K k' xs ds:=by
 induction vs generalizing xs ds k S with
 |nil=>cases e;cases h;exact⟨k,λ_=>.refl,ok,.nil⟩
 |cons v vs ih=>
  cases h with
  |cons r t=>
   obtain⟨⟨v1,S1⟩,e1,e⟩:=cA.mp e;obtain⟨⟨vs2,S2⟩,e2,e⟩:=dm.mp e;cases e;obtain⟨k1,u1,bH,r1⟩:=GK ok r e1;obtain⟨k2,u2,cJ,r2⟩:=ih bH (xm.up t (u1 0)) e2;exact⟨k2,λb=>(u1 b).trans (u2 b),cJ,.cons (r1.mono (u2 0).le) r2⟩
end
noncomputable def Mx(t:Bool)(p:List D×aN):Rs Rv:=.ok (if t=true then .v (.d (.tup p.1)) else .o (.lst p.1)) p.2
def aX(t:Bool)(g:GA):GE:=λU S=>bd (g U S) λvs S1=>if vs.length<=1000000 then(rF vs S1).map (Mx t) else none
section
variable{X:Cx}{K:PySem.W.Frag}{W:XW}{q:Nat}{es:List Expr}{fs:GA}{pos:Pos}{Z:St}{H:Hp}
def ml{n:Nat}(h:n<=1000000):n<=sizeLine:=jN h (by decide)
def Ri{t:Bool}{Q:VK}(h:tE K W q (aX t fs) Z H Q):gp K W q fs Z H λxs H1=>xs.length<=sizeLine/\∀p,H1 p=none->Q (.ref p) (upd H1 p (if t=true then .tup xs else .lst xs)):=by
 obtain⟨k,U,S,res,ok,gk,e,w⟩:=h;refine tX.bd ok gk e w λvs S1 xs k1 H1 bH g1 r1 e1 w1 _=>?_
 split at e1
 .rename_i hl
  refine⟨by rw[Paired.length r1];exact ml hl,λp hp=>?_⟩
  obtain⟨⟨ds,S2⟩,e2,e3⟩:=dm.mp e1;obtain⟨k2,u2,cJ,r2⟩:=GL bH r1 e2;have w2:=w1.up (u2 q);cases e3;cases t with
  |false=>exact lI.lst (.fin cJ w2) cJ.le r2 hp
  |true=>exact lI.tup (.fin cJ w2) cJ.le r2 hp
 .cases e1
def zT{x1}(h:PA X es (gp K W q fs)):PE X (.Tuple es x1 pos) (tE K W q (aX true fs)):=(e2m h).mono λZ H Q t=>Ri t
def zS(h:PA X es (gp K W q fs)):PE X (.List es pos) (tE K W q (aX false fs)):=(e2n h).mono λZ H Q t=>Ri t
end
variable{base:bU}{env:Env}{outer:List Env}{L e C:ag}{dx:ak ag}{n:Nat}{H:Hp}{Q:Unit->au->Prop}
structure fH (fs ch:List ag) (h h':bU):Prop where
 keep:∀b o,b∉fs->b∉ch->h.get? b=some o->h'.get? b=some o
 slot:∀b o,b∈fs->b∉ch->h.get? b=some o->∃sl,h'.get? b=some { o with slots:=sl}
def ip(n:Nat)(h:bU)(H:Hp)(e C:ag)(dx:ak ag):Prop:=n<=e/\H e=none/\∃oe vs,h.get? e=some oe/\oe.cls=.ref C/\oe.dict=dx/\oe.data=.fields vs/\1<vs.size/\
 (vs[1]?=some .none\/∃T oT ts,vs[1]?=some (.ref T)/\n<=T/\H T=none/\T≠e/\h.get? T=some oT/\oT.data=.fields ts/\ts[3]?=some .none)
def VM(f:Array ai->Array ai)(o:Obj):(Obj.mapFields f o).dict=o.dict:=by obtain⟨c,d,dt,sl⟩:=o;cases dt <;> rfl
section
variable{M:Model}{A:cQ}{E:ai->au->Prop}{s:au}
def Qh{oe:Obj}{vs:Array ai}{head:ai}{had:Bool}
  (t6:A.frames=some (env::outer)) (hl:s.heap.FunFrames base (env::outer)) (hf:env.frame=some L) (he:s.heap.get? e=some oe) (hc:oe.cls=.ref C) (hx:oe.dict=dx) (hd:oe.data=.fields vs) (hsz:1<vs.size) (hn:n<=s.heap.objs.size) (fP:n<=e) (u_:H e=none) (hH:∀a,s.heap.objs.size<=a->H a=none)
  (h:∀h',fH (kP (env::outer)) [e] s.heap h'->ip n h' H e C dx->Q () { s with heap:=h'}) :
  wpAny M A (do let a <-frameOf env;let pl <-entryPlaceOf L had;let b <-EntryCells.newEntry head a .none (rawInt L) .none pl;setField (.ref e) 1 b) (λ_ s'=>wpAny M A (setFlight (.ref e) none) Q E s') E s:=by
 have ene:e∉kP (env::outer):=λm=>by
  obtain⟨_,o,ho,Ls⟩:=hl.mem m
  simp_all
 refine ay (wpAny_frameOf_fun t6 hl hf λh1 so=>ay (wpAny_entryPlaceOf λpl ka=>?_))
 unfold EntryCells.newEntry newFields;refine ay (wpAny_newObj_type ?_ (ka.sizeOk5 _ _ _ _ _));generalize eN:({ cls:=.type "traceback",dict:=none,data:=.fields ([head,.ref L,.none,rawInt L,.none]++(if pl.isEmpty then List.replicate 6 Value.none else pl)).toArray}:Obj)=oN
 have e1:h1.get? e=some oe:=(so.2.1 e ene).trans he;have e2:(h1.push oN).get? e=some oe:=c8 _ e1;have nT:h1.objs.size≠e:=yK (cP e1);have fN:oN.data=.fields ([head,.ref L,.none,rawInt L,.none]++(if pl.isEmpty then List.replicate 6 Value.none else pl)).toArray:=by rw[<-eN]
 have lN:3<([head,.ref L,.none,rawInt L,.none]++(if pl.isEmpty then List.replicate 6 Value.none else pl)).toArray.size:=by simp only[dw,dy,lS,B9];lia
 have dE:=Obj.data_mapFields hd (·.setIfInBounds 1 (Value.ref h1.objs.size))
 have e3:=sk (Obj.mapFields (·.setIfInBounds 1 (Value.ref h1.objs.size))) e2 (Obj.isFreed_of_fields dE)
 have t3:((h1.push oN).update e (Obj.mapFields (·.setIfInBounds 1 (Value.ref h1.objs.size)))).get? h1.objs.size=some oN:=(qh _ _ (Ne.symm nT)).trans (jO h1 (Obj.isFreed_of_fields fN))
 have dT:=Obj.data_mapFields fN (·.setIfInBounds 3 ((none:ak ag).elim Value.none λf=>rawInt f))
 refine wpAny_setField e2 hd hsz ?_;unfold setFlight;refine ay (wpAny_field e3 dE (x:=.ref h1.objs.size) (by simp[hsz]) ?_)
 rw[bI (show(Value.ref h1.objs.size != Value.none)=true by simp)]
 refine wpAny_setField t3 fN lN (h _ ⟨λb o hb nP g=>?_,λb o hb nP g=>?_⟩ ⟨fP,u_,_,_,(qh _ _ nT).trans e3,(Obj.cls_mapFields _ _).trans hc,(VM _ _).trans hx,dE,by simpa using hsz,.inr ⟨h1.objs.size,_,_,by simp[hsz],by rw[so.1];exact hn,hH _ (by rw[so.1];exact bP _),nT,sk _ t3 (Obj.isFreed_of_fields dT),dT,by simp[Array.getElem?_setIfInBounds,lN]⟩⟩)
 .have be:b≠e:=λz=>nP (by simp[z])
  have b1:h1.get? b=some o:=(so.2.1 b hb).trans g;rw[qh _ _ (yK (cP b1)),qh _ _ (Ne.symm be)];exact c8 _ b1
 .have be:b≠e:=λz=>nP (by simp[z])
  obtain⟨sl,b1⟩:=so.2.2 b o g;refine⟨sl,?_⟩;rw[qh _ _ (yK (cP b1)),qh _ _ (Ne.symm be)];exact c8 _ b1
def Rj
  (t6:A.frames=some (env::outer)) (hl:s.heap.FunFrames base (env::outer)) (hf:env.frame=some L) (hn:n<=s.heap.objs.size) (hH:∀a,s.heap.objs.size<=a->H a=none) (fl:ip n s.heap H e C dx)
  (h:∀h' ch,(∀b∈ch,n<=b/\H b=none)->fH (kP (env::outer)) ch s.heap h'->ip n h' H e C dx->Q () { s with heap:=h'}):wpAny M A (noteFrame (.ref e) env) (λ_ s'=>wpAny M A (setFlight (.ref e) none) Q E s') E s:=by
 obtain⟨fP,u_,oe,vs,he,hc,hx,hd,hsz,h1⟩:=fl;unfold noteFrame;simp only[hf];rcases h1 with h1|⟨T,oT,ts,h1,HL,Hy,Hz,hT,DR,h3⟩
 .refine ay (wpAny_field he hd h1 ?_);rw[ba (by decide)]
  exact Qh t6 hl hf he hc hx hd hsz hn fP u_ hH λh' l f=>h h' [e] (λb m=>by cases lB.1 m;exact⟨fP,u_⟩) l f
 .refine ay (wpAny_field he hd h1 ?_);rw[bI (show(Value.ref T != Value.none)=true by simp)]
  refine ay (wpAny_field hT DR h3 ?_);rw[ba (show ¬(Value.none == rawInt L)=true by simp[rawInt])]
  refine ay (wpAny_setField hT DR (B_.mp h3).1 ?_);have ot:∀b,b≠T->(s.heap.update T (Obj.mapFields (·.setIfInBounds 3 Value.none))).get? b=s.heap.get? b:=λb z=>qh _ _ (Ne.symm z)
  have nr:∀b o,s.heap.get? b=some o->(∀vs,o.data≠.fields vs)->b≠T:=λb o hb Ls z=>by
   simp_all
  refine Qh (s:={ s with heap:=s.heap.update T (Obj.mapFields (·.setIfInBounds 3 Value.none))}) t6 (hl.of_keeps λb o hb Ls=>⟨o,(ot b (nr b o hb Ls)).trans hb,rfl⟩) hf ((ot e (Ne.symm Hz)).trans he) hc hx hd hsz (by simpa[Heap.size_after_update] using hn) fP u_ (λa z=>hH a (by simpa[Heap.size_after_update] using z)) λh' l f=>h h' [e,T] (λb m=>?_) ⟨λb o hb nP g=>?_,λb o hb nP g=>?_⟩ f
  .simp only[y0a,y1x,or_false] at m;rcases m with rfl|rfl
   .exact⟨fP,u_⟩
   .exact⟨HL,Hy⟩
  .simp only[y0a,y1x,or_false,not_or] at nP;exact l.keep b o hb (by simp[nP.1]) ((ot b nP.2).trans g)
  .simp only[y0a,y1x,or_false,not_or] at nP;exact l.slot b o hb (by simp[nP.1]) ((ot b nP.2).trans g)
def Z0
  (t6:A.frames=some (env::outer)) (hl:s.heap.FunFrames base (env::outer)) (hf:env.frame=some L) (hn:n<=s.heap.objs.size) (hH:∀a,s.heap.objs.size<=a->H a=none) (fl:ip n s.heap H e C dx)
  (h:∀h' ch,(∀b∈ch,n<=b/\H b=none)->fH (kP (env::outer)) ch s.heap h'->ip n h' H e C dx->Q () { s with heap:=h'}):wpAny M A (leaving env (.ref e)) Q E s:=by
 unfold leaving;exact ay (Rj t6 hl hf hn hH fl h)
end
variable{n:Nat}{h h':bU}{H:Hp}{e C:ag}{dx:ak ag}{X:Cx}{ch:List ag}{x:Str}{k:Kn}{Q:VK}
structure Fv (P:de) (w:cB) (outer:List Env) (H:Hp) (s:au) (H':Hp) (s':au) (e C:ag) (dx:ak ag):Prop where
 os:s'.os=s.os
 bare:AllBare s'.gens
 un:Un (kP outer) [] H H' s.heap s'.heap
 bA:jb P w H' s'.heap
 Hu:ip s.heap.objs.size s'.heap H' e C dx
def nU(P:de)(w:cB):uL:=λouter H s E e s'=>∃a C dx H',e=.ref a/\Fv P w outer H s H' s' a C dx/\E (.ref C) dx H'
def eL(X:Cx)(W:XW):Prop:=∀(aa:List (ag×Obj)) (Z:St) (H:Hp) (s:au) (H':Hp) (s':au) (e C:ag) (dx:ak ag),Inv X aa Z H s->Fv X.prog X.w X.stack H s H' s' e C dx->W C dx Z H'->X.xe (.ref e) s'
def ip.mono{n':Nat}(f:ip n h H e C dx)(l:n'<=n):ip n' h H e C dx:=by
 obtain⟨a,b,oe,vs,c1,c2,c3,c4,c5,c6⟩:=f;refine⟨jN l a,b,oe,vs,c1,c2,c3,c4,c5,?_⟩;rcases c6 with c6|⟨T,oT,ts,d1,d2,d3⟩
 .exact .inl c6
 .exact .inr ⟨T,oT,ts,d1,jN l d2,d3⟩
def ip.lt(f:ip n h H e C dx):n<=h.objs.size:=by
 obtain⟨a,b,oe,vs,c1,_⟩:=f;exact Ij (Nf a (cP c1))
def Fv.inv{aa:List (ag×Obj)}{Z:St}{H':Hp}{s s':au}(c:Fv X.prog X.w X.stack H s H' s' e C dx)(I:Inv X aa Z H s):Inv X aa Z H' s':=
 I.xG (ch:=[]) c.os c.un c.bA c.bare λ_ z=>nomatch z
def fH.bA{P:de}{w:cB}{fs:List ag}(l:fH fs ch h h')(k:jb P w H h)(hf:∀b∈fs,H b=none)(hc:∀b∈ch,H b=none):jb P w H h':=λb o q=>
 (k b o q).jo (λc u z g=>l.keep c u (λm=>by
  simp_all) (λm=>by
  simp_all) g) (λ_ z=>z) λ_ _ z=>z
def fH.any{fs:List ag}(l:fH fs ch h h'){b:ag}{o:Obj}(g:h.get? b=some o)(hc:b∉ch):∃sl,h'.get? b=some { o with slots:=sl}:=by
 by_cases m:b∈fs
 .exact l.slot b o m hc g
 .exact⟨o.slots,l.keep b o m hc g⟩
def WF(E:XK):XW:=λC dx _ H'=>E (.ref C) dx H'
section
variable{P:de}{w:cB}{K:PySem.W.Frag}{mg:Str->ak ai}{base:bU}{N:List Str}{qual:Str}{scope:Scope}{f:ag}{cd:ai}{A:cQ}{outer:List Env}{s₀:au}{H₀:Hp}{E:XK}
def wu:eL (m8 (nU P w) P w K mg base N qual scope f cd A outer s₀ H₀ E) (WF E):=by
 intro aa Z H s H' s' e C dx I c q;have I':=c.inv I;have t6:(A.deeper (envOfC qual scope s₀.heap.objs.size f cd)).frames=some (envOfC qual scope s₀.heap.objs.size f cd::outer):=I.ok.frames;have sz:s₀.heap.objs.size<=s.heap.objs.size:=I.sz;refine Z0 (base:=base) (L:=s₀.heap.objs.size) t6 I'.stack rfl c.Hu.lt (λa z=>I'.bA.fresh z) c.Hu λh' ch lz lx fl=>⟨e,C,dx,H',rfl,⟨I'.os,I'.bare,?_,lx.bA I'.bA I'.kh λb m=>(lz b m).2,fl.mono sz⟩,q⟩
 have wj:∀b o,s₀.heap.get? b=some o->b∉ch:=λb o g m=>cC (fU (cP g) (jN sz (lz b m).1)) (j5 _)
 have nL:∀b o,s₀.heap.get? b=some o->b∉kP outer->b∉kP (envOfC qual scope s₀.heap.objs.size f cd::outer):=λb o g z m=>by
  rcases y0a.mp (show b∈s₀.heap.objs.size::kP outer from m) with m|m
  .exact cC (m ▸ cP g) (j5 _)
  .exact z m
 have B:Un (kP outer) [] H₀ H' s₀.heap s'.heap:=I'.base;refine⟨λb o g n hb hx=>lx.keep b o (nL b o g hb) (wj b o g) (B.keep b o g n hb hx),λb o g n hb hx=>?_,B.free,λb o g hx=>?_,B.lR,B.kQ,B.nJ⟩
 .obtain⟨sl,g1⟩:=B.slot b o g n hb hx;obtain⟨Mz,g2⟩:=lx.any g1 (wj b o g);exact⟨Mz,g2⟩
 .obtain⟨o',g1⟩:=B.there b o g hx;obtain⟨sl,g2⟩:=lx.any g1 (wj b o g);exact⟨_,g2⟩
def EB:PassesOwn (model P w) (A.deeper (envOfC qual scope s₀.heap.objs.size f cd)) (envOfC qual scope s₀.heap.objs.size f cd) (m8 (nU P w) P w K mg base N qual scope f cd A outer s₀ H₀ E).xe:=PassesOwn.leaving
end
def EW(W:XW):St->XK:=λZ c dx H'=>∃C,c=.ref C/\W C dx Z H'
def qN{W:XW}(h:eL X W):zC (nU X.prog X.w) X (EW W):=λaa Z H s e s' I ⟨a,C,dx,H',he,c,C',hc,q⟩=>by
 cases hc;subst he;exact h aa Z H s H' s' a C dx I c q
abbrev GM:=List Val->aN->ak (Rs Rv)
def uN(K:PySem.W.Frag)(q n:Nat)(m:GM):Sp:=λxs H Q E=>xs.length=n/\∃k vs S res,bX K k H S/\Paired (cT K k) xs vs/\m vs S=some res/\fZ (RE K) K (WF E) q [] k H Q res
def jr(m:GM)(n:Nat):Prop:=∀vs S res,m vs S=some res->vs.length=n
def ar(m:GM)(g:GA):GE:=λU S=>bd (g U S) m
noncomputable def Rv.ref:Rv->ak Nat
 |.v (.d (.ref n))=>some n
 |_=>none
def Cell.kc(C:ag)(m:Str):Cell->Bool
 |.ins C' fs=>C' == C&&(fs.lookup m).isNone
 |_=>false
noncomputable def aM(C:ag)(x:Str)(m:GM)(f:GE)(g:GA):GE:=λU S=>bd (f U S) λr S1=>r.ref.bind λn=>if(S1.r[n]?).any (Cell.kc C x)=true then bd (g U S1) λvs S2=>m (.d (.ref n)::vs) S2 else none
noncomputable def Rv.yi:Rv->Bool
 |.v (.d .aI)=>true
 |_=>false
noncomputable def tU(C:ag)(m:GM)(g:GA):GE:=λU S=>bd (g U S) λvs S1=>bd (m (.d (.ref S1.r.length)::vs) ⟨S1.s,S1.r++[.ins C []]⟩) λr S2=>if r.yi=true then some (.ok (.v (.d (.ref S1.r.length))) S2) else none
def any_some{α:Type}{x:ak α}{p:α->Bool}(h:x.any p=true):∃c,x=some c/\p c=true:=by
 cases x with
 |none=>cases h
 |some c=>exact⟨c,rfl,h⟩
def Rv.nE{r:Rv}(h:r.ref=some n):r=.v (.d (.ref n)):=by
 unfold Rv.ref at h;split at h
 .cases h;rfl
 .cases h
def VN{fs:List (Str×D)}{gs:List (Str×V)}(h:gs.map (·.1)=fs.map (·.1))(e:fs.lookup x=none):gs.lookup x=none:=by
 induction fs generalizing gs with
 |nil=>cases gs with
  |nil=>rfl
  |cons _ _=>cases h
 |cons p fs ih=>
  obtain⟨y,d⟩:=p;cases gs with
  |nil=>cases h
  |cons r gs=>
   grind
section
variable{X:Cx}{K:PySem.W.Frag}{W:XW}{Z:St}{H:Hp}{q n:Nat}{m:GM}{g:GA}{f:GE}
def fZ.wf{res:Rs Rv}(w:fZ (RE K) K W q Z k H Q res):fZ (RE K) K (WF (EW W Z)) q [] k H Q res:=by
 cases res with
 |ok a S=>exact w
 |ex C l S=>exact λdx k' H' u k r=>⟨C,rfl,w dx k' H' u k r⟩
def Z4(hm:jr m n)(t:tE K W q (ar m g) Z H Q):gp K W q g Z H λxs H1=>uN K q n m (xs++[]) H1 Q (EW W Z):=by
 obtain⟨k,U,S,res,ok,gk,e,w⟩:=t;refine tX.bd ok gk e w λvs S1 xs k1 H1 bH g1 r1 e1 w1 _=>?_
 rw[mO];exact⟨(Paired.length r1).trans (hm _ _ _ e1),k1,vs,S1,res,bH,r1,e1,w1.wf⟩
def Dc{S:aN}{fs:List (Str×D)}{x:V}(ok:bX K k H S)(r:ah K k [x] [.ref n])(hn:S.r[n]?=some (.ins C fs)):∃a dx gs,x=.ref a/\k.A[n]?=some a/\k.F a=none/\H a=some (.ins C dx gs)/\gs.map (·.1)=fs.map (·.1)/\ah K k (gs.map (·.2)) (fs.map (·.2)):=by
 obtain⟨a,rfl,h1⟩:=r.isRef;obtain⟨h0,dx,gs,h2,h3,h4⟩:=ok.r.at' n a _ h1 hn;exact⟨a,dx,gs,rfl,h1,h0,h2,h3,h4⟩
def Qi(hm:jr m n)(t:tE K W q (aM C x m f g) Z H Q):uC C x (uN K q n m) [] (EW W) (tE K W q f) (gp K W q g) Z H Q:=by
 obtain⟨k,U,S,res,ok,gk,e,w⟩:=t;refine tX.bd ok gk e w λr S1 y k1 H1 bH g1 r1 e1 w1 _=>?_
 obtain⟨j,e2,e3⟩:=cA.mp e1;clear e1;cases Rv.nE e2;split at e3
 .rename_i hi
  obtain⟨c,h1,h2⟩:=any_some hi;cases c with
  |ins C' fs=>
   obtain⟨h3,h4⟩:=B'.mp h2;cases(beq_iff_eq.mp h3);obtain⟨a,dx,gs,q1,q2,q3,q4,q5,q6⟩:=Dc bH r1 h1;refine⟨a,dx,gs,q1,q4,VN q5 (Option.isNone_iff_eq_none.mp h4),?_⟩;refine tX.bd bH g1 e3 w1 λvs S2 xs k2 H2 cJ g2 r2 e2 w2 u2=>?_
   rw[mO];have r3:Paired (cT K k2) (y::xs) (.d (.ref j)::vs):=.cons (cT.up (v:=.d (.ref j)) r1 u2) r2;exact⟨(Paired.length r3).trans (hm _ _ _ e2),k2,_,S2,res,cJ,r3,e2,w2.wf⟩
  |_=>cases h2
 .cases e3
def Z5(hm:jr m n)(t:tE K W q (tU C m g) Z H Q):yH C (uN K q n m) [] (EW W) (gp K W q g) Z H Q:=by
 obtain⟨k,U,S,res,ok,gk,e,w⟩:=t;refine tX.bd ok gk e w λvs S1 xs k1 H1 bH g1 r1 e1 w1 _=>?_
 intro x dx hx hdx ne;rw[mO];have sm:aw H1 (upd (upd H1 dx (.own x)) x (.ins C dx [])):=(s_ hdx).put (by rw[c_ (Ne.symm ne)];exact hx)
 obtain⟨fx,nx⟩:=bH.fresh hx;have cJ:bX K k1 _ S1:=bH.new (aw.refl _) (λa _ o z=>sm a o z) (bH.le.trans sm) λ_ _ z=>z
 obtain⟨jY,u3⟩:=cJ.yv nx (c:=.ins C []) ⟨fx,dx,[],aJ,rfl,.nil⟩;have h3:ah K ⟨k1.F,k1.A++[x],k1.T⟩ [.ref x] [.ref S1.r.length]:=.ref (by rw[<-bH.r.ln];exact GI) .nil
 have u4:Up q k1 H1 ⟨k1.F,k1.A++[x],k1.T⟩ (upd (upd H1 dx (.own x)) x (.ins C dx [])):=(Up.of (aw.refl _) sm).trans (u3 q);have r3:Paired (cT K ⟨k1.F,k1.A++[x],k1.T⟩) (.ref x::xs) (.d (.ref S1.r.length)::vs):=.cons h3 (xm.up r1 u4);rcases BF e1 with⟨r,S2,e2,e1⟩|⟨C',l,S2,e2,rfl⟩
 .refine⟨(Paired.length r3).trans (hm _ _ _ e2),_,_,_,_,jY,r3,e2,λv k' H' u fE r'=>?_⟩
  split at e1
  .rename_i hr
   cases e1;unfold Rv.yi at hr;split at hr
   .exact⟨(show ah K k' [v] [.aI] from r').a_ rfl,w1 (.ref x) k' H' (u4.trans u) fE (ah.mono u.le h3)⟩
   .cases hr
  .cases e1
 .exact⟨(Paired.length r3).trans (hm _ _ _ e2),_,_,_,_,jY,r3,e2,λex k' H' u fE r'=>⟨C',rfl,w1 ex k' H' (u4.trans u) fE r'⟩⟩
end
end L2
set_option autoImplicit false
namespace L2
open PySem PySem.Spec PyProof.Rows
variable{p i:Nat}{P:St->Hp->Prop}{H:Hp}{Z:St}{ts:uO}
inductive Fr where
 |nx (U:Gm) (S:aN)|bk (U:Gm) (S:aN)|ct (U:Gm) (S:aN)|rt (r:Rv) (S:aN)|ex (C:ag) (l:ak Int) (U:Gm) (S:aN)
abbrev GS:=Gm->aN->ak Fr
section
variable(K:PySem.W.Frag)(W:XW)(q:Nat){D:Ends}{k k':Kn}{H H':Hp}{Z:St}{U:Gm}{S:aN}{fr:Fr}
def bW(k:Kn)(H:Hp)(P:St->Hp->Prop)(U:Gm)(S:aN):Prop:=∀Z' k' H',Up q k H k' H'->bX K k' H' S->gu K k' Z' U->P Z' H'
def Done(D:Ends)(k:Kn)(H:Hp):Fr->Prop
 |.nx U S=>bW K q k H D.nx U S
 |.bk U S=>bW K q k H D.bk U S
 |.ct U S=>bW K q k H D.ct U S
 |.rt r S=>∀v k' H',Up q k H k' H'->bX K k' H' S->pW K k' H' v r->D.rt v H'
 |.ex C l U S=>∀dx Z' k' H',Up q k H k' H'->bX K k' H' S->gu K k' Z' U->Cf k'.F dx l->W C dx Z' H'
def tS(f:GS):TS:=λD Z H=>∃k U S fr,bX K k H S/\gu K k Z U/\f U S=some fr/\Done K W q D k H fr
variable{K W q}
def JK{q:Nat}{o:HO}(h:p<=q)(e:we p o=true):we q o=true:=by
 match p,q with
 |0,_=>cases e
 |1,0=>lia
 |1,1=>exact e
 |1,n+2=>rfl
 |n+2,0=>lia
 |n+2,1=>lia
 |n+2,m+2=>rfl
def Up.weak(u:Up q k H k' H')(h:p<=q):Up p k H k' H':=⟨u.f,u.a,u.t,λa o z e=>u.h a o (JK h z) e⟩
def bW.up(w:bW K q k H P U S)(u:Up q k H k' H'):bW K q k' H' P U S:=λZ' k2 H2 u2 ok g=>w Z' k2 H2 (u.trans u2) ok g
def bW.now(w:bW K q k H P U S)(ok:bX K k H S)(g:gu K k Z U):P Z H:=w Z k H .refl ok g
theorem Done.up(w:Done K W q D k H fr)(u:Up q k H k' H'):Done K W q D k' H' fr:=by
 cases fr with
 |nx U S=>exact bW.up w u
 |bk U S=>exact bW.up w u
 |ct U S=>exact bW.up w u
 |rt r S=>exact λv k2 H2 u2 k r=>w v k2 H2 (u.trans u2) k r
 |ex C l U S=>exact λdx Z' k2 H2 u2 k g r=>w dx Z' k2 H2 (u.trans u2) k g r
theorem Done.weak{p:Nat}(w:Done K W q D k H fr)(h:q<=p):Done K W p D k H fr:=by
 cases fr with
 |nx U S=>exact λZ' k2 H2 u=>w Z' k2 H2 (u.weak h)
 |bk U S=>exact λZ' k2 H2 u=>w Z' k2 H2 (u.weak h)
 |ct U S=>exact λZ' k2 H2 u=>w Z' k2 H2 (u.weak h)
 |rt r S=>exact λv k2 H2 u=>w v k2 H2 (u.weak h)
 |ex C l U S=>exact λdx Z' k2 H2 u=>w dx Z' k2 H2 (u.weak h)
def lr{α:Type}(U:Gm)(x:ak (Rs α))(f:α->aN->ak Fr):ak Fr:=match x with
 |none=>none
 |some (.ok a S)=>f a S
 |some (.ex C l S)=>some (.ex C l U S)
def tS.Dp{α β:Type}{R:Rp α β}{g:Gx α}{f:α->aN->ak Fr}{Q:β->Hp->Prop}(ok:bX K k H S)(gk:gu K k Z U)(e:lr U (g U S) f=some fr)(w:Done K W q D k H fr)
  (h:∀a S1 b k1 H1,bX K k1 H1 S1->gu K k1 Z U->R k1 H1 b a->f a S1=some fr->Done K W q D k1 H1 fr->Up q k H k1 H1->Q b H1):tX R K W q g Z H Q:=by
 unfold lr at e;split at e
 .cases e
 .rename_i a S1 e1
  exact⟨k,U,S,_,ok,gk,e1,λb k' H' u fE r=>h a S1 b k' H' fE (gk.up u) r e (w.up u) u⟩
 .rename_i C l S1 e1
  cases e;exact⟨k,U,S,_,ok,gk,e1,λdx k' H' u fE r=>w dx Z k' H' u fE (gk.up u) r⟩
def tS.bd{α β:Type}{R:Rp α β}{g:Gx α}{f:α->aN->ak Fr}{Q:β->Hp->Prop}(ok:bX K k H S)(gk:gu K k Z U)(e:lr U (g U S) f=some fr)(w:Done K W q D k H fr)
  (h:∀a S1 b k1 H1,bX K k1 H1 S1->gu K k1 Z U->R k1 H1 b a->f a S1=some fr->Done K W q D k1 H1 fr->Q b H1):tX R K W q g Z H Q:=tS.Dp ok gk e w λa S1 b k1 H1 h1 h2 h3 h4 h5 _=>h a S1 b k1 H1 h1 h2 h3 h4 h5
end
def o_:GS:=λU S=>some (.nx U S)
noncomputable def dP(f g:GS):GS:=λU S=>(f U S).bind λr=>match r with
 |.nx U S=>g U S
 |r=>some r
def aG(g:GE):GS:=λU S=>lr U (g U S) λr S1=>some (.rt r S1)
noncomputable def gh(c:GT)(f g:GS):GS:=λU S=>lr U (c U S) λb S1=>if b=true then f U S1 else g U S1
def cW(g:GE):GS:=λU S=>lr U (g U S) λ_ S1=>some (.nx U S1)
def asg(mu:Bool)(S:aN):Rv->Val×aN
 |.o c=>if mu=true then(.c S.s.length,⟨S.s++[.o c],S.r⟩) else(.d c.d,S)
 |.v x=>(x,S)
def av(i:Nat)(mu:Bool)(g:GE):GS:=λU S=>lr U (g U S) λr S1=>if i<U.length then some (.nx (U.set i (some (asg mu S1 r).1)) (asg mu S1 r).2) else none
section
variable{X:Cx}{K:PySem.W.Frag}{W:XW}{q:Nat}{st:Stmt}{rest sa sb:List Stmt}{e c:Expr}{f g:GS}{m9:GE}{ft:GT}{pos:Pos}
def zU:je X [] (tS K W q o_):=qO.mono λD Z H t=>by
 obtain⟨k,U,S,fr,ok,gk,e,w⟩:=t;cases e;exact bW.now w ok gk
def vU(h1:PS X st (tS K W q f))(h2:je X rest (tS K W q g)):je X (st::rest) (tS K W q (dP f g)):=(WK h1 h2).mono λD Z H t=>by
 obtain⟨k,U,S,fr,ok,gk,e,w⟩:=t;obtain⟨r,e1,e⟩:=cA.mp e;refine⟨k,U,S,r,ok,gk,e1,?_⟩;cases r with
 |nx U1 S1=>exact λZ' k' H' u fE g'=>⟨k',U1,S1,fr,fE,g',e,w.up u⟩
 |bk U1 S1=>cases e;exact w
 |ct U1 S1=>cases e;exact w
 |rt r S1=>cases e;exact w
 |ex C l U1 S1=>cases e;exact w
def zV(h:PE X e (tE K W q m9)):PS X (.Return (some e) pos) (tS K W q (aG m9)):=(e1x h).mono λD Z H t=>by
 obtain⟨k,U,S,fr,ok,gk,e,w⟩:=t;refine tS.bd ok gk e w λr S1 v k1 H1 bH g1 r1 e1 w1=>?_
 cases e1;exact w1 v k1 H1 .refl bH r1
def Dz(hc:PT X c (tT K W q ft))(ha:je X sa (tS K W q f))(hb:je X sb (tS K W q g)):PS X (.If c sa sb pos) (tS K W q (gh ft f g)):=(e7x hc ha hb).mono λD Z H t=>by
 obtain⟨k,U,S,fr,ok,gk,e,w⟩:=t;refine tS.bd ok gk e w λb S1 v k1 H1 bH g1 r1 e1 w1=>?_
 cases r1;cases b with
 |true=>exact ua ⟨k1,U,S1,fr,bH,g1,e1,w1⟩
 |false=>exact t_ ⟨k1,U,S1,fr,bH,g1,e1,w1⟩
def Z8(he:PE X e (tE K W q m9))(hs:swapsWith e none pos.line X.env=pure false):PS X (.Expr e pos) (tS K W q (cW m9)):=(Zw he hs).mono λD Z H t=>by
 obtain⟨k,U,S,fr,ok,gk,e,w⟩:=t;refine tS.bd ok gk e w λr S1 v k1 H1 bH g1 r1 e1 w1=>?_
 cases e1;exact bW.now w1 bH g1
def e2y{mu:Bool}{k:Kn}{S:aN}{x:V}{r:Rv}(ok:bX K k H S)(h:pW K k H x r):∃k',(∀q,Up q k H k' H)/\bX K k' H (asg mu S r).2/\cT K k' x (asg mu S r).1:=by
 cases r with
 |v y=>exact r9 ok h
 |o c=>
  cases mu with
  |false=>exact r9 (r:=.o c) ok h
  |true=>
   obtain⟨p,rfl,hF,hi,hc⟩:=h;obtain⟨bH,u⟩:=ok.pushS hF hi hc;exact⟨_,u,bH,p,rfl,by rw[<-ok.s.ln];exact GI⟩
def gu.set{k:Kn}{Z:St}{U:Gm}{i:Nat}{x:V}{v:Val}(g:gu K k Z U)(r:cT K k x v)(hi:i<U.length):gu K k (Z.set i (some x)) (U.set i (some v)):=by
 refine⟨by rw[sr,sr,g.ln],λj w e=>?_⟩
 by_cases z:i=j
 .subst z;rw[w9 hi] at e;cases e;exact⟨x,w9 (g.ln ▸ hi),r⟩
 .rw[B6 z] at e ⊢;exact g.at' j w e
def Rk{mu:Bool}{D:Ends}(t:tS K W q (av i mu m9) D Z H):tE K W q m9 Z H λv H1=>D.nx (Z.set i (some v)) H1:=by
 obtain⟨k,U,S,fr,ok,gk,e,w⟩:=t;refine tS.bd ok gk e w λr S1 v k1 H1 bH g1 r1 e1 w1=>?_
 split at e1
 .cases e1;obtain⟨k2,u,cJ,r2⟩:=e2y (mu:=mu) bH r1;exact bW.now (bW.up w1 (u q)) cJ ((g1.up (u q)).set r2 (by assumption))
 .cases e1
def e2z{mu:Bool}{x:Str}{pos':Pos}(hN:X.N.Nodup)(hi:X.N[i]?=some x)(hx:Loc X.env.scope x)(he:PE X e (tE K W q m9))(hs:swapsWith e (some (.Name x pos')) pos.line X.env=pure false)(hf:X.fn x=true\/X.env.scope.names.lookup x=some .local):
  PS X (.Assign [.Name x pos'] e pos) (tS K W q (av i mu m9)):=(e2b hN hi hx he hs hf).mono λD Z H t=>Rk t
def cS(c:GT)(f:GS):Nat->GS
 |0=>λ_ _=>none
 |n+1=>λU S=>lr U (c U S) λb S1=>if b=true then(f U S1).bind λr=>match r with
   |.nx U2 S2=>cS c f n U2 S2
   |.ct U2 S2=>cS c f n U2 S2
   |.bk U2 S2=>some (.nx U2 S2)
   |r=>some r
  else some (.nx U S1)
def tK(n:Nat)(hp:PassesOwn (model X.prog X.w) X.A X.env X.xe)(hc:PT X c (tT K W q ft))(hb:je X sa (tS K W q f)):PS X (.While c sa [] pos) (tS K W q (cS ft f n)):=(WL hp hc hb).mono λD Z H t=>by
 obtain⟨k,U,S,fr,ok,gk,e,w⟩:=t;refine⟨λn Z H=>∃k U S,bX K k H S/\gu K k Z U/\cS ft f n U S=some fr/\Done K W q D k H fr,⟨n,k,U,S,ok,gk,e,w⟩,?_⟩
 clear ok gk e w;rintro n Z H ⟨k,U,S,ok,gk,e,w⟩;cases n with
 |zero=>cases e
 |succ n=>
  refine tS.bd ok gk e w λb S1 v k1 H1 bH g1 r1 e1 w1=>?_
  cases r1;cases b with
  |false=>cases e1;exact t_ (bW.now w1 bH g1)
  |true=>
   refine ua ⟨λZ' H'=>∃k U S,bX K k H' S/\gu K k Z' U/\cS ft f n U S=some fr/\Done K W q D k H' fr,λZ' H' h=>⟨n,w_ _,h⟩,?_⟩
   obtain⟨r,e2,e3⟩:=cA.mp (show((f U S1).bind _)=some fr from e1);refine⟨k1,U,S1,r,bH,g1,e2,?_⟩;cases r with
   |nx U2 S2=>exact λZ' k' H' u fE g'=>⟨k',U2,S2,fE,g',e3,w1.up u⟩
   |ct U2 S2=>exact λZ' k' H' u fE g'=>⟨k',U2,S2,fE,g',e3,w1.up u⟩
   |bk U2 S2=>cases e3;exact w1
   |rt r S2=>cases e3;exact w1
   |ex C l U2 S2=>cases e3;exact w1
end
abbrev GG:=D->Gm->ak Gm
variable{gs:List GG}
noncomputable def af(i:Nat):GG:=λd U=>if i<U.length then some (U.set i (some (.d d))) else none
noncomputable def qF:List GG->List D->Gm->ak Gm
 |[],[],U=>some U
 |g::gs,d::ds,U=>(g d U).bind λU1=>qF gs ds U1
 |_,_,_=>none
def bD(gs:List GG):GG:=λd U=>match d with
 |.tup ds=>qF gs ds U
 |_=>none
section
variable{K:PySem.W.Frag}
def kq(K:PySem.W.Frag)(t:TG)(g:GG):Prop:=
 ∀(k:Kn) (H:Hp) (Z:St) (U U1:Gm) (x:V) (d:D) (Q:St->Hp->Prop),aw k.F H->gu K k Z U->ah K k [x] [d]->g d U=some U1->(∀Z',gu K k Z' U1->Q Z' H)->t x Z H Q
def qo(K:PySem.W.Frag)(t:uO)(gs:List GG):Prop:=
 ∀(k:Kn) (H:Hp) (Z:St) (U U1:Gm) (xs:List V) (ds:List D) (Q:St->Hp->Prop),aw k.F H->gu K k Z U->ah K k xs ds->qF gs ds U=some U1->(∀Z',gu K k Z' U1->Q Z' H)->t xs Z H Q
def wI:kq K (qD i) (af i):=by
 intro k H Z U U1 x v Q le gk r e w;unfold af at e;split at e
 .cases e;exact w _ (gk.set (v:=.d v) r (by assumption))
 .cases e
def wK:qo K DG []:=by
 intro k H Z U U1 xs vs Q le gk r e w;cases vs with
 |nil=>cases e;exact⟨r.fT,w Z gk⟩
 |cons _ _=>cases e
def uE{t:TG}{g:GG}(h1:kq K t g)(h2:qo K ts gs):qo K (xY t ts) (g::gs):=by
 intro k H Z U U1 xs vs Q le gk r e w;cases vs with
 |nil=>cases e
 |cons d ds=>
  obtain⟨U2,e1,e2⟩:=cA.mp e;obtain⟨x,xs,rfl,r1,r2⟩:=r.b_;exact⟨_,_,rfl,h1 k H Z U U2 _ _ _ le gk r1 e1 λZ1 g1=>h2 k H Z1 U2 U1 _ _ Q le g1 r2 e2 w⟩
def VO:∀{gs:List GG} {vs:List D} {U U1:Gm},qF gs vs U=some U1->vs.length=gs.length:=by
 intro gs
 induction gs with
 |nil=>intro vs U U1 e;cases vs with
  |nil=>rfl
  |cons _ _=>cases e
 |cons g gs ih=>intro vs U U1 e;cases vs with
  |nil=>cases e
  |cons v vs=>obtain⟨U2,_,e2⟩:=cA.mp e;exact congrArg (·+1) (ih e2)
def AS{n:Nat}(h:qo K ts gs)(hn:n=gs.length):kq K (zZ K n ts) (bD gs):=by
 intro k H Z U U1 x d Q le gk r e w;cases d with
 |tup es=>
  obtain⟨a,ws,rfl,sq,rp⟩:=r.isTup;exact⟨a,ws,rfl,le.AM sq,by rw[hn,<-VO e,rp.length],h k H Z U U1 _ _ Q le gk rp e w⟩
 |_=>cases e
end
def gD(g:GE):Gx D:=λU S=>bd (g U S) λr S1=>(qa S1 (nI r)).map λp=>.ok p.1 p.2
abbrev RD(K:PySem.W.Frag):Rp D V:=λk _ x d=>ah K k [x] [d]
section
variable{X:Cx}{K:PySem.W.Frag}{W:XW}{q:Nat}{g:GE}{gg:GG}{t:TG}{e tg:Expr}{pos:Pos}
def MR{Q:VK}(t:tX (RD K) K W q (gD g) Z H Q):tE K W q g Z H Q:=by
 obtain⟨k,U,S,res,ok,gk,e,w⟩:=t;refine tX.bd ok gk e w λr S1 x k1 H1 bH g1 r1 e1 w1 _=>?_
 obtain⟨p,e2,rfl⟩:=dm.mp e1;obtain⟨k2,u2,cJ,r2⟩:=r9 bH r1;obtain⟨k3,u3,jY,r3⟩:=GK cJ r2 e2;exact((w1.up (u2 q)).up (u3 q)).now jY r3
end
variable{N:List Str}{n p:Nat}{m:GS}
def aN.cut(S:aN)(b:Nat):aN:=⟨S.s.take b,S.r⟩
def Dm:Cell->ak Rv
 |.o x=>some (.o x)
 |.z x=>some (.v (.d x.d))
 |_=>none
def back(b:Nat)(S:aN):Rv->ak Rv
 |.v (.c n)=>if n<b then some (.v (.c n)) else(S.s[n]?).bind Dm
 |r=>some r
def leave(b:Nat):Fr->ak (Rs Rv)
 |.nx _ S=>some (.ok (.v (.d .aI)) (S.cut b))
 |.rt r S=>(back b S r).map λr'=>.ok r' (S.cut b)
 |.ex C l _ S=>some (.ex C l (S.cut b))
 |_=>none
def runM(p n:Nat)(m:GS):GM:=λvs S=>if vs.length=p then(m (vs.map some++List.replicate (n - vs.length) none) S).bind (leave S.s.length) else none
section
variable{K:PySem.W.Frag}{k k':Kn}{H H':Hp}{S:aN}{q b:Nat}
def Z9{v:V}{r r':Rv}(ok:bX K k H S)(h:pW K k H v r)(e:back b S r=some r'):pW K ⟨k.F,k.A,k.T.take b⟩ H v r':=by
 have go:k.le ⟨k.F,k.A,k.T.take b⟩:=⟨aw.refl _,lT _⟩;cases r with
 |o c=>
  cases e;obtain⟨a,e1,e2,e3,e4⟩:=h;exact⟨a,e1,e2,λm=>e3 ((dN.mp m).elim (Fo _) λm=>pJ _ (List.mem_of_mem_take m)),e4.keep go λ_ z=>z⟩
 |v x=>
  cases x with
  |d y=>cases e;exact ah.mono go h
  |c n=>
   obtain⟨a,e1,e2⟩:=h;unfold back at e;dsimp only at e;split at e
   .rename_i hn
    cases e;exact⟨a,e1,by rw[List.getElem?_take,bI hn];exact e2⟩
   .rename_i hn
    obtain⟨c,h1,h2⟩:=cA.mp e;have h3:=ok.s.at' n a c e2 h1;cases c with
    |ins _ _=>cases h2
    |z x=>cases h2;rw[e1];exact ah.mono go h3.2
    |o x=>
     cases h2;obtain⟨n1,n2,n3⟩:=nR.mp ok.nd;refine⟨a,e1,h3.1,λm=>?_,h3.2.keep go λ_ z=>z⟩
     rcases dN.mp m with m|m
     .exact n3 a m a (uH e2) rfl
     .obtain⟨j,hj⟩:=AZ.mp m;rw[List.getElem?_take] at hj;split at hj
      .rename_i HH
       have:=Pa n2 hj e2;lia
      .cases hj
def VP{xs:List V}{vs:List Val}(h:Paired (cT K k) xs vs)(hn:N.length=n):gu K k (start N xs) (vs.map some++List.replicate (n - vs.length) none):=by
 have hl:=Paired.length h;refine⟨by unfold start;simp[hl,hn],λi v e=>?_⟩
 by_cases hi:i<vs.length
 .rw[xg (by rw[bw];exact hi),gP] at e
  obtain⟨w,e1,e2⟩:=dm.mp e;cases e2;obtain⟨x,h1,h2⟩:=F_ i h e1;refine⟨x,?_,h2⟩;unfold start;rw[xg (by rw[bw,hl];exact hi),gP,h1]
  rfl
 .rw[vk (by rw[bw];lia),Na] at e
  split at e <;> cases e
end
section
variable{P:de}{w:cB}{K:PySem.W.Frag}{mg:Str->ak ai}{base:bU}
def e3a{x qual:Str}{st:Stmt}{f:ag}{fd:bQ}{ps:List Str}{k q:Nat}(F:Fun K x qual st f fd)(S:iq N ps (rX st))(hp:ps.length=p)(hn:N.length=n)
  (tY:∀(gd:ai) (A:cQ) (outer:List Env) (s:au) (H:Hp) (E:XK),cv k (A.deeper (envOfC qual (rX st) s.heap.objs.size f gd))->je (m8 (nU P w) P w K mg base N qual (rX st) f gd A outer s H E) (zq st) (tS K (WF E) q m)) :
  dA P w K mg base (nU P w) (k+1) f fd ps (uN K q p (runM p n m)):=by
 obtain⟨oc,od,kV,doc,pm,an,gd,ct,vi,rfl,lk,rH⟩:=F.ex;refine e8b lk rH S (λvs H Q E h=>h.1.trans hp.symm) λA outer s H xs Q E hr x9=>⟨_,tY gd A outer s H E hr,?_⟩
 obtain⟨hl,k,vs,S,res,ok,rp,e,w⟩:=x9;unfold runM at e;split at e
 .obtain⟨fr,e1,e2⟩:=cA.mp e;refine⟨k,_,S,fr,ok,VP rp hn,e1,?_⟩;have lb:k.T.length<=S.s.length:=Fq ok.s.ln;cases fr with
  |nx U S'=>
   cases e2;exact λZ' k' H' u fE g'=>w .aI _ H' (u.take lb) (fE.take _) (show ah K _ [.aI] [.aI] from .flat rfl .nil)
  |bk U S'=>cases e2
  |ct U S'=>cases e2
  |rt r S'=>
   obtain⟨r',e3,rfl⟩:=dm.mp e2;exact λv k' H' u fE r1=>w v _ H' (u.take lb) (fE.take _) (Z9 fE r1 e3)
  |ex C l U S'=>
   cases e2;exact λdx Z' k' H' u fE g' el=>w dx _ H' (u.take lb) (fE.take _) el
 .cases e
def rS:jr (runM p n m) p:=λvs S res e=>by
 unfold runM at e;split at e
 .assumption
 .cases e
end
section
variable{prog:de}{w:cB}{A:cQ}{E:ai->au->Prop}{h:bU}{g:Array GenState}{d:Drawn}{t:Nat}{os:OsState}
variable{nm q:Str}{C N:ag}{bs bm zK:List ai}{hdct:Bool}{sn:List Str}{sub:List ai}{ab:Bool}{col:ak Bool}{dd:ak ag}{k0 k1 k2 k3 k5:ak ai}{B Bn newId Tc nq SW:String}{PK:List ai}
def Fc(Fn:ExcBaseFacts Bn newId SW PK)(Hx:zK.contains (.type Bn)=true)(F:ExcBaseFacts B Tc nq zK)(T:OwnTail h zK bm){mN:Str->ak ai}{rest:List ai}{Q:Fin->au->Prop}
  (hC:h.get? C=some (excClassObj nm q C N bs bm hdct sn sub ab col dd k0 k1 k2 k3 k5 newId)) (hn:h.Ns N mN) (t8:rest.length<=sizeLine)
  (hq:∀i,i=(mN "__init__").getD (.builtin nq)->wpAny (model prog w) A (bindSpecial i (.ref (h.objs.size+1))) (λp s'=>wpAny (model prog w) A (call p.1 (p.2++rest)) (λr uz=>r=.none/\Q (.done (.ret (.ref (h.objs.size+1)))) uz) E s') E ⟨((h.push { cls:=.type "tuple",data:=.seq rest.toArray}).push { cls:=.ref C,data:=.fields #[.ref h.objs.size,.none,.none,.none,.bool false,.none]}),g,d,t,os⟩) :
  wpAny (model prog w) A (Builtin.«type.__call__» ⟨.ref C::rest,[]⟩) Q E ⟨h,g,d,t,os⟩:=by
 repeat (first|with_reducible refine wpAny_loadPart_at hC ?_|with_reducible refine wpAny_madeBy_exc hC ?_|wp_step)
 refine codeAny_call_builtin_code (Code.quiet_builtin _ Fn.quiet) (wpAny_check_new_subU Fn Hx T hC (codeAny_exc_new_subU Fn Hx F T hC ?_ t8));show wpAny _ _ _ _ _ _;have st:∀b o,h.get? b=some o->((h.push { cls:=.type "tuple",data:=.seq rest.toArray}).push { cls:=.ref C,data:=.fields #[.ref h.objs.size,.none,.none,.none,.bool false,.none]}).get? b=some o:=λb o e=>c8 _ (c8 _ e)
 have hC₁:=st _ _ hC;have z8:((h.push { cls:=.type "tuple",data:=.seq rest.toArray}).push { cls:=.ref C,data:=.fields #[.ref h.objs.size,.none,.none,.none,.bool false,.none]}).get? (h.objs.size+1)=some { cls:=.ref C,data:=.fields #[.ref h.objs.size,.none,.none,.none,.bool false,.none]}:=by heap_get
 have hcC:(Value.ref C::bm).contains (.ref C)=true:=by simp
 unfold isInstance
 repeat (first|with_reducible refine wpAny_loadPart_at z8 ?_|(with_reducible refine wpAny_isSubtype_exc hC₁ ?_;rw[hcC])|wp_step)
 show wpAny _ _ (typeLookup (.ref C) _) _ _ _;refine wpAny_typeLookup_tail hC₁ (hn.keeps st) (T.keeps st) F.mroIs F.init.lookup ?_;cases hv:mN "__init__" with
 |none=>
  refine lD (ay (wpAny_mono (hq _ (by rw[hv];rfl)) (λp s' z=>ay (wpAny_mono z (λr uz y=>?_) λ_ _ y=>y)) λ_ _ y=>y))
  obtain⟨rfl,y⟩:=y
  wp_walk
  exact y
 |some v=>
  refine lD (ay (wpAny_mono (hq _ (by rw[hv];rfl)) (λp s' z=>ay (wpAny_mono z (λr uz y=>?_) λ_ _ y=>y)) λ_ _ y=>y))
  obtain⟨rfl,y⟩:=y
  wp_walk
  exact y
def W9(Fn:ExcBaseFacts Bn newId SW PK)(Hx:zK.contains (.type Bn)=true)(F:ExcBaseFacts B Tc nq zK)(T:OwnTail h zK bm){mN:Str->ak ai}{rest:List ai}{Q:ai->au->Prop}
  (hC:h.get? C=some (excClassObj nm q C N bs bm hdct sn sub ab col dd k0 k1 k2 k3 k5 newId)) (hn:h.Ns N mN) (t8:rest.length<=sizeLine)
  (hq:∀i,i=(mN "__init__").getD (.builtin nq)->wpAny (model prog w) (A.under (.builtin "type.__call__" ⟨.ref C::rest,[]⟩)) (bindSpecial i (.ref (h.objs.size+1))) (λp s'=>wpAny (model prog w) (A.under (.builtin "type.__call__" ⟨.ref C::rest,[]⟩)) (call p.1 (p.2++rest)) (λr uz=>r=.none/\Q (.ref (h.objs.size+1)) uz) E s') E ⟨((h.push { cls:=.type "tuple",data:=.seq rest.toArray}).push { cls:=.ref C,data:=.fields #[.ref h.objs.size,.none,.none,.none,.bool false,.none]}),g,d,t,os⟩) :
  wpAny (model prog w) A (call (.ref C) rest) Q E ⟨h,g,d,t,os⟩:=by
 have f1:=tc_lookup;have f2:=tc_bind (.ref C);have hT:(⟨h,g,d,t,os⟩:au).TypeIs (.ref C) "type":=⟨_,hC,rfl⟩;refine wpAny_call (codeAny_of_tree (show wpAny _ _ (callAny (.ref C) _) _ _ _ from ?_))
 repeat (any_goals (first|assumption|with_reducible refine wpAny_loadPart_at hC ?_|wp_step))
 exact⟨rfl,codeAny_call_builtin_at (Code.quiet_builtin _ (by decide +kernel)) entry_typeCall (wpAny_check_type_call_sub hC (Fc Fn Hx F T hC hn t8 λi e=>hq i e))⟩
end
end L2
namespace L2
open PySem PySem.Spec PySem.W PySem.Calls PyProof.Rows
noncomputable def tM(C t:ag)(d:ak ag):Obj:={ cls:=.ref C,dict:=d,data:=.fields #[.ref t,.none,.none,.none,.bool false,.none]}
section
variable{prog:de}{w:cB}{A:cQ}{E:ai->au->Prop}{h:bU}{g:Array GenState}{d:Drawn}{tt:Nat}{os:OsState}{x t:ag}
variable{nm q:Str}{C N:ag}{bs bm zK:List ai}{hdct:Bool}{sn:List Str}{sub:List ai}{ab:Bool}{col:ak Bool}{dd:ak ag}{k0 k1 k2 k3 k5:ak ai}{newId:String}
def Fl{u:ai}{Q:ai->au->Prop}(T:OwnTail h [.type "ValueError",.type "Exception",.type "BaseException",.type "object"] bm)(hC:h.get? C=some (excClassObj nm q C N bs bm hdct sn sub ab col dd k0 k1 k2 k3 k5 newId))(hx:h.get? x=some (tM C t none))
  (hq:∀h',h'.get? x=some (tM C h.objs.size none)->(∀b o,b≠x->h.get? b=some o->h'.get? b=some o)->Q .none ⟨h',g,d,tt,os⟩) :
  wpAny (model prog w) A (call (.builtin "ValueError.__init__") [.ref x,u]) Q E ⟨h,g,d,tt,os⟩:=by
 have FB:=F.excBase_ValueError;have ve:h.get? x=some { cls:=.ref C,data:=.fields #[.ref t,.none,.none,.none,.bool false,.none]}:=hx;refine wpAny_call (codeAny_call_builtin FB.init.plain FB.initEntry (wpAny_check_init_subU FB T hC ve rfl ?_))
 wp_walk
 refine hq _ ?_ λb o n e=>?_
 .rw[sk _ (c8 _ ve) rfl];rfl
 .rw[qh _ _ (Ne.symm n)];exact c8 _ e
end
noncomputable abbrev sd:List ai:=[.type "ValueError",.type "Exception",.type "BaseException",.type "object"]
def fG(K:Frag)(C:ag)(bm:List ai)(HQ:ak ai):Prop:=∃nm q N bs sn sub ab col dd k0 k1 k2 k3 k5 on B1 es ep B2,
 K.lookup C=some (excClassObj nm q C N bs bm true sn sub ab col dd k0 k1 k2 k3 k5 "ValueError.__new__")/\K.lookup N=some ⟨on,B1,.dict es ep,B2⟩/\StrKeys es/\nsFind es "__init__"=HQ
section
variable{K:Frag}{C C' B0 a:ag}{bm Kf:List ai}{i i':ak ai}{l:ak Int}
theorem fG.cls(G:fG K C bm i):∃cd,clsIn K C=some cd/\cd.mro=.ref C::bm/\cd.hasDict=true/\typeIn K (.ref C)=some (.type "type"):=by
 obtain⟨nm,q,N,bs,sn,sub,ab,col,dd,k0,k1,k2,k3,k5,on,B1,es,ep,B2,g1,g2,g3,g4⟩:=G;exact⟨_,by unfold clsIn;rw[g1],rfl,rfl,by show(K.lookup C).map (·.cls)=_;rw[g1];rfl⟩
def fG.sub(G:fG K C bm i)(b:ai):subIn K (.ref C) b=some ((Value.ref C::bm).contains b):=by
 obtain⟨cd,c1,c2,c3,c4⟩:=G.cls;show mroIn K C b=_;unfold mroIn;rw[c1,vn,c2];rfl
def fG.exm{C C':ag}{bm Kf:List ai}{i i':ak ai}(G:fG K C bm i)(G':fG K C' Kf i')(h:(Value.ref C'::Kf).contains (.type "BaseException")=true):exmOne K (.ref C) (.ref C')=some ((Value.ref C::bm).contains (.ref C')):=by
 obtain⟨cd,c1,c2,c3,c4⟩:=G'.cls;unfold exmOne;rw[G'.sub,h,bI (by decide)]
 unfold kitCls;dsimp only;rw[bI (by rw[c1,c4];rfl)]
 exact G.sub _
end
section
variable{X:Cx}{aa:List (ag×Obj)}{Z:St}{H:Hp}{s:au}{C B0:ag}{R:ai->au->Prop}
def W_{u:ai}(G:fG X.K C (.ref B0::sd) none)(G0:fG X.K B0 sd none)(I:Inv X aa Z H s)(h:∀h' t,(∀b o,s.heap.get? b=some o->h'.get? b=some o)->h'.get? (s.heap.objs.size+1)=some (tM C t none)->R (.ref (s.heap.objs.size+1)) { s with heap:=h'}):
  wpAny (model X.prog X.w) X.A (call (.ref C) [u]) R X.xe s:=by
 obtain⟨hh,g,d,tt,os⟩:=s;have KX:X.K.In hh:=I.ke;obtain⟨nm,q,N,bs,sn,sub,ab,col,dd,k0,k1,k2,k3,k5,on,B1,es,ep,B2,g1,g2,g3,g4⟩:=G;obtain⟨nm',q',N',bs',sn',sub',ab',col',dd',k0',k1',k2',k3',k5',on',odn',vV,p_,sln',g1',g2',g3',g4'⟩:=G0;have FB:=F.excBase_ValueError;have T:OwnTail hh sd (.ref B0::sd):=.own (KX _ _ g1') (mA:=λn=>nsFind vV n) ⟨_,_,_,KX _ _ g2',rfl,g3',λ_=>rfl⟩ g4' .base
 refine W9 FB rfl FB T (KX _ _ g1) (mN:=λn=>nsFind es n) ⟨_,_,_,KX _ _ g2,rfl,g3,λ_=>rfl⟩ (by rw[sizeLine_eq];exact(by decide:1<=16777216)) λi ei=>?_
 rw[g4] at ei;subst ei;have st:∀b o,hh.get? b=some o->((hh.push { cls:=.type "tuple",data:=.seq [u].toArray}).push { cls:=.ref C,data:=.fields #[.ref hh.objs.size,.none,.none,.none,.bool false,.none]}).get? b=some o:=λb o e=>c8 _ (c8 _ e)
 have z8:((hh.push { cls:=.type "tuple",data:=.seq [u].toArray}).push { cls:=.ref C,data:=.fields #[.ref hh.objs.size,.none,.none,.none,.bool false,.none]}).get? (hh.objs.size+1)=some (tM C hh.objs.size none):=by unfold tM;heap_get
 refine wpAny_of_eq (FB.init.bind _) (Fl (T.keeps st) (st _ _ (KX _ _ g1)) z8 λh' e1 e2=>?_)
 exact⟨rfl,h h' _ (λb o z=>e2 b o (gM (AW (cP z))) (st b o z)) e1⟩
end
noncomputable abbrev Cx.dI(X:Cx)(pn:List (ag×Obj))(E:ai->au->Prop):Cx:={ X with pn:=pn,xe:=E}
noncomputable abbrev Cx.dH(X:Cx)(e:ai):Cx:={ X with A:=X.A.mark (some e),calm:=false,xe:=λ_ _=>False}
structure Cp (X:Cx) (aa:List (ag×Obj)) (n:Nat):Prop where
 s:X.s₀.heap.objs.size<=n
 l:X.env.locals<n
 c:∀x c,X.env.cells.lookup x=some c->c<n
 p:∀q∈X.pn++aa,q.1<n
section
variable{X:Cx}{aa pe:List (ag×Obj)}{pn:List (ag×Obj)}{Z:St}{H:Hp}{s:au}{E:ai->au->Prop}{n:Nat}{ch:List ag}{h':bU}
def Cx.Ok.dI(ok:X.Ok):(X.dI pn E).Ok:=⟨ok.mod,ok.kind,ok.glob,ok.blt,ok.above,ok.inj,ok.has,ok.zL,ok.hd,ok.frames,ok.B3,ok.Ht,ok.bs,ok.tF,ok.qb,ok.rE,ok.iP,ok.vW⟩
def Cx.Ok.dW(ok:(X.dI pn E).Ok):X.Ok:=⟨ok.mod,ok.kind,ok.glob,ok.blt,ok.above,ok.inj,ok.has,ok.zL,ok.hd,ok.frames,ok.B3,ok.Ht,ok.bs,ok.tF,ok.qb,ok.rE,ok.iP,ok.vW⟩
theorem Inv.dI(I:Inv X aa Z H s):Inv (X.dI (X.pn++aa) E) [] Z H s:=⟨I.ok.dI,I.os,I.bare,I.base,I.loc,I.cell,I.free,I.eC,λp hp=>I.pin p (by rw[mO] at hp;exact hp),I.bA,I.len⟩
theorem Inv.dW(I:Inv (X.dI (X.pn++aa) E) pe Z H s):Inv X aa Z H s:=⟨I.ok.dW,I.os,I.bare,I.base,I.loc,I.cell,I.free,I.eC,λp hp=>I.pin p (Fo _ hp),I.bA,I.len⟩
def Inv.dH{e:ai}(I:Inv X aa Z H s):Inv (X.dH e) aa Z H s:=
 ⟨⟨I.ok.mod,I.ok.kind,I.ok.glob,I.ok.blt,I.ok.above,I.ok.inj,I.ok.has,I.ok.zL,λz=>(nomatch z),I.ok.frames,I.ok.B3,I.ok.Ht,I.ok.bs,I.ok.tF,I.ok.qb,I.ok.rE,I.ok.iP,I.ok.vW⟩,I.os,I.bare,I.base,I.loc,I.cell,I.free,I.eC,I.pin,I.bA,I.len⟩
def Inv.eF{e:ai}(I:Inv (X.dH e) aa Z H s)(hd:X.calm=true->X.A.handled=none):Inv X aa Z H s:=
 ⟨⟨I.ok.mod,I.ok.kind,I.ok.glob,I.ok.blt,I.ok.above,I.ok.inj,I.ok.has,I.ok.zL,hd,I.ok.frames,I.ok.B3,I.ok.Ht,I.ok.bs,I.ok.tF,I.ok.qb,I.ok.rE,I.ok.iP,I.ok.vW⟩,I.os,I.bare,I.base,I.loc,I.cell,I.free,I.eC,I.pin,I.bA,I.len⟩
def Inv.TC(I:Inv X aa Z H s):Cp X aa s.heap.objs.size:=⟨I.sz,I.lt,λx c e=>by obtain⟨v,o,ho,_⟩:=I.cell x c e;exact cP ho,λq hq=>cP (I.pin q hq).1⟩
def Cp.far(y:Cp X aa n){b:ag}(h:n<=b):(b∈X.ex\/X.s₀.heap.objs.size<=b)/\b≠X.env.locals/\(∀x c,X.env.cells.lookup x=some c->c≠b)/\∀p∈X.pn++aa,p.1≠b:=
 ⟨.inr (jN y.s h),λz=>cC (fU y.l h) (z ▸ j5 _),λx c e z=>cC (fU (y.c x c e) h) (z ▸ j5 _),λp hp z=>cC (fU (y.p p hp) h) (z ▸ j5 _)⟩
def fH.un{fs:List ag}{h:bU}(l:fH fs ch h h'):Un fs ch H H h h':=
 ⟨λb o g _ hb hx=>l.keep b o hb hx g,λb o g _ hb hx=>l.slot b o hb hx g,λ_ _ _ n _=>n,λb o g hx=>let ⟨_,g2⟩:=l.any g hx;⟨_,g2⟩,λ_ _ q=>q,λ_ _ _ q=>q,λ_ ps q=>⟨#[],by rw[q];simp⟩⟩
def Inv.left{t':Nat}(I:Inv X aa Z H s)(y:Cp X aa n)(l:fH (kP X.stack) ch s.heap h')(lz:∀b∈ch,n<=b/\H b=none):Inv X aa Z H { s with heap:=h',toks:=t'}:=
 I.call (g':=s.gens) (d':=s.drawn) (ch:=ch) l.un (l.bA I.bA I.kh λb m=>(lz b m).2) I.bare λb m=>y.far (lz b m).1
def Xa{M:Model}{A:cQ}{e C:ag}{dx:ak ag}{Q:Unit->au->Prop}(fl:ip n s.heap H e C dx)(h:∀h' ch,(∀b∈ch,n<=b/\H b=none)->fH (kP X.stack) ch s.heap h'->ip n h' H e C dx->Q () { s with heap:=h'}):wpAny M A (setFlight (.ref e) none) Q E s:=by
 obtain⟨fP,u_,oe,vs,he,hc,hx,hd,hsz,h1⟩:=fl;unfold setFlight;rcases h1 with h1|⟨T,oT,ts,h1,HL,Hy,Hz,hT,DR,h3⟩
 .refine ay (wpAny_field he hd h1 ?_);rw[ba (by decide)]
  exact aU (h s.heap [] (λ_ z=>nomatch z) ⟨λ_ _ _ _ g=>g,λ_ o _ _ g=>⟨o.slots,g⟩⟩ ⟨fP,u_,oe,vs,he,hc,hx,hd,hsz,.inl h1⟩)
 .refine ay (wpAny_field he hd h1 ?_);rw[bI (show(Value.ref T != Value.none)=true by simp)]
  have l3:3<ts.size:=(B_.mp h3).1;have dT:=Obj.data_mapFields DR (·.setIfInBounds 3 ((none:ak ag).elim Value.none λf=>rawInt f))
  refine wpAny_setField hT DR l3 (h _ [T] (λb m=>by cases lB.1 m;exact⟨HL,Hy⟩) ⟨λb o _ hb g=>(qh _ _ (by simpa using Ne.symm (by simpa using hb:b≠T))).trans g,λb o _ hb g=>⟨o.slots,(qh _ _ (by simpa using Ne.symm (by simpa using hb:b≠T))).trans g⟩⟩ ⟨fP,u_,oe,vs,(qh _ _ Hz).trans he,hc,hx,hd,hsz,.inr ⟨T,_,_,h1,HL,Hy,Hz,sk _ hT (Obj.isFreed_of_fields dT),dT,by simp[Array.getElem?_setIfInBounds,l3]⟩⟩)
end
end L2
namespace L2
open PySem PySem.Spec PyProof.Rows
variable{P:de}{w:cB}{K:PySem.W.Frag}{tg l:Expr}{X:Cx}{ta:TA}{p pos:Pos}{Q:ak ai->au->Prop}{n t' x1:Nat}{ob:Obj}{L:List ag}{elts:List Expr}{it:ag}
def sS(K:PySem.W.Frag)(a:ag)(n:Nat):It:=
 ⟨λi H=>i<n/\∃xs,cM K H a xs/\xs.length=n,λi H x H'=>H'=H/\∀xs,cM K H a xs->xs[n - 1 - i]?=some x,λi H=>n<=i⟩
def Xb(a it:ag)(n:Nat):Turn P w K tg (sS K a n) [it] it (λi h=>i<=n/\h.IsRevIter it a ((n:Int) - 1 - i)) where
 mem:=by simp
 obj:=λi h st b hb=>by
  have e:b=it:=by simpa using hb
  subst e;obtain⟨_,o,e,c,d⟩:=st
  simp_all
 keep:=λi h h' st k=>⟨st.1,st.2.at λo e=>k it (by simp) o e⟩
 item:=by
  intro X hP hw hK hc i aa s Z H E I hf st hg;subst hP hw hK;obtain⟨hi,xs,hq,hx⟩:=hg;obtain⟨aF,rv,p,hz⟩:=I.list hq;have ve:xs[n - 1 - i]?=some xs[n - 1 - i]:=jq (by lia)
  obtain⟨u,hu,ru⟩:=rv.get ve;obtain⟨f0,f1,f2,f3,f4,f5⟩:=hf it (by simp)
  have sf:s.heap.IsRevIter it a (((n - 1 - i:Nat):Int)):=by
   lia
  refine wpAny_pyNext_rev_item sf p.isList (x:=u) (by simpa using hu) λh' kg sb=>?_
  have I1:Inv X aa Z H { s with heap:=h'}:=I.turned (t':=s.toks) (λb o hb e=>(sb.2 b hb).trans e) f0 f1 f3 f4 f5
  obtain⟨o,e,c,d⟩:=id kg;refine⟨u,rfl,zI (s:={ s with heap:=h'}) e c d (by decide) ⟨_,H,I1,ru,⟨rfl,λys hy=>by rw[I.k6 hy hq];exact ve⟩,⟨by lia,?_⟩,λb hb=>(hf b hb).1⟩⟩
  grind
 done:=by
  intro X hP hw hK hc i aa s Z H E I hf st hg;subst hP hw hK;obtain⟨f0,f1,f2,f3,f4,f5⟩:=hf it (by simp)
  have hg:n<=i:=hg;have sf:s.heap.IsRevIter it a (-1):=by
   grind
  exact wpAny_pyNext_rev_end (I.ok.hd hc) sf λh' eb=>⟨rfl,I.turned (t':=s.toks) (λb o hb e=>eb b o hb e) f0 f1 f3 f4 f5⟩
 self:=λ_ _ _ _ _ st h=>wpAny_pyIter_revIter st.2 h
def Ec(K:PySem.W.Frag)(ta:TA):TI:=λZ H R=>ta Z H λvs H1=>∃a xs,vs=[.ref a]/\cM K H1 a xs/\R (sS K a xs.length) H1
def e3b(hg:Gl X "reversed")(hm:X.mg "reversed"=none)(ha:PA X [l] ta)(hs:starEach [l] X.env=[(false,eval l X.env)]:=by rfl):PI X tg (.Call (.Name "reversed" p) [l] [] pos) (Ec X.K ta):=by
 intro aa s Z H R I h;refine Call_ (xx I hg hm boot_reversed (PyProof.Rows.callWith_type1 (bK (ha pos aa s Z H _ I h) λus s1 hh=>?_) hs rfl))
 obtain⟨vs,H1,I1,r1,q1⟩:=hh;obtain⟨a,xs,e,hq,q⟩:=q1;subst e;cases r1 with
 |cons r rr=>
  cases rr;cases r;obtain⟨aF,rv,pl,hz⟩:=I1.list hq;have hl:=rv.length;refine call_reversed_list pl.isList ?_;have st:(s1.heap.push (revObj a ((aF.toArray.size:Int) - 1))).IsRevIter s1.heap.objs.size a ((aF.toArray.size:Int) - 1):=⟨_,jO _ rfl,rfl,rfl⟩;refine wpAny_pyIter_revIter st ?_;refine⟨s1.heap.objs.size,[s1.heap.objs.size],_,_,H1,rfl,I1.kept (t':=s1.toks) λb o e=>c8 _ e,Xb a _ xs.length,⟨mL _,?_⟩,λb hb=>?_,q⟩
  .simp_all
  .have e:b=s1.heap.objs.size:=by simpa using hb
   subst e;exact I1.lM (bP _) (I1.bA.fresh (bP _))
section
variable{X:Cx}{aa:List (ag×Obj)}{Z:St}{H:Hp}{A:cQ}{E:ai->au->Prop}{s:au}{d it:ag}{es:List (TK×V×V)}{ep i:Nat}
theorem Pd{Q:ai->au->Prop}(I:Inv X aa Z H s)(hd:H d=some (.dG es ep))
  (hQ:Q (.ref s.heap.objs.size) { s with heap:=s.heap.push { cls:=.type "dict_keyiterator",data:=.fields #[.ref d,.int 0 0,.int es.length 0,.int ep 0]}}):wpAny (model X.prog X.w) A (pyIter (.ref d)) Q E s:=by
 obtain⟨_,z,ob,xs,g1,g5,g2,g3,g4⟩:=(show bG X.prog X.w H s.heap d (.dG es ep) from I.bA d _ hd);have hT:s.TypeIs (.ref d) "dict":=⟨ob,g1,g5.1⟩;have hl:xs.size=es.length:=by have:=Paired.length g3;simpa using this.symm
 refine wpAny_pyIter_slot hT F.slot_dict_iter (wpAny_call_entry F.slot_dict_iter hT F.entry_dict_iter ?_ (F.args_dict_iter_1 _));unfold Builtin.«dict.__iter__»;refine ay ?_;unfold Builtin.Dict.dictSlotNone;refine ay (wpAny_notOrdered_dict hT (show wpAny _ _ (pure (Value.ref d)) _ _ s from aU (show wpAny _ _ (Builtin.Dict.showsAll d >>= _) _ _ s from ?_)));unfold Builtin.Dict.showsAll;rw[ba (by rw[z];exact si)]
 refine ay (aU (ay (wpAny_dictEntries g1 g2 (ay (wpAny_dictEpoch g1 g2 ?_)))));refine ay (wpAny_newObj_type (aU ⟨_,rfl,"dict_keyiterator",_,⟨_,jO _ rfl,rfl⟩,F.slot_dict_keyiterator_next.lookup,?_⟩));simpa[rawInt,hl] using hQ
theorem Od{xs:Array DictEntry}(g1:s.heap.get? d=some ob)(g2:ob.data=.dict xs ep)(hl:xs.size=n)(hit:s.heap.IsKeyIter it d i n ep)(lt':i<xs.size)
  (hQ:∀h',h'.IsKeyIter it d (i+1) n ep->Heap.SameBut it s.heap h'->Q (some xs[i].key) { s with heap:=h'}):wpAny (model P w) A (pyNext (.ref it)) Q E s:=by
 obtain⟨o,k1,k2,k3⟩:=id hit;unfold pyNext;refine ay (wpAny_attempt (wpAny_callSpecial?_slot (name:=Str.ofString "__next__") hit.typeIs F.slot_dict_keyiterator_next (wpAny_call_entry F.slot_dict_keyiterator_next hit.typeIs F.entry_dict_keyiterator_next (ay (aU (ay (ay ?_)))) (F.args_dict_keyiterator_next_1 _))))
 (first|refine ay (wpAny_typeNameOfWhole_keyiter hit.typeIs (aU ?_))|refine ay (wpAny_typeNameOf_keyiter hit.typeIs (aU ?_)));refine ay (wpAny_fieldsOf k1 k3 ?_)
 have Ay:Builtin.Dict_items.ownsTuple "dict_keyiterator"=false:=by decide
 simp only[Ay,su,j7]
 (show wpAny _ _ (if(Value.ref d == Value.none)=true then _ else _) _ _ s);rw[ba (show ¬((Value.ref d == Value.none)=true) from si)]
 refine ay (aU (ay (wpAny_dictEntries g1 g2 ?_)));rw[ba (by rw[hl];simp)]
 refine ay (aU (ay (wpAny_dictEpoch g1 g2 ?_)));rw[ba (by simp)]
 refine aU ?_;simp only[show ¬((i:Int)<0) from by lia,j7,Int.toNat_natCast,vp lt']
 refine ay ?_
 (first|refine ay (wpAny_typeNameOfWhole_keyiter hit.typeIs (aU ?_))|refine ay (wpAny_typeNameOf_keyiter hit.typeIs (aU ?_)));refine ay (wpAny_isOneOf_keyiter hit.typeIs ?_)
 (show wpAny _ _ (setField (.ref it) 1 (rawInt ((i:Int)+1)) >>= _) _ _ s);refine ay (wpAny_setField k1 k3 (by simp) ?_)
 have DX:(s.heap.update it (Obj.mapFields (·.setIfInBounds 1 (rawInt ((i:Int)+1))))).IsKeyIter it d (i+1) n ep:=
  ⟨_,sk _ k1 (Obj.isFreed_of_fields (Obj.data_mapFields k3 _)),(Obj.cls_mapFields ..).trans k2,by rw[Obj.data_mapFields k3];simp[rawInt]⟩
 refine ay (lD (ay (wpAny_isOneOf_keyiter (s:={ s with heap:=s.heap.update it (Obj.mapFields (·.setIfInBounds 1 (rawInt ((i:Int)+1))))}) DX.typeIs ?_)))
 show wpAny _ _ (pure xs[i].key) _ _ _;exact aU (aU ⟨_,rfl,aU (hQ _ DX (Heap.SameBut.update ..))⟩)
def UZ(I:Inv X aa Z H s)(hd:H d=some (.dG es ep))(hit:s.heap.IsKeyIter it d i es.length ep){e:TK×V×V}(hx:es[i]?=some e)
  (hQ:∀key h',RelV e.2.1 key->h'.IsKeyIter it d (i+1) es.length ep->Heap.SameBut it s.heap h'->Q (some key) { s with heap:=h'}):wpAny (model X.prog X.w) A (pyNext (.ref it)) Q E s:=by
 obtain⟨_,z,ob,xs,g1,g5,g2,g3,g4⟩:=(show bG X.prog X.w H s.heap d (.dG es ep) from I.bA d _ hd);have hl:xs.size=es.length:=by have:=Paired.length g3;simpa using this.symm
 obtain⟨x,x1,x2⟩:=CI i g3 hx;have lt':i<xs.size:=by
  grind
 have ex:xs[i]=x:=by
  have:xs[i]?=some x:=by rw[<-A0];exact x1
  rw[vp lt'] at this;exact Option.some.inj this
 exact Od g1 g2 hl hit lt' λh' BV sb=>hQ _ h' (by rw[ex];exact x2.2.1) BV sb
theorem OE{xs:Array DictEntry}(hh:A.handled=none)(g1:s.heap.get? d=some ob)(g2:ob.data=.dict xs ep)(hl:xs.size=n)(hit:s.heap.IsKeyIter it d i n ep)(hx:n<=i)
  (hQ:∀h',Heap.ExtBut it s.heap h'->Q none { s with heap:=h'}):wpAny (model P w) A (pyNext (.ref it)) Q E s:=by
 obtain⟨o,k1,k2,k3⟩:=id hit;unfold pyNext;refine ay (wpAny_attempt (wpAny_callSpecial?_slot (name:=Str.ofString "__next__") hit.typeIs F.slot_dict_keyiterator_next (wpAny_call_entry F.slot_dict_keyiterator_next hit.typeIs F.entry_dict_keyiterator_next (ay (aU (ay (ay ?_)))) (F.args_dict_keyiterator_next_1 _))))
 (first|refine ay (wpAny_typeNameOfWhole_keyiter hit.typeIs (aU ?_))|refine ay (wpAny_typeNameOf_keyiter hit.typeIs (aU ?_)));refine ay (wpAny_fieldsOf k1 k3 ?_)
 have Ay:Builtin.Dict_items.ownsTuple "dict_keyiterator"=false:=by decide
 simp only[Ay,su,j7]
 (show wpAny _ _ (if(Value.ref d == Value.none)=true then _ else _) _ _ s);rw[ba (show ¬((Value.ref d == Value.none)=true) from si)]
 refine ay (aU (ay (wpAny_dictEntries g1 g2 ?_)));rw[ba (by rw[hl];simp)]
 refine ay (aU (ay (wpAny_dictEpoch g1 g2 ?_)));rw[ba (by simp)]
 refine aU ?_;have hge:xs.size<=i:=by lia
 simp only[show ¬((i:Int)<0) from by lia,j7,Int.toNat_natCast,Array.getElem?_eq_none hge]
 refine ay ?_
 (first|refine ay (wpAny_typeNameOfWhole_keyiter hit.typeIs (aU ?_))|refine ay (wpAny_typeNameOf_keyiter hit.typeIs (aU ?_)));(show wpAny _ _ (setField (.ref it) 0 .none >>= _) _ _ s);refine ay (wpAny_setField k1 k3 (by simp) ?_)
 (show wpAny _ _ (newExc (.type "StopIteration") [] >>= _) _ _ _);refine ay ?_
 simp only[newExc,newTuple];refine ay (wpAny_newObj_type (ay (m:=firstArgMember _ _) (wpAny_of_eq (a:=Value.none) (by first|rfl|(simp only[firstArgMember];rfl)) (wpAny_newObj_type ?_ (by size_fits)))) (by size_fits))
 simp only[raiseNew];refine ay (wpAny_handled ?_);rw[show A.in1.handled=none from hh]
 (refine ay (aU (wpAny_throw ?_)));refine ay (wpAny_isInstance (T:="StopIteration") (b:=true) ⟨_,jO _ rfl,rfl⟩ isSubtype_stop ?_)
 exact aU (hQ _ (((Heap.SameBut.update ..).extBut.push _).push _))
def VQ(hh:A.handled=none)(I:Inv X aa Z H s)(hd:H d=some (.dG es ep))(hit:s.heap.IsKeyIter it d i es.length ep)(hx:es.length<=i)
  (hQ:∀h',Heap.ExtBut it s.heap h'->Q none { s with heap:=h'}):wpAny (model X.prog X.w) A (pyNext (.ref it)) Q E s:=by
 obtain⟨_,z,ob,xs,g1,g5,g2,g3,g4⟩:=(show bG X.prog X.w H s.heap d (.dG es ep) from I.bA d _ hd);exact OE hh g1 g2 (by have:=Paired.length g3;simpa using this.symm) hit hx hQ
end
def ID(a:ag)(n ep:Nat):It:=
 ⟨λi H=>∃es,H a=some (.dG es ep)/\es.length=n/\i<n,λi H x H'=>H'=H/\∀es,H a=some (.dG es ep)->∃e,es[i]?=some e/\e.2.1=x,λi H=>∃es,H a=some (.dG es ep)/\es.length=n/\n<=i⟩
def VR(a it:ag)(n ep:Nat):Turn P w K tg (ID a n ep) [it] it (λi h=>h.IsKeyIter it a i n ep) where
 mem:=by simp
 obj:=λi h st b hb=>by
  have e:b=it:=by simpa using hb
  subst e;obtain⟨o,e,c,d⟩:=st
  simp_all
 keep:=λi h h' st k=>st.at λo e=>k it (by simp) o e
 item:=by
  intro X hP hw hK hc i aa s Z H E I hf st hg;subst hP hw hK;obtain⟨es,hd,hl,hi⟩:=hg;subst hl;obtain⟨f0,f1,f2,f3,f4,f5⟩:=hf it (by simp)
  refine UZ I hd st (e:=es[i]) (jq hi) λkey h' rk kg sb=>?_
  have I1:Inv X aa Z H { s with heap:=h'}:=I.turned (t':=s.toks) (λb o hb e=>(sb.2 b hb).trans e) f0 f1 f3 f4 f5
  obtain⟨o,e,c,d⟩:=id kg;refine⟨key,rfl,zI (s:={ s with heap:=h'}) e c d (by decide) ⟨es[i].2.1,H,I1,rk,⟨rfl,λys hy=>?_⟩,kg,λb hb=>(hf b hb).1⟩⟩
  simp_all
 done:=by
  intro X hP hw hK hc i aa s Z H E I hf st hg;subst hP hw hK;obtain⟨es,hd,hl,hi⟩:=hg;subst hl;obtain⟨f0,f1,f2,f3,f4,f5⟩:=hf it (by simp)
  exact VQ (I.ok.hd hc) I hd st hi λh' eb=>⟨rfl,I.turned (t':=s.toks) (λb o hb e=>eb b o hb e) f0 f1 f3 f4 f5⟩
 self:=λ_ _ _ _ _ st h=>wpAny_pyIter_keyiter st h
def x_(tl:TE):TI:=λZ H R=>tl Z H λx H1=>∃a es ep,x=.ref a/\H1 a=some (.dG es ep)/\R (ID a es.length ep) H1
def Z_{tl:TE}(hl:PE X l tl):PI X tg l (x_ tl):=by
 intro aa s Z H R I h;refine bK (hl aa s Z H _ I h) λv s1 hh=>?_
 obtain⟨x,H1,I1,r1,q1⟩:=hh;obtain⟨a,es,ep,e,hd,q⟩:=q1;subst e;cases r1;refine Pd I1 hd ?_;refine⟨s1.heap.objs.size,[s1.heap.objs.size],_,_,H1,rfl,I1.kept (t':=s1.toks) λb o e=>c8 _ e,VR a _ _ _,⟨_,jO _ rfl,rfl,rfl⟩,λb hb=>?_,q⟩
 have e:b=s1.heap.objs.size:=by simpa using hb
 subst e;exact I1.lM (bP _) (I1.bA.fresh (bP _))
def KH{w1 w2:TI}(h1:PI X tg l w1)(h2:PI X tg l w2):PI X tg l (λZ H R=>w1 Z H R\/w2 Z H R):=by
 intro aa s Z H R I h;rcases h with h|h
 .exact h1 aa s Z H R I h
 .exact h2 aa s Z H R I h
open PySem PySem.Spec PyProof.Rows
section
variable{X:Cx}{aa:List (ag×Obj)}{Z:List (ak V)}{H:Hp}{s:au}{h':bU}
def Inv.wQ{T:ag}{o:HO}(I:Inv X aa Z H s)(k:∀b ob,b∉L->s.heap.get? b=some ob->h'.get? b=some ob)(hL:∀b∈L,ja X aa H b)(hT:s.heap.objs.size<=T)
  (new:bG X.prog X.w (upd H T o) h' T o):Inv X aa Z (upd H T o) { s with heap:=h',toks:=t'}:=by
 have hn:H T=none:=I.bA.fresh hT;have nL:∀b u,H b=some u->b∉L:=λb u e z=>by rw[(hL b z).1] at e;cases e
 have nT:∀b u,H b=some u->b≠T:=λb u e z=>by rw[z,hn] at e;cases e
 refine I.step (g':=s.gens) (d':=s.drawn) (ch:=L) (λb hb=>?_) (λb ob _ _ hc e _=>k b ob hc e) (λb ob _ _ hc e _=>⟨ob.slots,k b ob hc e⟩) (λb ob _ e n=>?_)
  (λb ob hc e=>⟨ob,k b ob hc e⟩) (λb xs e=>?_) (λb ob u e=>?_) (λb ps e=>⟨#[],?_⟩) (λm hm=>?_) (λb u e=>?_) I.bare
 .obtain⟨f0,f1,f2,f3,f4,f5⟩:=hL b hb;exact⟨f3,f1,f4,f5⟩
 .rw[c_ (λz=>by subst z;exact cC (fU (cP e) hT) (j5 _))];exact n
 .rw[c_ (nT b _ e)];exact e
 .rw[c_ (nT b _ e)];exact e
 .rw[c_ (nT b _ e),e];simp
 .obtain⟨ob,es,ep,ho,r⟩:=hm;exact⟨ob,es,ep,k _ ob (λz=>(hL _ z).2.1 rfl) ho,r⟩
 .by_cases hb:b=T
  .grind [aJ]
  .rw[c_ hb] at e;refine(I.bA b u e).jo (λc v hc q=>k c v ?_ q) (λc q=>by rw[c_ (nT c _ q)];exact q) λc xs q=>by rw[c_ (nT c _ q)];exact q
   rcases hc with z|z
   .rw[z];exact nL b u e
   .exact nL c _ z
def Inv.Fe(I:Inv X aa Z H s)(k:∀b ob,b∉L->s.heap.get? b=some ob->h'.get? b=some ob)(hL:∀b∈L,ja X aa H b):Inv X aa Z H { s with heap:=h',toks:=t'}:=by
 have nL:∀b u,H b=some u->b∉L:=λb u e z=>by rw[(hL b z).1] at e;cases e
 refine I.step (g':=s.gens) (d':=s.drawn) (ch:=L) (λb hb=>?_) (λb ob _ _ hc e _=>k b ob hc e) (λb ob _ _ hc e _=>⟨ob.slots,k b ob hc e⟩) (λb ob _ e n=>n)
  (λb ob hc e=>⟨ob,k b ob hc e⟩) (λb xs e=>e) (λb ob u e=>e) (λb ps e=>⟨#[],by rw[e];simp⟩) (λm hm=>?_) (λb u e=>?_) I.bare
 .obtain⟨f0,f1,f2,f3,f4,f5⟩:=hL b hb;exact⟨f3,f1,f4,f5⟩
 .obtain⟨ob,es,ep,ho,r⟩:=hm;exact⟨ob,es,ep,k _ ob (λz=>(hL _ z).2.1 rfl) ho,r⟩
 .refine(I.bA b u e).jo (λc v hc q=>k c v ?_ q) (λc q=>q) λc xs q=>q
  rcases hc with z|z
  .rw[z];exact nL b u e
  .exact nL c _ z
end
def A8(Src:Hp->Prop)(n:Nat)(val:Nat->List V->Prop):It:=
 ⟨λi H=>i<n/\Src H,λi H x H'=>∃p ws,x=.ref p/\H p=none/\val i ws/\H'=upd H p (.tup ws),λi H=>n<=i/\Src H⟩
def OF{FP wr:List ag}{Src:Hp->Prop}{val:Nat->List V->Prop}{tn:Nat->bU->Prop}(mem:it∈FP)(sub:∀b∈wr,b∈FP)
  (obj:∀i h,tn i h->∀b∈FP,∃o,h.get? b=some o/\∀v,o.data≠.cell v) (keep:∀i h h',tn i h->(∀b∈FP,∀o,h.get? b=some o->h'.get? b=some o)->tn i h')
  (hW:∀(X:Cx),X.prog=P->X.w=w->X.K=K->X.calm=true->∀(aa:List (ag×Obj)) (s:au) (Z:St) (H:Hp),Inv X aa Z H s->Src H->∃(K5:List ag) (Pt:Nat->Array ai->Prop) (St:Nat->bU->Prop) (IH:Nat->ag->bU->Prop),WalksT P w X.A it K5 wr n Pt St IH/\(∀i,tn i s.heap->St i s.heap)/\(∀i h,St i h->tn i h)/\∀i vals,Pt i vals->∃ws,val i ws/\Vals ws vals.toList/\ws.length<=10)
  (self:∀(A:cQ) (i:Nat) (s:au) (Q:ai->au->Prop) (E:ai->au->Prop),tn i s.heap->Q (.ref it) s->wpAny (model P w) A (pyIter (.ref it)) Q E s) :
  Turn P w K (.Tuple elts x1 pos) (A8 Src n val) FP it (λi h=>i<=n/\tn i h) where
 mem:=mem
 obj:=λi h st=>obj i h st.2
 keep:=λi h h' st k=>⟨st.1,keep i h h' st.2 k⟩
 item:=by
  intro X hP hw hK hc i aa s Z H E I hf st hg;obtain⟨K5,Pt,St,IH,W,toSt,Ez,pv⟩:=hW X hP hw hK hc aa s Z H I hg.2;subst hP hw hK;refine W.item i s _ E hg.1 (toSt i st.2) λT vals h1 tk hPt hsz Lc DN hk1=>?_
  refine⟨.ref T,rfl,W.go elts x1 pos i T _ _ E DN λh2 hSt SK=>?_⟩
  obtain⟨ws,hv,rv,HM⟩:=pv i vals hPt;have Lb:IsTup h2 T vals:=by
   obtain⟨o,e,c⟩:=Lc;exact⟨o,SK T o (W.apart i T h1 DN) e,c⟩
  have hn:H T=none:=I.bA.fresh hsz;have I2:Inv X aa Z (upd H T (.tup ws)) { s with heap:=h2,toks:=tk}:=I.wQ (L:=wr) (λb ob hb e=>SK b ob hb (hk1 b ob hb e)) (λb hb=>hf b (sub b hb)) hsz ⟨by rw[sizeLine_eq];lia,vals.toList,rv,by simpa using Lb⟩
  refine⟨.ref T,_,I2,rfl,⟨T,ws,rfl,hn,hv,rfl⟩,⟨by have:=hg.1;lia,Ez _ _ hSt⟩,λb hb=>?_⟩
  have hb0:=(hf b hb).1;rw[c_]
  .exact hb0
  .intro z;subst z;obtain⟨o,e,_⟩:=obj i s.heap st.2 b hb;exact cC (fU (cP e) hsz) (j5 _)
 done:=by
  intro X hP hw hK hc i aa s Z H E I hf st hg;obtain⟨K5,Pt,St,IH,W,toSt,Ez,pv⟩:=hW X hP hw hK hc aa s Z H I hg.2;subst hP hw hK;have ei:i=n:=by have:=hg.1;have:=st.1;lia
  subst ei;exact W.done s _ E (toSt i st.2) λh2 tk hk=>⟨rfl,I.Fe (L:=wr) (λb ob hb e=>hk b ob hb e) λb hb=>hf b (sub b hb)⟩
 self:=λA i s Q E st h=>self A i s Q E st.2 h
theorem Xc{h:bU}{a l:ag}{i:Nat}(p:h.IsListIter a l i):∃o,h.get? a=some o/\∀v,o.data≠.cell v:=by
 obtain⟨o,e,_,d⟩:=p
 simp_all
def Fg(xs:List V)(i:Nat)(ws:List V):Prop:=∃x,xs[i]?=some x/\ws=[.int i,x]
def VS{e l:ag}(n1:e≠it)(n2:l≠e)(n3:l≠it)(xs:List V):
  Turn P w K (.Tuple elts x1 pos) (A8 (λH=>cM K H l xs) xs.length (Fg xs)) [e,it] e (λi h=>i<=xs.length/\((∃old,IsEnum h e it (i:Int) old)/\h.IsListIter it l i)):=by
 refine OF (FP:=[e,it]) (wr:=[e,it]) (by simp) (λb hb=>hb) (λi h st b hb=>?_) (λi h h' st k=>?_) (λX hP hw hK hc aa s Z H I hS=>?_) (λA i s Q E st h=>?_)
 .grind [Xc]
 .obtain⟨⟨old,s1⟩,s2⟩:=st;exact⟨⟨old,k e (by simp) _ s1⟩,s2.at λo q=>k it (by simp) o q⟩
 .subst hP hw hK;obtain⟨wc,Ms,p1,_⟩:=I.list hS;have e1:=Ms.length;have W:=WalksT.enumerate (prog:=X.prog) (w:=X.w) (A:=X.A) (I.ok.hd hc) e it l n1 n2 n3 wc.toArray;rw[show wc.toArray.size=xs.length by rw[dw,<-e1]] at W
  refine⟨_,_,_,_,W,λi st=>?_,λi h st=>?_,λi vals hp=>?_⟩
  .exact⟨st.1,st.2,p1.isList⟩
  .simp_all
  .obtain⟨t,u,hu,rfl⟩:=hp;have hu:wc[i]?=some u:=by simpa using hu
   have SI:i<xs.length:=by have:=(fA.mp hu).1;lia
   obtain⟨u',rK,ru⟩:=Ms.get (jq SI);rw[hu] at rK;cases rK;exact⟨[.int i,xs[i]],⟨_,jq SI,rfl⟩,.cons ⟨t,rfl⟩ (.cons ru .nil),by show 2<=10;decide⟩
 .obtain⟨old,s1⟩:=st.1;exact wpAny_pyIter_enum s1 h
def yb(K:PySem.W.Frag)(ta:TA):TI:=λZ H R=>ta Z H λvs H1=>∃a xs,vs=[.ref a]/\cM K H1 a xs/\R (A8 (λH=>cM K H a xs) xs.length (Fg xs)) H1
def Γ{fq:Pos}{a:Expr}(hg:Gl X "enumerate")(hm:X.mg "enumerate"=none)(ha:PA X [a] ta)(hs:starEach [a] X.env=[(false,eval a X.env)]:=by rfl):
  PI X (.Tuple elts x1 fq) (.Call (.Name "enumerate" p) [a] [] pos) (yb X.K ta):=by
 intro aa s Z H R I h;refine Call_ (xx I hg hm PyProof.Rows.Boot.enumerate (PyProof.Rows.callWith_type1 (bK (ha pos aa s Z H _ I h) λus s1 hh=>?_) hs rfl))
 obtain⟨vs,H1,I1,r1,q1⟩:=hh;obtain⟨l1,xs,e,hq1,q⟩:=q1;subst e;cases r1 with
 |cons r rr=>
  cases rr;cases r;obtain⟨wc,Ms,p1,_⟩:=I1.list hq1;refine call_enumerate_list p1.isList λh' z1 z2 z3 z4=>?_
  have L1:l1<s1.heap.objs.size:=by obtain⟨o,n,e,_⟩:=p1;exact cP e
  refine wpAny_pyIter_enum z1 ?_;refine⟨s1.heap.objs.size+1,[s1.heap.objs.size+1,s1.heap.objs.size],_,_,H1,rfl,I1.kept (t':=s1.toks) z4,VS (e:=s1.heap.objs.size+1) (it:=s1.heap.objs.size) (l:=l1) (yK (by lia)) (gM (fU L1 (Il _ _))) (gM L1) xs,⟨mL _,⟨_,z1⟩,z2⟩,λb hb=>?_,q⟩
  simp only[y0a,y1x,or_false] at hb;have j':s1.heap.objs.size<=b:=by rcases hb with rfl|rfl <;> lia
  exact I1.lM j' (I1.bA.fresh j')
noncomputable def fQ(i j:Int):Nat:=((j - i+1) / 2).toNat
def NJ(i j:Int):Builtin.Range.rangeSize i j 2=(fQ i j:Nat):=by
 grind [PySem.Builtin.Range.rangeSize,fQ]
def VT{i j:Int}(h1:-(2^20)<=i)(h2:i<2^20)(h3:-(2^20)<=j)(h4:j<2^20):Builtin.Range.small i j 2=true:=by
 have:=NJ i j;unfold fQ at this;unfold Builtin.Range.small;rw[this];simp only[Builtin.Range.rangeFitsLong,fX,Nc,decide_eq_true_eq,beq_iff_eq,show(2:Int) > 0 by decide,pL]
 lia
section
variable{X:Cx}{pos p:Pos}{tg a b c:Expr}
def yf(ta:TA):TI:=λZ H R=>ta Z H λvs H1=>∃i j:Int,vs=[.int i,.int j,.int 2]/\(-(2^20)<=i/\i<2^20 /\ -(2^20)<=j/\j<2^20)/\R (IC i 2 (fQ i j)) H1
def VU(hg:Gl X "range")(hm:X.mg "range"=none)(ha:PA X [a,b,c] ta)(hs:starEach [a,b,c] X.env=[(false,eval a X.env),(false,eval b X.env),(false,eval c X.env)]:=by rfl)
  (v_:starEach [b,c] X.env=[(false,eval b X.env),(false,eval c X.env)]:=by rfl):PI X tg (.Call (.Name "range" p) [a,b,c] [] pos) (yf ta):=by
 intro aa s Z H R I h;refine Call_ (xx I hg hm boot_range (PyProof.Rows.callWith_type1 (bK (ha pos aa s Z H _ I h) λus s1 ⟨vs,H1,I1,r1,q1⟩=>?_) (by rw[hs,v_]) (by rw[v_];rfl)))
 obtain⟨i,j,e,⟨q1,q2,q3,q4⟩,q⟩:=q1;subst e;cases r1 with
 |cons r rr=>
  cases rr with
  |cons r' rr=>
   cases rr with
   |cons r'' rr=>
    cases rr;obtain⟨t,rfl⟩:=r;obtain⟨t',rfl⟩:=r';obtain⟨B4,rfl⟩:=r'';refine call_range_3 (by decide) ?_ (Or.inl (PyProof.noPylong_small (by lia)))
    refine wpAny_pyIter_range (IsRange.new ..) (VT q1 q2 q3 q4) ?_;have I2:Inv X aa Z H1 { s1 with heap:=s1.heap.push { cls:=.type "range",data:=.fields #[.int i t,.int j t',.int 2 B4]}}:=I1.kept (t':=s1.toks) λb o e=>c8 _ e
    refine⟨(s1.heap.push { cls:=.type "range",data:=.fields #[.int i t,.int j t',.int 2 B4]}).objs.size,[(s1.heap.push { cls:=.type "range",data:=.fields #[.int i t,.int j t',.int 2 B4]}).objs.size],_,_,H1,rfl,I2.kept (t':=s1.toks) λb o e=>c8 _ e,UB _ i 2 (fQ i j),?_,λb hb=>?_,q⟩
    .have e1:i+((0:Nat):Int)*2=i:=by simp
     have e2:((fQ i j:Nat):Int) - ((0:Nat):Int)=Builtin.Range.rangeSize i j 2:=by rw[NJ];lia
     show IsRangeIter _ _ (i+((0:Nat):Int)*2) (((fQ i j:Nat):Int) - ((0:Nat):Int)) 2;rw[e1,e2];exact jO _ rfl
    .have e:b=(s1.heap.push { cls:=.type "range",data:=.fields #[.int i t,.int j t',.int 2 B4]}).objs.size:=by simpa using hb
     subst e;exact I2.lM (bP _) (I2.bA.fresh (bP _))
end
end L2
set_option autoImplicit false
namespace L2
open PySem PySem.Spec PyProof.Rows
variable{a:ag}{c lo j i:Int}{k:Kn}{q:Nat}{H H':Hp}
def Kept(q:Nat)(H H':Hp):Prop:=∀a o,we q o=true->H a=some o->H' a=some o
def jS(K:PySem.W.Frag)(k:Kn)(H:Hp)(q:Nat)(x:V):D->Prop
 |.lst ds=>∃a ws,x=.ref a/\ah K k ws ds/\∀H',aw k.F H'->Kept q H H'->cM K H' a ws
 |.tup ds=>∃a ws,x=.ref a/\ah K k ws ds/\∀H',aw k.F H'->Kept q H H'->gY K H' a ws
 |.aB kvs=>∃a es ep,x=.ref a/\es.map (·.1)=kvs.map (·.1)/\ah K k (es.map (·.2.1)) (kvs.map (·.1.d))/\ah K k (es.map (·.2.2)) (kvs.map (·.2))/\∀H',aw k.F H'->Kept q H H'->H' a=some (.dG es ep)
 |.str z=>x=.str z
 |_=>True
def Bx.lv:Bx->Nat
 |.lst _=>2
 |.aB _=>1
def t7:Cell->ak (Nat×D)
 |.o b=>some (b.lv,b.d)
 |.z b=>some (0,b.d)
 |.ins _ _=>none
def D5(fz:Bool)(S:aN):Rv->ak (Rs (Nat×D))
 |.o c=>some (.ok (0,c.d) S)
 |.v (.d (.ref n))=>(S.r[n]?).bind λc=>(t7 c).map λp=>.ok p S
 |.v (.d x)=>some (.ok (0,x) S)
 |.v (.c n)=>if fz=true then(qa S (.c n)).map λp=>.ok (0,p.1) p.2 else(S.s[n]?).bind λc=>(t7 c).map λp=>.ok p S
def xZ(fz:Bool)(g:GE):Gx (Nat×D):=λU S=>bd (g U S) (λr S1=>D5 fz S1 r)
abbrev RH(K:PySem.W.Frag)(q:Nat):Rp (Nat×D) V:=λk H x p=>jS K k H (max q p.1) x p.2
section
variable{X:Cx}{K:PySem.W.Frag}{W:XW}{q:Nat}{k:Kn}{H:Hp}{x:V}{d:D}{g:GE}{Z:St}
def Gi(h:ah K k [x] [d]):jS K k H q x d:=by
 cases d with
 |lst ds=>obtain⟨a,ws,rfl,h1,h2⟩:=h.yh;exact⟨a,ws,rfl,h2,λH' s _=>s.MF h1⟩
 |tup ds=>obtain⟨a,ws,rfl,h1,h2⟩:=h.isTup;exact⟨a,ws,rfl,h2,λH' s _=>s.AM h1⟩
 |aB kvs=>obtain⟨a,es,ep,rfl,h1,h2,h3,h4⟩:=h.yg;exact⟨a,es,ep,rfl,h2,h3,h4,λH' s _=>s _ _ h1⟩
 |str z=>exact h.a_ rfl
 |_=>exact uJ
def LU{o:HO}:we (max q 2) o=true:=JK (p:=2) (Nat.le_max_right _ _) rfl
def Δ{b:Bx}(h:dz K k H a b):jS K k H (max q b.lv) (.ref a) b.d:=by
 cases b with
 |lst xs=>obtain⟨ws,h1,h2⟩:=h;exact⟨a,ws,rfl,h2,λH' _ c=>.inl (.inl (c _ _ LU h1))⟩
 |aB kvs=>obtain⟨es,ep,h1,h2,h3,h4⟩:=h;exact⟨a,es,ep,rfl,h2,h3,h4,λH' _ c=>c _ _ (JK (p:=1) (Nat.le_max_right _ _) rfl) h1⟩
def OG{c:Cell}{p:Nat×D}(h:bc K k H a c)(e:t7 c=some p):jS K k H (max q p.1) (.ref a) p.2:=by
 cases c with
 |o b=>cases e;exact Δ h.2
 |z b=>cases e;exact Gi h.2
 |ins _ _=>cases e
def Qj{fz:Bool}{Q:VK}(t:tX (RH K q) K W q (xZ fz g) Z H Q):tE K W q g Z H Q:=by
 obtain⟨k,U,S,res,ok,gk,e,w⟩:=t;refine tX.bd ok gk e w λr S1 x k1 H1 bH g1 r1 e1 w1 _=>?_
 cases r with
 |o c=>
  cases e1;obtain⟨k2,u2,cJ,r2⟩:=r9 bH r1;exact(w1.up (u2 q)).now cJ (Gi r2)
 |v y=>
  cases y with
  |d y=>
   cases y with
   |ref n=>
    obtain⟨c,h1,e2⟩:=cA.mp e1;obtain⟨p,h2,rfl⟩:=dm.mp e2;obtain⟨a,rfl,h3⟩:=ah.isRef r1;exact w1.now bH (OG (bH.r.at' n a c h3 h1) h2)
   |_=>cases e1;exact w1.now bH (Gi r1)
  |c n=>
   cases fz with
   |true=>
    obtain⟨p,h1,rfl⟩:=dm.mp (show(qa S1 (.c n)).map _=some res from e1);obtain⟨k2,u2,cJ,r2⟩:=GK (v:=.c n) bH r1 h1;exact(w1.up (u2 q)).now cJ (Gi r2)
   |false=>
    obtain⟨c,h1,e2⟩:=cA.mp (show(S1.s[n]?).bind _=some res from e1);obtain⟨p,h2,rfl⟩:=dm.mp e2;obtain⟨a,rfl,h3⟩:=r1;exact w1.now bH (OG (bH.s.at' n a c h3 h1) h2)
end
structure gR (K:PySem.W.Frag) (k1:Kn) (H1:Hp) (q:Nat) (J:It) (ds:List D):Prop where
 go:∀i k H,k1.le k->aw k.F H->Kept q H1 H->i<ds.length->J.go i H
 stop:∀i k H,k1.le k->aw k.F H->Kept q H1 H->ds.length<=i->J.stop i H
 uK:∀i k H x H',k1.le k->aw k.F H->Kept q H1 H->J.uK i H x H'->∀d,ds[i]?=some d->∃F',aw k.F F'/\aw H H'/\aw F' H'/\(∀p,H p≠none->k.F p=none->F' p=none)/\ah K ⟨F',k.A,k.T⟩ [x] [d]
abbrev RI(K:PySem.W.Frag)(q:Nat):Rp (Nat×List D) It:=λk H J p=>gR K k H (max q p.1) J p.2
section
variable{K:PySem.W.Frag}{k1:Kn}{H1:Hp}{q n:Nat}{ds:List D}{J:It}{a:ag}{ws xs:List V}
def gR.old(hn:ds.length=n)(h1:∀i H,aw k1.F H->Kept q H1 H->i<n->J.go i H)(h2:∀i H,aw k1.F H->Kept q H1 H->n<=i->J.stop i H)(h3:∀i H x H' d,aw k1.F H->Kept q H1 H->J.uK i H x H'->ds[i]?=some d->H'=H/\ah K k1 [x] [d]):gR K k1 H1 q J ds where
 go:=λi k H l s c hi=>h1 i H (l.f.trans s) c (hn ▸ hi)
 stop:=λi k H l s c hi=>h2 i H (l.f.trans s) c (hn ▸ hi)
 uK:=λi k H x H' l s c y d hd=>by
  obtain⟨rfl,r⟩:=h3 i H x H' d (l.f.trans s) c y hd;exact⟨k.F,aw.refl _,aw.refl _,s,λ_ _ z=>z,r.mono l⟩
def gR.Et{Src:Hp->Prop}{val:Nat->List V->Prop}{f:Nat->List D}(hs:∀H,aw k1.F H->Kept q H1 H->Src H)(hv:∀i us,i<n->val i us->ah K k1 us (f i)):gR K k1 H1 q (A8 Src n val) ((List.range n).map λi=>.tup (f i)) where
 go:=λi k H l s c hi=>⟨by simpa using hi,hs H (l.f.trans s) c⟩
 stop:=λi k H l s c hi=>⟨by simpa using hi,hs H (l.f.trans s) c⟩
 uK:=λi k H x H' l s c y d hd=>by
  obtain⟨p,us,rfl,hp,hw,rfl⟩:=y;have hi:i<n:=by have:=(fA.mp hd).1;simpa using this
  rw[gP,A1 hi] at hd;cases hd;have hF:=s.free hp;refine⟨upd k.F p (.tup us),s_ hF,s_ hp,λb u z=>?_,λb z1 z2=>?_,.tup (.inl (.inl aJ)) ((hv i us hi hw).mono ⟨l.f.trans (s_ hF),l.a⟩) .nil⟩
  .by_cases z3:b=p
   .subst z3;rw[aJ] at z ⊢;exact z
   .rw[c_ z3] at z ⊢;exact s b u z
  .rw[c_ (show b≠p from λz=>z1 (z ▸ hp))];exact z2
def Θ(h:∀H',aw k1.F H'->Kept q H1 H'->cM K H' a ws)(r:ah K k1 ws ds):gR K k1 H1 q (IE K a) ds:=
 .old r.length.symm (λi H s c hi=>⟨ws,ws[i],h H s c,jq _⟩) (λi H s c hi=>⟨ws,h H s c,hi⟩) λi H x H' d s c y hd=>by
  obtain⟨rfl,y⟩:=y;obtain⟨v,h1,h2⟩:=r.get hd
  simp_all
def e3c(h:∀H',aw k1.F H'->Kept q H1 H'->gY K H' a ws)(r:ah K k1 ws ds):gR K k1 H1 q (IF K a) ds:=
 .old r.length.symm (λi H s c hi=>⟨ws,ws[i],h H s c,jq _⟩) (λi H s c hi=>⟨ws,h H s c,hi⟩) λi H x H' d s c y hd=>by
  obtain⟨rfl,y⟩:=y;obtain⟨v,h1,h2⟩:=r.get hd
  simp_all
def e3d(h:∀H',aw k1.F H'->Kept q H1 H'->cM K H' a ws)(r:ah K k1 ws ds):gR K k1 H1 q (sS K a ws.length) ds.reverse:=
 .old (by rw[List.length_reverse,r.length]) (λi H s c hi=>⟨hi,ws,h H s c,rfl⟩) (λi H s c hi=>hi) λi H x H' d s c y hd=>by
  obtain⟨rfl,y⟩:=y;have hi:=(fA.mp hd).1;rw[List.length_reverse] at hi;rw[List.getElem?_reverse hi,<-r.length] at hd;obtain⟨v,h1,h2⟩:=r.get hd
  simp_all
def Ξ{es:List (TK×V×V)}{ep:Nat}(h:∀H',aw k1.F H'->Kept q H1 H'->H' a=some (.dG es ep))(r:ah K k1 (es.map (·.2.1)) ds):gR K k1 H1 q (ID a es.length ep) ds:=
 .old (by rw[<-r.length,bw]) (λi H s c hi=>⟨es,h H s c,rfl,hi⟩) (λi H s c hi=>⟨es,h H s c,rfl,hi⟩) λi H x H' d s c y hd=>by
  obtain⟨rfl,y⟩:=y;obtain⟨v,h1,h2⟩:=r.get hd;rw[gP] at h1;obtain⟨e,h3,rfl⟩:=dm.mp h1;obtain⟨e',h4,rfl⟩:=y es (h _ s c);cases h3.symm.trans h4;exact⟨rfl,h2⟩
def e3e{z:Str}:gR K k1 H1 q (Fy z) (z.cps.toList.map λc=>.str (jV c)):=
 .old (by rw[bw,Nb]) (λi H s _ hi=>hi) (λi H s _ hi=>hi) λi H x H' d s _ y hd=>by
  obtain⟨rfl,c,h1,rfl⟩:=y;rw[gP,A0,h1] at hd;cases hd;exact⟨rfl,.flat rfl .nil⟩
def nG(lo c:Int)(n:Nat):List D:=(List.range n).map λ(i:Nat)=>D.int (lo+(i:Int)*c)
def Φ:gR K k1 H1 q (IC lo c n) (nG lo c n):=
 .old (by unfold nG;rw[bw,vq]) (λi H s _ hi=>hi) (λi H s _ hi=>hi) λi H x H' d s _ y hd=>by
  obtain⟨rfl,rfl⟩:=y;have hi:=(fA.mp hd).1;unfold nG at hi hd;rw[bw,vq] at hi;rw[gP,A1 hi] at hd;cases hd;exact⟨rfl,.flat rfl .nil⟩
def gm(lo:Int)(n:Nat):List D:=(List.range n).map λ(i:Nat)=>D.int (lo+(i:Int))
theorem e3f:gR K k1 H1 q (Fx lo n) (gm lo n):=
 .old (by unfold gm;rw[bw,vq]) (λi H s _ hi=>hi) (λi H s _ hi=>hi) λi H x H' d s _ y hd=>by
  obtain⟨rfl,rfl⟩:=y;have hi:=(fA.mp hd).1;unfold gm at hi hd;rw[bw,vq] at hi;rw[gP,A1 hi] at hd;cases hd;exact⟨rfl,.flat rfl .nil⟩
end
abbrev m6:=Gx (Nat×List D)
def bL(fz:Bool)(o:D->ak (List D))(g:GE):m6:=λU S=>bd (xZ fz g U S) λp S1=>(o p.2).map λds=>.ok (p.1,ds) S1
noncomputable def fD:D->ak (List D)
 |.lst ds=>some ds
 |.tup ds=>some ds
 |.aB kvs=>some (kvs.map (·.1.d))
 |.str z=>some (z.cps.toList.map λc=>.str (jV c))
 |_=>none
def AI:D->ak (List D)
 |.lst ds=>some ds.reverse
 |_=>none
def d_(ds:List D):List D:=(List.range ds.length).map λi=>.tup [.int (i:Nat),(ds[i]?).getD .aI]
def KU:D->ak (List D)
 |.lst ds=>some (d_ ds)
 |_=>none
noncomputable def nF:List Val->ak (List D)
 |[.d (.int j)]=>if Nat.ble j.natAbs 1000000000000=true then some (gm 0 j.toNat) else none
 |_=>none
def wB:List Val->ak (List D)
 |[.d (.int i),.d (.int j),.d (.int c)]=>if c=2/\(Nat.ble i.natAbs 1000000&&Nat.ble j.natAbs 1000000)=true then some (nG i 2 (fQ i j)) else none
 |_=>none
noncomputable def jW(o:List Val->ak (List D))(g:GA):m6:=λU S=>bd (g U S) λvs S1=>(o vs).map λds=>.ok (0,ds) S1
section
variable{X:Cx}{K:PySem.W.Frag}{W:XW}{q:Nat}{g:GE}{ga:GA}{fz:Bool}{Z:St}{H:Hp}{R:It->Hp->Prop}
def Ga{o:D->ak (List D)}(t:tX (RI K q) K W q (bL fz o g) Z H R):(∀Q:VK,tE K W q g Z H Q)\/∃d ds n,o d=some ds/\∀Q:VK,(∀k1 H1 x,aw k1.F H1->jS K k1 H1 n x d->(∀J,gR K k1 H1 n J ds->R J H1)->Q x H1)->tE K W q g Z H Q:=by
 obtain⟨k,U,S,res,ok,gk,e,w⟩:=t;rcases BF e with⟨⟨n,d⟩,S1,e1,e2⟩|⟨C,l,S1,e1,rfl⟩
 .obtain⟨ds,e3,rfl⟩:=dm.mp e2;exact .inr ⟨d,ds,max q n,e3,λQ h=>Qj ⟨k,U,S,_,ok,gk,e1,λx k1 H1 u bH r=>h k1 H1 x bH.le r λJ j=>w J k1 H1 u bH j⟩⟩
 .exact .inl λQ=>Qj ⟨k,U,S,_,ok,gk,e1,w⟩
def jS.now{x:V}{P:Hp->Prop}{n:Nat}(h:∀H',aw k.F H'->Kept n H H'->P H')(le:aw k.F H):P H:=h H le λ_ _ _ z=>z
def Eb(K:PySem.W.Frag)(te:TE):TI:=λZ H R=>yd K te Z H R\/Ee K te Z H R\/x_ te Z H R\/Ed te Z H R
def e3g{tg l:Expr}{te:TE}(h:PE X l te):PI X tg l (Eb X.K te):=KH (Zz h) (KH (e2d h) (KH (Z_ h) (e2s h)))
def e3h(t:tX (RI K q) K W q (bL fz fD g) Z H R):Eb K (tE K W q g) Z H R:=by
 rcases Ga t with h|⟨d,ds,n,e,h⟩
 .exact .inl (h _)
 .cases d with
  |lst _=>
   cases e;refine .inl (h _ λk1 H1 x le hd j=>?_)
   obtain⟨a,ws,rfl,q2,q1⟩:=hd;exact⟨a,rfl,⟨ws,jS.now (x:=.aI) q1 le⟩,j _ (Θ q1 q2)⟩
  |tup _=>
   cases e;refine .inr (.inl (h _ λk1 H1 x le hd j=>?_))
   obtain⟨a,ws,rfl,q2,q1⟩:=hd;exact⟨a,rfl,⟨ws,jS.now (x:=.aI) q1 le⟩,j _ (e3c q1 q2)⟩
  |aB kvs=>
   cases e;refine .inr (.inr (.inl (h _ λk1 H1 x le hd j=>?_)))
   obtain⟨a,es,ep,rfl,q2,q3,q4,q1⟩:=hd;exact⟨a,es,ep,rfl,jS.now (x:=.aI) q1 le,j _ (Ξ q1 q3)⟩
  |str z=>
   cases e;exact .inr (.inr (.inr (h _ λk1 H1 x le hd j=>⟨z,hd,j _ e3e⟩)))
  |_=>cases e
def Ψ(t:tX (RI K q) K W q (bL fz AI g) Z H R):Ec K (uB (tE K W q g) wH) Z H R:=by
 rcases Ga t with h|⟨d,ds,n,e,h⟩
 .exact h _
 .cases d with
  |lst _=>
   cases e;refine h _ λk1 H1 x le hd j=>?_
   obtain⟨a,ws,rfl,q2,q1⟩:=hd;exact⟨a,ws,rfl,jS.now (x:=.aI) q1 le,j _ (e3d q1 q2)⟩
  |_=>cases e
def e3i(t:tX (RI K q) K W q (bL fz KU g) Z H R):yb K (uB (tE K W q g) wH) Z H R:=by
 rcases Ga t with h|⟨d,ds,n,e,h⟩
 .exact h _
 .cases d with
  |lst es=>
   cases e;refine h _ λk1 H1 x le hd j=>?_
   obtain⟨a,ws,rfl,q2,q1⟩:=hd;refine⟨a,ws,rfl,jS.now (x:=.aI) q1 le,j _ ?_⟩;unfold d_;rw[<-q2.length];refine .Et q1 λi us hi hv=>?_
   obtain⟨x,h1,rfl⟩:=hv;obtain⟨d,hd⟩:∃d,es[i]?=some d:=⟨es[i]'(by rw[<-q2.length];exact hi),jq _⟩
   obtain⟨v,h3,h4⟩:=q2.get hd;cases h1.symm.trans h3;rw[hd];exact .flat rfl h4
  |_=>cases e
theorem rep1{xs:List V}(h:Paired (cT K k) xs [.d (.int j)]):xs=[.int j]:=by
 cases h with
 |cons r t=>cases t;rw[(show ah K k [_] [_] from r).a_ rfl]
def rep2{xs:List V}(h:Paired (cT K k) xs [.d (.int i),.d (.int j)]):xs=[.int i,.int j]:=by
 cases h with
 |cons r t=>rw[(show ah K k [_] [_] from r).a_ rfl,rep1 t]
def rep3{xs:List V}(h:Paired (cT K k) xs [.d (.int i),.d (.int j),.d (.int c)]):xs=[.int i,.int j,.int c]:=by
 cases h with
 |cons r t=>rw[(show ah K k [_] [_] from r).a_ rfl,rep2 t]
def OH{o:List Val->ak (List D)}{Q:List V->Hp->Prop}(t:tX (RI K q) K W q (jW o ga) Z H R)(h:∀vs ds k1 H1 xs,o vs=some ds->(∀J,gR K k1 H1 (max q 0) J ds->R J H1)->Paired (cT K k1) xs vs->Q xs H1):gp K W q ga Z H Q:=by
 obtain⟨k,U,S,res,ok,gk,e,w⟩:=t;rcases BF e with⟨vs,S1,e1,e2⟩|⟨C,l,S1,e1,rfl⟩
 .obtain⟨ds,e3,rfl⟩:=dm.mp e2;exact⟨k,U,S,_,ok,gk,e1,λxs k1 H1 u bH r=>h vs ds k1 H1 xs e3 (λJ j=>w J k1 H1 u bH j) r⟩
 .exact⟨k,U,S,_,ok,gk,e1,w⟩
def Ω(t:tX (RI K q) K W q (jW nF ga) Z H R):ye (gp K W q ga) Z H R:=OH t λvs ds k1 H1 xs e j r=>by
 unfold nF at e;split at e
 .split at e
  .rename_i h
   have h:=A2 h
   grind [rep1,e3f]
  .cases e
 .cases e
def γ(t:tX (RI K q) K W q (jW wB ga) Z H R):yf (gp K W q ga) Z H R:=OH t λvs ds k1 H1 xs e j r=>by
 unfold wB at e;split at e
 .split at e
  .rename_i h
   obtain⟨rfl,h⟩:=h;obtain⟨h1,h2⟩:=B'.mp h;have h1:=A2 h1;have h2:=A2 h2;cases e;exact⟨_,_,rep3 r,⟨by lia,by lia,by lia,by lia⟩,j _ Φ⟩
  .cases e
 .cases e
end
def aH(g:GG)(f:GS):List D->GS
 |[]=>λU S=>some (.nx U S)
 |d::ds=>λU S=>(g d U).bind λU1=>(f U1 S).bind λr=>match r with
   |.nx U2 S2=>aH g f ds U2 S2
   |.ct U2 S2=>aH g f ds U2 S2
   |.bk U2 S2=>some (.nx U2 S2)
   |r=>some r
noncomputable def bN(q:Nat)(src:m6)(g:GG)(f:Nat->GS):GS:=λU S=>lr U (src U S) λp S1=>aH g (f (max q p.1)) p.2 U S1
def Up.kept{k':Kn}(u:Up q k H k' H'):Kept q H H':=u.h
def Kept.refl:Kept q H H:=λ_ _ _ z=>z
def Kept.trans{Cj:Hp}(a:Kept q H H')(b:Kept q H' Cj):Kept q H Cj:=λx o z h=>b x o z (a x o z h)
def Kept.same(a:aw H H'):Kept q H H':=λx o _ h=>a x o h
section
variable{X:Cx}{K:PySem.W.Frag}{W:XW}{q:Nat}{tg iter:Expr}{body:List Stmt}{wi:TI}{t:TG}{gg:GG}{f:Nat->GS}{src:m6}{pos:Pos}
def e3j(hp:PassesOwn (model X.prog X.w) X.A X.env X.xe)(hc:X.calm=true)(hi:PI X tg iter wi)(rJ:∀Z H R,tX (RI K q) K W q src Z H R->wi Z H R)(hg:PG X tg t)(ht:kq K t gg)(hb:∀n,je X body (tS K W n (f n)))(hs:∀x,foldedSetIterable iter X.env x=pure x):
  PS X (.For tg iter body [] pos) (tS K W q (bN q src gg f)):=by
 intro aa s Z H De I t;obtain⟨k,U,S,fr,ok,gk,e,w⟩:=t;unfold bN lr at e;split at e
 .cases e
 .rename_i p S1 e1
  obtain⟨n,ds⟩:=p;refine Rf hp hc hi hg (hb (max q n)) hs aa s Z H De I (rJ _ _ _ ⟨k,U,S,_,ok,gk,e1,λJ k1 H1 u1 bH r1=>?_⟩)
  have w1:=(w.up u1).weak (Nat.le_max_left q n);have g1:=gk.up u1;clear w gk ok e1 u1;refine⟨λi m Z H=>m=ds.length - i/\i<=ds.length/\∃k U S,bX K k H S/\gu K k Z U/\k1.le k/\Kept (max q n) H1 H/\aH gg (f (max q n)) (ds.drop i) U S=some fr/\Done K W (max q n) De k H fr,⟨_,rfl,mL _,k1,U,S1,bH,g1,.refl,.refl,e,w1⟩,?_⟩
  rintro i m Z H ⟨rfl,hi,k,U,S,ok,gk,l,c,e,w⟩;rcases Nat.lt_or_ge i ds.length with h|h
  .rw[Ng h] at e;refine .inr ⟨r1.go i k H l ok.le c h,λZ' H'=>∃k U S,bX K k H' S/\gu K k Z' U/\k1.le k/\Kept (max q n) H1 H'/\aH gg (f (max q n)) (ds.drop (i+1)) U S=some fr/\Done K W (max q n) De k H' fr,λZ' H' z=>⟨_,by lia,rfl,h,z⟩,λx H' y=>?_⟩
   obtain⟨F',s1,s2,s3,s4,rp⟩:=r1.uK i k H x H' l ok.le c y _ (jq h);have u:Up (max q n) k H ⟨F',k.A,k.T⟩ H':=.of s1 s2;obtain⟨U1,e1,e2⟩:=cA.mp e;obtain⟨r,e3,e4⟩:=cA.mp e2;have fE:bX K ⟨F',k.A,k.T⟩ H' S:=ok.new s1 (λp _ o z=>s2 p o z) s3 λp m=>s4 p (ok.there p m)
   have l':k1.le ⟨F',k.A,k.T⟩:=⟨l.f.trans s1,l.a⟩;refine ht _ H' Z U U1 x ds[i] _ s3 (gk.up u) rp e1 λZ1 g1=>⟨_,U1,S,r,fE,g1,e3,?_⟩
   have w':=w.up u;have c':Kept (max q n) H1 H':=c.trans (.same s2);cases r with
   |nx U2 S2=>exact λZ' k2 H2 u2 cJ g2=>⟨k2,U2,S2,cJ,g2,⟨l'.f.trans u2.f,l'.a.trans u2.a⟩,c'.trans u2.kept,e4,w'.up u2⟩
   |ct U2 S2=>exact λZ' k2 H2 u2 cJ g2=>⟨k2,U2,S2,cJ,g2,⟨l'.f.trans u2.f,l'.a.trans u2.a⟩,c'.trans u2.kept,e4,w'.up u2⟩
   |bk U2 S2=>cases e4;exact w'
   |rt r S2=>cases e4;exact w'
   |ex C l U2 S2=>cases e4;exact w'
  .rw[Ik h] at e;cases e;exact .inl ⟨r1.stop i k H l ok.le c h,bW.now w ok gk⟩
 .rename_i C l S1 e1
  cases e;exact Rf hp hc hi hg (hb q) hs aa s Z H De I (rJ _ _ _ ⟨k,U,S,_,ok,gk,e1,λdx k' H' u fE r=>w dx Z k' H' u fE (gk.up u) r⟩)
end
end L2
set_option autoImplicit false
namespace L2
open PySem PySem.Spec PyProof.Rows
variable{ds:List D}{U:Gm}{Z:St}
def uW{α β:Type}(x:ak (Rs α))(f:α->aN->ak (Rs β)):ak (Rs β):=match x with
 |some (.ok a S)=>f a S
 |_=>none
def W0:XW:=λ_ _ _ _=>False
def bB(gg:GG)(tt:GT)(te:GE):List D->Gm->aN->List D->ak (Rs (List D))
 |[],_,S,aY=>some (.ok aY S)
 |d::ds,U,S,aY=>(gg d U).bind λU1=>uW (tt U1 S) λb S1=>if b=true then uW (gD te U1 S1) λx S2=>if aY.length<1000000 then bB gg tt te ds U1 S2 (aY++[x]) else none else bB gg tt te ds U1 S1 aY
def vQ(n:Nat)(cY:List Nat)(U:Gm):Gm:=List.replicate n none++cY.map λi=>(U[i]?).join
def cg(q:Nat)(src:m6)(gg:GG)(tt:Nat->GT)(te:Nat->GE)(n:Nat)(cY:List Nat):GE:=λU S=>bd (src U S) λp S1=>bd (bB gg (tt (max q p.1)) (te (max q p.1)) p.2 (vQ n cY U) S1 []) λds S2=>some (.ok (.o (.lst ds)) S2)
section
variable{X:Cx}{K:PySem.W.Frag}{W:XW}{q:Nat}{tg iter elt:Expr}{ifs:List Expr}{scope:Scope}{wi:TI}{t:TG}{gg:GG}{tt:Nat->GT}{te:Nat->GE}{src:m6}{pos:Pos}{M:List Str}{n:Nat}{cY:List Nat}
def GN{α β:Type}{x:ak (Rs α)}{f:α->aN->ak (Rs β)}{res:Rs β}(e:uW x f=some res):∃a S,x=some (.ok a S)/\f a S=some res:=by
 unfold uW at e;split at e
 .exact⟨_,_,rfl,e⟩
 .cases e
def Xd{gg:GG}{tt:GT}{te:GE}{S:aN}{aY:List D}{res:Rs (List D)}(e:bB gg tt te ds U S aY=some res):∃l S',res=.ok l S':=by
 induction ds generalizing U S aY with
 |nil=>cases e;exact⟨_,_,rfl⟩
 |cons d ds ih=>
  obtain⟨U1,_,e⟩:=cA.mp e;obtain⟨b,S1,_,e⟩:=GN e;cases b with
  |false=>exact ih e
  |true=>
   obtain⟨x,S2,_,e⟩:=GN (show uW _ _=some res from e);split at e
   .exact ih e
   .cases e
def δ{k:Kn}(g:gu K k Z U):gu K k (kA n cY Z) (vQ n cY U):=by
 refine⟨by unfold kA vQ;rw[dy,dy,bw,bw,qW,qW],λi v e=>?_⟩
 unfold vQ at e;unfold kA;by_cases hi:i<n
 .rw[xg (by rw[qW];exact hi),Na,bI hi] at e;cases e
 .have hi:=Nat.le_of_not_lt hi;rw[vk (by rw[qW];exact hi),qW,gP] at e ⊢
  obtain⟨j,h1,h2⟩:=dm.mp e;obtain⟨x,h3,h4⟩:=g.at' j v (OD h2)
  simp_all
def e3k{J:It}{k1:Kn}{H1:Hp}{m:Nat}{out:List D}{S1 S2:aN}{τ:St}{gt:GT}{ge:GE}{fZ:List V->Hp->Prop}(ht:kq K t gg)(r1:gR K k1 H1 m J ds)(bH:bX K k1 H1 S1)(g1:gu K k1 τ U)(e:bB gg gt ge ds U S1 []=some (.ok out S2))
  (w:∀k H vs,Up m k1 H1 k H->bX K k H S2->ah K k vs out->fZ vs H):ql J t (tT K W0 m gt) (tE K W0 m ge) τ H1 fZ:=by
 refine⟨ds.length,λi τ vs H=>i<=ds.length/\∃k U S aY,bX K k H S/\gu K k τ U/\ah K k vs aY/\Up m k1 H1 k H/\bB gg gt ge (ds.drop i) U S aY=some (.ok out S2),⟨mL _,k1,U,S1,[],bH,g1,.nil,.refl,e⟩,?_⟩
 rintro i τ vs H hi ⟨_,k,U,S,aY,ok,gk,rv,u,e⟩;rcases Nat.lt_or_ge i ds.length with h|h
 .rw[Ng h] at e;refine .inr ⟨h,r1.go i k H u.le ok.le u.kept h,λx H' y=>?_⟩
  obtain⟨F',s1,s2,s3,s4,rp⟩:=r1.uK i k H x H' u.le ok.le u.kept y _ (jq h);have u2:Up m k H ⟨F',k.A,k.T⟩ H':=.of s1 s2;have fE:bX K ⟨F',k.A,k.T⟩ H' S:=ok.new s1 (λp _ o z=>s2 p o z) s3 λp m=>s4 p (ok.there p m)
  obtain⟨U1,e1,e2⟩:=cA.mp e;refine ht _ H' τ U U1 x ds[i] _ s3 (gk.up u2) rp e1 λτ1 g1=>?_
  obtain⟨b,S3,e3,e4⟩:=GN e2;refine⟨_,U1,S,_,fE,g1,e3,λb' k3 H3 u3 jY r3=>?_⟩
  cases r3;have u4:=(u.trans u2).trans u3;cases b with
  |false=>exact t_ ⟨h,k3,U1,S3,aY,jY,g1.up u3,rv.mono (u2.trans u3).le,u4,e4⟩
  |true=>
   obtain⟨y,S4,e5,e6⟩:=GN (show uW _ _=some _ from e4);refine ua (MR ⟨_,U1,S3,_,jY,g1.up u3,e5,λv k5 H5 u5 ny r5=>?_⟩)
   split at e6
   .rename_i hl
    refine⟨fU (by rw[rv.length];exact hl) (by decide),h,k5,U1,S4,aY++[y],ny,(g1.up u3).up u5,(rv.mono ((u2.trans u3).trans u5).le).append r5,u4.trans u5,e6⟩
   .cases e6
 .rw[Ik h] at e;cases e;exact .inl ⟨r1.stop i k H u.le ok.le u.kept h,w k H vs u ok rv⟩
def Qk{H:Hp}{Q:VK}(ht:kq K t gg)(h:tE K W q (cg q src gg tt te n cY) Z H Q):∃m,tX (RI K q) K W q src Z H λJ H1=>ql J t (tT K W0 m (tt m)) (tE K W0 m (te m)) (kA n cY Z) H1 λaY H'=>∀l,H' l=none->Q (.ref l) (upd H' l (.lst aY)):=by
 obtain⟨k,U,S,res,ok,gk,e,w⟩:=h;rcases BF e with⟨⟨m,ds⟩,S1,e1,e2⟩|⟨C,l,S1,e1,rfl⟩
 .refine⟨max q m,k,U,S,_,ok,gk,e1,λJ k1 H1 u1 bH r1=>?_⟩
  rcases BF e2 with⟨out,S2,e3,e4⟩|⟨C,l,S2,e3,rfl⟩
  .cases e4;refine e3k ht r1 bH (δ (gk.up u1)) e3 λk2 H2 vs u2 cJ rv l hl=>?_
   exact lI.lst (.fin cJ ((w.up u1).up (u2.weak (Nat.le_max_left q m)))) cJ.le rv hl
  .obtain⟨_,_,z⟩:=Xd e3;cases z
 .exact⟨0,k,U,S,_,ok,gk,e1,w⟩
def ε(hc:X.calm=true)(ok:dO X scope M n cY)(hi:PI X tg iter wi)(rJ:∀Z H R,tX (RI K q) K W q src Z H R->wi Z H R)(ht:kq K t gg)
  (hg:∀C s H fp,PG (fj X scope M C s H fp) tg t) (hT:∀m C s H fp,sT (fj X scope M C s H fp) ifs (tT K W0 m (tt m))) (hE:∀m C s H fp,PE (fj X scope M C s H fp) elt (tE K W0 m (te m)))
  (hs:∀x,foldedSetIterable iter X.env x=pure x):PE X (.ListComp elt [⟨tg,iter,ifs,0⟩] scope pos) (tE K W q (cg q src gg tt te n cY)):=λaa s Z H Q I h=>by
 obtain⟨m,h⟩:=Qk ht h;exact ZT hc ok hi hg (hT m) (hE m) hs aa s Z H Q I (rJ _ _ _ h)
def ζ{mu:Bool}{i:Nat}{x:Str}{px pk:Pos}(hc:X.calm=true)(ok:dO X scope M n cY)(hN:X.N.Nodup)(z9:X.N[i]?=some x)(hx:Loc X.env.scope x)(hi:PI X tg iter wi)(rJ:∀Z H R,tX (RI K q) K W q src Z H R->wi Z H R)(ht:kq K t gg)
  (hg:∀C s H fp,PG (fj X scope M C s H fp) tg t) (hT:∀m C s H fp,sT (fj X scope M C s H fp) ifs (tT K W0 m (tt m))) (hE:∀m C s H fp,PE (fj X scope M C s H fp) elt (tE K W0 m (te m)))
  (D8:swapsWith (.ListComp elt [⟨tg,iter,ifs,0⟩] scope pos) (some (.Name x px)) pk.line X.env=pure true) (hs:∀x,foldedSetIterable iter X.env x=pure x) (hf:X.fn x=true\/X.env.scope.names.lookup x=some .local) :
  PS X (.Assign [.Name x px] (.ListComp elt [⟨tg,iter,ifs,0⟩] scope pos) pk) (tS K W q (av i mu (cg q src gg tt te n cY))):=λaa s Z H D I h=>by
 obtain⟨m,h⟩:=Qk ht (Rk h);exact ZU hc ok hN z9 hx hi hg (hT m) (hE m) D8 hs hf aa s Z H D I (rJ _ _ _ h)
end
end L2
namespace L2
open PySem PySem.Spec PySem.W PySem.Calls PyProof.Rows
variable{hs:List ExceptHandler}
noncomputable def pC(C:ag)(fe:GE):GS:=λU S=>lr U (fe U S) λ_ S1=>some (.ex C none U S1)
section
variable{X:Cx}{K:Frag}{W:XW}{q:Nat}{C B0:ag}{x:Str}{p cp pos:Pos}{e:Expr}{fe:GE}
def Xe(G:fG K C (.ref B0::sd) none)(G0:fG K B0 sd none)(hk:keepIn K (.ref C)=true)(hm:X.mg x=some (.ref C))(hp:eL X W)(he:PE X e (tE K W q fe))(hc:X.calm=true)(hg:Gl X x)(lO:(x == ("__debug__":Str))=false)
  (lP:starEach [e] X.env=(false,eval e X.env)::starEach [] X.env) (hK:X.K=K):PS X (.Raise (some (.Call (.Name x p) [e] [] cp)) none pos) (tS K W q (pC C fe)):=by
 subst hK;intro aa s Z H D I t;have t1:tE X.K W q fe Z H λ_ H1=>W C none Z H1:=by
  obtain⟨k,U,S,fr,ok,gk,e,w⟩:=t;refine tS.bd ok gk e w λr S1 v k1 H1 bH g1 r1 e1 w1=>?_
  cases e1;exact w1 none Z k1 H1 .refl bH g1 rfl
 obtain⟨nm,qq,N,bs,sn,sub,ab,col,dd,k0,k1,k2,k3,k5,on,B1,es,ep,B2,g1,g2,g3,g4⟩:=id G;rw[arm_exec_Raise];show wpAny _ _ (do standAt pos;raiseStmt X.env (some (do let v <-eval (.Call (.Name x p) [e] [] cp) X.env;standAt pos;pure v)) none) _ _ _
 refine ay (wpAny_standAt (wpAny_raiseStmt_made_sub (C:=C) (nm:=nm) (q:=qq) (N:=N) (bs:=bs) (bm:=.ref B0::sd) (hdct:=true) (sn:=sn) (sub:=sub) (ab:=ab) (col:=col) (dd:=dd) (k0:=k0) (k1:=k1) (k2:=k2) (k3:=k3) (k5:=k5) (newId:="ValueError.__new__") rfl (I.ok.hd hc) (ay (bK ?_ λv s3 h3=>ay (wpAny_standAt (aU h3))))))
 refine wpAny_Call_Name_kw (Bu I hg hm ?_ lO);have ka:(backTo cp (starEach [] X.env)).any (·.1)=false:=by rw[starEach];rfl
 refine PySem.W.callWith_K (h₀:=X.base) I.ok.mod.BW hk (bK ((GF he nA lP) cp aa s Z H (λvs H1=>vs.length=1/\W C none Z H1) I (pZ t1 λ_ H1 h=>⟨rfl,h⟩)) λus s1 hh=>?_) lP ka
 obtain⟨vs,H1,I1,r,hl,pp⟩:=hh;refine⟨I1.ke,?_⟩;obtain⟨u,rfl⟩:∃u,us=[u]:=by
  have l:=r.length;rw[hl] at l;cases us with
  |nil=>cases l
  |cons u us=>cases us with
   |nil=>exact⟨u,rfl⟩
   |cons _ _=>cases l
 refine W_ G G0 I1 λh' t kp g=>⟨_,t,rfl,kp _ _ (I1.ke _ _ g1),g,?_⟩
 exact hp aa Z H1 s1 H1 _ _ C none I1 ⟨rfl,I1.bare,Un.kept kp,I1.bA.kept kp,xa _,I1.bA.fresh (xa _),_,_,g,rfl,rfl,rfl,by show 1<6;decide,.inl rfl⟩ pp
end
abbrev GH:=(ag->ak Bool)×GS
variable{gs:List GH}
noncomputable def Ew:Fr->ak Fr
 |.ex _ _ _ _=>none
 |r=>some r
def wN:List GH->ag->GS
 |[],_=>λ_ _=>none
 |h::hs,C=>λU S=>(h.1 C).bind λb=>if b=true then(h.2 U S).bind Ew else wN hs C U S
def tW(f:GS)(hs:List GH):GS:=λU S=>(f U S).bind λr=>match r with
 |.ex C _ U1 S1=>wN hs C U1 S1
 |r=>some r
section
variable{X:Cx}{K:Frag}{W:XW}{q:Nat}
theorem SP.eF{aa:List (ag×Obj)}{D:Ends}{f:Flow}{s':au}{e:ai}(h:SP (X.dH e) aa D f s')(hd:X.calm=true->X.A.handled=none):SP X aa D f s':=by
 cases f with
 |next=>obtain⟨Z',H',I,q⟩:=h;exact⟨Z',H',I.eF hd,q⟩
 |brk=>obtain⟨Z',H',I,q⟩:=h;exact⟨Z',H',I.eF hd,q⟩
 |cont=>obtain⟨Z',H',I,q⟩:=h;exact⟨Z',H',I.eF hd,q⟩
 |ret u=>obtain⟨v,Z',H',I,r,q⟩:=h;exact⟨v,Z',H',I.eF hd,r,q⟩
def Done.Ew{D:Ends}{k:Kn}{H:Hp}{r fr:Fr}(w:Done K W q D k H fr)(e:L2.Ew r=some fr):Done K W0 q D k H r:=by
 cases r with
 |ex _ _ _ _=>cases e
 |_=>cases e;exact w
def HB(X:Cx)(K:Frag)(W:XW)(q:Nat)(hs:List ExceptHandler)(gs:List GH):Prop:=∀(aa:List (ag×Obj)) (Z:St) (H:Hp) (s:au) (D:Ends) (e C:ag) (dx:ak ag) (k:Kn) (U:Gm) (S:aN) (fr:Fr) (n:Nat),Inv X aa Z H s->Cp X aa n->ip n s.heap H e C dx->bX K k H S->gu K k Z U->wN gs C U S=some fr->Done K W q D k H fr->
 wpAny (model X.prog X.w) X.A (handleBy (.ref e) X.env hs) (SP X aa D) X.xe s
def e3l:HB X K W q [] []:=λ_ _ _ _ _ _ _ _ _ _ _ _ _ _ _ _ _ _ e _=>nomatch e
def η{x:Str}{np hp:Pos}{b0:Stmt}{pz:List Stmt}{wh:ag->ak Bool}{g:GS}{Cc:ag}(hm:X.mg x=some (.ref Cc))(hw:∀C b,wh C=some b->exmOne K (.ref C) (.ref Cc)=some b)(hS:∀e,je (X.dH e) (b0::pz) (tS K W0 q g))(rest:HB X K W q hs gs)(hg:Gl X x)(lO:(x == ("__debug__":Str))=false)(hK:X.K=K):
  HB X K W q (.ExceptHandler (some (.Name x np)) none (b0::pz) hp::hs) ((wh,g)::gs):=by
 subst hK;intro aa Z H s D e C dx k U S fr n I y f ok gk ee w;obtain⟨bb,q1,ee⟩:=cA.mp ee;dsimp only at q1 ee;refine wpAny_handleBy_cons (codeAny_handlers_test (Bu (I.dH (e:=.ref e)) hg hm ?_ lO)) (by intro q;cases q)
 obtain⟨fP,u_,oe,vs,he,hc,hr⟩:=id f;have LT:Looks (model X.prog X.w) s.heap (typeOf (.ref e)) (.ref C):=by
  rw[<-hc];exact(Looks.ld he).andThen .now
 refine(exm_one I.ke LT (hw C bb q1)).here ?_;cases bb with
 |true=>
  obtain⟨r,e2,e3⟩:=cA.mp (show(g U S).bind L2.Ew=some fr from ee);refine codeAny_handlers_suite (Xa (X:=X) f λh' ch lz lx f2=>?_)
  have I2:Inv X aa Z H { s with heap:=h',toks:=s.toks}:=I.left y lx lz;refine wpAny_mono (hS (.ref e) aa _ Z H D I2.dH ⟨k,U,S,r,ok,gk,e2,w.Ew e3⟩) (λfl s2 q=>?_) λ_ _ z=>z.elim
  exact q.eF I.ok.hd
 |false=>exact rest aa Z H s D e C dx k U S fr n I y f ok gk ee w
theorem SP.dW{aa:List (ag×Obj)}{E:ai->au->Prop}{D:Ends}{f:Flow}{s':au}(h:SP (X.dI (X.pn++aa) E) [] D f s'):SP X aa D f s':=by
 cases f with
 |next=>obtain⟨Z',H',I,q⟩:=h;exact⟨Z',H',I.dW,q⟩
 |brk=>obtain⟨Z',H',I,q⟩:=h;exact⟨Z',H',I.dW,q⟩
 |cont=>obtain⟨Z',H',I,q⟩:=h;exact⟨Z',H',I.dW,q⟩
 |ret u=>obtain⟨v,Z',H',I,r,q⟩:=h;exact⟨v,Z',H',I.dW,r,q⟩
def e3m{body:List Stmt}{h0:ExceptHandler}{f:GS}{pos:Pos}(hb:∀(pn:List (ag×Obj)) (E:ai->au->Prop) (W:XW),eL (X.dI pn E) W->je (X.dI pn E) body (tS K W q f))(hh:HB X K W q (h0::hs) gs)(lP:X.stack=X.env::X.outer)(hf:X.env.frame=some X.env.locals):
  PS X (.Try body (h0::hs) [] [] pos) (tS K W q (tW f gs)):=by
 intro aa s Z H D I t;obtain⟨k,U,S,fr,ok,gk,e,w⟩:=t;obtain⟨r1,e1,e⟩:=cA.mp e;refine wpAny_Try_except ?_;have hp:eL (X.dI (X.pn++aa) λe s₁=>wpAny (model X.prog X.w) X.A (noteFrame e X.env) (λ_ s₂=>wpAny (model X.prog X.w) X.A (setFlight e none) (λ_ s₃=>wpAny (model X.prog X.w) X.A (handleBy e X.env (h0::hs)) (SP X aa D) X.xe s₃) X.xe s₂) X.xe s₁)
   (λC dx Z' H'=>∃k' U1 S1 fr,bX K k' H' S1/\gu K k' Z' U1/\wN gs C U1 S1=some fr/\Done K W q D k' H' fr):=by
  intro pe Z' H1 s1 H' s' e C dx I1 c q;obtain⟨k',U2,S2,fr2,cJ,gk2,e2,w2⟩:=q;have I':Inv X aa Z' H' s':=(c.inv I1).dW;have J:Inv X aa Z' H1 s1:=I1.dW;refine Rj (base:=X.base) (n:=s1.heap.objs.size) (by rw[<-lP];exact I.ok.frames) (by rw[<-lP];exact I'.stack) hf c.Hu.lt (λa z=>I'.bA.fresh z) c.Hu λh' ch lz lx fl=>?_
  rw[<-lP] at lx;have I3:Inv X aa Z' H' { s' with heap:=h',toks:=s'.toks}:=I'.left J.TC lx lz;exact hh aa Z' H' _ D e C dx k' U2 S2 fr2 _ I3 J.TC fl cJ gk2 e2 w2
 refine wpAny_mono (hb _ _ _ hp [] s Z H D I.dI ⟨k,U,S,r1,ok,gk,e1,?_⟩) (λff s1 z=>?_) λe s1 z=>z
 .cases r1 with
  |ex C l U1 S1=>exact λdx Z' k' H' u fE g' el=>⟨k',U1,S1,fr,fE,g',e,w.up u⟩
  |_=>cases e;exact w
 .have z:=z.dW;cases ff with
  |next=>
   obtain⟨Z',H',J,r⟩:=z;exact qO aa s1 Z' H' D J r
  |brk=>exact z
  |cont=>exact z
  |ret u=>exact z
end
end L2
namespace L2
open PySem PySem.Spec PyProof.Rows
variable{K:PySem.W.Frag}{es:List D}{j n:Nat}
abbrev bf(K:PySem.W.Frag)(H:Hp):List V->List D->Prop:=ah K ⟨H,[],[]⟩
def ah.Ii{H H1:Hp}{vs:List V}{ds:List D}(h:ah K ⟨H,[],[]⟩ vs ds)(s:aw H H1):ah K ⟨H1,[],[]⟩ vs ds:=ah.mono (k:=⟨H,[],[]⟩) ⟨s,lT ([]:List ag)⟩ h
section
variable{X:Cx}
mutual
def aQ:D->D->Bool
 |.lst xs,.lst ys=>cR xs ys
 |.tup xs,.tup ys=>cR xs ys
 |.aI,.aI=>true
 |.bl a,.bl b=>a == b
 |.bl a,.int b=>(if a then 1 else 0) == b
 |.int a,.bl b=>a == (if b then 1 else 0)
 |.int a,.int b=>a == b
 |.str a,.str b=>a == b
 |_,_=>false
def cR:List D->List D->Bool
 |[],[]=>true
 |x::xs,y::ys=>aQ x y&&cR xs ys
 |_,_=>false
end
noncomputable def c7:Nat->D->Bool
 |n+1,.lst xs=>xs.all (c7 n)
 |n+1,.tup xs=>xs.all (c7 n)
 |_,.aI=>true
 |_,.bl _=>true
 |_,.int _=>true
 |_,.str _=>true
 |_,_=>false
theorem CN:∀{xs ys:List D},xs.length≠ys.length->cR xs ys=false
 |[],[],h=>cC rfl h
 |[],_::_,_=>by unfold cR;rfl
 |_::_,[],_=>by unfold cR;rfl
 |x::xs,y::ys,h=>by unfold cR;rw[CN (by simpa using h),Bool.and_false]
theorem CO:∀{xs ys:List D} (n:Nat),xs.length=n->ys.length=n->cR xs ys=(List.range n).all λj=>aQ (xs.getD j .aI) (ys.getD j .aI)
 |[],[],0,_,_=>by unfold cR;rfl
 |x::xs,y::ys,n+1,h1,h2=>by
  unfold cR;rw[CO n (by simpa using h1) (by simpa using h2),List.range_succ_eq_map,qj,Ft]
  rfl
 |[],_,_+1,h,_=>by simp at h
 |_::_,[],_+1,_,h=>by simp at h
 |_::_,_,0,h,_=>by simp at h
 |[],_::_,0,_,h=>by simp at h
variable{aa:List (ag×Obj)}{Z:St}{H:Hp}{s:au}
def xA{F:Hp}{ws:List V}(r:bf K F ws es){aF:List ai}(rv:Vals ws aF)(h:j<aF.toArray.size):∃x,RelV x aF.toArray[j]/\bf K F [x] [es.getD j .aI]/\j<es.length:=by
 obtain⟨x,hx,rx⟩:=rv.at h;have hl:=r.length;have hj:j<es.length:=by
  grind
 obtain⟨y,hy,ry⟩:=r.get (i:=j) (d:=es[j]) (by simp[hj])
 rw[hx] at hy;cases hy;refine⟨x,rx,?_,hj⟩;rw[show es.getD j .aI=es[j] by simp[hj]]
 exact ry
def xt{p:D->Bool}(h:es.all p=true)(hj:j<es.length):p (es.getD j .aI)=true:=by
 simp_all
inductive y0 (K:PySem.W.Frag) (H:Hp) (s:au):ai->D->Prop
 |none:y0 K H s .none .aI
 |bool (b:Bool):y0 K H s (.bool b) (.bl b)
 |int (i:Int) (t:Tok):y0 K H s (.int i t) (.int i)
 |str (x:Str) (t:Tok):y0 K H s (.str x t) (.str x)
 |list {a:ag} {aF:List ai} {ws:List V} {es:List D}:s.heap.IsList a aF.toArray->Vals ws aF->bf K H ws es->y0 K H s (.ref a) (.lst es)
 |tuple {a:ag} {aF:List ai} {ws:List V} {es:List D}:s.heap.IsTuple a aF.toArray->Vals ws aF->bf K H ws es->y0 K H s (.ref a) (.tup es)
def G6(I:Inv X aa Z H s){x:V}{u:ai}{d:D}(r:bf X.K H [x] [d])(ru:RelV x u)(ok:c7 n d=true):y0 X.K H s u d:=by
 cases r with
 |lst q i _=>
  cases ru;obtain⟨aF,rv,pl,_⟩:=I.list q;exact .list pl.isList rv i
 |tup q i _=>
  cases ru;obtain⟨aF,rv,pl,_⟩:=I.tuple q;exact .tuple pl rv i
 |aB _ _ _ _ _=>cases n <;> cases ok
 |ref _ _=>cases n <;> cases ok
 |flat q _=>
  cases d with
  |aI=>cases q;cases ru;exact .none
  |bl b=>cases q;cases ru;exact .bool b
  |int i=>cases q;obtain⟨t,rfl⟩:=ru;exact .int i t
  |str z=>cases q;obtain⟨t,rfl⟩:=ru;exact .str z t
  |ty _=>cases n <;> cases ok
  |lst _=>cases q
  |tup _=>cases q
  |aB _=>cases q
  |ref _=>cases q
def zr(h:c7 n (.lst es)=true):∃m,n=m+1/\es.all (c7 m)=true:=by
 cases n with
 |zero=>cases h
 |succ n=>exact⟨n,rfl,h⟩
def zt(h:c7 n (.tup es)=true):∃m,n=m+1/\es.all (c7 m)=true:=by
 cases n with
 |zero=>cases h
 |succ n=>exact⟨n,rfl,h⟩
def OI(h:∀d∈es,aQ d d=true):cR es es=true:=by
 induction es with
 |nil=>unfold cR;rfl
 |cons d es ih=>unfold cR;rw[h d (by simp),ih λd m=>h d (by simp[m])];rfl
def JL:∀(n:Nat) {d:D},c7 n d=true->aQ d d=true:=by
 intro n
 induction n with
 |zero=>intro d h;cases d <;> first|(cases h;done)|simp[aQ]
 |succ n ih=>
  intro d h;cases d with
  |lst es=>simp only[aQ];exact OI λd m=>ih (pK.mp h d m)
  |tup es=>simp only[aQ];exact OI λd m=>ih (pK.mp h d m)
  |aB _=>cases h
  |ref _=>cases h
  |ty _=>cases h
  |_=>simp[aQ]
def Um{xs ys:List D}(hl:xs.length=ys.length)(h:∀j,j<xs.length->xs.getD j .aI=ys.getD j .aI):xs=ys:=by
 apply List.ext_getElem hl;intro j h1 h2;have:=h j h1;simpa[h1,h2] using this
noncomputable def MW:V->D
 |.bl b=>.bl b
 |.int i=>.int i
 |.str x=>.str x
 |.ty n=>.ty n
 |_=>.aI
def OJ{d:D}{v:V}(h:xy d=some v):d=MW v:=by cases d <;> cases h <;> rfl
def Br{d:D}{a:ag}(h:xy d=some (.ref a)):False:=by cases d <;> cases h
def GP(I:Inv X aa Z H s):∀(n m:Nat) {x:V} {d e:D},bf X.K H [x] [d]->bf X.K H [x] [e]->c7 n d=true->c7 m e=true->d=e:=by
 intro n
 induction n using Nat.strongRecOn with
 |ind n ih=>
 intro m x d e rd re od oe;have go:∀{ws:List V} {es mm:List D} {n' m':Nat},n'<n->bf X.K H ws es->bf X.K H ws mm->es.all (c7 n')=true->mm.all (c7 m')=true->es=mm:=by
  intro ws es mm n' m' hn r1 r2 o1 o2;have l1:=r1.length;have l2:=r2.length;refine Um (by lia) λj hj=>?_
  have HH:j<mm.length:=by lia
  obtain⟨v,g1,g2⟩:=r1.get (i:=j) (d:=es[j]) (by simp[hj])
  obtain⟨v',p1,p2⟩:=r2.get (i:=j) (d:=mm[j]) (by simp[HH])
  rw[g1] at p1;cases p1;rw[show es.getD j .aI=es[j] by simp[hj],show mm.getD j .aI=mm[j] by simp[HH]]
  exact ih n' hn m' g2 p2 (pK.mp o1 _ (Fs hj)) (pK.mp o2 _ (Fs HH))
 cases rd with
 |flat q _=>
  cases re with
  |flat q' _=>
   rw[OJ q,OJ q']
  |lst _ _ _=>exact(Br q).elim
  |tup _ _ _=>exact(Br q).elim
  |aB _ _ _ _ _=>exact(Br q).elim
  |ref _ _=>exact(Br q).elim
 |lst q i _=>
  obtain⟨n',rfl,ui⟩:=zr od;cases re with
  |flat q' _=>exact(Br q').elim
  |lst q' i' _=>
   obtain⟨m',rfl,uj⟩:=zr oe;cases I.k6 q q';rw[go (w_ _) i i' ui uj]
  |tup q' i' _=>
   obtain⟨_,_,p1,_⟩:=I.list q;obtain⟨_,_,p2,_⟩:=I.tuple q';exact cC rfl (SeqAt.ne_of_list_tuple p1.isList p2)
  |aB _ _ _ _ _=>cases m <;> cases oe
  |ref _ _=>cases m <;> cases oe
 |tup q i _=>
  obtain⟨n',rfl,ui⟩:=zt od;cases re with
  |flat q' _=>exact(Br q').elim
  |tup q' i' _=>
   obtain⟨m',rfl,uj⟩:=zt oe;cases I.mK q q';rw[go (w_ _) i i' ui uj]
  |lst q' i' _=>
   obtain⟨_,_,p1,_⟩:=I.list q';obtain⟨_,_,p2,_⟩:=I.tuple q;exact cC rfl (SeqAt.ne_of_list_tuple p1.isList p2)
  |aB _ _ _ _ _=>cases m <;> cases oe
  |ref _ _=>cases m <;> cases oe
 |aB _ _ _ _ _=>cases n <;> cases od
 |ref _ _=>cases n <;> cases od
def Dd(I:Inv X aa Z H s):∀(n m:Nat) {A:cQ} {x y:V} {u v:ai} {d e:D},bf X.K H [x] [d]->bf X.K H [y] [e]->c7 n d=true->c7 m e=true->RelV x u->RelV y v->A.units+n<cLine->
  SeqAt.EqAt A s u v (aQ d e)/\SeqAt.RcAt A s u v (aQ d e):=by
 intro n
 induction n using Nat.strongRecOn with
 |ind n ih=>
 intro m A x y u v d e rd re od oe ru rv hu;have cI:A.units<cLine:=by lia
 have s1:=G6 I rd ru od;have s2:=G6 I re rv oe;cases s1 with
 |none=>
  cases s2 with
  |none=>
   exact⟨SeqAt.EqAt.same _,SeqAt.RcAt.none_none⟩
  |bool a2=>
   simp only[aQ];exact⟨SeqAt.EqAt.none_bool a2,SeqAt.RcAt.none_bool a2⟩
  |int a2 t2=>
   simp only[aQ];exact⟨SeqAt.EqAt.none_int a2 t2,SeqAt.RcAt.none_int a2 t2⟩
  |str a2 t2=>
   simp only[aQ];exact⟨SeqAt.EqAt.none_str a2 t2,SeqAt.RcAt.none_str a2 t2⟩
  |list l2 v2 r2=>
   simp only[aQ];exact⟨SeqAt.EqAt.none_list l2 cI,SeqAt.RcAt.none_list l2 cI⟩
  |tuple l2 v2 r2=>
   simp only[aQ];exact⟨SeqAt.EqAt.none_tuple l2 cI,SeqAt.RcAt.none_tuple l2 cI⟩
 |bool a1=>
  cases s2 with
  |none=>
   simp only[aQ];exact⟨SeqAt.EqAt.bool_none a1,SeqAt.RcAt.bool_none a1⟩
  |bool a2=>
   simp only[aQ];exact⟨SeqAt.EqAt.bool_bool a1 a2,SeqAt.RcAt.bool_bool a1 a2⟩
  |int a2 t2=>
   simp only[aQ];exact⟨SeqAt.EqAt.bool_int a1 a2 t2,SeqAt.RcAt.bool_int a1 a2 t2⟩
  |str a2 t2=>
   simp only[aQ];exact⟨SeqAt.EqAt.bool_str a1 a2 t2,SeqAt.RcAt.bool_str a1 a2 t2⟩
  |list l2 v2 r2=>
   simp only[aQ];exact⟨SeqAt.EqAt.bool_list a1 l2 cI,SeqAt.RcAt.bool_list a1 l2 cI⟩
  |tuple l2 v2 r2=>
   simp only[aQ];exact⟨SeqAt.EqAt.bool_tuple a1 l2 cI,SeqAt.RcAt.bool_tuple a1 l2 cI⟩
 |int a1 t1=>
  cases s2 with
  |none=>
   simp only[aQ];exact⟨SeqAt.EqAt.int_none a1 t1,SeqAt.RcAt.int_none a1 t1⟩
  |bool a2=>
   simp only[aQ];exact⟨SeqAt.EqAt.int_bool a1 t1 a2,SeqAt.RcAt.int_bool a1 t1 a2⟩
  |int a2 t2=>
   simp only[aQ];exact⟨SeqAt.EqAt.int_int a1 t1 a2 t2,SeqAt.RcAt.int_int a1 t1 a2 t2⟩
  |str a2 t2=>
   simp only[aQ];exact⟨SeqAt.EqAt.int_str a1 t1 a2 t2,SeqAt.RcAt.int_str a1 t1 a2 t2⟩
  |list l2 v2 r2=>
   simp only[aQ];exact⟨SeqAt.EqAt.int_list a1 t1 l2 cI,SeqAt.RcAt.int_list a1 t1 l2 cI⟩
  |tuple l2 v2 r2=>
   simp only[aQ];exact⟨SeqAt.EqAt.int_tuple a1 t1 l2 cI,SeqAt.RcAt.int_tuple a1 t1 l2 cI⟩
 |str a1 t1=>
  cases s2 with
  |none=>
   simp only[aQ];exact⟨SeqAt.EqAt.str_none a1 t1,SeqAt.RcAt.str_none a1 t1⟩
  |bool a2=>
   simp only[aQ];exact⟨SeqAt.EqAt.str_bool a1 t1 a2,SeqAt.RcAt.str_bool a1 t1 a2⟩
  |int a2 t2=>
   simp only[aQ];exact⟨SeqAt.EqAt.str_int a1 t1 a2 t2,SeqAt.RcAt.str_int a1 t1 a2 t2⟩
  |str a2 t2=>
   simp only[aQ];exact⟨SeqAt.EqAt.str_str a1 t1 a2 t2,SeqAt.RcAt.str_str a1 t1 a2 t2⟩
  |list l2 v2 r2=>
   simp only[aQ];exact⟨SeqAt.EqAt.str_list a1 t1 l2 cI,SeqAt.RcAt.str_list a1 t1 l2 cI⟩
  |tuple l2 v2 r2=>
   simp only[aQ];exact⟨SeqAt.EqAt.str_tuple a1 t1 l2 cI,SeqAt.RcAt.str_tuple a1 t1 l2 cI⟩
 |list l1 v1 r1=>
  cases s2 with
  |none=>
   simp only[aQ];exact⟨SeqAt.EqAt.list_none l1 cI,SeqAt.RcAt.list_none l1 cI⟩
  |bool a2=>
   simp only[aQ];exact⟨SeqAt.EqAt.list_bool a2 l1 cI,SeqAt.RcAt.list_bool a2 l1 cI⟩
  |int a2 t2=>
   simp only[aQ];exact⟨SeqAt.EqAt.list_int a2 t2 l1 cI,SeqAt.RcAt.list_int a2 t2 l1 cI⟩
  |str a2 t2=>
   simp only[aQ];exact⟨SeqAt.EqAt.list_str a2 t2 l1 cI,SeqAt.RcAt.list_str a2 t2 l1 cI⟩
  |list l2 v2 r2=>
   rename_i a aF ws es b iU Fi mm
   obtain⟨n',rfl,ui⟩:=zr od;obtain⟨m',rfl,uj⟩:=zr oe;have la:=v1.length;have lb:=v2.length;have BX:=r1.length;have LV:=r2.length;have rc:SeqAt.RcAt A s (.ref a) (.ref b) (aQ (.lst es) (.lst mm)):=by
    simp only[aQ];by_cases hl:es.length=mm.length
    .rw[CO aF.toArray.size (by simp only[dw];lia) (by simp only[dw];lia)]
     refine SeqAt.RcAt.lists (A:=A) l1 l2 (by simp only[dw];lia) cI λj h1 h2=>?_
     obtain⟨x1,q1,q2,q3⟩:=xA r1 v1 h1;obtain⟨y1,p1,p2,p3⟩:=xA r2 v2 h2;exact(ih n' (w_ _) m' q2 p2 (xt ui q3) (xt uj p3) q1 p1 (by show A.units+1+n'<cLine;lia)).1
    .rw[CN hl];exact SeqAt.RcAt.lists_lengths (A:=A) l1 l2 (by simp only[dw,bne_iff_ne,ne_eq];lia) cI
   refine⟨?_,rc⟩;by_cases DO:a=b
   .subst DO;have K2:x=y:=RelV.inj ru rv;subst K2;have e2:=GP I _ _ rd re od oe;cases e2;rw[JL _ od];exact SeqAt.EqAt.same _
   .exact SeqAt.EqAt.of_refs DO rc
  |tuple l2 v2 r2=>
   simp only[aQ];exact⟨SeqAt.EqAt.list_tuple l1 l2 cI,SeqAt.RcAt.list_tuple l1 l2 cI⟩
 |tuple l1 v1 r1=>
  cases s2 with
  |none=>
   simp only[aQ];exact⟨SeqAt.EqAt.tuple_none l1 cI,SeqAt.RcAt.tuple_none l1 cI⟩
  |bool a2=>
   simp only[aQ];exact⟨SeqAt.EqAt.tuple_bool a2 l1 cI,SeqAt.RcAt.tuple_bool a2 l1 cI⟩
  |int a2 t2=>
   simp only[aQ];exact⟨SeqAt.EqAt.tuple_int a2 t2 l1 cI,SeqAt.RcAt.tuple_int a2 t2 l1 cI⟩
  |str a2 t2=>
   simp only[aQ];exact⟨SeqAt.EqAt.tuple_str a2 t2 l1 cI,SeqAt.RcAt.tuple_str a2 t2 l1 cI⟩
  |list l2 v2 r2=>
   simp only[aQ];exact⟨SeqAt.EqAt.tuple_list l1 l2 cI,SeqAt.RcAt.tuple_list l1 l2 cI⟩
  |tuple l2 v2 r2=>
   rename_i a aF ws es b iU Fi mm
   obtain⟨n',rfl,ui⟩:=zt od;obtain⟨m',rfl,uj⟩:=zt oe;have la:=v1.length;have lb:=v2.length;have BX:=r1.length;have LV:=r2.length;have rc:SeqAt.RcAt A s (.ref a) (.ref b) (aQ (.tup es) (.tup mm)):=by
    have z:=SeqAt.RcAt.tuples (A:=A) (e:=λj=>aQ (es.getD j .aI) (mm.getD j .aI)) l1 l2 cI λj h1 h2=>by
     obtain⟨x1,q1,q2,q3⟩:=xA r1 v1 h1;obtain⟨y1,p1,p2,p3⟩:=xA r2 v2 h2;exact(ih n' (w_ _) m' q2 p2 (xt ui q3) (xt uj p3) q1 p1 (by show A.units+1+n'<cLine;lia)).1
    simp only[aQ];by_cases hl:es.length=mm.length
    .rw[CO aF.toArray.size (by simp only[dw];lia) (by simp only[dw];lia)]
     have e1:iU.toArray.size=aF.toArray.size:=by simp only[dw];lia
     rw[e1,Nat.min_self,fY,Bool.and_true] at z;exact z
    .rw[CN hl];have e1:(aF.toArray.size == iU.toArray.size)=false:=by rw[uI];simp only[dw];lia
     rw[e1,Bool.and_false] at z;exact z
   refine⟨?_,rc⟩;by_cases DO:a=b
   .subst DO;have K2:x=y:=RelV.inj ru rv;subst K2;have e2:=GP I _ _ rd re od oe;cases e2;rw[JL _ od];exact SeqAt.EqAt.same _
   .exact SeqAt.EqAt.of_refs DO rc
end
mutual
theorem J8:∀k j:TK,aQ k.d j.d=decide (k=j)
 |.inl a,.inl b=>by simp only[TK.d,aQ];rw[AX];simp
 |.inr a,.inr b=>by simp only[TK.d,aQ];rw[AX];simp
 |.tp l,.tp m=>by simp only[TK.d,aQ];rw[oO l m,AX];simp
 |.inl _,.inr _=>by simp[TK.d,aQ]
 |.inl _,.tp _=>by simp[TK.d,aQ]
 |.inr _,.inl _=>by simp[TK.d,aQ]
 |.inr _,.tp _=>by simp[TK.d,aQ]
 |.tp _,.inl _=>by simp[TK.d,aQ]
 |.tp _,.inr _=>by simp[TK.d,aQ]
 |.aI,.aI=>by simp[TK.d,aQ]
 |.aI,.inl _=>by simp[TK.d,aQ]
 |.aI,.inr _=>by simp[TK.d,aQ]
 |.aI,.tp _=>by simp[TK.d,aQ]
 |.inl _,.aI=>by simp[TK.d,aQ]
 |.inr _,.aI=>by simp[TK.d,aQ]
 |.tp _,.aI=>by simp[TK.d,aQ]
theorem oO:∀l m:List TK,cR (TK.dl l) (TK.dl m)=decide (l=m)
 |[],[]=>by simp[TK.dl,cR]
 |a::l,b::m=>by simp only[TK.dl,cR];rw[J8 a b,oO l m,AX];simp
 |[],_::_=>by simp[TK.dl,cR]
 |_::_,[]=>by simp[TK.dl,cR]
end
theorem G7:∀l:List TK,TK.dl l=l.map TK.d
 |[]=>by simp[TK.dl]
 |a::l=>by simp[TK.dl,G7 l]
theorem Bv:∀(n:Nat) {k:TK},k.ok n=true->c7 n k.d=true
 |n,.inl i,_=>by cases n <;> simp[TK.d,c7]
 |n,.inr i,_=>by cases n <;> simp[TK.d,c7]
 |n,.aI,_=>by cases n <;> simp[TK.d,c7]
 |0,.tp l,h=>by simp[TK.ok] at h
 |n+1,.tp l,h=>by
  simp only[TK.d,c7,G7,Ft];refine pK.mpr λa m=>?_
  exact Bv n (pK.mp (by simpa only[TK.ok] using h) a m)
def VX{α:Type}{M:Model}{A:cQ}{E:ai->au->Prop}{s:au}{c:Prop}[Decidable c]{a b:Sem α}{Q:α->au->Prop}(h1:wpAny M A a Q E s)(h2:wpAny M A b Q E s):wpAny M A (if c then a else b) Q E s:=by
 split
 .exact h1
 .exact h2
theorem NP(w:cB):∀l m:List TK,TK.dF w (l++m)=TK.dF w l++TK.dF w m
 |[],m=>by simp[TK.dF]
 |a::l,m=>by simp[TK.dF,NP w l m]
section
variable{X:Cx}{aa:List (ag×Obj)}{Z:St}{H:Hp}
def Ql{A:cQ}{E:ai->au->Prop}{s:au}{y:V}{u:ai}{i:Int}{Q:Int->au->Prop}(r:bf X.K H [y] [TK.d (.inl i)])(ru:RelV y u)(h:∀t,Q (TK.hash X.w (.inl i)) { s with toks:=t}):wpAny (model X.prog X.w) A (pyHash u) Q E s:=by
 simp only[TK.d] at r;cases r with
 |flat q _=>cases q;obtain⟨t,rfl⟩:=ru;exact wpAny_pyHash_int (by simpa only[TK.hash] using h _)
def Qm{A:cQ}{E:ai->au->Prop}{s:au}{y:V}{u:ai}{i:Str}{Q:Int->au->Prop}(r:bf X.K H [y] [TK.d (.inr i)])(ru:RelV y u)(h:∀t,Q (TK.hash X.w (.inr i)) { s with toks:=t}):wpAny (model X.prog X.w) A (pyHash u) Q E s:=by
 simp only[TK.d] at r;cases r with
 |flat q _=>cases q;obtain⟨t,rfl⟩:=ru;exact wpAny_pyHash_str (by simpa only[TK.hash] using h _)
theorem Qn{A:cQ}{E:ai->au->Prop}{s:au}{y:V}{u:ai}{Q:Int->au->Prop}(r:bf X.K H [y] [TK.d .aI])(ru:RelV y u)(h:∀t,Q (TK.hash X.w .aI) { s with toks:=t}):wpAny (model X.prog X.w) A (pyHash u) Q E s:=by
 simp only[TK.d] at r;cases r with
 |flat q _=>
  cases q;cases ru;have hT:s.TypeIs .none "NoneType":=rfl;unfold pyHash;have hv:[Value.none].any Value.onHeap=false:=rfl;refine ay ?_;rw[cRoomFor,ba (by rw[hv];exact si)];refine aU ?_
  refine ay (wpAny_specialOf hT F.slot_NoneType_hash.lookup ?_);show wpAny _ _ (if(some (Value.builtin "NoneType.__hash__") == some Value.none)=true then _ else _) Q E s
  rw[ba (by rw[beq_builtin_none];exact si)]
  refine ay (wpAny_specialOf hT F.slot_NoneType_hash.lookup ?_);show wpAny _ _ (callSpecialIfBoundUnlessNone? .none "__hash__" _ >>= _) Q E s;refine ay (wpAny_callSpecialIfBoundUnlessNone?_slot hT F.slot_NoneType_hash (wpAny_call_entry F.slot_NoneType_hash hT F.entry_NoneType_hash (show wpAny _ _ (do ret (<-mkInt 4238894112)) _ _ s from wpAny_ret_mkInt ?_) (F.args_NoneType_hash_1 _)))
  refine aU ?_
  grind [TK.hash]
theorem Pe:∀(n:Nat) {A:cQ} {E:ai->au->Prop} {s:au} {y:V} {u:ai} {k:TK} {Q:Int->au->Prop},Inv X aa Z H s->bf X.K H [y] [k.d]->k.ok n=true->RelV y u->A.units+n<cLine->
  (∀t,Q (k.hash X.w) { s with toks:=t})->wpAny (model X.prog X.w) A (pyHash u) Q E s:=by
 intro n
 induction n with
 |zero=>
  intro A E s y u k Q I r ok ru hu h;cases k with
  |tp l=>simp[TK.ok] at ok
  |inl i=>exact Ql r ru h
  |inr x=>exact Qm r ru h
  |aI=>exact Qn r ru h
 |succ n ih=>
  intro A E s y u k Q I r ok ru hu h;cases k with
  |inl i=>exact Ql r ru h
  |inr x=>exact Qm r ru h
  |aI=>exact Qn r ru h
  |tp l=>
   simp only[TK.d] at r;cases r with
   |flat q _=>cases q
   |@tup a ws _ _ _ q i _=>
    cases ru;obtain⟨aF,rv,pl,_⟩:=I.tuple q;have hT:s.TypeIs (.ref a) "tuple":=pl.typeIs;obtain⟨o,g1,g2,nn,g3⟩:=pl;have ok:l.all (TK.ok n)=true:=by simpa only[TK.ok] using ok
    show wpAny _ _ (pyHashByItsType (.ref a)) Q E s;unfold pyHashByItsType;refine ay (wpAny_cRoomFor_or (.inr (by lia)) (ay (wpAny_specialOf hT F.slot_tuple_hash.lookup ?_)))
    dsimp only;rw[ba (by rw[beq_builtin_none];exact si)]
    refine ay (wpAny_specialOf hT F.slot_tuple_hash.lookup (ay ?_));refine wpAny_callSpecialIfBoundUnlessNone?_slot hT F.slot_tuple_hash (wpAny_call_entry F.slot_tuple_hash hT F.entry_tuple_hash ?_ (F.args_tuple_hash_1 _));show wpAny _ _ (Builtin.Tuple.tupleItemsOf (.ref a) >>= λz=>_) _ _ s
    refine ay (wpAny_tupleItemsOf g1 g3 (ay ?_));rw[<-Array.forIn_toList];refine wpAny_forIn_list _ (λrest (b:Array Int) s'=>∃done left wl t,l=done++left/\bf X.K H wl (TK.dl left)/\Vals wl rest/\b.toList=TK.dF X.w done/\s'={ s with toks:=t}) _ ?_ ?_ _ _ ⟨[],l,ws,s.toks,rfl,i,rv,by simp[TK.dF],rfl⟩
    .rintro x rest b s' ⟨done,left,wl,t,e,r',v',hb,rfl⟩;cases v' with
     |@cons w1 _ wl _ Mt v'=>
      cases left with
      |nil=>have:=r'.length;simp[TK.dl] at this
      |cons k1 left=>
       simp only[TK.dl] at r';have bH:k1.ok n=true:=pK.mp ok k1 (by rw[e];simp)
       have fin:∀t',∃xP yo TB B4,l=xP++yo/\bf X.K H TB (TK.dl yo)/\Vals TB rest/\(b.push (k1.hash X.w)).toList=TK.dF X.w xP/\({ s with toks:=t'}:au)={ s with toks:=B4}:=
        λt'=>⟨done++[k1],left,wl,t',by simp[e],r'.inv.2,v',by rw[NP,<-hb];simp[TK.dF],rfl⟩
       exact ay (ih (I.tok t) r'.inv.1 bH Mt (by show A.units+1+n<cLine;lia) λt'=>by
        first
         |exact aU (fin t')
         |exact ay (aU (aU (fin t'))))
    .rintro b s' ⟨done,left,wl,t,e,r',v',hb,rfl⟩;cases v';have hl:left=[]:=by
      cases left with
      |nil=>rfl
      |cons _ _=>have:=r'.length;simp[TK.dl] at this
     subst hl;rw[mO] at e;subst e;show wpAny _ _ (retInt (Builtin.Tuple.tupleHashOf b.toList)) _ _ _;rw[hb];refine wpAny_ret_mkInt ?_;have h':∀t,Q (reduceHash (Builtin.Tuple.tupleHashOf (TK.dF X.w l))) { s with toks:=t}:=λt=>by simpa only[TK.hash] using h t
     unfold reduceHash at h';show wpAny _ _ (if(decide (-(2:Int)^63<=Builtin.Tuple.tupleHashOf (TK.dF X.w l))&&decide (Builtin.Tuple.tupleHashOf (TK.dF X.w l)<2^63))=true then _ else _) Q E _
     split
     .rename_i hc
      rw[bI hc] at h';exact aU (h' _)
     .rename_i hc
      rw[ba hc] at h';exact ay (wpAny_rule (aU (h' _)))
theorem OK:∀(n:Nat) {A:cQ} {E:ai->au->Prop} {s:au} {y:V} {u:ai} {k:TK} {Q:Bool->au->Prop},Inv X aa Z H s->bf X.K H [y] [k.d]->k.ok n=true->RelV y u->Q true s->
  wpAny (model X.prog X.w) A (eqIsQuiet n u) Q E s:=by
 intro n
 induction n with
 |zero=>
  intro A E s y u k Q I r ok ru h;cases k with
  |tp l=>simp[TK.ok] at ok
  |inl i=>simp only[TK.d] at r;cases r with|flat q _=>cases q;obtain⟨t,rfl⟩:=ru;rw[eqIsQuiet_byValue 0 rfl];exact aU h
  |inr i=>simp only[TK.d] at r;cases r with|flat q _=>cases q;obtain⟨t,rfl⟩:=ru;rw[eqIsQuiet_byValue 0 rfl];exact aU h
  |aI=>simp only[TK.d] at r;cases r with|flat q _=>cases q;cases ru;rw[eqIsQuiet_byValue 0 rfl];exact aU h
 |succ n ih=>
  intro A E s y u k Q I r ok ru h;cases k with
  |inl i=>simp only[TK.d] at r;cases r with|flat q _=>cases q;obtain⟨t,rfl⟩:=ru;rw[eqIsQuiet_byValue (n+1) rfl];exact aU h
  |inr i=>simp only[TK.d] at r;cases r with|flat q _=>cases q;obtain⟨t,rfl⟩:=ru;rw[eqIsQuiet_byValue (n+1) rfl];exact aU h
  |aI=>simp only[TK.d] at r;cases r with|flat q _=>cases q;cases ru;rw[eqIsQuiet_byValue (n+1) rfl];exact aU h
  |tp l=>
   simp only[TK.d] at r;cases r with
   |flat q _=>cases q
   |@tup a ws _ _ _ q i _=>
    cases ru;obtain⟨aF,rv,pl,_⟩:=I.tuple q;have hT:s.TypeIs (.ref a) "tuple":=pl.typeIs;obtain⟨o,g1,g2,nn,g3⟩:=pl;have ok:l.all (TK.ok n)=true:=by simpa only[TK.ok] using ok
    unfold eqIsQuiet;refine ay (wpAny_specialOf hT F.slot_tuple_eq.lookup (ay (wpAny_isInstance hT isSubtype_tuple_tuple ?_)));simp only[lC,su,j7];refine ay (wpAny_seqItems g1 g3 (ay ?_));show wpAny _ _ (forIn aF.toArray _ _) _ _ s;rw[<-Array.forIn_toList];refine wpAny_forIn_list _ (λrest r s'=>r.1=none/\s'=s/\∃left wl,bf X.K H wl (TK.dl left)/\Vals wl rest/\∀x∈left,x.ok n=true) _ ?_ ?_ _ _ ⟨rfl,rfl,l,ws,i,rv,λx m=>pK.mp ok x m⟩
    .rintro v rest r s' ⟨hr,rfl,left,wl,r',v',hk⟩;cases v' with
     |@cons w1 _ wl _ Mt v'=>
      cases left with
      |nil=>have:=r'.length;simp[TK.dl] at this
      |cons k1 left=>
       simp only[TK.dl] at r';refine ay (ih I r'.inv.1 (hk k1 (by simp)) Mt ?_)
       simp only[lC,su,j7];exact aU ⟨rfl,rfl,left,wl,r'.inv.2,v',λx m=>hk x (by simp[m])⟩
    .rintro⟨r1,r2⟩ s' ⟨hr,rfl,_⟩;cases(show r1=none from hr);exact aU h
structure Ce (X:Cx) (A:cQ) (E:ai->au->Prop) (s:au) (xs:Array DictEntry) (es:List (TK×V×V)) (k:TK) (u:ai):Prop where
 ent:∀(j:Nat) (x:DictEntry),xs[j]?=some x->∃e,es[j]?=some e/\i7 X.w e x/\(∀(R:Bool->au->Prop),R (decide (e.1=k)) s->wpAny (model X.prog X.w) A (eqBool x.key u) R E s)/\
  ∀(R:Bool->au->Prop),R true s->wpAny (model X.prog X.w) A (eqIsQuiet 8 x.key) R E s
 ents:∀(j:Nat) (e:TK×V×V),es[j]?=some e->∃x:DictEntry,xs[j]?=some x/\i7 X.w e x
 uniq:∀(i j:Nat) (e f:TK×V×V),es[i]?=some e->es[j]?=some f->e.1=k->f.1=k->i=j
def e3n{A:cQ}{E:ai->au->Prop}{s:au}{xs:Array DictEntry}{es:List (TK×V×V)}{k:TK}{y:V}{u:ai}(I:Inv X aa Z H s)(g3:Paired (i7 X.w) es xs.toList)(g4:(es.map (·.1)).Nodup)
  (rk:bf X.K H (es.map (·.2.1)) (es.map (·.1.d))) (ry:bf X.K H [y] [k.d]) (ok:k.ok 8=true) (ru:RelV y u) (hu:A.units+8<cLine):Ce X A E s xs es k u where
 ent:=λj x hx=>by
  obtain⟨e,e1,e2⟩:=F_ j g3 (by rw[A0];exact hx)
  obtain⟨v,v1,v2⟩:=rk.get (i:=j) (d:=e.1.d) (by rw[gP,e1];rfl)
  rw[gP,e1] at v1;cases v1;refine⟨e,e1,e2,λR hR=>?_,λR hR=>OK 8 I v2 e2.2.2.2 e2.2.1 hR⟩
  refine(Dd I 8 8 v2 ry (Bv 8 e2.2.2.2) (Bv 8 ok) e2.2.1 ru hu).1 X.prog X.w E R ?_;rw[J8];exact hR
 ents:=λj e he=>by
  obtain⟨x,x1,x2⟩:=CI j g3 he
  simp_all
 uniq:=λi j e f he hf ek fk=>by
  have hi:(es.map (·.1))[i]?=some k:=by rw[gP,he,<-ek];rfl
  have hj:(es.map (·.1))[j]?=some k:=by rw[gP,hf,<-fk];rfl
  exact(List.getElem?_inj (fA.mp hi).1 g4).mp (hi.trans hj.symm)
section
variable{A:cQ}{E:ai->au->Prop}{s:au}{d:ag}{o:Obj}{xs:Array DictEntry}{ep:Nat}{es:List (TK×V×V)}{k:TK}{u:ai}{Q:ak Nat->au->Prop}
noncomputable abbrev pj(xs:Array DictEntry)(h:Int):List Nat:=placesWithHash xs.size (λi=>xs[i]?.map (·.hash)) h
def nB{h:Int}{i:Nat}:i∈pj xs h↔∃x,xs[i]?=some x/\x.hash=h:=by
 unfold pj placesWithHash;rw[yJ,xh];constructor
 .rintro⟨h1,h2⟩;refine⟨xs[i],vp h1,?_⟩;dsimp only at h2;rw[vp h1] at h2;simpa using h2
 .rintro⟨x,h1,h2⟩;refine⟨(B_.mp h1).1,?_⟩;dsimp only;rw[h1,Fu,h2];simp
def VY{h:Int}:(pj xs h).Nodup:=List.Nodup.sublist Im Nh
def Ce.pj(D:Ce X A E s xs es k u){j:Nat}{e:TK×V×V}(he:es[j]?=some e)(ek:e.1=k):j∈pj xs (k.hash X.w):=by
 obtain⟨x,x1,x2⟩:=D.ents j e he;exact nB.mpr ⟨x,x1,by rw[x2.1,ek]⟩
def VZ(D:Ce X A E s xs es k u)(g1:s.heap.get? d=some o)(g2:o.data=.dict xs ep)
  (q0:(∀(j:Nat) (e:TK×V×V),es[j]?=some e->e.1≠k)->Q none s) (q1:∀(j:Nat) (e:TK×V×V),es[j]?=some e->e.1=k->Q (some j) s) :
  wpAny (model X.prog X.w) A (dictWalkPlain d u (k.hash X.w) xs (pj xs (k.hash X.w))) Q E s:=by
 unfold dictWalkPlain;refine ay (wpAny_forIn_list _ (λrest b s'=>s'=s/\b=(none,())/\∃done,pj xs (k.hash X.w)=done++rest/\∀j e,j∈done->es[j]?=some e->e.1≠k) _ ?_ ?_ _ _ ⟨rfl,rfl,[],rfl,λ_ _ m=>by cases m⟩)
 .rintro i rest b s' ⟨rfl,rfl,done,hd,vd⟩;obtain⟨x,x1,x2⟩:=nB.mp (show i∈pj xs (k.hash X.w) by rw[hd];simp)
  obtain⟨e,e1,e2,eq,_⟩:=D.ent i x x1;simp only[x1];rw[bI (by rw[x2];simp)]
  refine ay (wpAny_dictEpoch g1 g2 (ay (eq _ (ay (wpAny_dictEpoch g1 g2 ?_)))));rw[ba (by simp)]
  by_cases ek:e.1=k
  .rw[xl ek];exact ay (wpAny_rule (aU (aU (q1 i e e1 ek))))
  .rw[yQ ek];refine ay (wpAny_rule (aU ⟨rfl,rfl,done++[i],by simp[hd],λj f m hf=>?_⟩))
   rcases dN.mp m with m|m
   .exact vd j f m hf
   .simp at m;subst m;rw[e1] at hf;cases hf;exact ek
 .rintro b s' ⟨rfl,rfl,done,hd,vd⟩;refine aU (q0 λj e he ek=>vd j e ?_ he ek)
  have:=D.pj he ek
  simp_all
def idv(u:ai):ai:=u
def Xf(D:Ce X A E s xs es k u)(g1:s.heap.get? d=some o)(g2:o.data=.dict xs ep)(hq:∀(R:Bool->au->Prop),R true s->wpAny (model X.prog X.w) A (eqIsQuiet 8 u) R E s)
  (hs:∀z t,u=.str z t->k=.inr z) (lP:∀(j:Nat) (x:DictEntry) (e:TK×V×V) z t,xs[j]?=some x->es[j]?=some e->x.key=.str z t->e.1=.inr z) (hh:∀a (j:Nat) (x:DictEntry) (e:TK×V×V),u=.ref a->xs[j]?=some x->es[j]?=some e->x.key=u->e.1=k)
  (q0:(∀(j:Nat) (e:TK×V×V),es[j]?=some e->e.1≠k)->Q none s) (q1:∀(j:Nat) (e:TK×V×V),es[j]?=some e->e.1=k->Q (some j) s) :
  wpAny (model X.prog X.w) A (dictFind d u (k.hash X.w)) Q E s:=by
 have walk:=VZ D g1 g2 q0 q1;have stored:∀v∈(pj xs (k.hash X.w)).filterMap (λi=>xs[i]?.map (·.key)),∀(R:Bool->au->Prop),R true s->wpAny (model X.prog X.w) A (eqIsQuiet 8 v) R E s:=by
  intro v hv R hR;obtain⟨i,_,hi⟩:=qg.mp hv;cases hx:xs[i]? with
  |none=>rw[hx] at hi;cases hi
  |some x=>
   rw[hx] at hi;obtain rfl:x.key=v:=by simpa using hi
   obtain⟨e,_,_,_,h⟩:=D.ent i x hx;exact h R hR
 have tell:∀(R:Bool->au->Prop),R false s->wpAny (model X.prog X.w) A (tableMayTell u ((pj xs (k.hash X.w)).filterMap λi=>xs[i]?.map (·.key))) R E s:=by
  intro R hR;unfold tableMayTell;split
  .exact aU hR
  .refine ay (hq _ ?_);simp only[lC,su,j7];refine ay (wpAny_forIn_list _ (λrest r s'=>s'=s/\r=(none,())/\∀v∈rest,∀(R:Bool->au->Prop),R true s->wpAny (model X.prog X.w) A (eqIsQuiet 8 v) R E s) _ ?_ ?_ _ _ ⟨rfl,rfl,stored⟩)
   .rintro x rest r s' ⟨rfl,rfl,hr⟩;refine ay (hr x (by simp) _ ?_)
    simp only[lC,su,j7];exact aU ⟨rfl,rfl,λv hv=>hr v (by simp[hv])⟩
   .rintro r s' ⟨rfl,rfl,_⟩;exact aU hR
 have tell2:∀(R:Bool->au->Prop),R false s->wpAny (model X.prog X.w) A (if((pj xs (k.hash X.w)).filterMap (λi=>xs[i]?.map (·.key)) == [u])=true then pure false else tableMayTell u ((pj xs (k.hash X.w)).filterMap λi=>xs[i]?.map (·.key))) R E s:=by
  intro R hR;split
  .exact aU hR
  .exact tell R hR
 have fin:∀(i:Nat) (x:DictEntry) (e:TK×V×V),xs[i]?=some x->es[i]?=some e->i7 X.w e x->(x.hash == k.hash X.w)=false->e.1≠k:=λi x e _ _ he hf ek=>by
  rw[he.1,ek] at hf;simp at hf
 unfold dictFind
 (try with_reducible refine lD ?_);refine ay (wpAny_dictEntries g1 g2 ?_)
 dsimp only;by_cases jX:((u::(pj xs (k.hash X.w)).filterMap λi=>xs[i]?.map (·.key)).all carriedByValue)=true
 .rw[bI jX];split;next z t=>
   split;next LB=>
    unfold foundByValue;cases hf:xs.findIdx? (λe=>e.key.isStr z) with
    |none=>
     refine aU (q0 λj e he ek=>?_)
     obtain⟨x,x1,x2⟩:=D.ents j e he;have n1:=Array.findIdx?_eq_none_iff.mp hf x (Array.mem_of_getElem? x1);have e2:=x2.2.1;have n2:isExactStrKey x.key=true:=by
      have h:=Array.all_eq_true.mp LB j (B_.mp x1).1;rw[(B_.mp x1).2] at h;exact h
     cases hk:x.key with
     |str z2 t2=>
      have e3:=lP j x e z2 t2 x1 he hk;rw[ek,hs z t rfl] at e3;cases e3;rw[hk] at n1;simp[Value.isStr] at n1
     |_=>rw[hk] at n2;cases n2
    |some i=>
     obtain⟨ji,hi,_⟩:=Array.findIdx?_eq_some_iff_getElem.mp hf;obtain⟨e,e1,e2,eq,_⟩:=D.ent i xs[i] (vp ji);have ek:e.1=k:=by
      cases hk:xs[i].key with
      |str z2 t2=>
       rw[hk] at hi;have:z2=z:=by simpa[Value.isStr] using hi
       subst this;rw[lP i _ e z2 t2 (vp ji) e1 hk,hs z2 t rfl]
      |_=>rw[hk] at hi;simp[Value.isStr] at hi
     simp only[vp ji];refine ay (wpAny_dictEpoch g1 g2 (ay (eq _ (ay (wpAny_dictEpoch g1 g2 ?_)))));rw[ba (by simp),xl ek]
     exact ay (wpAny_rule (aU (q1 i e e1 ek)))
   next=>exact walk
  next=>exact walk
 .rw[ba jX];have Ey:∀z t,u=.str z t->¬(xs.all λe=>isExactStrKey e.key)=true:=by
   intro z t hu hx;refine jX (pK.mpr λv hv=>?_)
   rcases y0a.mp hv with rfl|hv
   .rw[hu];rfl
   .obtain⟨i,_,hi⟩:=qg.mp hv;cases vf:xs[i]? with
    |none=>rw[vf] at hi;cases hi
    |some x=>
     rw[vf] at hi;obtain rfl:x.key=v:=by simpa using hi
     have h:=Array.all_eq_true.mp hx i (B_.mp vf).1;rw[(B_.mp vf).2] at h;cases hk:x.key with
     |str _ _=>rfl
     |_=>rw[hk] at h;cases h
  have yp:∀a,u=.ref a->¬(xs.any λe=>e.key == u&&e.hash != k.hash X.w)=true:=by
   intro a hu hx;rw[Array.any_eq_true] at hx;obtain⟨i,hi,hc⟩:=hx;rw[fX,beq_iff_eq,bne_iff_ne] at hc;obtain⟨e,e1,e2,_⟩:=D.ent i xs[i] (vp hi);have:=hh a i _ e hu (vp hi) e1 hc.1;exact hc.2 (by rw[e2.1,this])
  have Ll:u=idv u:=rfl;refine(λ(key:?P)=>?main) ?k
  case main=>
   rw(occs:=.pos [1]) [Ll];split
   .rename_i z t hz
    rw[ba (Ey z t hz)];rw(occs:=.pos [1]) [Ll];split
    .rename_i a ha
     rw[ba (yp a ha)];exact key
    .exact key
   .rw(occs:=.pos [1]) [Ll];split
    .rename_i a ha
     rw[ba (yp a ha)];exact key
    .exact key
  refine(λ(Ei:?P2)=>?Em) ?k2
  case Em=>
   refine VX ?_ ?_
   .refine ay (aU ?_);exact Ei
   .refine ay (tell _ ?_);exact Ei
  all_goals (
   show wpAny _ _ (if(false&&_)=true then _ else _) _ _ _
   rw[ba (by rw[Bool.false_and];exact si)]
   refine ay (wpAny_forIn_list _ (λrest b s'=>s'=s/\∃hit done,b=(none,hit)/\pj xs (k.hash X.w)=done++rest/\((hit=none/\∀(j:Nat) (e:TK×V×V),j∈done->es[j]?=some e->e.1≠k)\/∃(j:Nat) (e:TK×V×V),hit=some j/\j∈done/\es[j]?=some e/\e.1=k)) _ ?_ ?_ _ _
    ⟨rfl,none,[],rfl,rfl,.inl ⟨rfl,λ_ _ m=>by cases m⟩⟩)
   .rintro i rest b s' ⟨rfl,hit,done,rfl,hd,hH⟩;obtain⟨x,x1,x2⟩:=nB.mp (show i∈pj xs (k.hash X.w) by rw[hd];simp)
    obtain⟨e,e1,e2,eq,_⟩:=D.ent i x x1;have hni:i∉done:=λm=>by
     have:=VY (xs:=xs) (h:=k.hash X.w);rw[hd] at this;exact(nR.mp this).2.2 i m i (by simp) rfl
    simp only[x1];rw[bI (by rw[x2];simp)]
    refine ay (wpAny_dictEpoch g1 g2 (ay (eq _ (ay (wpAny_dictEpoch g1 g2 ?_)))));rw[ba (by simp)]
    by_cases ek:e.1=k
    .rw[xl ek];rcases hH with⟨rfl,vd⟩|⟨j,f,rfl,jd,jf,fk⟩
     .first|rw[bI rfl]|skip
      simp only[A3,su,j7];first|refine ay (aU ?_)|skip
      refine ay (wpAny_rule ?_);split
      .exact aU (aU (q1 i e e1 ek))
      .exact aU ⟨rfl,some i,done++[i],rfl,by simp[hd],.inr ⟨i,e,rfl,by simp,e1,ek⟩⟩
     .exact cC (D.uniq i j e f e1 jf ek fk) λz=>hni (by rw[z];exact jd)
    .rw[yQ ek];have nx:(hit=none/\∀(j:Nat) (e:TK×V×V),j∈done++[i]->es[j]?=some e->e.1≠k)\/∃(j:Nat) (e:TK×V×V),hit=some j/\j∈done++[i]/\es[j]?=some e/\e.1=k:=by
      rcases hH with⟨h0,vd⟩|⟨j,f,h0,jd,jf,fk⟩
      .refine .inl ⟨h0,λj f m hf=>?_⟩
       rcases dN.mp m with m|m
       .exact vd j f m hf
       .simp at m;subst m;rw[e1] at hf;cases hf;exact ek
      .exact .inr ⟨j,f,h0,by simp[jd],jf,fk⟩
     simp only[su,j7];refine ay (wpAny_rule ?_);first|rw[ba (by simp)]|skip
     first
      |exact aU ⟨rfl,hit,done++[i],rfl,by simp[hd],nx⟩
      |exact ay (aU (aU ⟨rfl,hit,done++[i],rfl,by simp[hd],nx⟩))
   .rintro b s' ⟨rfl,hit,done,rfl,hd,hH⟩;rcases hH with⟨rfl,vd⟩|⟨j,f,rfl,jd,jf,fk⟩
    .refine aU (q0 λj e he ek=>vd j e ?_ he ek)
     have:=D.pj he ek;rw[hd] at this;simpa using this
    .exact aU (q1 j f jf fk))
end
end
variable{k:TK}{y:V}{o:ak V}{Q:ai->au->Prop}{H':Hp}
noncomputable def j0(es:List (TK×V×V))(k:TK):ak V:=(es.find? λe=>decide (e.1=k)).map (·.2.2)
noncomputable def dh:List (TK×V×V)->TK->V->V->List (TK×V×V)
 |[],k,y,v=>[(k,y,v)]
 |e::es,k,y,v=>if e.1=k then(e.1,e.2.1,v)::es else e::dh es k y v
noncomputable def rQ(es:List (TK×V×V))(k:TK)(ep:Nat):Nat:=if(es.any λe=>decide (e.1=k))=true then ep else ep+1
def gZ(K:PySem.W.Frag)(H:Hp)(a:ag)(y:V)(r:ak V):Prop:=∃es ep k,H a=some (.dG es ep)/\bf K H (es.map (·.2.1)) (es.map (·.1.d))/\bf K H [y] [k.d]/\k.ok 8=true/\r=j0 es k
def y7(K:PySem.W.Frag)(H:Hp)(a:ag)(y v:V)(H':Hp):Prop:=∃es ep k,H a=some (.dG es ep)/\bf K H (es.map (·.2.1)) (es.map (·.1.d))/\bf K H [y] [k.d]/\k.ok 8=true/\es.length<sizeLine/\H'=upd H a (.dG (dh es k y v) (rQ es k ep))
def θ{j:TK}(e:k.d=j.d)(h:k.ok 8=true):k=j:=by
 have h1:=J8 k j;rw[<-e,JL 8 (Bv 8 h)] at h1;exact yR h1.symm
section
variable{X:Cx}{aa:List (ag×Obj)}{Z:St}{H:Hp}
def Qo{z:Str}{t:Tok}(r:bf X.K H [y] [k.d])(ru:RelV y (.str z t)):k=.inr z:=by
 cases k with
 |inl i=>simp only[TK.d] at r;cases r with|flat q _=>cases q;obtain⟨t,e⟩:=ru;cases e
 |inr i=>simp only[TK.d] at r;cases r with|flat q _=>cases q;obtain⟨t,e⟩:=ru;cases e;rfl
 |tp l=>simp only[TK.d] at r;cases r with|flat q _=>cases q|tup q _ _=>cases ru
 |aI=>simp only[TK.d] at r;cases r with|flat q _=>cases q;cases ru
def Qp{a:ag}(ru:RelV y (.ref a)):y=.ref a:=by
 cases y with
 |ref b=>cases ru;rfl
 |aI=>cases ru
 |bl _=>cases ru
 |ty _=>cases ru
 |_=>obtain⟨t,e⟩:=ru;cases e
section
variable{A:cQ}{E:ai->au->Prop}{s:au}{d:ag}{es:List (TK×V×V)}{k:TK}{y v:V}{u r:ai}
def Rl{o:Obj}{xs:Array DictEntry}{ep:Nat}{Q:ak Nat->au->Prop}(I:Inv X aa Z H s)(g1:s.heap.get? d=some o)(g2:o.data=.dict xs ep)(g3:Paired (i7 X.w) es xs.toList)(g4:(es.map (·.1)).Nodup)
  (rk:bf X.K H (es.map (·.2.1)) (es.map (·.1.d))) (ry:bf X.K H [y] [k.d]) (ok:k.ok 8=true) (ru:RelV y u) (hu:A.units+8<cLine)
  (q0:(∀(j:Nat) (e:TK×V×V),es[j]?=some e->e.1≠k)->Q none s) (q1:∀(j:Nat) (e:TK×V×V),es[j]?=some e->e.1=k->Q (some j) s):wpAny (model X.prog X.w) A (dictFind d u (k.hash X.w)) Q E s:=by
 have at':∀(j:Nat) (x:DictEntry) (e:TK×V×V),xs[j]?=some x->es[j]?=some e->i7 X.w e x/\bf X.K H [e.2.1] [e.1.d]:=by
  intro j x e hx he;obtain⟨e',e1,e2⟩:=F_ j g3 (by rw[A0];exact hx)
  rw[he] at e1;cases e1;obtain⟨v,v1,v2⟩:=rk.get (i:=j) (d:=e.1.d) (by rw[gP,he];rfl)
  simp_all
 refine Xf (e3n I g3 g4 rk ry ok ru hu) g1 g2 (λR hR=>OK 8 I ry ok ru hR) (λz t e=>Qo ry (by rw[<-e];exact ru)) (λj x e z t hx he hk=>?_) (λa j x e rK hx he hk=>?_) q0 q1
 .obtain⟨g,r'⟩:=at' j x e hx he;exact Qo r' (by rw[<-hk];exact g.2.1)
 .obtain⟨g,r'⟩:=at' j x e hx he;have h1:=g.2.1;rw[hk,rK] at h1;rw[rK] at ru;rw[Qp h1] at r';rw[Qp ru] at ry;exact θ (GP I 8 8 r' ry (Bv 8 g.2.2.2) (Bv 8 ok)) g.2.2.2
def V0(h:∀(j:Nat) (e:TK×V×V),es[j]?=some e->e.1≠k):j0 es k=none:=by
 unfold j0;rw[Io.mpr λe m z=>?_,Option.map_none]
 obtain⟨j,hj⟩:=AZ.mp m;exact h j e hj (yR z)
def V1(hn:(es.map (·.1)).Nodup){j:Nat}{e:TK×V×V}(he:es[j]?=some e)(ek:e.1=k):j0 es k=some e.2.2:=by
 induction es generalizing j with
 |nil=>simp at he
 |cons x es ih=>
  rw[cq,sj] at hn;unfold j0;rw[Ca];cases j with
  |zero=>
   simp only[List.getElem?_cons_zero,Option.some.injEq] at he;subst he;rw[xl ek];rfl
  |succ j=>
   simp only[List.getElem?_cons_succ] at he;have ne:¬x.1=k:=λz=>hn.1 (by rw[z,<-ek];exact fB.mpr ⟨e,uH he,rfl⟩)
   rw[yQ ne];exact ih hn.2 he
def Jy{Q:ak ai->au->Prop}(hu:A.units+8<cLine)(I:Inv X aa Z H s)(g:gZ X.K H d y o)(ru:RelV y u)(h:∀w t,ir o w->Q w { s with toks:=t}):
  wpAny (model X.prog X.w) A (dictGet d u) Q E s:=by
 obtain⟨es,ep,k,hd,rk,ry,ok,rfl⟩:=g;obtain⟨_,_,ob,xs,g1,_,g2,g3,g4⟩:=(show bG X.prog X.w H s.heap d (.dG es ep) from I.bA d _ hd);unfold dictGet
 (try with_reducible refine lD ?_);refine ay (Pe 8 I ry ok ru hu λt=>ay (Rl (I.tok t) g1 g2 g3 g4 rk ry ok ru hu (λq0=>?_) (λj e he ek=>?_)))
 .exact aU (h none t (by rw[V0 q0];exact uJ))
 .obtain⟨x,x1,x2⟩:=CI j g3 he;refine ay (wpAny_dictEntries (s:={ s with toks:=t}) g1 g2 (aU ?_));rw[<-A0,x1];exact h (some x.val) t (by rw[V1 g4 he ek];exact x2.2.2.1)
def gZ.ty(I:Inv X aa Z H s)(g:gZ X.K H d y o):s.TypeIs (.ref d) "dict"/\(d == sysModules)=false:=by
 obtain⟨es,ep,k,hd,_⟩:=g;obtain⟨_,z,ob,xs,g1,g5,_⟩:=(show bG X.prog X.w H s.heap d (.dG es ep) from I.bA d _ hd);exact⟨⟨ob,g1,g5.1⟩,z⟩
def OL(hu:A.units+9<cLine)(I:Inv X aa Z H s)(g:gZ X.K H d y (some v))(ru:RelV y u)(h:∀w' s',Inv X aa Z H s'->RelV v w'->Q w' s'):wpAny (model X.prog X.w) A (getItem (.ref d) u) Q E s:=by
 have hT:=(g.ty I).1;unfold getItem
 (try with_reducible refine lD ?_);refine ay (wpAny_sequenceKey hT (by decide) (ay (wpAny_callSpecial?_slot (name:=Str.ofString "__getitem__") hT slot_dict_getitem (wpAny_call_entry slot_dict_getitem hT entry_dict_getitem ?_ (args_dict_getitem _ _)))))
 show wpAny _ _ (dictGet d u >>= _) _ _ s;refine ay (Jy (by show A.units+1+8<cLine;lia) I g ru λw t nH=>?_)
 obtain⟨w',rfl,r'⟩:=ir.some_of nH;exact aU ⟨w',rfl,aU (h w' _ (I.tok t) r')⟩
def Oe{Q:Bool->au->Prop}(hu:A.units+9<cLine)(I:Inv X aa Z H s)(g:gZ X.K H d y o)(ru:RelV y u)(h:∀s',Inv X aa Z H s'->Q o.isSome s'):wpAny (model X.prog X.w) A (contains (.ref d) u) Q E s:=by
 obtain⟨hT,hd⟩:=g.ty I;unfold contains
 (try with_reducible refine lD ?_);refine ay (wpAny_specialOf hT slot_dict_contains.lookup ?_)
 dsimp only;rw[ba (by rw[beq_builtin_none];exact si)]
 refine ay (wpAny_callSpecialUnlessNone?_slot (name:=Str.ofString "__contains__") hT slot_dict_contains (wpAny_call_entry slot_dict_contains hT entry_dict_contains ?_ (args_dict_contains _ _)));show wpAny _ _ (dictGet d u >>= _) _ _ s;refine ay (Jy (by show A.units+1+8<cLine;lia) I g ru λw t nH=>?_)
 have e:=nH.rN;cases w with
 |some w=>
  show wpAny _ _ (ret (.bool true)) _ _ _;refine aU ⟨_,rfl,wpAny_truthy_bool ?_⟩;have:=h _ (I.tok t)
  simp_all
 |none=>
  show wpAny _ _ (Builtin.Dict.pendingKey? d u >>= _) _ _ _;refine ay (wpAny_pendingKey_other hd (aU ⟨_,rfl,wpAny_truthy_bool ?_⟩));have:=h _ (I.tok t);rw[e] at this;exact this
def M9(hu:A.units+9<cLine)(I:Inv X aa Z H s)(g:gZ X.K H d y o)(ru:RelV y u)(h:∀s',Inv X aa Z H s'->Q (.bool o.isSome) s'):wpAny (model X.prog X.w) A (compareOp .In u (.ref d)) Q E s:=
 ay (Oe hu I g ru λs' I'=>aU (h s' I'))
def ι(hu:A.units+9<cLine)(I:Inv X aa Z H s)(g:gZ X.K H d y o)(ru:RelV y u)(h:∀s',Inv X aa Z H s'->Q (.bool (!o.isSome)) s'):wpAny (model X.prog X.w) A (compareOp .NotIn u (.ref d)) Q E s:=
 ay (Oe hu I g ru λs' I'=>aU (h s' I'))
theorem FZ(k:TK)(y v:V):∀es:List (TK×V×V),(dh es k y v).length<=es.length+1
 |[]=>by simp[dh]
 |e::es=>by
  unfold dh;have:=FZ k y v es;split <;> simp <;> lia
theorem Pf:∀{es:List (TK×V×V)},(∀(j:Nat) (e:TK×V×V),es[j]?=some e->e.1≠k)->dh es k y v=es++[(k,y,v)]
 |[],_=>rfl
 |e::es,h=>by
  unfold dh;rw[ba (h 0 e rfl),Pf λj x hx=>h (j+1) x (by simpa using hx)]
  rfl
def μ{w:cB}{xs:List DictEntry}(g3:Paired (i7 w) es xs)(ry:RelV y u)(rv:RelV v r)(ok:k.ok 8=true):Paired (i7 w) (es++[(k,y,v)]) (xs++[⟨k.hash w,u,r⟩]):=by
 induction g3 with
 |nil=>exact .cons ⟨rfl,ry,rv,ok⟩ .nil
 |cons a _ ih=>exact .cons a ih
theorem Qq{w:cB}:∀{es:List (TK×V×V)} {xs:List DictEntry} {j:Nat} {e:TK×V×V},Paired (i7 w) es xs->(es.map (·.1)).Nodup->es[j]?=some e->e.1=k->RelV v r->
  Paired (i7 w) (dh es k y v) (xs.modify j λx=>{ x with val:=r})/\(dh es k y v).map (·.1)=es.map (·.1)
 |_,_,_,_,.nil,_,he,_,_=>by simp at he
 |_::es,_::xs,0,e,.cons a t,hn,he,ek,rv=>by
  simp only[List.getElem?_cons_zero,Option.some.injEq] at he;subst he;unfold dh;rw[bI ek];exact⟨.cons ⟨a.1,a.2.1,rv,a.2.2.2⟩ t,rfl⟩
 |x::es,_::xs,j+1,e,.cons a t,hn,he,ek,rv=>by
  simp only[List.getElem?_cons_succ] at he;rw[cq,sj] at hn;have ne:¬x.1=k:=λz=>hn.1 (by rw[z,<-ek];exact fB.mpr ⟨e,uH he,rfl⟩)
  unfold dh;rw[ba ne];have ih:=Qq t hn.2 he ek rv;exact⟨.cons a ih.1,by rw[cq,cq,ih.2]⟩
def Jz{Q:Unit->au->Prop}(hu:A.units+8<cLine)(I:Inv X aa Z H s)(g:y7 X.K H d y v H')(ru:RelV y u)(rv:RelV v r)(h:∀s',Inv X aa Z H' s'->Q () s'):
  wpAny (model X.prog X.w) A (dictSet d u r) Q E s:=by
 obtain⟨es,ep,k,hd,rk,ry,ok,hl,rfl⟩:=g;obtain⟨_,z,ob,xs,g1,g5,g2,g3,g4⟩:=(show bG X.prog X.w H s.heap d (.dG es ep) from I.bA d _ hd);have hz:xs.size<=sizeLine:=by have:=Paired.length g3;simp at this;lia
 have HJ:(dh es k y v).length<=sizeLine:=by have:=FZ k y v es;lia
 unfold dictSet
 (try with_reducible refine lD ?_);refine ay (Pe 8 I ry ok ru hu λt=>?_)
 unfold dictSetHashed
 (try with_reducible refine lD ?_);refine ay (Rl (I.tok t) g1 g2 g3 g4 rk ry ok ru hu (λq0=>?_) (λj e he ek=>?_))
 .have Sv:dh es k y v=es++[(k,y,v)]:=Pf q0;have KW:rQ es k ep=ep+1:=ba (by
   rw[List.any_eq_true];rintro⟨e,m,q⟩;obtain⟨j,hj⟩:=AZ.mp m;exact q0 j e hj (yR q))
  rw[KW] at h;refine ay (wpAny_rule (wpAny_updateDictKeys (hz:=hz) (s:={ s with toks:=t}) g1 g2 (h _ ?_)));refine J5 (I.tok t) (by rw[hd];exact uJ) (Heap.SameBut.update ..) ⟨_,sk _ g1 (Obj.isFreed_of_dict (Obj.data_mapDictKeys g2 _))⟩ ⟨HJ,z,_,_,sk _ g1 (Obj.isFreed_of_dict (Obj.data_mapDictKeys g2 _)),g5.mapDictKeys _,Obj.data_mapDictKeys g2 _,?_,?_⟩
  .rw[Sv,Array.toList_push];exact μ g3 ru rv ok
  .rw[Sv,eK,nR];refine⟨g4,by simp,λa m b m' e=>?_⟩
   simp at m';subst m';obtain⟨x,mx,rfl⟩:=fB.mp m;obtain⟨j,hj⟩:=AZ.mp mx;exact q0 j x hj e
 .have em:=Qq (y:=y) g3 g4 he ek rv;have KW:rQ es k ep=ep:=bI (List.any_eq_true.mpr ⟨e,uH he,xl ek⟩);rw[KW] at h;refine ay (wpAny_rule (ay (wpAny_updateDict (s:={ s with toks:=t}) g1 g2 (wpAny_point (h _ ?_)))));refine J5 (I.tok t) (by rw[hd];exact uJ) (Heap.SameBut.update ..) ⟨_,sk _ g1 (Obj.isFreed_of_dict (Obj.data_mapDict g2 _))⟩ ⟨HJ,z,_,_,sk _ g1 (Obj.isFreed_of_dict (Obj.data_mapDict g2 _)),g5.mapDict _,Obj.data_mapDict g2 _,?_,?_⟩
  all_goals simp_all
def V2{Q:Unit->au->Prop}(hu:A.units+9<cLine)(I:Inv X aa Z H s)(g:y7 X.K H d y v H')(ru:RelV y u)(rv:RelV v r)(h:∀s',Inv X aa Z H' s'->Q () s'):
  wpAny (model X.prog X.w) A (setItem (.ref d) u r) Q E s:=by
 have hT:s.TypeIs (.ref d) "dict":=by
  obtain⟨es,ep,k,hd,rk,ry,ok,_⟩:=g;exact(gZ.ty I ⟨es,ep,k,hd,rk,ry,ok,rfl⟩).1
 unfold setItem
 (try with_reducible refine lD ?_);refine ay (wpAny_sequenceKey hT (by decide) (ay (wpAny_callSpecial?_slot (name:=Str.ofString "__setitem__") hT slot_dict_setitem (wpAny_call_entry slot_dict_setitem hT entry_dict_setitem ?_ (args_dict_setitem _ _ _)))))
 show wpAny _ _ (Builtin.Dict.notOrdered "__setitem__" ⟨[.ref d,u,r],[]⟩ >>= _) _ _ s;refine ay (wpAny_notOrdered_dict hT ?_);show wpAny _ _ (dictSet d u r >>= λz=>_) _ _ s
 exact ay (Jz (by show A.units+1+8<cLine;lia) I g ru rv λs' I'=>aU ⟨.none,rfl,aU (h s' I')⟩)
def e3o(hu:A.units+9<cLine)(I:Inv X aa Z H s)(g:gZ X.K H d y o)(ru:RelV y u)(h:∀w' s',Inv X aa Z H s'->RelV (o.getD .aI) w'->Q w' s'):
  wpAny (model X.prog X.w) A (call (.builtin "dict.get") [.ref d,u]) Q E s:=by
 obtain⟨hT,hd⟩:=g.ty I;refine wpAny_call_entry PySem.F.slot_dict_get hT PySem.F.entry_dict_get ?_ (PySem.F.args_dict_get_2 _ _);show wpAny _ _ (dictGet d u >>= _) _ _ s;refine ay (Jy (by show A.units+1+8<cLine;lia) I g ru λw t nH=>?_)
 cases o with
 |none=>
  cases w with
  |none=>
   show wpAny _ _ (Builtin.Dict.missed d u >>= _) _ _ _;exact ay (wpAny_missed_other hd (aU ⟨.none,rfl,h .none _ (I.tok t) rfl⟩))
  |some w=>exact nH.elim
 |some v'=>
  cases w with
  |none=>exact nH.elim
  |some w=>exact aU ⟨w,rfl,h w _ (I.tok t) nH⟩
end
end
section
variable{X:Cx}
def uy(K:PySem.W.Frag):R2:=λx y H Q=>∃l b xs zs,x=.ref l/\y=.ref b/\cM K H l xs/\cM K H b zs/\xs.length+zs.length<=sizeLine/\∀p,H p=none->Q (.ref p) (upd H p (.lst (xs++zs)))
def ν:dB X (binaryOp .Add) (uy X.K):=by
 intro aa s Z H x y v u Q I rx ry h;obtain⟨l,b,xs,zs,rfl,rfl,hH,hB,hz,q⟩:=h;cases rx;cases ry;obtain⟨aF,r,pl,_⟩:=I.list hH;obtain⟨iU,r2,Mh,_⟩:=I.list hB;have hl:=r.length;have HJ:=r2.length;obtain⟨⟨cls,dd,data,sl⟩,ho,hc,n,hd⟩:=id pl.isList;obtain⟨⟨cls2,dd2,data2,Ia⟩,SQ,tZ,n2,hd2⟩:=id Mh.isList;simp only at hc hd tZ hd2;subst hc hd tZ hd2;have ea:aF.toArray++iU.toArray=(aF++iU).toArray:=by simp
 refine concat_meets ⟨_,ho,rfl⟩ ⟨_,SQ,rfl⟩ noFill_list_add seq_list_add PySem.F.slot_list_add PySem.F.entry_list_add (PySem.F.args_list_add_2 _ _) (list_addW l b aF.toArray iU.toArray n n2 dd dd2 sl Ia (by simp only[dw];lia)) ⟨ho,SQ,?_⟩
 rw[ea];exact⟨.ref _,_,I.LX (t':=s.toks) (r.append r2) (by rw[dy];lia),rfl,q _ I.fresh⟩
def Xg(K:PySem.W.Frag)(hK:X.K=K:=by rfl):dB X (binaryOp .Add) (uy K):=hK ▸ ν
end
variable{n:Nat}
instance (z:Str) (n:Int):Decidable (MulOk z n):=by unfold MulOk;infer_instance
abbrev rd(x:D):Rv:=.v (.d x)
section
variable{K:PySem.W.Frag}{k:Kn}{H:Hp}{x:V}{xs:List V}{d e:D}{vs:List V}{ds:List D}
def ah.vh(h:ah K k vs ds)(ok:ds.all (c7 n)=true):ah K ⟨k.F,[],[]⟩ vs ds:=by
 induction h generalizing n with
 |nil=>exact .nil
 |flat e _ ih=>rw[qj,fX] at ok;exact .flat e (ih ok.2)
 |ref _ _ _=>rw[qj,fX] at ok;obtain⟨ok,_⟩:=ok;cases n <;> cases ok
 |lst e _ _ i1 i2=>
  rw[qj,fX] at ok;obtain⟨m,rfl,o⟩:=zr ok.1;exact .lst e (i1 o) (i2 ok.2)
 |tup e _ _ i1 i2=>
  rw[qj,fX] at ok;obtain⟨m,rfl,o⟩:=zt ok.1;exact .tup e (i1 o) (i2 ok.2)
 |aB _ _ _ _ _ _ _ _=>rw[qj,fX] at ok;obtain⟨ok,_⟩:=ok;cases n <;> cases ok
theorem Top.vh{n:Nat}(h:Top K k H x d)(le:aw k.F H)(ok:c7 n d=true):bf K H [x] [d]:=ah.vh (k:=k.all H) (n:=n) (h.rep le) (by rw[qj,ok];rfl)
def Top.Te(r:ah K k vs ds)(le:aw k.F H)(ok:ds.all (c7 n)=true):bf K H vs ds:=ah.vh (k:=k.all H) (n:=n) (r.all le) ok
mutual
theorem ud:∀{v:V} (j:TK),ah K k [v] [j.d]->ah K ⟨k.F,[],[]⟩ [v] [j.d]
 |_,.inl i,h=>by simp only[TK.d] at h ⊢;rw[h.a_ rfl];exact .flat rfl .nil
 |_,.inr x,h=>by simp only[TK.d] at h ⊢;rw[h.a_ rfl];exact .flat rfl .nil
 |_,.aI,h=>by simp only[TK.d] at h ⊢;rw[h.a_ rfl];exact .flat rfl .nil
 |_,.tp l,h=>by
  simp only[TK.d] at h ⊢;obtain⟨a,ws,rfl,q,r⟩:=h.isTup;exact .tup q (ue l r) .nil
theorem ue:∀{vs:List V} (l:List TK),ah K k vs (TK.dl l)->ah K ⟨k.F,[],[]⟩ vs (TK.dl l)
 |_,[],h=>by simp only[TK.dl] at h ⊢;rw[h.fT];exact .nil
 |_,j::l,h=>by
  simp only[TK.dl] at h ⊢;obtain⟨w,us,rfl,h1,h2⟩:=h.b_;exact .cons (ud j h1) (ue l h2)
end
def Qr{es:List (TK×V×V)}{kvs:List (TK×D)}(q:es.map (·.1)=kvs.map (·.1))(r:ah K k (es.map (·.2.1)) (kvs.map (·.1.d)))(le:aw k.F H):bf K H (es.map (·.2.1)) (es.map (·.1.d)):=by
 have e1:kvs.map (·.1.d)=TK.dl (kvs.map (·.1)):=by rw[G7,fF];rfl
 have e2:es.map (·.1.d)=TK.dl (es.map (·.1)):=by rw[G7,fF];rfl
 rw[e1,<-q] at r;rw[e2];exact ue (k:=k.all H) _ (r.all le)
def Qs(h:Paired (Top K k H) xs [d]):∃x,xs=[x]/\Top K k H x d:=by
 cases h with
 |cons r t=>cases t;exact⟨_,rfl,r⟩
def ξ(h:Paired (Top K k H) xs [d,e]):∃x y,xs=[x,y]/\Top K k H x d/\Top K k H y e:=by
 cases h with
 |cons r t=>obtain⟨y,rfl,r'⟩:=Qs t;exact⟨_,_,rfl,r,r'⟩
end
noncomputable def o1(f:D->ak Rv):List D->ak Rv
 |[a]=>f a
 |_=>none
noncomputable def o2(f:D->D->ak Rv):List D->ak Rv
 |[a,b]=>f a b
 |_=>none
section
variable{X:Cx}{K:PySem.W.Frag}
def wo{r:List V->Hp->VK->Prop}{f:D->ak Rv}(h:∀k H x a y Q,aw k.F H->Top K k H x a->f a=some y->lI K k H y Q->r [x] H Q):bY K r (o1 f):=λk H xs ds y Q le t e res=>by
 unfold o1 at e;split at e
 .obtain⟨x,rfl,t1⟩:=Qs t;exact h k H x _ y Q le t1 e res
 .cases e
def wq{r:List V->Hp->VK->Prop}{f:D->D->ak Rv}(h:∀k H x z a b y Q,aw k.F H->Top K k H x a->Top K k H z b->f a b=some y->lI K k H y Q->r [x,z] H Q):bY K r (o2 f):=λk H xs ds y Q le t e res=>by
 unfold o2 at e;split at e
 .obtain⟨x,z,rfl,t1,t2⟩:=ξ t;exact h k H x z _ _ y Q le t1 t2 e res
 .cases e
def yq{r:R2}{f:D->D->ak Rv}(h:∀k H x z a b y Q,aw k.F H->Top K k H x a->Top K k H z b->f a b=some y->lI K k H y Q->r x z H Q):bY K (nD r) (o2 f):=wq λk H x z a b y Q le t1 t2 e res=>⟨x,z,rfl,h k H x z a b y Q le t1 t2 e res⟩
noncomputable def vM:D->D->ak Rv
 |.int i,.int j=>some (rd (.int (i+j)))
 |.str x,.str y=>if x.length+y.length<=1000000 then some (rd (.str (x++y))) else none
 |.lst xs,.lst ys=>if xs.length+ys.length<=1000000 then some (.o (.lst (xs++ys))) else none
 |_,_=>none
def yw(K:PySem.W.Frag):R2:=λx y H Q=>qP (λi j=>.int (i+j)) x y H Q\/(∃i j,x=.str i/\y=.str j/\i.length+j.length<=sizeLine/\Q (.str (i++j)) H)\/uy K x y H Q
def ο(K:PySem.W.Frag)(hK:X.K=K):dB X (binaryOp .Add) (yw K):=Av.or (qc.or (Xg K hK))
def e3p:bY K (nD (yw K)) (o2 vM):=yq λk H x z a b y Q le t1 t2 e res=>by
 unfold vM at e;split at e
 .cases e;cases t1.flat rfl;cases t2.flat rfl;exact .inl ⟨_,_,rfl,rfl,res.flat le rfl⟩
 .split at e
  .cases e;cases t1.flat rfl;cases t2.flat rfl;exact .inr (.inl ⟨_,_,rfl,rfl,ml (by assumption),res.flat le rfl⟩)
  .cases e
 .split at e
  .cases e;obtain⟨a1,ws1,rfl,s1,r1⟩:=t1.lst le;obtain⟨a2,Fi,rfl,s2,r2⟩:=t2.lst le;exact .inr (.inr ⟨a1,a2,ws1,Fi,rfl,rfl,s1,s2,ml (by rw[r1.length,r2.length];assumption),λp hp=>res.lst le (r1.append r2) hp⟩)
  .cases e
 .cases e
noncomputable def dU(C:Int->Int->Bool)(f:Int->Int->D):D->D->ak Rv
 |.int i,.int j=>if C i j=true then some (rd (f i j)) else none
 |_,_=>none
def Df{r:R2}{C:Int->Int->Bool}{f:Int->Int->D}{g:Int->Int->V}(hf:∀i j,xy (f i j)=some (g i j))(hr:∀i j H Q,C i j=true->Q (g i j) H->r (.int i) (.int j) H Q):bY K (nD r) (o2 (dU C f)):=yq λk H x z a b y Q le t1 t2 e res=>by
 unfold dU at e;split at e
 .split at e
  .cases e;cases t1.flat rfl;cases t2.flat rfl;exact hr _ _ _ _ (by assumption) (res.flat le (hf _ _))
  .cases e
 .cases e
abbrev vj:Int->Int->Bool:=λ_ _=>true
def e3q:bY K (nD (qP λi j=>.int (i - j))) (o2 (dU vj λi j=>.int (i - j))):=Df (λ_ _=>rfl) λ_ _ _ _ _ q=>⟨_,_,rfl,rfl,q⟩
def π:bY K (nD (rI yS λi j=>.int (i / j))) (o2 (dU (λ_ j=>decide (0<j/\j<1073741824)) λi j=>.int (i / j))):=Df (λ_ _=>rfl) λi j _ _ c q=>⟨_,_,rfl,rfl,show yS i j from yR (p:=0<j/\j<1073741824) c,q⟩
def e3r:bY K (nD (rI (λ_ j=>0<j) λi j=>.int (i%j))) (o2 (dU (λ_ j=>decide (0<j)) λi j=>.int (i%j))):=Df (λ_ _=>rfl) λ_ _ _ _ c q=>⟨_,_,rfl,rfl,yR c,q⟩
def e3s:bY K (nD (rI yT λi j=>.int (i^j.toNat))) (o2 (dU (λi j=>decide (0<=j/\j<=1000000/\i.natAbs<2^64)) λi j=>.int (i^j.toNat))):=Df (λ_ _=>rfl) λi j _ _ c q=>⟨_,_,rfl,rfl,show yT i j from yR (p:=0<=j/\j<=1000000/\i.natAbs<2^64) c,q⟩
def Kh{f:Int->Int->Bool}:bY K (nD (qP λi j=>.bl (f i j))) (o2 (dU vj λi j=>.bl (f i j))):=Df (λ_ _=>rfl) λ_ _ _ _ _ q=>⟨_,_,rfl,rfl,q⟩
noncomputable def wg:D->D->ak Rv
 |.int i,.int j=>if(-(2^64)<i/\i<2^64)\/(-(2^64)<j/\j<2^64) then some (rd (.int (i*j))) else none
 |.str z,.int j=>if MulOk z j then some (rd (.str (Txt.mul z j))) else none
 |_,_=>none
def yA:R2:=λx y H Q=>rI vv (λi j=>.int (i*j)) x y H Q\/∃z n,x=.str z/\y=.int n/\MulOk z n/\Q (.str (Txt.mul z n)) H
def ρ:dB X (binaryOp .Mult) yA:=Ax.or UY
def e3t:bY K (nD yA) (o2 wg):=yq λk H x z a b y Q le t1 t2 e res=>by
 unfold wg at e;split at e
 .split at e
  .cases e;cases t1.flat rfl;cases t2.flat rfl;exact .inl ⟨_,_,rfl,rfl,by assumption,res.flat le rfl⟩
  .cases e
 .split at e
  .cases e;cases t1.flat rfl;cases t2.flat rfl;exact .inr ⟨_,_,rfl,rfl,by assumption,res.flat le rfl⟩
  .cases e
 .cases e
noncomputable def wk:D->ak Rv
 |.int i=>some (rd (.int (-i)))
 |_=>none
def e3u:bY K (Mn (rU λi=>.int (-i))) (o1 wk):=wo λk H x a y Q le t e res=>by
 unfold wk at e;split at e
 .cases e;cases t.flat rfl;exact⟨_,rfl,_,rfl,res.flat le rfl⟩
 .cases e
end
section
variable{X:Cx}{aa:List (ag×Obj)}{s:au}{Z:St}{H:Hp}
def e3v(I:Inv X aa Z H s){n m:Nat}{A:cQ}{x y:V}{u v:ai}{d e:D}(rd:bf X.K H [x] [d])(re:bf X.K H [y] [e])(od:c7 n d=true)(oe:c7 m e=true)(ru:RelV x u)(rv:RelV y v)(hu:A.units+n<cLine):SeqAt.RcNeAt A s u v (!aQ d e):=by
 have cI:A.units<cLine:=by lia
 have s1:=G6 I rd ru od;have s2:=G6 I re rv oe;cases s1 with
 |none=>
  cases s2 with
  |none=>
   simp only[aQ];exact SeqAt.RcNeAt.none_none
  |bool a2=>
   simp only[aQ];exact SeqAt.RcNeAt.none_bool a2
  |int a2 t2=>
   simp only[aQ];exact SeqAt.RcNeAt.none_int a2 t2
  |str a2 t2=>
   simp only[aQ];exact SeqAt.RcNeAt.none_str a2 t2
  |list l2 v2 r2=>
   simp only[aQ];exact SeqAt.RcNeAt.none_list l2 cI
  |tuple l2 v2 r2=>
   simp only[aQ];exact SeqAt.RcNeAt.none_tuple l2 cI
 |bool a1=>
  cases s2 with
  |none=>
   simp only[aQ];exact SeqAt.RcNeAt.bool_none a1
  |bool a2=>
   simp only[aQ];exact SeqAt.RcNeAt.bool_bool a1 a2
  |int a2 t2=>
   simp only[aQ];exact SeqAt.RcNeAt.bool_int a1 a2 t2
  |str a2 t2=>
   simp only[aQ];exact SeqAt.RcNeAt.bool_str a1 a2 t2
  |list l2 v2 r2=>
   simp only[aQ];exact SeqAt.RcNeAt.bool_list a1 l2 cI
  |tuple l2 v2 r2=>
   simp only[aQ];exact SeqAt.RcNeAt.bool_tuple a1 l2 cI
 |int a1 t1=>
  cases s2 with
  |none=>
   simp only[aQ];exact SeqAt.RcNeAt.int_none a1 t1
  |bool a2=>
   simp only[aQ];exact SeqAt.RcNeAt.int_bool a1 t1 a2
  |int a2 t2=>
   simp only[aQ];exact SeqAt.RcNeAt.int_int a1 t1 a2 t2
  |str a2 t2=>
   simp only[aQ];exact SeqAt.RcNeAt.int_str a1 t1 a2 t2
  |list l2 v2 r2=>
   simp only[aQ];exact SeqAt.RcNeAt.int_list a1 t1 l2 cI
  |tuple l2 v2 r2=>
   simp only[aQ];exact SeqAt.RcNeAt.int_tuple a1 t1 l2 cI
 |str a1 t1=>
  cases s2 with
  |none=>
   simp only[aQ];exact SeqAt.RcNeAt.str_none a1 t1
  |bool a2=>
   simp only[aQ];exact SeqAt.RcNeAt.str_bool a1 t1 a2
  |int a2 t2=>
   simp only[aQ];exact SeqAt.RcNeAt.str_int a1 t1 a2 t2
  |str a2 t2=>
   simp only[aQ];exact SeqAt.RcNeAt.str_str a1 t1 a2 t2
  |list l2 v2 r2=>
   simp only[aQ];exact SeqAt.RcNeAt.str_list a1 t1 l2 cI
  |tuple l2 v2 r2=>
   simp only[aQ];exact SeqAt.RcNeAt.str_tuple a1 t1 l2 cI
 |list l1 v1 r1=>
  cases s2 with
  |none=>
   simp only[aQ];exact SeqAt.RcNeAt.list_none l1 cI
  |bool a2=>
   simp only[aQ];exact SeqAt.RcNeAt.list_bool a2 l1 cI
  |int a2 t2=>
   simp only[aQ];exact SeqAt.RcNeAt.list_int a2 t2 l1 cI
  |str a2 t2=>
   simp only[aQ];exact SeqAt.RcNeAt.list_str a2 t2 l1 cI
  |list l2 v2 r2=>
   rename_i a aF ws es b iU Fi mm
   obtain⟨n',rfl,ui⟩:=zr od;obtain⟨m',rfl,uj⟩:=zr oe;have la:=v1.length;have lb:=v2.length;have BX:=r1.length;have LV:=r2.length;simp only[aQ];by_cases hl:es.length=mm.length
   .rw[CO aF.toArray.size (by simp only[dw];lia) (by simp only[dw];lia)]
    refine SeqAt.RcNeAt.lists (A:=A) l1 l2 (by simp only[dw];lia) cI λj h1 h2=>?_
    obtain⟨x1,q1,q2,q3⟩:=xA r1 v1 h1;obtain⟨y1,p1,p2,p3⟩:=xA r2 v2 h2;exact(Dd I n' m' q2 p2 (xt ui q3) (xt uj p3) q1 p1 (by show A.units+1+n'<cLine;lia)).1
   .rw[CN hl];exact SeqAt.RcNeAt.lists_lengths (A:=A) l1 l2 (by simp only[dw,bne_iff_ne,ne_eq];lia) cI
  |tuple l2 v2 r2=>
   simp only[aQ];exact SeqAt.RcNeAt.list_tuple l1 l2 cI
 |tuple l1 v1 r1=>
  cases s2 with
  |none=>
   simp only[aQ];exact SeqAt.RcNeAt.tuple_none l1 cI
  |bool a2=>
   simp only[aQ];exact SeqAt.RcNeAt.tuple_bool a2 l1 cI
  |int a2 t2=>
   simp only[aQ];exact SeqAt.RcNeAt.tuple_int a2 t2 l1 cI
  |str a2 t2=>
   simp only[aQ];exact SeqAt.RcNeAt.tuple_str a2 t2 l1 cI
  |list l2 v2 r2=>
   simp only[aQ];exact SeqAt.RcNeAt.tuple_list l1 l2 cI
  |tuple l2 v2 r2=>
   rename_i a aF ws es b iU Fi mm
   obtain⟨n',rfl,ui⟩:=zt od;obtain⟨m',rfl,uj⟩:=zt oe;have la:=v1.length;have lb:=v2.length;have BX:=r1.length;have LV:=r2.length;have z:=SeqAt.RcNeAt.tuples (A:=A) (e:=λj=>aQ (es.getD j .aI) (mm.getD j .aI)) l1 l2 cI λj h1 h2=>by
    obtain⟨x1,q1,q2,q3⟩:=xA r1 v1 h1;obtain⟨y1,p1,p2,p3⟩:=xA r2 v2 h2;exact(Dd I n' m' q2 p2 (xt ui q3) (xt uj p3) q1 p1 (by show A.units+1+n'<cLine;lia)).1
   simp only[aQ];by_cases hl:es.length=mm.length
   .rw[CO aF.toArray.size (by simp only[dw];lia) (by simp only[dw];lia)]
    have e1:iU.toArray.size=aF.toArray.size:=by simp only[dw];lia
    rw[e1,Nat.min_self,fY,Bool.and_true] at z;exact z
   .rw[CN hl];have e1:(aF.toArray.size == iU.toArray.size)=false:=by rw[uI];simp only[dw];lia
    rw[e1,Bool.and_false] at z;exact z
end
section
variable{X:Cx}{K:PySem.W.Frag}
def EH(K:PySem.W.Frag):R2:=λx y H Q=>∃d e,bf K H [x] [d]/\bf K H [y] [e]/\c7 40 d=true/\c7 40 e=true/\Q (.bl (!aQ d e)) H
def e3w(K:PySem.W.Frag)(hu:X.A.units+40<cLine)(hK:X.K=K:=by rfl):dB X (compareOp .NotEq) (EH K):=by
 subst hK;intro aa s Z H x y v u Q I rx ry h;obtain⟨d,e,r1,r2,o1,o2,q⟩:=h;exact(e3v I r1 r2 o1 o2 rx ry hu) X.prog X.w _ _ ⟨.bl _,H,I,rfl,q⟩
end
end L2
namespace L2
open PySem PySem.Spec PySem.W PySem.Calls PyProof.Rows
variable{P:de}{w:cB}{o:Expr}{to:TE}{apos bM pos:Pos}{elts:List Expr}{x1:Nat}
def iu(es:List (TK×V×V)):Prop:=∀e∈es,∃x,e.1=.inr x/\e.2.1=.str x
def σ{es:List (TK×V×V)}{xs:List DictEntry}(p:Paired (i7 w) es xs)(h:iu es):∃kvs:List (Str×ai),(∀x∈xs,∃k,(strKind P w).is k x.key=true/\x.hash=(strKind P w).hash k)/\Pairs (strKind P w) xs kvs/\kvs.map (λp=>TK.inr p.1)=es.map (·.1)/\Vals (es.map (·.2.2)) (kvs.map (·.2)):=by
 induction p with
 |nil=>exact⟨[],by simp,.nil,rfl,.nil⟩
 |@cons e x es xs r t ih=>
  obtain⟨kvs,h1,h2,h3,h4⟩:=ih λe m=>h e (uG _ m)
  obtain⟨z,e1,e2⟩:=h e (AV ..);obtain⟨r1,r2,r3,r4⟩:=r;rw[e2] at r2;obtain⟨t',r2⟩:=r2;have hk:(strKind P w).is z x.key=true:=by rw[r2];show Value.isStrOf z (.str z t')=true;simp[Value.isStrOf]
  refine⟨(z,x.val)::kvs,λy m=>?_,.cons hk rfl h2,by rw[cq,cq,h3,e1],.cons r3 h4⟩
  rcases y0a.mp m with rfl|m
  .exact⟨z,hk,by rw[r1,e1];rfl⟩
  .exact h1 y m
section
variable{X:Cx}{aa:List (ag×Obj)}{Z:St}{H:Hp}{s:au}{d:ag}{es:List (TK×V×V)}{ep:Nat}
def Bw(I:Inv X aa Z H s)(hd:H d=some (.dG es ep))(ht:iu es):∃kvs,s.heap.DictAt (strKind X.prog X.w) d kvs ep/\Vals (es.map (·.2.2)) (kvs.map (·.2))/\kvs.map (λp=>TK.inr p.1)=es.map (·.1)/\kvs.length<=sizeLine/\(d == sysModules)=false:=by
 obtain⟨hz,lo,ob,xs,g1,g5,g2,g3,g4⟩:=(show bG X.prog X.w H s.heap d (.dG es ep) from I.bA d _ hd);obtain⟨kvs,h1,h2,h3,h4⟩:=σ (P:=X.prog) g3 ht;refine⟨kvs,⟨ob,xs,g1,g5,g2,λx m=>h1 x (M'.mpr m),h2,?_⟩,h4,h3,?_,lo⟩
 .rw[<-h3] at g4;rw[show(λp:Str×ai=>TK.inr p.1)=TK.inr∘(·.1) from rfl,<-fF] at g4
  exact List.Pairwise.of_map _ (λa b ne z=>ne (by rw[z])) g4
 .have:=congrArg List.length h3;rw[bw,bw] at this;lia
def GQ(I:Inv X aa Z H s)(hd:H d=some (.dG es ep)):s.TypeIs (.ref d) "dict"/\∀a,Value.ref d=.ref a->∃ob,s.heap.get? a=some ob/\ob.dict=none:=
 Rh (x:=.ref d) I rfl (.inr (.inr (.inl ⟨rfl,.inr (.inr ⟨es,ep,hd⟩)⟩)))
def U0{ys:List V}{kvs:List (Str×ai)}{aY:Array ai}(rv:Vals ys (kvs.map (·.2)))(h:ItemsOf (λi v=>∃k,kvs[i]?=some (k,v)) aY kvs.length):Vals ys aY.toList:=by
 have e:aY.toList=kvs.map (·.2):=by
  apply Ni;intro i;by_cases hi:i<aY.toList.length
  .have DW:i<aY.size:=by simpa using hi
   obtain⟨k,hk⟩:=h.2 i aY[i] (vp DW)
   simp_all
  .rw[A4 (by lia),A4 (by rw[bw];have:=h.1;simp at hi;lia)]
 rw[e];exact rv
def e3x(to:TE):TE:=λZ H Q=>to Z H λx H1=>∃d es ep,x=.ref d/\H1 d=some (.dG es ep)/\iu es/\∀q,H1 q=none->Q (.ref q) (upd H1 q (.lst (es.map (·.2.2))))
def Xp{p:Pos}(DV:Gl X "list")(Lr:X.mg "list"=none)(ho:PE X o to)(hc:X.calm=true)
  (hs:starEach [.Call (.Attribute o "values" apos) [] [] bM] X.env=[(false,eval (.Call (.Attribute o "values" apos) [] [] bM) X.env)]:=by rfl)
  (eD:attributeBase o "values" X.env (eval o X.env)=eval o X.env:=by rfl) (eE:(apos.endLine == bM.line)=true:=by rfl):PE X (.Call (.Name "list" p) [.Call (.Attribute o "values" apos) [] [] bM] [] pos) (e3x to):=by
 intro aa s Z H Q I h;refine Call_ (xx I DV Lr qw (PyProof.Rows.callWith_type1 ?_ hs rfl));rw[hs];show wpAny _ _ (spliced ((false,eval (.Call (.Attribute o "values" apos) [] [] bM) X.env)::[])) _ _ s;refine Calls.spliced_cons (wpAny_Call_method0_late eD eE (bK (ho aa s Z H _ I h) λv s1 hh=>?_))
 obtain⟨x,H1,I1,r1,d,es,ep,rfl,hd,ht,q⟩:=hh;cases r1;obtain⟨t1,t2⟩:=GQ I1 hd;obtain⟨kvs,D1,D2,D3,D4,lo⟩:=Bw I1 hd ht;refine⟨"dict","dict.values",PySem.F.plainAttrs_dict,PySem.F.slot_dict_values,PySem.F.type_dict_values,t1,t2,Calls.callWith_builtin rfl (PySem.evalArgs_none ?_)⟩;refine call_meetsIn PySem.F.slot_dict_values t1 PySem.F.entry_dict_values (PySem.F.args_dict_values_1 _) (meets_dict_values (strKind X.prog X.w) d lo) ⟨⟨kvs,D1.dictOf⟩,?_⟩;refine Calls.spliced_nil ?_;refine kdl_call (kdl_values (knd:=strKind X.prog X.w) (r:=s1.heap.objs.size) (d:=d) (kvs:=kvs) (ep:=ep)) (I1.ok.hd hc) ⟨⟨_,jO _ rfl,rfl,rfl⟩,D1.push _⟩ D4 λh' tk aY c kp hg hi=>?_
 have sz:(s1.heap.push { cls:=.type "dict_values",data:=.fields #[.ref d]}).objs.size=s1.heap.objs.size+1:=by simp[Heap.push]
 rw[show({ s1 with heap:=s1.heap.push { cls:=.type "dict_values",data:=.fields #[.ref d]}}:au).heap.objs.size=s1.heap.objs.size+1 from sz] at hg ⊢;have rv:=U0 D2 hi;refine⟨.ref (s1.heap.objs.size+1),_,I1.laid (t':=tk) (λb o e=>kp b o (c8 _ e)) (xa _) (show bG X.prog X.w _ h' _ (.lst (es.map (·.2.2))) from⟨?_,aY.toList,c,rv,by simpa using hg⟩),rfl,q _ (I1.bA.fresh (xa _))⟩
 grind [List.length_map]
noncomputable def yj:TK->Bool
 |.inr _=>true
 |_=>false
theorem Rm{K:Frag}{F:Kn}:∀{ws:List (TK×V×V)} {ks:List TK},ws.map (·.1)=ks->ah K F (ws.map (·.2.1)) (ks.map (·.d))->ks.all yj=true->iu ws
 |[],_,_,_,_=>λe m=>nomatch m
 |w::ws,[],e,_,_=>by cases e
 |w::ws,k::ks,e,r,a=>by
  rw[cq,List.cons.injEq] at e;obtain⟨e1,e2⟩:=e;rw[qj,fX] at a;rw[cq,cq] at r;intro y m;rcases y0a.mp m with rfl|m
  .cases k with
   |inr x=>
    refine⟨x,e1,?_⟩;have:=r.inv.1;obtain⟨y1,y2,y3⟩:=y;dsimp only at this ⊢;cases this with
    |flat z _=>cases z;rfl
   |inl _=>cases a.1
   |tp _=>cases a.1
   |aI=>cases a.1
  .exact Rm e2 r.inv.2 a.2 y m
end
def TU:entryFor table "dict_itemiterator.__iter__"=some Builtin.«dict_keyiterator.__iter__»:=
 entryFor_alias (id':="dict_keyiterator.__iter__") (by kernel_rfl) rfl (by decide +kernel) (by kernel_rfl)
section
variable{prog:de}{w:cB}{A:cQ}{E:ai->au->Prop}{s:au}{it d:ag}{kvs:List (Str×ai)}{ep:Nat}
def NQ{i n ep:Nat}{ok ov:ai}{Q:ai->au->Prop}(hit:IsItemIter s.heap it d i n ep ok ov)(h:Q (.ref it) s):wpAny (model prog w) A (pyIter (.ref it)) Q E s:=by
 have hT:s.TypeIs (.ref it) "dict_itemiterator":=⟨_,hit,rfl⟩;refine wpAny_pyIter_slot hT PySem.F.slot_dict_itemiterator_iter (wpAny_call_entry PySem.F.slot_dict_itemiterator_iter hT TU ?_ (PySem.F.args_dict_itemiterator_iter_1 _));show wpAny _ _ (ret (.ref it)) _ _ s;exact aU ⟨_,rfl,"dict_itemiterator",_,hT,PySem.F.slot_dict_itemiterator_next.lookup,h⟩
def UC(hh:A.handled=none)(it d:ag)(fP:d≠it)(kvs:List (Str×ai))(ep:Nat):
  WalksT prog w A it [it,d] [it] kvs.length (λi vals=>∃k x key,kvs[i]?=some (k,x)/\(PySem.strKind prog w).is k key=true/\vals=#[key,x])
   (λi h=>(∃ok ov,IsItemIter h it d i kvs.length ep ok ov)/\h.DictAt (PySem.strKind prog w) d kvs ep)
   (λi T h=>(∃ok ov,IsItemIterOut h it d (i+1) kvs.length ep ok ov T)/\T≠it/\h.DictAt (PySem.strKind prog w) d kvs ep) where
 sub:=λb hb=>by simp at hb;simp[hb]
 frame:=λi h h' ⟨⟨ok,ov,a⟩,b⟩ k=>⟨⟨ok,ov,k it (by simp) _ a⟩,b.at' λo e=>k d (by simp) o e⟩
 item:=λi s Q E hi ⟨⟨ok,ov,a⟩,b⟩ hQ=>by
  obtain⟨⟨k,x⟩,hx⟩:∃p,kvs[i]?=some p:=⟨kvs[i],by simp[hi]⟩
  have lt:it<s.heap.objs.size:=cP a;refine wpAny_pyNext_items_item a b hx λkey h' hk o1 o2 o3 kp=>?_
  exact hQ s.heap.objs.size #[key,x] h' s.toks ⟨k,x,key,hx,hk,rfl⟩ (bP _) ⟨_,o2,rfl,_,rfl⟩ ⟨⟨_,_,o1⟩,yK lt,b.at' λo e=>kp d o fP e⟩ λb o hb e=>kp b o (λz=>hb (by simp[z])) e
 go:=λelts k pos i T s Q E ⟨⟨ok,ov,a⟩,b,c⟩ hQ=>wpAny_letOwnedTupleGo_items a λh' a' sb=>hQ h' ⟨⟨ok,ov,a'⟩,c.at' λo e=>(sb.2 d fP).trans e⟩ λb o hb e=>(sb.2 b (λz=>hb (by simp[z]))).trans e
 apart:=λi T h ⟨_,b,_⟩=>by simpa using b
 done:=λs Q E ⟨⟨ok,ov,a⟩,b⟩ hQ=>wpAny_pyNext_items_end hh a b (by simp) λh' eb=>hQ h' s.toks λb o hb e=>eb b o (λz=>hb (by simp[z])) e
 self:=λi s Q E ⟨⟨ok,ov,a⟩,_⟩ hQ=>NQ a hQ
end
def Fh(es:List (TK×V×V))(i:Nat)(ws:List V):Prop:=∃e,es[i]?=some e/\ws=[e.2.1,e.2.2]
def U3{K:Frag}{it d:ag}(fP:d≠it)(es:List (TK×V×V))(ep:Nat):
  Turn P w K (.Tuple elts x1 pos) (A8 (λH=>H d=some (.dG es ep)/\iu es) es.length (Fh es)) [it] it (λi h=>i<=es.length/\∃ok ov,IsItemIter h it d i es.length ep ok ov):=by
 refine OF (FP:=[it]) (wr:=[it]) (by simp) (λb hb=>hb) (λi h st b hb=>?_) (λi h h' st k=>?_) (λX hP hw hK hc aa s Z H I hS=>?_) (λA i s Q E st h=>?_)
 .obtain⟨ok,ov,a⟩:=st;cases lB.mp hb;exact⟨_,a,λv z=>by cases z⟩
 .obtain⟨ok,ov,a⟩:=st;exact⟨ok,ov,k it (by simp) _ a⟩
 .subst hP hw hK;obtain⟨kvs,D1,D2,D3,D4,lo⟩:=Bw I hS.1 hS.2;have l1:kvs.length=es.length:=by have:=congrArg List.length D3;simpa using this
  have W:=UC (prog:=X.prog) (w:=X.w) (A:=X.A) (I.ok.hd hc) it d fP kvs ep;rw[l1] at W;refine⟨_,_,_,_,W,λi st=>⟨st,D1⟩,λi h st=>st.1,λi vals hp=>?_⟩
  obtain⟨k,x,key,k1,k2,rfl⟩:=hp;have hi:i<es.length:=by have:=(fA.mp k1).1;lia
  have e3:es[i]?=some es[i]:=jq hi;refine⟨[es[i].2.1,es[i].2.2],⟨_,e3,rfl⟩,.cons ?_ (.cons ?_ .nil),by show 2<=10;decide⟩
  .obtain⟨z,z1,z2⟩:=hS.2 es[i] (Fs hi);have k3:(kvs.map (λp=>TK.inr p.1))[i]?=(es.map (·.1))[i]?:=by rw[D3]
   rw[gP,gP,k1,e3] at k3;have k4:TK.inr k=es[i].1:=Option.some.inj k3;rw[z1] at k4;cases k4;rw[z2];exact Value.isStrOf_shape k2
  .obtain⟨u,u1,u2⟩:=D2.get (i:=i) (x:=es[i].2.2) (by rw[gP,e3];rfl)
   rw[gP,k1] at u1;cases u1;exact u2
 .obtain⟨ok,ov,a⟩:=st;exact NQ a h
def Rn(to:TE):TI:=λZ H R=>to Z H λx H1=>∃d es ep,x=.ref d/\H1 d=some (.dG es ep)/\iu es/\R (A8 (λH=>H d=some (.dG es ep)/\iu es) es.length (Fh es)) H1
section
variable{X:Cx}{K:Frag}
def Xq{fq:Pos}(ho:PE X o to)(eD:attributeBase o "items" X.env (eval o X.env)=eval o X.env:=by rfl)(eE:(apos.endLine == bM.line)=true:=by rfl):
  PI X (.Tuple elts x1 fq) (.Call (.Attribute o "items" apos) [] [] bM) (Rn to):=by
 intro aa s Z H R I h;refine wpAny_Call_method0_late eD eE (bK (ho aa s Z H _ I h) λv s1 hh=>?_)
 obtain⟨x,H1,I1,r1,d,es,ep,rfl,hd,ht,q⟩:=hh;cases r1;obtain⟨t1,t2⟩:=GQ I1 hd;obtain⟨kvs,D1,D2,D3,D4,lo⟩:=Bw I1 hd ht;have l1:kvs.length=es.length:=by have:=congrArg List.length D3;simpa using this
 have ld:d<s1.heap.objs.size:=D1.lt_size;refine⟨"dict","dict.items",PySem.F.plainAttrs_dict,PySem.F.slot_dict_items,PySem.F.type_dict_items,t1,t2,Calls.callWith_builtin rfl (PySem.evalArgs_none ?_)⟩;refine call_meetsIn PySem.F.slot_dict_items t1 PySem.F.entry_dict_items (PySem.F.args_dict_items_1 _) (meets_dict_items (PySem.strKind X.prog X.w) d lo) ⟨⟨kvs,D1.dictOf⟩,?_⟩;refine wpAny_pyIter_items (knd:=PySem.strKind X.prog X.w) (v:=s1.heap.objs.size) (d:=d) (kvs:=kvs) (ep:=ep) ⟨_,jO _ rfl,rfl,rfl⟩ (D1.push _) ?_;have sz:(s1.heap.push { cls:=.type "dict_items",data:=.fields #[.ref d]}).objs.size=s1.heap.objs.size+1:=by simp[Heap.push]
 have hg:=jO (s1.heap.push { cls:=.type "dict_items",data:=.fields #[.ref d]}) (o:={ cls:=.type "dict_itemiterator",data:=.fields #[.none,.bool false,.ref d,.int 0 0,.int kvs.length 0,.int ep 0,.none,.none]}) rfl;rw[l1] at hg ⊢;refine⟨(s1.heap.push { cls:=.type "dict_items",data:=.fields #[.ref d]}).objs.size,[(s1.heap.push { cls:=.type "dict_items",data:=.fields #[.ref d]}).objs.size],_,_,H1,rfl,I1.kept (t':=s1.toks) λb o e=>c8 _ (c8 _ e),U3 (it:=(s1.heap.push { cls:=.type "dict_items",data:=.fields #[.ref d]}).objs.size) (d:=d) (by rw[sz];exact gM (AW ld)) es ep,⟨mL _,.none,.none,hg⟩,λb hb=>?_,q⟩
 cases lB.mp hb;have j':s1.heap.objs.size<=(s1.heap.push { cls:=.type "dict_items",data:=.fields #[.ref d]}).objs.size:=by rw[sz];exact xa _
 exact I1.lM j' (I1.bA.fresh j')
end
end L2
namespace L2
open PySem PySem.Spec PyProof.Rows
section
variable{X:Cx}{K:PySem.W.Frag}
def EC(K:PySem.W.Frag):R2:=λx y H Q=>∃d e,bf K H [x] [d]/\bf K H [y] [e]/\c7 40 d=true/\c7 40 e=true/\Q (.bl (aQ d e)) H
def e3y(K:PySem.W.Frag)(hu:X.A.units+40<cLine)(hK:X.K=K:=by rfl):dB X (compareOp .Eq) (EC K):=by
 subst hK;intro aa s Z H x y v u Q I rx ry h;obtain⟨d,e,r1,r2,o1,o2,q⟩:=h;exact(Dd I 40 40 r1 r2 o1 o2 rx ry hu).2 X.prog X.w _ _ ⟨.bl _,H,I,rfl,q⟩
open Classical in
noncomputable def pF (K:PySem.W.Frag) (H:Hp) (dx:D) (u:ai):Bool:=decide (∃x d,RelV x u/\bf K H [x] [d]/\c7 40 d=true/\aQ d dx=true)
open Classical in
def Ro{aa:List (ag×Obj)}{s:au}{Z:St}{H:Hp}(I:Inv X aa Z H s){dx d:D}{x:V}{u:ai}(rx:RelV x u)(r:bf X.K H [x] [d])(ok:c7 40 d=true):pF X.K H dx u=aQ d dx:=by
 unfold pF;rw[AX,y9a];constructor
 .rintro⟨x',d',rx',r',fE,e⟩;have:=RelV.inj rx rx';subst this;rw[GP I 40 40 r r' ok fE];exact e
 .exact λe=>⟨x,d,rx,r,ok,e⟩
def G8{aa:List (ag×Obj)}{s:au}{Z:St}{H:Hp}(I:Inv X aa Z H s){dx:D}{ws:List V}{aF:List ai}{ds:List D}(t:Vals ws aF)(rp:bf X.K H ws ds)(ok:ds.all (c7 40)=true):aF.any (pF X.K H dx)=ds.any λd=>aQ d dx:=by
 induction t generalizing ds with
 |nil=>
  cases ds with
  |nil=>rfl
  |cons _ _=>have:=rp.length;simp at this
 |cons r t ih=>
  cases ds with
  |nil=>have:=rp.length;simp at this
  |cons d ds=>
   rw[qj,fX] at ok;rw[List.any_cons,List.any_cons,Ro I r rp.inv.1 ok.1,ih rp.inv.2 ok.2]
def G9{aa:List (ag×Obj)}{s:au}{Z:St}{H:Hp}(I:Inv X aa Z H s){dx:D}{y:V}{v:ai}{A:cQ}(rv:RelV y v)(ry:bf X.K H [y] [dx])(oy:c7 40 dx=true)(hu:A.units+40<cLine):
  ∀{ws:List V} {aF:List ai} {ds:List D},Vals ws aF->bf X.K H ws ds->ds.all (c7 40)=true->∀u∈aF,SeqAt.EqAt A s u v (pF X.K H dx u):=by
 intro ws aF ds t
 induction t generalizing ds with
 |nil=>intro _ _ u m;cases m
 |cons r t ih=>
  intro rp ok u' m;cases ds with
  |nil=>have:=rp.length;simp at this
  |cons d ds=>
   rw[qj,fX] at ok;rcases y0a.mp m with rfl|m
   .rw[Ro I r rp.inv.1 ok.1];exact(Dd I 40 40 rp.inv.1 ry ok.1 oy r rv hu).1
   .exact ih rp.inv.2 ok.2 u' m
noncomputable def AK:D->ak (List D)
 |.lst ds=>some ds
 |.tup ds=>some ds
 |_=>none
def AB(K:PySem.W.Frag)(neg:Bool):R2:=λx y H Q=>
 (∃d e ds,bf K H [x] [d]/\bf K H [y] [e]/\AK e=some ds/\c7 40 d=true/\ds.all (c7 40)=true/\Q (.bl (if neg then !ds.any λz=>aQ z d else ds.any λz=>aQ z d)) H)\/
 (∃i j,x=.str i/\y=.str j/\Q (.bl (if neg then !(!(Builtin.Str.occurrences j i 0 j.length 1).isEmpty) else !(Builtin.Str.occurrences j i 0 j.length 1).isEmpty)) H)\/
 ∃a o,y=.ref a/\gZ K H a x o/\Q (.bl (if neg then !o.isSome else o.isSome)) H
def e3z(K:PySem.W.Frag)(hu:X.A.units+41<cLine)(hK:X.K=K:=by rfl):dB X (compareOp .In) (AB K false):=by
 subst hK;intro aa s Z H x y v u Q I rx ry h;rcases h with⟨d,e,ds,r1,r2,es,o1,o2,q⟩|⟨i,j,rfl,rfl,q⟩|⟨a,o,rfl,g,q⟩
 .have rK:X.A.in1.units+40<cLine:=by show X.A.units+1+40<cLine;lia
  cases r2 with
  |flat z _=>cases e <;> first|(cases z;done)|cases es
  |lst sq i _=>
   cases es;cases ry;obtain⟨aF,r,pl,hz⟩:=I.list sq;refine SeqAt.in_listAt (pF X.K H d) pl.isList (λw hw=>G9 I rx r1 o1 rK r i o2 w (by simpa using hw)) ⟨.bl _,H,I,rfl,?_⟩
   rw[show aF.toArray.any (pF X.K H d)=aF.any (pF X.K H d) by simp,G8 I r i o2]
   exact q
  |tup sq i _=>
   cases es;cases ry;obtain⟨aF,r,pl,hz⟩:=I.tuple sq;refine SeqAt.in_tupleAt (pF X.K H d) pl (λw hw=>G9 I rx r1 o1 rK r i o2 w (by simpa using hw)) ⟨.bl _,H,I,rfl,?_⟩
   rw[show aF.toArray.any (pF X.K H d)=aF.any (pF X.K H d) by simp,G8 I r i o2]
   exact q
  |aB _ _ _ _ _=>cases es
  |ref _ _=>cases es
 .exact Vx aa s Z H _ _ v u Q I rx ry ⟨i,j,rfl,rfl,q⟩
 .cases ry;exact M9 (by lia) I g rx λs3 I3=>⟨.bl o.isSome,H,I3,rfl,q⟩
def V3(K:PySem.W.Frag)(hu:X.A.units+41<cLine)(hK:X.K=K:=by rfl):dB X (compareOp .NotIn) (AB K true):=by
 subst hK;intro aa s Z H x y v u Q I rx ry h;rcases h with⟨d,e,ds,r1,r2,es,o1,o2,q⟩|⟨i,j,rfl,rfl,q⟩|⟨a,o,rfl,g,q⟩
 .have rK:X.A.in1.units+40<cLine:=by show X.A.units+1+40<cLine;lia
  cases r2 with
  |flat z _=>cases e <;> first|(cases z;done)|cases es
  |lst sq i _=>
   cases es;cases ry;obtain⟨aF,r,pl,hz⟩:=I.list sq;refine SeqAt.notIn_listAt (pF X.K H d) pl.isList (λw hw=>G9 I rx r1 o1 rK r i o2 w (by simpa using hw)) ⟨.bl _,H,I,rfl,?_⟩
   rw[show aF.toArray.any (pF X.K H d)=aF.any (pF X.K H d) by simp,G8 I r i o2]
   exact q
  |tup sq i _=>
   cases es;cases ry;obtain⟨aF,r,pl,hz⟩:=I.tuple sq;refine SeqAt.notIn_tupleAt (pF X.K H d) pl (λw hw=>G9 I rx r1 o1 rK r i o2 w (by simpa using hw)) ⟨.bl _,H,I,rfl,?_⟩
   rw[show aF.toArray.any (pF X.K H d)=aF.any (pF X.K H d) by simp,G8 I r i o2]
   exact q
  |aB _ _ _ _ _=>cases es
  |ref _ _=>cases es
 .exact Ui aa s Z H _ _ v u Q I rx ry ⟨i,j,rfl,rfl,q⟩
 .cases ry;exact ι (by lia) I g rx λs3 I3=>⟨.bl (!o.isSome),H,I3,rfl,q⟩
def xR(ne:Bool)(a b:D):ak Rv:=if(c7 40 a&&c7 40 b)=true then some (rd (.bl (if ne=true then !aQ a b else aQ a b))) else none
def e8i:bY K (nD (EC K)) (o2 (xR false)):=yq λk H x z a b y Q le t1 t2 e res=>by
 unfold xR at e;split at e
 .rename_i h
  obtain⟨h1,h2⟩:=B'.mp h;cases e;exact⟨_,_,t1.vh le h1,t2.vh le h2,h1,h2,res.flat le rfl⟩
 .cases e
def e8j:bY K (nD (EH K)) (o2 (xR true)):=yq λk H x z a b y Q le t1 t2 e res=>by
 unfold xR at e;split at e
 .rename_i h
  obtain⟨h1,h2⟩:=B'.mp h;cases e;exact⟨_,_,t1.vh le h1,t2.vh le h2,h1,h2,res.flat le rfl⟩
 .cases e
mutual
def sg:D->ak TK
 |.int i=>some (.inl i)
 |.str x=>some (.inr x)
 |.aI=>some .aI
 |.tup l=>(pA l).map .tp
 |_=>none
def pA:List D->ak (List TK)
 |[]=>some []
 |d::l=>(sg d).bind λk=>(pA l).map λks=>k::ks
end
def kY:D->ak TK
 |.int i=>some (.inl i)
 |.str x=>some (.inr x)
 |.aI=>some .aI
 |.tup l=>(pA l).bind λks=>if TK.ok 8 (.tp ks)=true then some (.tp ks) else none
 |_=>none
mutual
theorem e8k:∀{d:D} {k:TK},sg d=some k->k.d=d
 |.int i,k,e=>by simp only[sg] at e;cases e;simp[TK.d]
 |.str i,k,e=>by simp only[sg] at e;cases e;simp[TK.d]
 |.tup l,k,e=>by
  simp only[sg] at e;obtain⟨ks,h1,rfl⟩:=dm.mp e;simp only[TK.d];rw[qe h1]
 |.aI,k,e=>by simp only[sg] at e;cases e;simp[TK.d]
 |.ref _,k,e=>by simp[sg] at e
 |.bl _,k,e=>by simp[sg] at e
 |.ty _,k,e=>by simp[sg] at e
 |.lst _,k,e=>by simp[sg] at e
 |.aB _,k,e=>by simp[sg] at e
theorem qe:∀{l:List D} {ks:List TK},pA l=some ks->TK.dl ks=l
 |[],ks,e=>by simp only[pA] at e;cases e;simp[TK.dl]
 |d::l,ks,e=>by
  simp only[pA] at e;obtain⟨k,h1,e⟩:=cA.mp e;obtain⟨ym,h2,rfl⟩:=dm.mp e;simp only[TK.dl];rw[e8k h1,qe h2]
end
def By{d:D}{k:TK}(e:kY d=some k):k.d=d/\k.ok 8=true:=by
 cases d with
 |int i=>cases e;exact⟨by simp[TK.d],rfl⟩
 |str i=>cases e;exact⟨by simp[TK.d],rfl⟩
 |aI=>cases e;exact⟨by simp[TK.d],rfl⟩
 |tup l=>
  simp only[kY] at e;obtain⟨ks,h1,e⟩:=cA.mp e
  grind [TK.d,qe]
 |_=>cases e
def aS(kvs:List (TK×D))(k:TK):ak D:=(kvs.find? λkv=>decide (kv.1=k)).map (·.2)
theorem J9{F:Kn}{k:TK}:∀{ws:List (TK×V×V)} {kvs:List (TK×D)},ws.map (·.1)=kvs.map (·.1)->ah K F (ws.map (·.2.2)) (kvs.map (·.2))->(j0 ws k=none/\aS kvs k=none)\/∃v d,j0 ws k=some v/\aS kvs k=some d/\ah K F [v] [d]
 |[],[],_,_=>.inl ⟨rfl,rfl⟩
 |w::ws,p::kvs,h,r=>by
  rw[cq,cq] at h;injection h with h1 h2;unfold j0 aS;rw[Ca,Ca,h1];by_cases e:p.1=k
  .rw[xl e];exact .inr ⟨w.2.2,p.2,rfl,rfl,r.inv.1⟩
  .rw[yQ e];exact J9 h2 r.inv.2
 |[],_::_,h,_=>by simp at h
 |_::_,[],h,_=>by simp at h
def w6{k:Kn}{H:Hp}{x y:V}{kvs:List (TK×D)}{d:D}{j:TK}(le:aw k.F H)(t1:Top K k H x (.aB kvs))(t2:Top K k H y d)(hk:kY d=some j):∃a o,x=.ref a/\gZ K H a y o/\((o=none/\aS kvs j=none)\/∃v e,o=some v/\aS kvs j=some e/\ah K k [v] [e]):=by
 obtain⟨a,es,ep,rfl,h1,h2,h3,h4⟩:=t1.aB le;obtain⟨k1,k2⟩:=By hk;refine⟨a,j0 es j,rfl,⟨es,ep,j,h1,Qr h2 h3 le,?_,k2,rfl⟩,J9 h2 h4⟩;have:=t2.rep le;rw[<-k1] at this;exact ud (k:=k.all H) j this
def BS(neg:Bool)(a b:D):ak Rv:=match b with
 |.aB kvs=>(kY a).map λj=>rd (.bl (if neg=true then !(aS kvs j).isSome else(aS kvs j).isSome))
 |.str j=>(match a with
  |.str i=>some (rd (.bl (if neg=true then !(!(Builtin.Str.occurrences j i 0 j.length 1).isEmpty) else !(Builtin.Str.occurrences j i 0 j.length 1).isEmpty)))
  |_=>none)
 |e=>(AK e).bind λds=>if(c7 40 a&&ds.all (c7 40))=true then some (rd (.bl (if neg=true then !ds.any λz=>aQ z a else ds.any λz=>aQ z a))) else none
def υ{k:Kn}{H:Hp}{x:V}{e:D}{ds:List D}(le:aw k.F H)(t:Top K k H x e)(h:AK e=some ds)(ok:ds.all (c7 40)=true):bf K H [x] [e]:=by
 cases e with
 |lst _=>cases h;obtain⟨p,ws,rfl,q,r⟩:=t.lst le;exact .lst q (Top.Te r le ok) .nil
 |tup _=>cases h;obtain⟨p,ws,rfl,q,r⟩:=t.tup le;exact .tup q (Top.Te r le ok) .nil
 |_=>cases h
def Sd(neg:Bool):bY K (nD (AB K neg)) (o2 (BS neg)):=yq λk H x z a b y Q le t1 t2 e res=>by
 unfold BS at e;split at e
 .obtain⟨j,hj,rfl⟩:=dm.mp e;obtain⟨p,o,rfl,g,h⟩:=w6 le t2 t1 hj;refine .inr (.inr ⟨p,o,rfl,g,?_⟩);have z:=res.flat le rfl;rcases h with⟨rfl,h⟩|⟨v,e,rfl,h,_⟩ <;> rw[h] at z <;> exact z
 .split at e
  .cases e;cases t1.flat rfl;cases t2.flat rfl;exact .inr (.inl ⟨_,_,rfl,rfl,res.flat le rfl⟩)
  .cases e
 .obtain⟨ds,h1,e⟩:=cA.mp e;split at e
  .rename_i h
   obtain⟨h2,h3⟩:=B'.mp h;cases e;exact .inl ⟨_,_,ds,t1.vh le h2,υ le t2 h1 h3,h1,h2,h3,res.flat le rfl⟩
  .cases e
def AD(neg:Bool):R2:=λx y H Q=>(y=.aI/\Q (.bl (if neg then !decide (x=.aI) else decide (x=.aI))) H)\/∃a b,x=.bl a/\y=.bl b/\Q (.bl (if neg then a != b else a == b)) H
def e4b:dB X (compareOp .Is) (AD false):=Aw.or e2t
def χ:dB X (compareOp .IsNot) (AD true):=wt.or ZV
noncomputable def uh:D->Bool
 |.aI=>true
 |_=>false
def BU(neg:Bool)(a b:D):ak Rv:=match b with
 |.aI=>some (rd (.bl (if neg=true then !uh a else uh a)))
 |.bl b=>(match a with
  |.bl a=>some (rd (.bl (if neg=true then a != b else a == b)))
  |_=>none)
 |_=>none
def Xr{k:Kn}{H:Hp}{x:V}{d:D}(h:Top K k H x d):decide (x=.aI)=uh d:=by
 rcases h with h|⟨p,c,rfl,rfl,h⟩
 .cases h with
  |flat q _=>cases d <;> cases q <;> rfl
  |_=>rfl
 .cases c <;> rfl
def Se(neg:Bool):bY K (nD (AD neg)) (o2 (BU neg)):=yq λk H x z a b y Q le t1 t2 e res=>by
 unfold BU at e;split at e
 .cases e;cases t2.flat rfl;refine .inl ⟨rfl,?_⟩;rw[Xr t1];exact res.flat le rfl
 .split at e
  .cases e;cases t1.flat rfl;cases t2.flat rfl;exact .inr ⟨_,_,rfl,rfl,res.flat le rfl⟩
  .cases e
 .cases e
def EE(K:PySem.W.Frag):R2:=λx y H Q=>AE K x y H Q\/AF K x y H Q\/EF x y H Q\/∃a v,x=.ref a/\gZ K H a y (some v)/\Q v H
def ψ(hu:X.A.units+9<cLine):rm X (λx y H Q=>∃a v,x=.ref a/\gZ X.K H a y (some v)/\Q v H):=by
 intro value slice aa s Z H x y v u Q I rx ry h hs;obtain⟨a,w,rfl,g,q⟩:=h;cases rx;exact tail_any (g.ty I).1 PySem.F.slot_dict_getitem.lookup (OL hu I g ry λw' s3 I3 nH=>⟨w,H,I3,nH,q⟩) hs
def LL(K:PySem.W.Frag)(hu:X.A.units+41<cLine)(hK:X.K=K):rm X (EE K):=by
 subst hK;exact(W6 X.K rfl).or ((ZW X.K rfl).or (Ah.or (ψ (by lia))))
noncomputable def intD:D->ak Int
 |.int k=>some k
 |_=>none
def GR{i:D}{k:Int}(h:intD i=some k):i=.int k:=by
 cases i with
 |int _=>cases h;rfl
 |_=>cases h
def Qt{F:Kn}{ws:List V}{ds:List D}{i:Int}{d:D}(r:ah K F ws ds)(e:dQ ds i=some d):∃v,dQ ws i=some v/\ah K F [v] [d]:=by
 unfold dQ at e ⊢;rw[r.length];cases q:wd ds.length i with
 |none=>rw[q] at e;cases e
 |some j=>
  rw[q] at e;exact r.get e
def HV(a i:D):ak Rv:=match a with
 |.lst ds=>(intD i).bind λk=>(dQ ds k).map rd
 |.tup ds=>(intD i).bind λk=>(dQ ds k).map rd
 |.str z=>(intD i).bind λk=>if z.length<=1000000 then(dQ z.cps.toList k).map λc=>rd (.str ⟨#[c]⟩) else none
 |.aB kvs=>(kY i).bind λj=>(aS kvs j).map rd
 |_=>none
def e8l:bY K (nD (EE K)) (o2 HV):=yq λk H x z a b y Q le t1 t2 e res=>by
 unfold HV at e;split at e
 .obtain⟨i,hi,e⟩:=cA.mp e;cases GR hi;cases t2.flat rfl;obtain⟨d,h1,rfl⟩:=dm.mp e;obtain⟨p,ws,rfl,q,r⟩:=t1.lst le;obtain⟨v,h2,h3⟩:=Qt r h1;exact .inl ⟨p,ws,i,v,rfl,rfl,q,h2,res.rep le h3⟩
 .obtain⟨i,hi,e⟩:=cA.mp e;cases GR hi;cases t2.flat rfl;obtain⟨d,h1,rfl⟩:=dm.mp e;obtain⟨p,ws,rfl,q,r⟩:=t1.tup le;obtain⟨v,h2,h3⟩:=Qt r h1;exact .inr (.inl ⟨p,ws,i,v,rfl,rfl,q,h2,res.rep le h3⟩)
 .obtain⟨i,hi,e⟩:=cA.mp e;cases GR hi;cases t2.flat rfl;cases t1.flat rfl;split at e
  .obtain⟨c,h1,rfl⟩:=dm.mp e;exact .inr (.inr (.inl ⟨_,i,c,rfl,rfl,ml (by assumption),h1,res.flat le rfl⟩))
  .cases e
 .obtain⟨j,hj,e⟩:=cA.mp e;obtain⟨d,h1,rfl⟩:=dm.mp e;obtain⟨p,o,rfl,g,h⟩:=w6 le t1 t2 hj;rcases h with⟨_,h⟩|⟨v,e,rfl,h,r⟩
  .rw[h] at h1;cases h1
  .rw[h] at h1;cases h1;exact .inr (.inr (.inr ⟨p,v,rfl,g,res.rep le r⟩))
 .cases e
noncomputable def cutD(ds:List D)(lo hi:ak Int):List D:=(ds.drop (HT.cG ds.length 0 lo)).take (HT.cG ds.length ds.length hi - HT.cG ds.length 0 lo)
def EI(K:PySem.W.Frag):V->ak Int->ak Int->Hp->VK->Prop:=λx lo hi H Q=>EJ x lo hi H Q\/AG K x lo hi H Q\/AH K x lo hi H Q
def MB(K:PySem.W.Frag)(hK:X.K=K):sV X (EI K):=AL.or ((W7 K hK).or (ZX K hK))
def MA(a:D)(lo hi:ak Int):ak Rv:=match a with
 |.str z=>if z.length<=1000000 then some (rd (.str (Txt.slice z lo hi))) else none
 |.lst ds=>some (.o (.lst (cutD ds lo hi)))
 |.tup ds=>if HT.cG ds.length 0 lo=0/\HT.cG ds.length ds.length hi=ds.length then none else some (rd (.tup (cutD ds lo hi)))
 |_=>none
def Qu{k:Kn}{ws:List V}{ds:List D}{lo hi:ak Int}(r:ah K k ws ds):ah K k (oo ws lo hi) (cutD ds lo hi):=by
 unfold oo cutD;rw[r.length];exact(r.drop _).take _
def e8m{k:Kn}{H:Hp}{x:V}{a:D}{y:Rv}{Q:VK}{lo hi:ak Int}(le:aw k.F H)(t:Top K k H x a)(e:MA a lo hi=some y)(res:lI K k H y Q):EI K x lo hi H Q:=by
 unfold MA at e;split at e
 .split at e
  .cases e;cases t.flat rfl;exact .inl ⟨_,rfl,ml (by assumption),res.flat le rfl⟩
  .cases e
 .cases e;obtain⟨p,ws,rfl,q,r⟩:=t.lst le;exact .inr (.inl ⟨p,ws,rfl,q,λl hl=>res.lst le (Qu r) hl⟩)
 .split at e
  .cases e
  .rename_i fP
   cases e;obtain⟨p,ws,rfl,q,r⟩:=t.tup le;exact .inr (.inr ⟨p,ws,rfl,q,by rw[r.length];exact fP,λl hl=>res.tup le (Qu r) hl⟩)
 .cases e
abbrev GO:=Gx (ak Int)
abbrev Ba:Rp (ak Int) (ak Int):=λ_ _ b a=>b=a
def BH:GO:=λ_ S=>some (.ok none S)
noncomputable def Rv.int:Rv->ak Int
 |.v (.d (.int i))=>some i
 |_=>none
noncomputable def BI(g:GE):GO:=λU S=>bd (g U S) λr S1=>r.int.map λi=>.ok (some i) S1
def zD(f:GE)(lo hi:GO):GE:=λU S=>bd (f U S) λr S1=>bd (lo U S1) λl S2=>bd (hi U S2) λu S3=>((wC S3 (nI r)).bind λd=>MA d l u).map λy=>.ok y S3
def Rv.jk{r:Rv}{i:Int}(h:r.int=some i):r=rd (.int i):=by
 unfold Rv.int at h;split at h
 .cases h;rfl
 .cases h
section
variable{W:XW}{q:Nat}{e:Expr}{lo hi:ak Expr}{f:GE}{fl fh:GO}{pos p2:Pos}
def vS:PO X none (tX Ba K W q BH):=λaa s Z H Q I t=>ZN aa s Z H Q I (Ds t λ_ _=>rfl)
def vT(h:PE X e (tE K W q f)):PO X (some e) (tX Ba K W q (BI f)):=λaa s Z H Q I t=>ZO h aa s Z H Q I (by
 obtain⟨k,U,S,res,ok,gk,e,w⟩:=t;refine tX.bd ok gk e w λr S1 x k1 H1 bH g1 r1 e1 w1 _=>?_
 obtain⟨i,e2,rfl⟩:=dm.mp e1;cases Rv.jk e2;exact⟨i,(show ah K k1 [x] [.int i] from r1).a_ rfl,w1.now bH rfl⟩)
def Xs(he:PE X e (tE K W q f))(hl:PO X lo (tX Ba K W q fl))(hu:PO X hi (tX Ba K W q fh))(hK:X.K=K):PE X (.Subscript e (.Slice lo hi none p2) pos) (tE K W q (zD f fl fh)):=(WW (MB K hK) he hl hu).mono λZ H Q t=>by
 obtain⟨k,U,S,res,ok,gk,e,w⟩:=t;refine tX.bd ok gk e w λr S1 x k1 H1 bH g1 r1 e1 w1 _=>?_
 obtain⟨k2,u2,cJ,r2⟩:=r9 bH r1;refine tX.bd cJ (g1.up (u2 q)) e1 (w1.up (u2 q)) λl S3 l' k3 H3 jY g3 r3 e3 w3 u3=>?_
 cases r3;refine tX.bd jY g3 e3 w3 λu S4 u' k4 H4 rP g4 r4 e4 w4 u4=>?_
 cases r4;obtain⟨y,e5,rfl⟩:=dm.mp e4;obtain⟨d,e6,e7⟩:=cA.mp e5;exact e8m rP.le (G5 rP ((r2.up u3).up u4) e6) e7 (.fin rP w4)
end
end
section
variable{X:Cx}{K:PySem.W.Frag}
def iX:List Int->Int
 |[]=>0
 |x::xs=>xs.foldl (λa b=>if b<a then b else a) x
def V4(xs:List Int):∀x:Int,(xs.foldl (λa b=>if b<a then b else a) x<=x/\∀y∈xs,xs.foldl (λa b=>if b<a then b else a) x<=y)/\(xs.foldl (λa b=>if b<a then b else a) x=x\/xs.foldl (λa b=>if b<a then b else a) x∈xs):=by
 induction xs with
 |nil=>intro x;exact⟨⟨A5 _,λy m=>by cases m⟩,.inl rfl⟩
 |cons z xs ih=>
  grind
def OM{xs:List Int}(h:xs≠[]):iX xs∈xs/\∀y∈xs,iX xs<=y:=by
 cases xs with
 |nil=>exact cC rfl h
 |cons x xs=>
  obtain⟨⟨h1,h2⟩,h3⟩:=V4 xs x;refine⟨?_,λy m=>?_⟩
  .rcases h3 with h3|h3
   .show List.foldl _ x xs∈_
    simp_all
   .exact .tail _ h3
  .rcases y0a.mp m with rfl|m
   .exact h1
   .exact h2 y m
theorem Jl:∀{is:List Int} {aF:List ai},Vals (is.map V.int) aF->∃ps:List (Int×Tok),aF=ps.map (λp=>Value.int p.1 p.2)/\ps.map (·.1)=is
 |[],aF,h=>by
  rw[yM] at h;cases h;exact⟨[],rfl,rfl⟩
 |i::is,aF,h=>by
  rw[cq] at h;cases h with
  |cons r t=>
   obtain⟨ps,e1,e2⟩:=Jl t;obtain⟨tk,rfl⟩:=r;exact⟨(i,tk)::ps,by rw[e1];rfl,by rw[cq,e2]⟩
def Xt(K:PySem.W.Frag)(hc:X.calm=true:=by rfl)(hK:X.K=K:=by rfl):bR X (.builtin "min") (λxs H Q=>∃(a:ag) (is:List Int),xs=[.ref a]/\cM K H a (is.map V.int)/\is≠[]/\Q (.int (iX is)) H):=by
 subst hK;intro aa s Z H xs us Q I r h;obtain⟨a,is,rfl,hs,fP,q⟩:=h;obtain⟨u,rfl,ru⟩:=vals1 r;cases ru;obtain⟨aF,rv,p,hz⟩:=I.list hs;obtain⟨ps,e1,e2⟩:=Jl rv;subst e1;have hl:0<ps.length:=by
  grind
 have el:(ps.map λp=>Value.int p.1 p.2).toArray=intItems ps.toArray:=by unfold intItems;simp
 have pl:=p.isList;rw[el] at pl;refine min_intList (I.ok.hd hc) pl (by simpa using hl) λv h' tk hv hk=>?_
 obtain⟨b1,b2⟩:=argBest_lt (numAt ps.toArray) (ps.toArray.size - 1);generalize argBest (λi j=>decide (numAt ps.toArray i<numAt ps.toArray j)) (ps.toArray.size - 1)=n at *
 have hn:n<ps.length:=by simp at b1;lia
 have D0:∀j (hj:j<ps.length),numAt ps.toArray j=(ps[j]).1:=λj hj=>by unfold numAt;simp[hj]
 have LD:v=Value.int (ps[n]).1 (ps[n]).2:=by
  unfold intItems at hv;simp[hn] at hv;exact hv.symm
 have hm:iX is=(ps[n]).1:=by
  obtain⟨m1,m2⟩:=OM fP;have i1:(ps[n]).1∈is:=by rw[<-e2];exact mP (f:=(·.1)) (Fs hn)
  have c1:=m2 _ i1;rw[<-e2] at m1;obtain⟨pp,Lz,LA⟩:=fB.mp m1;obtain⟨j,hj,ej⟩:=List.mem_iff_getElem.mp Lz;have c2:=b2 j (by simp;lia)
  rw[D0 n hn,D0 j hj,ej] at c2;rw[e2] at LA;lia
 rw[LD];exact⟨.int (iX is),H,I.kept (h':=h') (t':=tk) λb o e=>hk b o e,⟨(ps[n]).2,by rw[hm]⟩,q⟩
def kX:List D->ak (List Int)
 |[]=>some []
 |.int i::ds=>(kX ds).map λis=>i::is
 |_=>none
theorem JA:∀is:List Int,kX (is.map .int)=some is
 |[]=>rfl
 |i::is=>by rw[cq];show(kX (is.map .int)).map _=_;rw[JA is];rfl
theorem ON:∀{ds:List D} {is:List Int},kX ds=some is->ds=is.map .int
 |[],is,e=>by cases e;rfl
 |d::ds,is,e=>by
  cases d with
  |int i=>
   obtain⟨js,e1,e2⟩:=dm.mp (show(kX ds).map _=some is from e);rw[<-e2,ON e1];rfl
  |_=>cases e
theorem N2{F:Kn}:∀{ws:List V} {is:List Int},ah K F ws (is.map .int)->ws=is.map .int
 |[],[],_=>rfl
 |[],_::_,h=>by have:=h.length;simp at this
 |_::_,[],h=>by have:=h.length;simp at this
 |w::ws,i::is,h=>by
  rw[cq] at h;have h1:=h.inv.1;have h2:=N2 h.inv.2;rw[h2,cq];cases h1 with
  |flat e _=>cases e;rfl
end
section
variable{X:Cx}{K:PySem.W.Frag}
end
end L2
namespace L2
open PySem PySem.Spec PySem.W PyProof.Rows
section
variable{X:Cx}{K:PySem.W.Frag}
def MT(k:String):Bool:=k == "tuple" || k == "list"
def yy(K:Frag):List V->Hp->VK->Prop:=λxs H Q=>∃x k q,xs=[x,.ref q]/\C_ K H x k/\gY K H q [.ty "tuple",.ty "list"]/\Q (.bl (MT k)) H
def V5(K:Frag)(hK:X.K=K:=by rfl):bR X (.builtin "isinstance") (yy K):=by
 subst hK;intro aa s Z H xs us Q I r h;obtain⟨x,k,q,rfl,hk,hq,qq⟩:=h;obtain⟨u,w',rfl,rx,ry⟩:=vals2 r;cases ry;obtain⟨aF,rv,⟨ot,h1,h2,n,h3⟩,_⟩:=I.tuple hq;obtain⟨oc,odd,odt,vi⟩:=ot;dsimp only at h2 h3;subst h2;subst h3;obtain⟨u1,u2,rfl,r1,r2⟩:=vals2 rv;cases r1;cases r2;have fin:∀b,b=MT k->∀tk,EP X aa Z Q (.bool b) { s with toks:=tk}:=λb e tk=>vL (I.tok _) qq e.symm
 cases x with
 |aI=>
  cases rx;have hk:k="NoneType":=hk;subst hk;exact kia_tup (b:=false) kitx_none I.ke uJ h1 (by rfl) (λz=>nomatch z) (fin _ rfl)
 |bl b=>
  cases rx;have hk:k="bool":=hk;subst hk;exact kia_tup (b:=false) kitx_bool I.ke uJ h1 (by rfl) (λz=>nomatch z) (fin _ rfl)
 |int i=>
  obtain⟨t,rfl⟩:=rx;have hk:k="int":=hk;subst hk;exact kia_tup (b:=false) kitx_int I.ke uJ h1 (by rfl) (λz=>nomatch z) (fin _ rfl)
 |str z=>
  obtain⟨t,rfl⟩:=rx;have hk:k="str":=hk;subst hk;exact kia_tup (b:=false) kitx_str I.ke uJ h1 (by rfl) (λz=>nomatch z) (fin _ rfl)
 |ref a=>
  cases rx;rcases hk with⟨hk,ys,hs⟩|⟨hk,ys,hs⟩
  .subst hk;obtain⟨aF,_,⟨o,n,e,hc,_⟩,_⟩:=I.list hs;exact kia_tup (b:=true) kitx_list I.ke ⟨o,e,hc⟩ h1 (by rfl) (λz=>nomatch z) (fin _ rfl)
  .subst hk;obtain⟨aF,_,⟨o,e,hc,_⟩,_⟩:=I.tuple hs;exact kia_tup (b:=true) kitx_tuple I.ke ⟨o,e,hc⟩ h1 (by rfl) (λz=>nomatch z) (fin _ rfl)
 |xF _=>exact False.elim hk
 |xX _=>exact False.elim hk
 |ty _=>exact False.elim hk
end
end L2
namespace L2
open PySem PySem.Spec PyProof.Rows
variable{A:cQ}{E:ai->au->Prop}{s:au}{ep:Nat}
theorem UD{Q:Bool->au->Prop}{P:de}{w:cB}{d:ag}(hT:s.TypeIs (.ref d) "dict")(h:Q false s):wpAny (model P w) A (Builtin.List.listLengthHint (.ref d)) Q E s:=by
 unfold Builtin.List.listLengthHint;refine ay (wpAny_specialOf hT F.slot_dict_len.lookup ?_);dsimp only;rw[show splitId "dict.__len__"=some ("dict","__len__") from by decide +kernel]
 dsimp only;refine ay (wpAny_isInstance (b:=true) hT (by rw[isSubtype_type];kernel_rfl) ?_)
 rw[ba (by decide)]
 refine wpAny_ite_true (by decide +kernel) (ay (wpAny_typeOf hT ?_))
 exact aU h
section
variable{P:de}{w:cB}{A:cQ}{E:ai->au->Prop}{s:au}
def V6{n:Nat}{ob:Obj}{xs:Array DictEntry}(hh:A.handled=none)(J d:ag)(fP:d≠J)(g2:ob.data=.dict xs ep)(hl:xs.size=n):
  Walks P w A J [J,d] [J] n (λi v=>xs[i]?.map (·.key)=some v) (λi h=>h.IsKeyIter J d i n ep/\h.get? d=some ob) where
 sub:=λb hb=>by simp at hb;simp[hb]
 frame:=λ_ _ _ st hk=>⟨st.1.at λo e=>hk J (by simp) o e,hk d (by simp) _ st.2⟩
 item:=λi s Q E hi st hQ=>by
  have lt:i<xs.size:=by lia
  refine Od st.2 g2 hl st.1 lt λh' BV sb=>?_
  exact hQ _ h' s.toks (by rw[vp lt];rfl) ⟨BV,(sb.2 d fP).trans st.2⟩ λb o hb e=>sb.extBut b o (λh=>hb (by simp[h])) e
 done:=λs Q E st hQ=>OE hh st.2 g2 hl st.1 (bP _) λh' he'=>hQ h' s.toks λb o hb e=>he' b o (λh=>hb (by simp[h])) e
 self:=λ_ _ _ _ st hQ=>wpAny_pyIter_keyiter st.1 hQ
end
theorem Qv:∀{ys:List V} {us:List ai},ys.length=us.length->(∀(j:Nat) (y:V) (u:ai),ys[j]?=some y->us[j]?=some u->RelV y u)->Vals ys us
 |[],[],_,_=>.nil
 |y::ys,u::us,hl,h=>.cons (h 0 y u rfl rfl) (Qv (by simpa using hl) λj y' u' e1 e2=>h (j+1) y' u' (by simpa using e1) (by simpa using e2))
 |[],_::_,h,_=>by simp at h
 |_::_,[],h,_=>by simp at h
section
variable{X:Cx}{aa:List (ag×Obj)}{Z:St}{H:Hp}
theorem T7{d:ag}{es:List (TK×V×V)}{Q:ai->au->Prop}(hh:A.handled=none)(I:Inv X aa Z H s)(hd:H d=some (.dG es ep))
  (hQ:∀s',(∀b u,s.heap.get? b=some u->s'.heap.get? b=some u)->s'={ s with heap:=s'.heap,toks:=s'.toks}->(∃aF c,Vals (es.map (·.2.1)) aF/\s'.heap.get? s.heap.objs.size=some { cls:=.type "list",data:=.seq aF.toArray c})->Q (.ref s.heap.objs.size) s') :
  wpAny (model X.prog X.w) A (call (.type "list") [.ref d]) Q E s:=by
 obtain⟨hz,z,ob,xs,g1,g5,g2,g3,g4⟩:=(show bG X.prog X.w H s.heap d (.dG es ep) from I.bA d _ hd);have hl:xs.size=es.length:=by have:=Paired.length g3;simpa using this.symm
 have ld:d<s.heap.objs.size:=cP g1;refine callType_codes (Q₁:=λobj s₁=>obj=.ref s.heap.objs.size/\s₁={ s with heap:=s.heap.push { cls:=.type "list",data:=.seq #[]}}) F.called_list (F.typeCall_list_1 _) F.entry_list_init (code_list_new _ ⟨rfl,rfl⟩) λobj s₁ q₁=>?_
 obtain⟨rfl,rfl⟩:=q₁;have gS:(s.heap.push { cls:=.type "list",data:=.seq #[]}).get? s.heap.objs.size=some { cls:=.type "list",data:=.seq #[]}:=jO _ rfl;refine⟨⟨_,gS,rfl⟩,F.args_list_init_2 _ _,?_⟩;show wpAny _ _ (do let old <-Builtin.List.listItems (.ref s.heap.objs.size);Builtin.List.listUpdate (.ref s.heap.objs.size) (λ_=>#[]);letGo old.toList.reverse;Builtin.List.listExtendWith (.ref s.heap.objs.size) (.ref d) .none) _ _ _
 refine ay ?_;unfold Builtin.List.listItems;refine ay (wpAny_seqItems gS rfl (aU ?_));show wpAny _ _ (updateSeq s.heap.objs.size (λ_=>#[]) >>= λ_=>letGo (#[]:Array ai).toList.reverse >>= λ_=>Builtin.List.listExtendWith (.ref s.heap.objs.size) (.ref d) .none) _ _ _
 refine ay (wpAny_updateSeq gS rfl ?_);have gT:=sk (Obj.mapSeq (λ_=>(#[]:Array ai))) gS rfl
 refine ay (wpAny_letGo ?_);have nS:∀b u,s.heap.get? b=some u->b≠s.heap.objs.size:=λb u e z=>by rw[z] at e;exact j5 _ (cP e)
 have k1:∀b u,s.heap.get? b=some u->((s.heap.push { cls:=.type "list",data:=.seq #[]}).update s.heap.objs.size (Obj.mapSeq (λ_=>(#[]:Array ai)))).get? b=some u:=
  λb u e=>(qh _ _ (Ne.symm (nS b u e))).trans (c8 _ e)
 have MG:((s.heap.push { cls:=.type "list",data:=.seq #[]}).update s.heap.objs.size (Obj.mapSeq (λ_=>(#[]:Array ai)))).objs.size=s.heap.objs.size+1:=by simp[Heap.update,Heap.push]
 generalize(s.heap.push { cls:=.type "list",data:=.seq #[]}).update s.heap.objs.size (Obj.mapSeq (λ_=>(#[]:Array ai)))=h1 at *
 have I1:Inv X aa Z H { s with heap:=h1,toks:=s.toks}:=I.kept k1;have hT1:Shared.TypeIs { s with heap:=h1} (.ref d) "dict":=⟨ob,k1 _ _ g1,g5.1⟩;unfold Builtin.List.listExtendWith;refine ay (wpAny_typeOf hT1 ?_);have ne:s.heap.objs.size≠d:=λe=>j5 _ (e ▸ ld)
 have c1:Builtin.List.listSameRef (.ref s.heap.objs.size) (.ref d)=false:=by simp[Builtin.List.listSameRef,ne]
 have c2:(Value.type "dict" == Value.type "list")=false:=by decide
 have c3:(Value.type "dict" == Value.type "tuple")=false:=by decide
 simp only[c1,c2,c3,Bool.or_false,su,j7];refine ay (Pd I1 hd ?_);have Lb:Shared.TypeIs { s with heap:=h1.push { cls:=.type "dict_keyiterator",data:=.fields #[.ref d,.int 0 0,.int es.length 0,.int ep 0]}} (.ref d) "dict":=⟨ob,c8 _ (k1 _ _ g1),g5.1⟩;refine ay (lD (UD Lb ?_));refine wpAny_ite_true (by decide +kernel) (ay (wpAny_rule (ay ?_)))
 show wpAny _ _ (updateSeq s.heap.objs.size (·.push .none) >>= λ_=>updateSeq s.heap.objs.size (·.pop)) _ _ _
 have gU:=c8 { cls:=.type "dict_keyiterator",data:=.fields #[.ref d,.int 0 0,.int es.length 0,.int ep 0]} gT;refine ay (wpAny_updateSeq gU rfl ?_);have gV:=sk (Obj.mapSeq (·.push Value.none)) gU rfl
 refine wpAny_updateSeq (hz:=by seq_fits) gV rfl ?_
 have gW:=sk (Obj.mapSeq (·.pop)) gV rfl
 have gJ:(h1.push { cls:=.type "dict_keyiterator",data:=.fields #[.ref d,.int 0 0,.int es.length 0,.int ep 0]}).get? h1.objs.size=some { cls:=.type "dict_keyiterator",data:=.fields #[.ref d,.int 0 0,.int es.length 0,.int ep 0]}:=jO _ rfl;have L8:∀b o,b≠s.heap.objs.size->(h1.push { cls:=.type "dict_keyiterator",data:=.fields #[.ref d,.int 0 0,.int es.length 0,.int ep 0]}).get? b=some o->
   (((h1.push { cls:=.type "dict_keyiterator",data:=.fields #[.ref d,.int 0 0,.int es.length 0,.int ep 0]}).update s.heap.objs.size (Obj.mapSeq (·.push Value.none))).update s.heap.objs.size (Obj.mapSeq (·.pop))).get? b=some o:=
  λb o hb e=>(qh _ _ (Ne.symm hb)).trans ((qh _ _ (Ne.symm hb)).trans e)
 have hJ:h1.objs.size≠s.heap.objs.size:=by rw[MG];exact Nat.succ_ne_self _
 have dJ:d≠h1.objs.size:=gM (by rw[MG];exact AW ld)
 have W:=(V6 (P:=X.prog) (w:=X.w) (A:=A.in1.in1) (n:=es.length) (ep:=ep) hh h1.objs.size d dJ g2 hl).toS;have hSf:s.heap.objs.size∉[h1.objs.size,d]:=λm=>by
  grind
 refine aU ⟨plainId_quiet F.plain_extend_loop _,codeAny_extend_loopS W hz _ hSf _ es.length 0 _ _ _ rfl (mL _) ⟨⟨_,L8 _ _ hJ gJ,rfl,rfl⟩,L8 _ _ (Ne.symm ne) (c8 _ (k1 _ _ g1))⟩ gW (ItemsOf.nil _) λs' C0 c' hm hS' vY=>?_⟩
 obtain⟨m1,m2,m3,m4,m5⟩:=hm;have vV:s'={ s with heap:=s'.heap,toks:=s'.toks}:=by
  cases s';cases m2;cases m3;cases m4;rfl
 refine⟨rfl,hQ s' (λb u e=>m1 b u (λq=>?_) (L8 b u (nS b u e) (c8 _ (k1 b u e)))) vV ⟨C0.toList,c',?_,by simpa using hS'⟩⟩
 .rcases y0a.mp q with q|q
  .exact nS b u e q
  .rw[lB] at q;have:=cP e;rw[q,MG] at this;exact cC this (Nat.not_lt.mpr (xa _))
 .have h2:C0.size=es.length:=vY.1;refine Qv (by simp[h2]) λj y u e1 e2=>?_
  rw[gP] at e1;obtain⟨e,e3,rfl⟩:=dm.mp e1;obtain⟨x,x1,x2⟩:=CI j g3 e3;have h3:=vY.2 j u (by rw[<-A0];exact e2)
  have x1:xs[j]?=some x:=by rw[<-A0];exact x1
  have h3:Option.map (λx=>x.key) xs[j]?=some u:=h3
  rw[x1] at h3;cases h3;exact x2.2.1
def Ti(K:PySem.W.Frag):List V->Hp->VK->Prop:=λxs H Q=>∃d es ep,xs=[.ref d]/\H d=some (.dG es ep)/\∀l,H l=none->Q (.ref l) (upd H l (.lst (es.map (·.2.1))))
def U4(hc:X.calm=true):bR X (.type "list") (Ti X.K):=by
 intro aa s Z H xs us Q I r h;obtain⟨d,es,ep,rfl,hd,q⟩:=h;obtain⟨u,rfl,ru⟩:=vals1 r;cases ru;refine T7 (I.ok.hd hc) I hd λs' kp vV hh=>?_
 obtain⟨aF,c,rv,g⟩:=hh;have hz:=(show bG X.prog X.w H s.heap d (.dG es ep) from I.bA d _ hd).1;rw[vV];exact⟨.ref s.heap.objs.size,_,I.laid kp (bP _) (show bG X.prog X.w _ s'.heap _ (.lst (es.map (·.2.1))) from⟨by rw[bw];exact hz,aF,c,rv,g⟩),rfl,q _ (I.bA.fresh (bP _))⟩
end
section
variable{X:Cx}{K:PySem.W.Frag}
def qQ(r:V->List V->Hp->VK->Prop):List V->Hp->VK->Prop:=λvs H Q=>∃x xs,vs=x::xs/\r x xs H Q
def e_:List D->ak (List Str)
 |[]=>some []
 |.str x::ds=>(e_ ds).map λxs=>x::xs
 |_=>none
theorem OO:∀xs:List Str,e_ (xs.map .str)=some xs
 |[]=>rfl
 |i::is=>by rw[cq];show(e_ (is.map .str)).map _=_;rw[OO is];rfl
theorem JB:∀{ds:List D} {xs:List Str},e_ ds=some xs->ds=xs.map .str
 |[],xs,e=>by cases e;rfl
 |d::ds,xs,e=>by
  cases d with
  |str i=>
   obtain⟨js,e1,e2⟩:=dm.mp (show(e_ ds).map _=some xs from e);rw[<-e2,JB e1];rfl
  |_=>cases e
theorem Jf{F:Kn}:∀{ws:List V} {xs:List Str},ah K F ws (xs.map .str)->ws=xs.map .str
 |[],[],_=>rfl
 |[],_::_,h=>by have:=h.length;simp at this
 |_::_,[],h=>by have:=h.length;simp at this
 |w::ws,i::is,h=>by
  rw[cq] at h;have h1:=h.inv.1;have h2:=Jf h.inv.2;rw[h2,cq];cases h1 with
  |flat e _=>cases e;rfl
theorem Jm:∀{xs:List Str} {aF:List ai},Vals (xs.map V.str) aF->∃ps:List (Str×Tok),aF=ps.map (λp=>Value.str p.1 p.2)/\ps.map (·.1)=xs
 |[],aF,h=>by
  rw[yM] at h;cases h;exact⟨[],rfl,rfl⟩
 |i::is,aF,h=>by
  rw[cq] at h;cases h with
  |cons r t=>
   obtain⟨ps,e1,e2⟩:=Jm t;obtain⟨tk,rfl⟩:=r;exact⟨(i,tk)::ps,by rw[e1];rfl,by rw[cq,e2]⟩
end
section
variable{X:Cx}{K:PySem.W.Frag}
def hV:List D->ak (List Bool)
 |[]=>some []
 |.bl b::ds=>(hV ds).map λbs=>b::bs
 |_=>none
theorem Of:∀{ds:List D} {bs:List Bool},hV ds=some bs->ds=bs.map .bl
 |[],bs,e=>by cases e;rfl
 |d::ds,bs,e=>by
  cases d with
  |bl i=>
   obtain⟨js,e1,e2⟩:=dm.mp (show(hV ds).map _=some bs from e);rw[<-e2,Of e1];rfl
  |_=>cases e
theorem Og{F:Kn}:∀{ws:List V} {bs:List Bool},ah K F ws (bs.map .bl)->ws=bs.map .bl
 |[],[],_=>rfl
 |[],_::_,h=>by have:=h.length;simp at this
 |_::_,[],h=>by have:=h.length;simp at this
 |w::ws,i::is,h=>by
  rw[cq] at h;have h1:=h.inv.1;have h2:=Og h.inv.2;rw[h2,cq];cases h1 with
  |flat e _=>cases e;rfl
def V7(K:PySem.W.Frag)(hc:X.calm=true:=by rfl)(hK:X.K=K:=by rfl):bR X (.builtin "all") (λxs H Q=>∃(a:ag) (bs:List Bool),xs=[.ref a]/\cM K H a (bs.map V.bl)/\Q (.bl (bs.all id)) H):=hK ▸ VI hc
noncomputable def BJ(z:Str):ai->Bool
 |.str y _=>y == z
 |_=>false
def Rq(K:PySem.W.Frag):V->List V->Hp->VK->Prop:=λx xs H Q=>∃(a:ag) (ys:List Str) (z:Str) (j:Nat),x=.ref a/\xs=[.str z]/\cM K H a (ys.map V.str)/\ys[j]?=some z/\(∀i y,i<j->ys[i]?=some y->y≠z)/\Q (.int (j:Nat)) H
theorem Xu(K:PySem.W.Frag)(hK:X.K=K:=by rfl):A9 X "list.index" (Rq K):=by
 subst hK;intro aa s Z H x xs v us Q I rx rs h;obtain⟨a,ys,z,j,rfl,rfl,hq,hj,fP,q⟩:=h;cases rx;obtain⟨u,rfl,ru⟩:=vals1 rs;obtain⟨t,rfl⟩:=ru;obtain⟨aF,rv,p,hz⟩:=I.list hq;obtain⟨ps,e1,e2⟩:=Jm rv;subst e1;obtain⟨ob,n,eo,vc,hdi,hda⟩:=p;have hlen:ps.length=ys.length:=by rw[<-e2,bw]
 have hjl:j<ys.length:=(fA.mp hj).1;have hit:∀i (hi:i<ps.length),(ps.map λp=>Value.str p.1 p.2)[i]?=some (Value.str ps[i].1 ps[i].2):=λi hi=>by simp[hi]
 have HN:∀i (hi:i<ps.length),ys[i]?=some ps[i].1:=λi hi=>by rw[<-e2];simp[hi]
 have hsz:(ps.map λp=>Value.str p.1 p.2).toArray.size=ps.length:=by simp
 have Lm:ps[j].1=z:=by
  simp_all
 obtain⟨cl,di,da,sl⟩:=ob;cases vc;cases hda;have HP:ys.length<=16777216:=by rw[bw,sizeLine_eq] at hz;exact hz
 refine call_meets F.slot_list_index ⟨_,eo,rfl⟩ F.entry_list_index (F.args_list_index_2 _ _) (SeqAt.list_indexAt a _ n di sl (.str z t) (BJ z) j (by rw[hsz];lia) (by lia) ?_ ?_) ⟨eo,?_,?_⟩
 .simp[BJ,Lm]
 .intro i hi qK;rw[hsz] at hi;have:=fP i _ qK (HN i hi);simp[BJ];exact this
 .intro y hy;simp at hy;obtain⟨b,t',_,rfl⟩:=hy;exact SeqAt.EqAt.str_str b t' z t
 .exact⟨.int (j:Nat),H,I.tok _,⟨_,rfl⟩,q⟩
def findS(ys:List Str)(z:Str):ak Nat:=ys.findIdx? (· == z)
def CC{ys:List Str}{z:Str}{j:Nat}(e:findS ys z=some j):ys[j]?=some z/\∀i y,i<j->ys[i]?=some y->y≠z:=by
 unfold findS at e;rw[List.findIdx?_eq_some_iff_getElem] at e;obtain⟨h,h1,h2⟩:=e;refine⟨by rw[jq h];congr 1;exact eq_of_beq h1,λi y hi ey=>?_⟩
 have:=h2 i hi;obtain⟨hl,e3⟩:=fA.mp ey;rw[e3] at this;intro z';subst z';simp at this
end
section
variable{X:Cx}{K:PySem.W.Frag}
def Qw:V->List V->Hp->VK->Prop:=λx xs H Q=>∃(l:ag) (ys:List Str) (z:Str) (j:Nat),x=.ref l/\xs=[.str z]/\H l=some (.lst (ys.map V.str))/\ys[j]?=some z/\(∀i y,i<j->ys[i]?=some y->y≠z)/\Q .aI (upd H l (.lst ((ys.eraseIdx j).map V.str)))
theorem Gb{α β:Type}(f:α->β):∀(xs:List α) (j:Nat),(xs.map f).eraseIdx j=(xs.eraseIdx j).map f
 |[],j=>by simp
 |_::_,0=>rfl
 |x::xs,j+1=>by show f x::(xs.map f).eraseIdx j=f x::(xs.eraseIdx j).map f;rw[Gb f xs j]
theorem NK:∀{ps:List (Str×Tok)},Vals ((ps.map (·.1)).map V.str) (ps.map λp=>Value.str p.1 p.2)
 |[]=>.nil
 |p::ps=>.cons ⟨p.2,rfl⟩ NK
theorem V8:A9 X "list.remove" Qw:=by
 intro aa s Z H x xs v us Q I rx rs h;obtain⟨l,ys,z,j,rfl,rfl,hH,hj,fP,q⟩:=h;cases rx;obtain⟨u,rfl,ru⟩:=vals1 rs;obtain⟨t,rfl⟩:=ru;obtain⟨hz,aF,n,rv,hl,eo⟩:=I.Ak hH;obtain⟨ps,e1,e2⟩:=Jm rv;subst e1;have hlen:ps.length=ys.length:=by rw[<-e2,bw]
 have hjl:j<ys.length:=(fA.mp hj).1;have HN:∀i (hi:i<ps.length),ys[i]?=some ps[i].1:=λi hi=>by rw[<-e2];simp[hi]
 have hsz:(ps.map λp=>Value.str p.1 p.2).toArray.size=ps.length:=by simp
 have Lm:ps[j].1=z:=by
  have:=HN j (by lia)
  rw[hj] at this;exact(Option.some.inj this).symm
 refine call_meets F.slot_list_remove ⟨_,eo,rfl⟩ F.entry_list_remove (F.args_list_remove_2 _ _) (MeetsSeq.list_remove l _ n (.str z t) (BJ z) ?_ j (by rw[hsz];lia) ?_ ?_ (by rw[hsz,hlen];simpa using hz)) ⟨eo,?_⟩
 .intro y hy;simp at hy;obtain⟨b,t',_,rfl⟩:=hy;show MeetsSeq.EqGives _ _ (b == z);rw[<-SeqAt.str_beq];exact SeqRoads2.EqGives.str b z t' t
 .simp[BJ,Lm]
 .intro i hi qK;rw[hsz] at hi;have:=fP i _ qK (HN i hi);simp[BJ];exact this
 .refine⟨.aI,_,I.Aj (its':=(ps.eraseIdx j).map λp=>Value.str p.1 p.2) hH eo ?_ ?_ ?_,rfl,q⟩
  .apply Array.toList_inj.mp;simp[Array.toList_eraseIdxIfInBounds,Gb]
  .rw[<-e2,Gb];exact NK
  .rw[bw];have:=List.length_eraseIdx_le ys j;rw[bw] at hz;lia
end
end L2
namespace L2
open PySem PySem.Spec PySem.W PyProof.Rows
def Xv{P:de}{w:cB}{xs:List DictEntry}{kvs:List (Str×ai)}(p:Pairs (strKind P w) xs kvs):∀{es:List (TK×V×V)},(∀x∈xs,∃k,(strKind P w).is k x.key=true/\x.hash=(strKind P w).hash k)->kvs.map (λp=>TK.inr p.1)=es.map (·.1)->Vals (es.map (·.2.2)) (kvs.map (·.2))->iu es->Paired (i7 w) es xs:=by
 induction p with
 |nil=>
  intro es _ e _ _;cases es with
  |nil=>exact .nil
  |cons _ _=>cases e
 |@cons x kv xs kvs h1 h2 _ ih=>
  intro es hk e v t;cases es with
  |nil=>cases e
  |cons a es=>
   rw[cq,cq,List.cons.injEq] at e;cases v with
   |cons v1 v2=>
    refine .cons ?_ (ih (λy m=>hk y (.tail _ m)) e.2 v2 λy m=>t y (.tail _ m))
    obtain⟨k,k1,k2⟩:=hk x (.head _);obtain⟨z,t1,t2⟩:=t a (.head _);have i1:Value.isStrOf kv.1 x.key=true:=h1;have i2:Value.isStrOf k x.key=true:=k1;cases hx:x.key with
    |str s tk=>
     rw[hx] at i1 i2;have j1:s=kv.1:=by simpa[Value.isStrOf] using i1
     have j2:s=k:=by simpa[Value.isStrOf] using i2
     have j3:kv.1=z:=by
      lia
     refine⟨?_,?_,by rw[h2];exact v1,by rw[t1];rfl⟩
     .rw[k2,t1,<-j2,j1,j3];rfl
     .rw[t2,hx,j1,j3];exact⟨tk,rfl⟩
    |_=>rw[hx] at i1;cases i1
noncomputable def iY(z:Str)(k:TK):Bool:=decide (k≠.inr z)
theorem Qx(z:Str):∀{es:List (TK×V×V)} {kvs:List (Str×ai)},kvs.map (λp=>TK.inr p.1)=es.map (·.1)->Vals (es.map (·.2.2)) (kvs.map (·.2))->(without kvs z).map (λp=>TK.inr p.1)=(es.filter λe=>iY z e.1).map (·.1)/\Vals ((es.filter λe=>iY z e.1).map (·.2.2)) ((without kvs z).map (·.2))
 |[],[],_,_=>⟨rfl,.nil⟩
 |[],_::_,e,_=>by cases e
 |_::_,[],e,_=>by cases e
 |a::es,kv::kvs,e,v=>by
  rw[cq,cq,List.cons.injEq] at e;cases v with
  |cons v1 v2=>
   obtain⟨i1,i2⟩:=Qx z e.2 v2;unfold without at *;by_cases h:kv.1=z
   .grind [iY]
   .have h':iY z a.1=true:=by unfold iY;rw[<-e.1];simpa using h
    rw[B8,B8,bI (by simpa using h),bI h']
    exact⟨by rw[cq,cq,i1,e.1],.cons v1 i2⟩
theorem Rr(z:Str){v:V}:∀{es:List (TK×V×V)} {kvs:List (Str×ai)},kvs.map (λp=>TK.inr p.1)=es.map (·.1)->Vals (es.map (·.2.2)) (kvs.map (·.2))->j0 es (.inr z)=some v->∃u,valueAt kvs z=some u/\RelV v u
 |[],[],_,_,h=>by cases h
 |[],_::_,e,_,_=>by cases e
 |_::_,[],e,_,_=>by cases e
 |a::es,kv::kvs,e,vs,h=>by
  rw[cq,cq,List.cons.injEq] at e;cases vs with
  |cons v1 v2=>
   unfold j0 at h;unfold valueAt;rw[Ca] at h ⊢;by_cases g:kv.1=z
   .simp_all
   .have g':¬a.1=.inr z:=by rw[<-e.1];intro x;cases x;exact g rfl
    rw[yQ g'] at h;rw[yQ g];exact Rr z e.2 v2 h
def yB(K:PySem.W.Frag):V->List V->Hp->VK->Prop:=λx vs H Q=>∃d es ep z v,x=.ref d/\vs=[.str z]/\H d=some (.dG es ep)/\iu es/\j0 es (.inr z)=some v/\∀p_,Q v (upd H d (.dG (es.filter λe=>iY z e.1) p_))
def ω{X:Cx}(K:PySem.W.Frag):A9 X "dict.pop" (yB K):=by
 intro aa s Z H x xs v us Q I rx rs h;obtain⟨d,es,ep,z,v',rfl,rfl,hd,ht,hv,q⟩:=h;cases rx;obtain⟨u,rfl,ru⟩:=rs.one;obtain⟨tk,rfl⟩:=ru;obtain⟨kvs,D1,D2,D3,D4,lo⟩:=Bw I hd ht;obtain⟨w,hw,nH⟩:=Rr z D3 D2 hv;refine call_meetsIn PySem.F.slot_dict_pop (GQ I hd).1 PySem.F.entry_dict_pop (PySem.F.args_dict_pop_2 _ _) (meets_dict_pop_there (strKind X.prog X.w) d (k:=z) (by show Value.isStrOf z (.str z tk)=true;simp[Value.isStrOf]) [] (.inl rfl) (by rfl)) ⟨kvs,w,D1.dictOf,D4,hw,λh' hD hs=>?_⟩
 obtain⟨o,xs,p_,g1,g2,g3,g4,g5,g6⟩:=hD;obtain⟨f1,f2⟩:=Qx z D3 D2;obtain⟨hz,_⟩:=(show bG X.prog X.w H s.heap d (.dG es ep) from I.bA d _ hd);refine⟨v',_,J5 (ob:=.dG (es.filter λe=>iY z e.1) p_) I (by rw[hd];exact uJ) hs ⟨_,g1⟩ ⟨?_,lo,o,xs,g1,g2,g3,Xv g5 (λx m=>g4 x (M'.mp m)) f1 f2 λe m=>ht e (yJ.mp m).1,?_⟩,nH,q p_⟩
 .exact jN (yN _ _) hz
 .rw[<-f1,show(λp:Str×ai=>TK.inr p.1)=TK.inr∘(·.1) from rfl,<-fF]
  exact List.Pairwise.map _ (λa b ne z=>ne (by cases z;rfl)) g6
end L2
namespace L2
open PySem PySem.Spec PyProof.Rows
section
variable{X:Cx}{K:PySem.W.Frag}
def yx(K:PySem.W.Frag):V->List V->Hp->VK->Prop:=λx xs H Q=>∃a y o,x=.ref a/\xs=[y]/\gZ K H a y o/\Q (o.getD .aI) H
def d7v(K:PySem.W.Frag)(hu:X.A.units+41<cLine)(hK:X.K=K:=by rfl):A9 X "dict.get" (yx K):=by
 subst hK;intro aa s Z H x xs v us Q I r rs h;obtain⟨a,y,o,rfl,rfl,g,q⟩:=h;obtain⟨u,rfl,ru⟩:=Vals.one rs;cases r;exact e3o (by lia) I g ru λw' s' I' nH=>⟨o.getD .aI,H,I',nH,q⟩
end
end L2
namespace L2
open PySem PySem.Spec PySem.W PyProof.Rows
section
variable{X:Cx}{A:cQ}{E:ai->au->Prop}{aa:List (ag×Obj)}{Z:St}{H:Hp}{s:au}{d:ag}{y v2:V}{u r:ai}
end
section
variable{X:Cx}{K:PySem.W.Frag}
end
end L2
namespace L2
open PySem PySem.Spec PyProof.Rows
def JM{P:de}{w:cB}{H:Hp}(h:bU)(hb:sysModules<h.objs.size):bG P w H (h.push { cls:=.type "dict",data:=.dict #[]}) h.objs.size (.dG [] 0):=
 ⟨mL _,uI.mpr (Ne.symm (gM hb)),_,#[],jO _ rfl,⟨rfl,rfl,rfl⟩,rfl,.nil,Ip⟩
def e4d:TE:=λ_ H Q=>∀p,H p=none->Q (.ref p) (upd H p (.dG [] 0))
end L2
namespace L2
open PySem PySem.Spec PySem.W PyProof.Rows
variable{H:Hp}{ps:List (TK×V×V)}{A:cQ}{l:ag}{ys:List V}{E:ai->au->Prop}{s:au}
def NA:entryFor table "dict.update.loop"=some Builtin.«dict.update.loop»:=entryFor_of_tree (by kernel_rfl)
def FI:plainId "dict.update.loop"=true:=by decide +kernel
def eI(es:List (TK×V×V))(ps:List (TK×V×V)):List (TK×V×V):=ps.foldl (λes p=>dh es p.1 p.2.1 p.2.2) es
def Gj{d:ag}{o:HO}(h:H d=none):aw H (upd H d o):=λb u e=>by
 grind [c_]
section
variable{X:Cx}{aa:List (ag×Obj)}{Z:St}{H:Hp}
structure j8 (K:PySem.W.Frag) (H:Hp) (ys:List V) (ps:List (TK×V×V)):Prop where
 len:ys.length=ps.length
 item:∀(i:Nat) p,ps[i]?=some p->∃a,ys[i]?=some (.ref a)/\gY K H a [p.2.1,p.2.2]/\bf K H [p.2.1] [p.1.d]/\p.1.ok 8=true
def U5(es ps:List (TK×V×V)):(eI es ps).length<=es.length+ps.length:=by
 induction ps generalizing es with
 |nil=>exact bP _
 |cons p ps ih=>
  grind [FZ,eI]
def Oh(K:PySem.W.Frag)(h:∀p∈ps,bf K H [p.2.1] [p.1.d]):∀{es:List (TK×V×V)},bf K H (es.map (·.2.1)) (es.map (·.1.d))->bf K H ((eI es ps).map (·.2.1)) ((eI es ps).map (·.1.d)):=by
 induction ps with
 |nil=>exact λr=>r
 |cons p ps ih=>
  intro es r;refine ih (λq m=>h q (.tail _ m)) ?_
  have hp:=h p (.head _);clear ih h
  induction es with
  |nil=>exact hp
  |cons e es ih=>
   obtain⟨r1,r2⟩:=ah.inv r;show bf K H ((if e.1=p.1 then(e.1,e.2.1,p.2.2)::es else e::dh es p.1 p.2.1 p.2.2).map (·.2.1)) ((if e.1=p.1 then(e.1,e.2.1,p.2.2)::es else e::dh es p.1 p.2.1 p.2.2).map (·.1.d))
   split
   .exact .cons r1 r2
   .exact .cons r1 (ih r2)
def U6{R:Result->au->Prop}{d J:ag}(hd:H d=none)(hl:cM X.K H l ys)(hp:j8 X.K H ys ps)(hh:A.handled=none)(hu:A.units+12<cLine)(hn:ps.length<1000)
  (hJ:∀u,ja X aa (upd H d u) J)
  (fin:∀s ep,Inv X aa Z (upd H d (.dG (eI [] ps) ep)) s->R (.ok (.ret .none)) s) :
  ∀(n i:Nat) (ep:Nat) (s:au) (tk:Tok),ps.length - i=n->i<=ps.length->Inv X aa Z (upd H d (.dG (eI [] (ps.take i)) ep)) s->s.heap.IsListIter J l i->codeAny (model X.prog X.w) A (.builtin "dict.update.loop" ⟨[.ref d,.ref J,.int (i:Int) tk,.none],[]⟩) R s:=by
 intro n
 induction n with
 |zero=>
  intro i ep s tk hi hi2 I it;have e:i=ps.length:=by lia
  subst e;refine codeAny_builtin NA ?_;rw[Around.under_plainId FI _];show wpAny _ A.in1 (pyNext (.ref J) >>= _) _ _ s;have nj:=(Gj (o:=.dG (eI [] (ps.take ps.length)) ep) hd).seq hl;obtain⟨aF,rv,p,hz⟩:=I.list nj;obtain⟨f0,f1,f2,f3,f4,f5⟩:=hJ (.dG (eI [] (ps.take ps.length)) ep);have hlen:=rv.length;have DZ:=hp.len;refine ay (wpAny_pyNext_list_end hh it p.isList (by simp;lia) λh' eb=>?_)
  have I1:=I.turned (t':=s.toks) (λb o hb e=>eb b o hb e) f0 f1 f3 f4 f5
  rw[Nj] at I1;exact ay (aU (aU (fin _ ep I1)))
 |succ n ih=>
  intro i ep s tk hi hi2 I it;have lt:i<ps.length:=by lia
  obtain⟨a,ya,sq,rk,ok⟩:=hp.item i ps[i] (jq lt);refine codeAny_builtin NA ?_;rw[Around.under_plainId FI _];show wpAny _ A.in1 (pyNext (.ref J) >>= _) _ _ s;have sm:=Gj (o:=.dG (eI [] (ps.take i)) ep) hd;obtain⟨aF,rv,p,hz⟩:=I.list (sm.seq hl);obtain⟨u,hu1,ru⟩:=rv.get ya;obtain rfl:u=Value.ref a:=ru;obtain⟨f0,f1,f2,f3,f4,f5⟩:=hJ (.dG (eI [] (ps.take i)) ep);refine ay (wpAny_pyNext_list_item it p.isList (x:=.ref a) (by simpa using hu1) λh' BV sb=>?_)
  have I1:Inv X aa Z (upd H d (.dG (eI [] (ps.take i)) ep)) { s with heap:=h'}:=I.turned (t':=s.toks) (λb o hb e=>(sb.2 b hb).trans e) f0 f1 f3 f4 f5
  obtain⟨iU,H_,tp,_⟩:=I1.tuple (sm.AM sq);obtain⟨w1,w2,rfl,r1,r2⟩:∃w1 w2,iU=[w1,w2]/\RelV ps[i].2.1 w1/\RelV ps[i].2.2 w2:=by
   cases H_ with
   |cons r1 t=>
    cases t with
    |cons r2 t=>cases t;exact⟨_,_,rfl,r1,r2⟩
  obtain⟨o,ho,hc,n0,v7⟩:∃o,h'.get? a=some o/\o.cls=.type "tuple"/\∃n,o.data=.seq #[w1,w2] n:=by
   obtain⟨o,h1,h2,h3⟩:=tp;exact⟨o,h1,h2,h3⟩
  have hT:({ s with heap:=h'}:au).TypeIs (.ref a) "tuple":=⟨o,ho,hc⟩;refine ay (lD (ay (wpAny_tryCatch ?_)));unfold Builtin.Dict.pairItems;refine ay (wpAny_typeOf hT ?_);rw[bI (by decide)]
  refine ay (m:=seqItems? (.ref a)) (ay (wpAny_load ho ?_));rw[v7];refine aU (aU ?_);show wpAny _ _ (holding [w1,w2] (dictSet d w1 w2)) _ _ _;refine lD ?_;have I2:=I1.pinned (fp:=[J]) (λb hb=>by rw[lB.mp hb];exact hJ _) (λb hb=>by
   rw[lB.mp hb];obtain⟨oj,ej,_,dj⟩:=BV
   simp_all)
  have tk1:ps.take (i+1)=ps.take i++[ps[i]]:=(List.take_append_getElem lt).symm;have hpa:dh (eI [] (ps.take i)) ps[i].1 ps[i].2.1 ps[i].2.2=eI [] (ps.take (i+1)):=by rw[tk1];unfold eI;rw[Nk];rfl
  have hlen:=U5 [] (ps.take i);rw[yL,B9] at hlen;refine Jz (H':=upd (upd H d (.dG (eI [] (ps.take i)) ep)) d (.dG (eI [] (ps.take (i+1))) (rQ (eI [] (ps.take i)) ps[i].1 ep))) (show A.in1.units+8<cLine from ?_) I2 ⟨_,ep,ps[i].1,aJ,?_,(ah.Ii rk sm),ok,?_,by rw[hpa]⟩ r1 r2 λs' I3=>?_
  .lia
  .exact ah.Ii (H:=H) (Oh X.K (λq m=>by
    obtain⟨j,hj⟩:=AZ.mp (List.mem_of_mem_take m);obtain⟨_,_,_,r,_⟩:=hp.item j q hj;exact r) .nil) sm
  .exact fU (by lia:(eI [] (ps.take i)).length<1000000) (by decide)
  .have eu:upd (upd H d (.dG (eI [] (ps.take i)) ep)) d (.dG (eI [] (ps.take (i+1))) (rQ (eI [] (ps.take i)) ps[i].1 ep))=upd H d (.dG (eI [] (ps.take (i+1))) (rQ (eI [] (ps.take i)) ps[i].1 ep)):=by
    funext b;unfold upd;split <;> rfl
   rw[eu] at I3;obtain⟨oj,ej,cj,dj⟩:=id BV;have ej':s'.heap.get? J=some oj:=(I3.pin (J,oj) (pJ _ (pJ _ (CB (by simp) ej)))).1
   refine aU ⟨plainId_quiet FI _,?_⟩;exact ih (i+1) _ s' _ (by lia) lt I3.eG ⟨oj,ej',cj,dj⟩
theorem V9{aF:Array ai}{Q:ak ai->au->Prop}(pl:PlainL s.heap l aF)(hA:A.handled=none)
  (h:∀h' tk,(∀b u,s.heap.get? b=some u->h'.get? b=some u)->Q none { s with heap:=h',toks:=tk}):wpAny (model X.prog X.w) A (getAttr? (.ref l) "keys") Q E s:=by
 obtain⟨o,n,hx,hc,hd,v7⟩:=pl;obtain⟨c,aB,dat,sl⟩:=o;simp only at hc v7 hd;subst hc v7 hd;obtain⟨hp,g,d,tk,os⟩:=s;have hT:∀Tw,(⟨hp,g,d,Tw,os⟩:au).TypeIs (.ref l) "list":=λ_=>⟨_,hx,rfl⟩
 have f1:=sub_AttributeError;have f3:=F.slot_list_getattribute.lookup;have f4:=F.slot_list_getattribute.bind (.ref l);have f5:=am_list_getattr_none;unfold getAttr? getAttrBy? getAttrBy
 repeat (any_goals (first|assumption|exact hT _|((with_reducible show wpAny _ _ (call (Value.builtin "list.__getattribute__") _ _) _ _ _);refine call_meets F.slot_list_getattribute (hT _) am_entry_list_getattribute (F.args_list_getattribute_2 _ _) (meets_getattribute_miss_list l aF n sl "keys" _ (by rw[typeLookup_type,builtinLookup_eq_fast];kernel_rfl) (by decide) (by size_fits)) ⟨hx,hA,λh' Tw e ve=>?_⟩)|wp_step))
 obtain⟨t',u',he⟩:=ve.there;show wpAny _ _ (getattributeRaised _ _ _ _ _ _ _) _ _ _;unfold getattributeRaised
 repeat (any_goals (first|assumption|wp_step))
 exact h _ _ ve.keeps
theorem T2{Q:ai->au->Prop}(I:Inv X aa Z H s)(hl:cM X.K H l ys)(hp:j8 X.K H ys ps)(hh:A.handled=none)(hu:A.units+20<cLine)(hn:ps.length<1000)
  (q:∀s' ep,Inv X aa Z (upd H s.heap.objs.size (.dG (eI [] ps) ep)) s'->Q (.ref s.heap.objs.size) s'):wpAny (model X.prog X.w) A (call (.type "dict") [.ref l]) Q E s:=by
 refine callType_codes (Q₁:=λobj s₁=>obj=.ref s.heap.objs.size/\s₁={ s with heap:=s.heap.push { cls:=.type "dict",data:=.dict #[]}}) F.kt_called_dict (F.kt_typeCall_dict_1 _) F.entry_dict_init (kt_code_dict_new _ ⟨rfl,rfl⟩) ?_
 rintro obj s₁ ⟨rfl,rfl⟩;have hd:H s.heap.objs.size=none:=I.bA.fresh (bP _);have I1:=I.laid (a:=s.heap.objs.size) (o:=.dG [] 0) (h':=s.heap.push { cls:=.type "dict",data:=.dict #[]}) (t':=s.toks) (λ_ _ q=>c8 _ q) (bP _) (JM s.heap I.big)
 generalize s.heap.objs.size=d at *;generalize s.heap.push { cls:=.type "dict",data:=.dict #[]}=Lz at *;have hT:=(GQ I1 aJ).1;obtain⟨aF,rv,pl,hz⟩:=I1.list ((Gj hd).seq hl);have hTl:({ s with heap:=Lz,toks:=s.toks}:au).TypeIs (.ref l) "list":=by
  obtain⟨o,n,h1,h2,_⟩:=pl;exact⟨o,h1,h2⟩
 refine⟨hT,F.args_dict_init_2 _ _,?_⟩;unfold Builtin.«dict.__init__»;refine ay ?_;unfold Builtin.Dict.selfAndRest;refine ay (wpAny_notOrdered_dict hT ?_);show wpAny _ _ (pure (d,[Value.ref l])) _ _ _;refine aU ?_;show wpAny _ _ (Builtin.Dict.updateFrom "dict.__init__" d (.ref l) [] .none) _ _ _;unfold Builtin.Dict.updateFrom;refine ay (wpAny_typeOf hTl ?_);rw[bI (by decide)]
 refine ay (V9 (X:=X) pl (show A.in1.in1.handled=none from hh) λh' tk kp=>?_)
 have I2:Inv X aa Z (upd H d (.dG [] 0)) { s with heap:=h',toks:=tk}:=I1.kept (t':=tk) kp;obtain⟨iU,H_,Mh,_⟩:=I2.list ((Gj hd).seq hl);show wpAny _ _ (rule _ >>= _) _ _ _;refine ay (wpAny_rule ?_);refine ay (wpAny_pyIter_list Mh.isList ?_);have I3:=I2.kept (h':=h'.push { cls:=.type "list_iterator",data:=.fields #[.ref l,.int 0 0]}) (t':=tk) (λ_ _ e=>c8 _ e)
 have R9:d<h'.objs.size:=by
  obtain⟨_,_,o,xs,g1,_⟩:=(show bG X.prog X.w _ h' d (.dG [] 0) from I2.bA d _ aJ);exact cP g1
 refine aU ⟨plainId_quiet FI _,?_⟩;refine U6 (A:=A.in1) (J:=h'.objs.size) hd hl hp hh (show A.units+1+12<cLine by lia) hn (λu=>I2.lM (bP _) ?_) (λs' ep I4=>⟨rfl,q s' ep I4⟩) ps.length 0 0 _ _ rfl (mL _) I3 ⟨_,jO _ rfl,rfl,rfl⟩
 rw[c_ (yK R9)];have:=I2.bA.fresh (bP _)
 rwa[c_ (yK R9)] at this
def Rt(K:PySem.W.Frag):List V->Hp->VK->Prop:=λvs H Q=>∃a ys ps,vs=[.ref a]/\cM K H a ys/\j8 K H ys ps/\ps.length<1000/\∀p ep,H p=none->Q (.ref p) (upd H p (.dG (eI [] ps) ep))
def U7(K:PySem.W.Frag)(hu:X.A.units+41<cLine)(hc:X.calm=true:=by rfl)(hK:X.K=K:=by rfl):bR X (.type "dict") (Rt K):=by
 subst hK;intro aa s Z H xs us Q I r h;obtain⟨a,ys,ps,rfl,hl,hp,hn,q⟩:=h;obtain⟨u,rfl,ru⟩:=vals1 r;cases ru;exact T2 I hl hp (I.ok.hd hc) (by lia) hn λs' ep I'=>⟨.ref s.heap.objs.size,_,I',rfl,q _ ep (I.bA.fresh (bP _))⟩
end
end L2
namespace L2
open PySem PySem.Spec PySem.W PySem.Calls PyProof.Rows
section
variable{prog:de}{w:cB}{A:cQ}{E:ai->au->Prop}{s:au}
def Ru{vs:List ai}(h:vs.length<2):(arrOf (SortSt.mk' general' (vs.toArray.zip vs.toArray) #[] 7 none)).map (·.2)=vs.toArray:=by
 grind
def U8{a:ag}{vs:List ai}{n:Nat}{P:Fin->au->Prop}(ho:s.heap.get? a=some (seqObj "list" vs.toArray n))(h1:vs.length<2)
  (h:P (.done (.ret .none)) { s with heap:=sortedHeap s.heap a vs vs.toArray}):wpAny (model prog w) A (Builtin.«list.sort» ⟨[.ref a],[]⟩) P E s:=by
 rw[list_sort_plain];have ha:a<s.heap.objs.size:=cP ho;have hz:vs.length<=sizeLine:=by rw[sizeLine_eq];lia
 refine ay (listItems_at ho rfl ?_);refine ay (listUpdate_at ho rfl ?_ (by rw[dw];exact hz) (mL _))
 obtain⟨e1,Aa⟩:∃e1,(s.heap.update a (Obj.mapSeq λ_=>#[])).get? a=some (seqObj "list" #[] e1):=⟨_,get?_update_seq ho (λ_=>#[])⟩
 refine ay (seqEpoch_at Aa rfl ?_);refine ay (wpAny_newTuple ?_ (by show vs.length<=_;exact hz))
 refine ay (wpAny_newList ?_ (mL _));refine lD ?_;have Ab:(((s.heap.update a (Obj.mapSeq λ_=>#[])).push (seqObj "tuple" vs.toArray 0)).push (seqObj "list" #[] 0)).get? a=some (seqObj "list" #[] e1):=by
  rw[Fm _ _ _ (by rw[size_push',Nl];exact gM (AW ha)),Fm _ _ _ (by rw[Nl];exact gM ha)]
  exact Aa
 show wpAny (model prog w) A _ P E { s with heap:=((s.heap.update a (Obj.mapSeq λ_=>#[])).push (seqObj "tuple" vs.toArray 0)).push (seqObj "list" #[] 0)}
 dsimp only;have h2:vs.toArray.size<2:=by simpa using h1
 rw[bI h2,bI h2];refine ay (aU ?_);rw[StateT.run_pure];refine ay (aU ?_);dsimp only;refine ay (seqEpoch_at Ab rfl ?_);refine ay (listUpdate_at Ab rfl ?_ (mL _) (by rw[Ru h1,dw];first|exact hz|exact Nat.le_succ_of_le hz))
 simp only[bne_self_eq_false,su,j7];rw[Ru h1];exact aU h
def Xw{vs:List ai}{h0:bU}{Q:ai->au->Prop}(h1:vs.length<2)(h:∀h' c,(∀b o,h0.get? b=some o->h'.get? b=some o)->h'.get? h0.objs.size=some (seqObj "list" vs.toArray c)->Q (.ref h0.objs.size) { s with heap:=h'}):
  wpAny (model prog w) A (call (.builtin "list.sort") [.ref h0.objs.size]) (λ_ s'=>Q (.ref h0.objs.size) s') E { s with heap:=h0.push (seqObj "list" vs.toArray 0)}:=by
 have ho:(h0.push (seqObj "list" vs.toArray 0)).get? h0.objs.size=some (seqObj "list" vs.toArray 0):=jO _ rfl;refine wpAny_call_entry slot_list_sort ⟨_,ho,rfl⟩ entry_list_sort ?_ (args_list_sort _);refine U8 (s:={ s with heap:=h0.push (seqObj "list" vs.toArray 0)}) ho h1 ⟨_,rfl,?_⟩;have lt:h0.objs.size<(h0.push (seqObj "list" vs.toArray 0)).objs.size:=cP ho;obtain⟨e1,Aa⟩:∃e1,((h0.push (seqObj "list" vs.toArray 0)).update h0.objs.size (Obj.mapSeq λ_=>#[])).get? h0.objs.size=some (seqObj "list" #[] e1):=⟨_,get?_update_seq ho (λ_=>#[])⟩
 have Ab:((((h0.push (seqObj "list" vs.toArray 0)).update h0.objs.size (Obj.mapSeq λ_=>#[])).push (seqObj "tuple" vs.toArray 0)).push (seqObj "list" #[] 0)).get? h0.objs.size=some (seqObj "list" #[] e1):=c8 _ (c8 _ Aa)
 have ho7:=get?_update_seq Ab (λ_=>vs.toArray)
 refine h _ _ (λb o e=>?_) ho7
 have nb:b≠h0.objs.size:=gM (cP e);unfold sortedHeap;rw[Iq _ _ _ _ nb];refine c8 _ (c8 _ ?_);rw[Iq _ _ _ _ nb];exact c8 _ e
def V_{P:List ai->Prop}{r:ag}{Q:ai->au->Prop}(h1:∀vs,P vs->vs.length<2)(hc:∀R:List ai->au->Prop,(∀vs (h':bU) (tk:Nat),P vs->(∀b o,s.heap.get? b=some o->h'.get? b=some o)->R vs { s with heap:=h',toks:=tk})->wpAny (model prog w) A.in1 (collect (.ref r)) R E s)
  (h:∀vs (h0:bU) (tk:Nat),P vs->(∀b o,s.heap.get? b=some o->h0.get? b=some o)->∀(h':bU) (c:Nat),(∀b o,h0.get? b=some o->h'.get? b=some o)->h'.get? h0.objs.size=some (seqObj "list" vs.toArray c)->Q (.ref h0.objs.size) { s with heap:=h',toks:=tk}):wpAny (model prog w) A (call (.builtin "sorted") [.ref r]) Q E s:=by
 refine Calls.call_function_entry kind_sorted plain_sorted entry_sorted (args_sorted1 _) ?_;unfold Builtin.«sorted»;refine ay (m:=checkCount "sorted" 1 1 _) (aU ?_);refine ay (hc _ λvs h' tk hP kp=>?_)
 have hl:=h1 vs hP;refine ay (wpAny_newList ?_ (by rw[sizeLine_eq];lia))
 refine ay (lD (wpAny_mono (Xw (s:={ s with heap:=h',toks:=tk}) (h0:=h') (vs:=vs) (Q:=λv s'=>Q v s') hl λh2 c LS hg=>h vs h' tk hP kp h2 c LS hg) (λ_ s' x=>?_) λ_ _ e=>e))
 exact aU ⟨_,rfl,x⟩
end
section
variable{X:Cx}{K:Frag}
theorem Pg:∀{ys:List V} {us:List ai},ys.length=us.length->(∀(j:Nat) (y:V) (u:ai),ys[j]?=some y->us[j]?=some u->RelV y u)->Vals ys us
 |[],[],_,_=>.nil
 |[],_::_,h,_=>by simp at h
 |_::_,[],h,_=>by simp at h
 |y::ys,u::us,h,r=>.cons (r 0 y u rfl rfl) (Pg (by simpa using h) λj y' u' e1 e2=>r (j+1) y' u' (by simpa using e1) (by simpa using e2))
def Rw(K:Frag):List V->Hp->VK->Prop:=λxs H Q=>∃a ys,xs=[.ref a]/\(cM K H a ys\/∃es ep,H a=some (.dG es ep)/\iu es/\ys=es.map (·.2.1))/\ys.length<2/\∀l,H l=none->Q (.ref l) (upd H l (.lst ys))
def Uo(hc:X.calm=true):bR X (.builtin "sorted") (Rw X.K):=by
 intro aa s Z H xs us Q I r h;obtain⟨a,ys,rfl,hq,hl,q⟩:=h;obtain⟨u,rfl,ru⟩:=Vals.one r;cases ru;refine V_ (P:=Vals ys) (λvs rv=>by have:=rv.length;lia) ?_ λvs h0 tk rv kp h' c LS hg=>?_
 .intro R hR;rcases hq with hq|⟨es,ep,hd,ht,rfl⟩
  .obtain⟨aF,rv,pl,hz⟩:=I.list hq;refine collect_list pl.isList (hR aF _ s.toks rv λb o e=>?_) (by have:=rv.length;rw[sizeLine_eq];lia)
   have nb:b≠s.heap.objs.size:=gM (cP e);rw[Iq _ _ _ _ nb];exact c8 _ e
  .obtain⟨kvs,D1,D2,D3,D4,lo⟩:=Bw I hd ht;have l1:kvs.length=es.length:=by have:=congrArg List.length D3;simpa using this
   refine kdu_collect (kdl_dict (knd:=strKind X.prog X.w) (kvs:=kvs) (ep:=ep) lo) (I.ok.hd hc) D1 D4 λh' tk aY kp hi=>hR _ h' tk ?_ kp
   refine Pg (by have:=hi.1;rw[bw,<-l1,<-this];simp) λj y u e1 e2=>?_
   rw[gP] at e1;obtain⟨e,e3,rfl⟩:=dm.mp e1;obtain⟨z,z1,z2⟩:=ht e (uH e3);obtain⟨k,v,k1,k2⟩:=hi.2 j u (by rw[<-A0];exact e2)
   have k3:(kvs.map (λp=>TK.inr p.1))[j]?=(es.map (·.1))[j]?:=by rw[D3]
   rw[gP,gP,k1,e3] at k3;have k4:TK.inr k=e.1:=Option.some.inj k3;rw[z1] at k4;cases k4;rw[z2];exact Value.isStrOf_shape k2
 .have e:=rv.length;have I0:Inv X aa Z H { s with heap:=h0,toks:=tk}:=I.kept kp;have I1:=I0.laid (h':=h') (t':=tk) (o:=.lst ys) LS (bP _) (show bG X.prog X.w _ h' _ (.lst ys) from⟨by rw[sizeLine_eq];lia,vs,c,rv,hg⟩)
  exact⟨.ref h0.objs.size,_,I1,rfl,q _ (I0.bA.fresh (bP _))⟩
end
end L2
namespace L2
open PySem PySem.Spec PySem.W PyProof.Rows
variable{p:Array Nat}{i m k l:Nat}
def pw(lt:Nat->Nat->Bool)(n:Nat){α:Type}:KasT α->(α->Prop)->Prop
 |.ret a,P=>P a
 |.ask i j k,P=>i<n/\j<n/\i≠j/\pw lt n (k (lt i j)) P
section
variable{lt:Nat->Nat->Bool}{n:Nat}
theorem GU{α:Type}{P Q:α->Prop}(h:∀a,P a->Q a):∀{t:KasT α},pw lt n t P->pw lt n t Q
 |.ret a,p=>h a p
 |.ask i j k,p=>⟨p.1,p.2.1,p.2.2.1,GU h p.2.2.2⟩
theorem Bz{α β:Type}{P:α->Prop}{Q:β->Prop}{f:α->KasT β}(h:∀a,P a->pw lt n (f a) Q):∀{t:KasT α},pw lt n t P->pw lt n (t.bind f) Q
 |.ret a,p=>h a p
 |.ask i j k,p=>⟨p.1,p.2.1,p.2.2.1,Bz h p.2.2.2⟩
structure Ord (lt:Nat->Nat->Bool) (n:Nat):Prop where
 uF:∀i j,i<n->j<n->i≠j->lt i j=false->lt j i=true
 asy:∀i j,i<n->j<n->lt i j=true->lt j i=false
 tr:∀i j k,i<n->j<n->k<n->lt i j=true->lt j k=true->lt i k=true
structure rT (n:Nat) (p:Array Nat):Prop where
 pm:p.Perm (List.toArray (List.range n))
def rT.size{p:Array Nat}(h:rT n p):p.size=n:=by have:=h.pm.size_eq;simpa using this
def rT.below(h:rT n p)(hi:i<n):p.getD i 0<n:=by
 have hs:=h.size;have e:p.getD i 0=p[i]'(by lia):=by simp[Array.getD,hs,hi]
 rw[e];have:p[i]'(by lia)∈p:=Array.getElem_mem _
 have:=h.pm.mem_iff.mp this
 simp_all
def rT.inj(h:rT n p){j:Nat}(hi:i<n)(hj:j<n)(e:p.getD i 0=p.getD j 0):i=j:=by
 have hs:=h.size;have nd:p.toList.Nodup:=(Array.perm_iff_toList_perm.mp h.pm).nodup_iff.mpr (by simpa using Nh)
 have ei:p.getD i 0=p.toList[i]'(by simp;lia):=by simp[Array.getD,hs,hi]
 have ej:p.getD j 0=p.toList[j]'(by simp;lia):=by simp[Array.getD,hs,hj]
 rw[ei,ej] at e;exact(Fp nd).mp e
def rV(lt:Nat->Nat->Bool)(p:Array Nat)(k:Nat):Prop:=∀i j,i<j->j<k->lt (p.getD i 0) (p.getD j 0)=true
def A7(lt:Nat->Nat->Bool)(p:Array Nat)(k:Nat):Prop:=∀i j,i<j->j<k->lt (p.getD j 0) (p.getD i 0)=true
variable(O:Ord lt n){p:Array Nat}(hp:rT n p)
include O hp
theorem Xx(h1:1<=m)(hm:m<n)(h:rV lt p m)(e:lt (p.getD (m - 1) 0) (p.getD m 0)=true):rV lt p (m+1):=by
 intro i j qK hj;by_cases z:j=m
 .subst z;by_cases z2:i=j - 1
  .rw[z2];exact e
  .exact O.tr _ _ _ (hp.below (by lia)) (hp.below (by lia)) (hp.below hm) (h i (j - 1) (by lia) (by lia)) e
 .exact h i j qK (by lia)
theorem Xy(h1:1<=m)(hm:m<n)(h:A7 lt p m)(e:lt (p.getD m 0) (p.getD (m - 1) 0)=true):A7 lt p (m+1):=by
 intro i j qK hj;by_cases z:j=m
 .subst z;by_cases z2:i=j - 1
  .rw[z2];exact e
  .exact O.tr _ _ _ (hp.below hm) (hp.below (by lia)) (hp.below (by lia)) e (h i (j - 1) (by lia) (by lia))
 .exact h i j qK (by lia)
theorem Ki:∀(f m:Nat),1<=m->m+f<=n->rV lt p m->pw lt n (kas_asc p f m) λr=>m<=r/\r<=m+f/\rV lt p r/\(r<m+f->lt (p.getD r 0) (p.getD (r - 1) 0)=true)
 |0,m,_,_,h=>⟨bP _,bP _,h,λz=>cC z (j5 _)⟩
 |f+1,m,h1,hm,h=>by
  refine⟨hp.below (by lia),hp.below (by lia),λz=>by have:=hp.inj (by lia) (by lia) z;lia,?_⟩
  cases e:lt (p.getD m 0) (p.getD (m - 1) 0) with
  |true=>exact⟨bP _,by lia,h,λ_=>e⟩
  |false=>
   have:=O.uF _ _ (hp.below (by lia)) (hp.below (by lia)) (λz=>by have:=hp.inj (by lia) (by lia) z;lia) e
   exact GU (λr hr=>⟨by lia,by lia,hr.2.2.1,λz=>hr.2.2.2 (by lia)⟩) (Ki f (m+1) (by lia) (by lia) (Xx O hp h1 (by lia) h this))
theorem Qy:∀(f m:Nat),1<=m->m+f<=n->A7 lt p m->pw lt n (kas_desc f p m 0) λr=>r.1=p/\r.2.2=0/\m<=r.2.1/\r.2.1<=m+f/\A7 lt p r.2.1
 |0,m,_,_,h=>⟨rfl,rfl,bP _,bP _,h⟩
 |f+1,m,h1,hm,h=>by
  refine⟨hp.below (by lia),hp.below (by lia),λz=>by have:=hp.inj (by lia) (by lia) z;lia,?_⟩
  cases e:lt (p.getD m 0) (p.getD (m - 1) 0) with
  |true=>exact GU (λr hr=>⟨hr.1,hr.2.1,by lia,by lia,hr.2.2.2.2⟩) (Qy f (m+1) (by lia) (by lia) (Xy O hp h1 (by lia) h e))
  |false=>
   have:=O.uF _ _ (hp.below (by lia)) (hp.below (by lia)) (λz=>by have:=hp.inj (by lia) (by lia) z;lia) e
   refine⟨hp.below (by lia),hp.below (by lia),λz=>by have:=hp.inj (by lia) (by lia) z;lia,?_⟩
   rw[this];exact⟨rfl,rfl,bP _,Il _ _,h⟩
omit O in
theorem Rx(hm:m<=n)(i:Nat):(kas_rev p 0 m).getD i 0=if i<m then p.getD (m - 1 - i) 0 else p.getD i 0:=by
 have hs:=hp.size;have:=getElem?_mirror_all (xs:=p) (i:=0) (j:=m) (by lia) i
 have g:∀(q:Array Nat) (j:Nat),q.getD j 0=(q[j]?).getD 0:=λq j=>by
  simp_all
 unfold kas_rev;rw[g,this];simp only[mL,true_and,Nat.zero_add];split
 .rw[g]
 .rw[g]
omit O in
theorem Qz(m:Nat):rT n (kas_rev p 0 m):=⟨(mirror_perm _ _ _ _).trans hp.pm⟩
theorem d7w(hm:m<=n)(h:A7 lt p m):rV lt (kas_rev p 0 m) m:=by
 intro i j qK hj;rw[Rx hp hm,Rx hp hm,bI (by lia),bI hj]
 exact h _ _ (by lia) (by lia)
theorem JN{k:Nat}(hk:k<n)(hs:rV lt p k):∀(f l r:Nat),l<=r->r<=k->r - l<=f->(∀i,i<l->lt (p.getD i 0) (p.getD k 0)=true)->(∀i,r<=i->i<k->lt (p.getD k 0) (p.getD i 0)=true)->
  pw lt n (kas_place p k f l r) λx=>x<=k/\(∀i,i<x->lt (p.getD i 0) (p.getD k 0)=true)/\∀i,x<=i->i<k->lt (p.getD k 0) (p.getD i 0)=true
 |0,l,r,h1,h2,h3,a,b=>⟨by lia,a,λi hi hk=>b i (by lia) hk⟩
 |f+1,l,r,h1,h2,h3,a,b=>by
  unfold kas_place;split
  .exact⟨by lia,a,λi hi hk=>b i (by lia) hk⟩
  .refine⟨hp.below hk,hp.below (by lia),λz=>by have:=hp.inj hk (by lia) z;lia,?_⟩
   have hm:(l+r) / 2<k:=by lia
   cases e:lt (p.getD k 0) (p.getD ((l+r) / 2) 0) with
   |true=>
    refine JN hk hs f l _ (by lia) (by lia) (by lia) a λi hi hik=>?_
    by_cases z:i=(l+r) / 2
    .rw[z];exact e
    .exact O.tr _ _ _ (hp.below hk) (hp.below (by lia)) (hp.below (by lia)) e (hs _ _ (by lia) hik)
   |false=>
    have e2:=O.uF _ _ (hp.below hk) (hp.below (by lia)) (λz=>by have:=hp.inj hk (by lia) z;lia) e
    refine JN hk hs f _ r (by lia) (by lia) (by lia) (λi hi=>?_) b
    by_cases z:i=(l+r) / 2
    .rw[z];exact e2
    .exact O.tr _ _ _ (hp.below (by lia)) (hp.below (by lia)) (hp.below hk) (hs _ _ (by lia) (by lia)) e2
omit O in
theorem Ry(hk:k<n)(hl:l<=k)(i:Nat):(bubble p k (k - l)).getD i 0=if i=l then p.getD k 0 else if l<i/\i<=k then p.getD (i - 1) 0 else p.getD i 0:=by
 have hs:=hp.size;have:=getElem?_bubble (xs:=p) (src:=k) (by lia) (k - l) (by lia) i
 have g:∀(q:Array Nat) (j:Nat),q.getD j 0=(q[j]?).getD 0:=λq j=>by
  simp_all
 rw[g,this,show k - (k - l)=l by lia]
 split
 .rw[g]
 .split
  .rw[g]
  .rw[g]
theorem d7x(hk:k<n)(hl:l<=k)(hs:rV lt p k)(a:∀i,i<l->lt (p.getD i 0) (p.getD k 0)=true)(b:∀i,l<=i->i<k->lt (p.getD k 0) (p.getD i 0)=true):rV lt (bubble p k (k - l)) (k+1):=by
 intro i j qK hj;rw[Ry hp hk hl,Ry hp hk hl];by_cases j1:j=l
 .rw[bI j1,ba (show ¬i=l by lia),ba (show ¬(l<i/\i<=k) by lia)]
  exact a i (by lia)
 .rw[ba j1];by_cases i1:i=l
  .grind
  .rw[ba i1];by_cases j2:l<j
   .rw[bI (show l<j/\j<=k by lia)]
    by_cases i2:l<i
    .rw[bI (show l<i/\i<=k by lia)];exact hs _ _ (by lia) (by lia)
    .rw[ba (show ¬(l<i/\i<=k) by lia)]
     by_cases z:i=j - 1
     .lia
     .exact hs _ _ (by lia) (by lia)
   .rw[ba (show ¬(l<j/\j<=k) by lia),ba (show ¬(l<i/\i<=k) by lia)]
    exact hs _ _ qK (by lia)
omit hp in
theorem Rz:∀(f:Nat) (p:Array Nat) (k:Nat),rT n p->k+f=n->rV lt p k->pw lt n (kas_bin f p k) λq=>rT n q/\rV lt q n
 |0,p,k,hp,e,h=>by subst e;exact⟨hp,h⟩
 |f+1,p,k,hp,e,h=>by
  refine Bz (λl hl=>?_) (JN O hp (by lia) h k 0 k (mL _) (bP _) (by lia) (λi hi=>by lia) λi hi hk=>by lia)
  exact Rz f _ (k+1) ⟨(bubble_perm _ _ _).trans hp.pm⟩ (by lia) (d7x O hp (by lia) hl.1 h hl.2.1 hl.2.2)
theorem Xz(h1:1<=n):pw lt n (kas_count n p) λr=>1<=r.1/\r.1<=n/\rT n r.2/\rV lt r.2 r.1:=by
 refine Bz (λm hm=>?_) (Ki O hp (n - 1) 1 (bP _) (by lia) λi j qK hj=>by lia)
 obtain⟨m1,m2,m3,m4⟩:=hm;by_cases e:m=n
 .rw[bI (by simpa using e)]
  exact⟨m1,by show m<=n;lia,hp,m3⟩
 .rw[ba (by simpa using e)]
  by_cases g:m > 1
  .rw[bI g];refine⟨hp.below (by lia),hp.below (by lia),λz=>by have:=hp.inj (by lia) (by lia) z;lia,?_⟩
   rw[m3 0 (m - 1) (by lia) (by lia)]
   exact⟨m1,by show m<=n;lia,hp,m3⟩
  .rw[ba g];have em:m=1:=by lia
   subst em;have d2:A7 lt p 2:=λi j qK hj=>by
    have:i=0/\j=1:=by lia
    rw[this.1,this.2];exact m4 (by lia)
   refine Bz (λr hr=>?_) (Qy O hp (n - (1+1)) (1+1) (by lia) (by lia) d2)
   obtain⟨r1,r2,r3,r4,r5⟩:=hr;rw[ba (by rw[r2];exact j5 0),r1]
   refine Bz (λx hx=>?_) (Ki O (Qz hp r.2.1) (n - r.2.1) r.2.1 (by lia) (by lia) (d7w O hp (by lia) r5))
   exact⟨by show 1<=x;lia,by show x<=n;lia,Qz hp _,hx.2.2.1⟩
omit hp in
theorem QA(h1:1<=n):pw lt n (kas_sort n) λq=>rT n q/\rV lt q n:=by
 refine Bz (λr hr=>?_) (Xz O ⟨Array.Perm.refl _⟩ h1)
 obtain⟨r1,r2,r3,r4⟩:=hr;have e:max r.1 1=r.1:=by lia
 rw[e];split
 .exact Rz O (n - r.1) r.2 r.1 r3 (by lia) r4
 .have:r.1=n:=by lia
  rw[this] at r4;exact⟨r3,r4⟩
end
variable{ks:List (Int×Int)}
def B5(lt:Nat->Nat->Bool){α:Type}:KasT α->α
 |.ret a=>a
 |.ask i j k=>B5 lt (k (lt i j))
theorem G_{lt:Nat->Nat->Bool}{n:Nat}{α:Type}{P:α->Prop}:∀{t:KasT α},pw lt n t P->P (B5 lt t)/\pw lt n t λa=>a=B5 lt t
 |.ret _,p=>⟨p,rfl⟩
 |.ask _ _ _,p=>⟨(G_ p.2.2.2).1,p.1,p.2.1,p.2.2.1,(G_ p.2.2.2).2⟩
theorem RC{lt:Nat->Nat->Bool}{n:Nat}{α:Type}{cmp:Nat->Nat->(Bool->au->Prop)->au->Prop}{Q:α->au->Prop}{s:au}(hc:∀i j C,i<n->j<n->i≠j->C (lt i j) s->cmp i j C s):∀{t:KasT α},pw lt n t (λa=>Q a s)->t.kasWp cmp Q s
 |.ret _,p=>p
 |.ask i j k,p=>hc i j _ p.1 p.2.1 p.2.2.1 (RC hc p.2.2.2)
def LZ(x y:Int×Int):Bool:=decide (x.1<y.1\/(x.1=y.1/\x.2<y.2))
def ltAt(ks:List (Int×Int))(i j:Nat):Bool:=LZ (ks.getD i (0,0)) (ks.getD j (0,0))
def RF(nd:ks.Nodup):Ord (ltAt ks) ks.length:=by
 refine⟨λi j hi hj hn h=>?_,λi j _ _ h=>?_,λi j k _ _ _ h1 h2=>?_⟩
 all_goals grind [List.getElem_inj,ltAt,LZ]
def dc(ks:List (Int×Int)):List Nat:=(B5 (ltAt ks) (kas_sort ks.length)).toList
def eH(h:bU)(vs:List ai)(ks:List (Int×Int)):Prop:=vs.length=ks.length/\∀i,i<ks.length->∃x o a b t t' z m,vs.getD i Value.none=.ref x/\h.get? x=some o/\o.cls=.type "tuple"/\o.data=.seq #[.int a t,.int b t',z] m/\ks.getD i (0,0)=(a,b)
def eH.keep{h h':bU}{vs:List ai}(T:eH h vs ks)(k:∀b o,h.get? b=some o->h'.get? b=some o):eH h' vs ks:=⟨T.1,λi hi=>by
 obtain⟨x,o,a,b,t,t',z,m,h1,h2,r⟩:=T.2 i hi;exact⟨x,o,a,b,t,t',z,m,h1,k _ _ h2,r⟩⟩
section
variable{prog:de}{w:cB}{A:cQ}{E:ai->au->Prop}{s:au}{vs:List ai}{ks:List (Int×Int)}
def d7y(T:eH s.heap vs ks)(nd:ks.Nodup)(i j:Nat)(C:Bool->au->Prop)(hi:i<ks.length)(hj:j<ks.length)(ij:i≠j)(h:C (ltAt ks i j) s):kas_ask prog w A (tuples' true) vs i j C s:=by
 obtain⟨x,o,a,b,t,t',z,m,x1,x2,x3,x4,x5⟩:=T.2 i hi;obtain⟨y,p,c,d,u,u',z',m',y1,y2,y3,y4,y5⟩:=T.2 j hj;have hl:ltAt ks i j=decide (a<c\/(a=c/\b<d)):=by unfold ltAt LZ;rw[x5,y5]
 rw[hl] at h;unfold kas_ask;rw[x1,y1];refine kat_lt x2 x4 y2 y4 ?_;show KatLex prog w A true _ C [(.int a t,.int c u),(.int b t',.int d u'),(z,z')] 0 s;refine kat_cons (wpAny_eqBool_int (kat_go (λe=>?_) λe=>?_))
 .have e:a=c:=by simpa using e
  refine kat_yes (kat_cons (wpAny_eqBool_int (kat_go (λe2=>?_) λe2=>?_)))
  .grind [List.getElem_inj]
  .have e2:b≠d:=by simpa using e2
   refine kat_no (kat_one _ _ (wpAny_lt_int ?_));rw[show decide (a<c\/(a=c/\b<d))=decide (b<d) by simp[e]] at h
   exact h
 .have e:a≠c:=by simpa using e
  refine kat_no (oneLt_int ?_);rw[show decide (a<c\/(a=c/\b<d))=decide (a<c) by simp[e]] at h
  exact h
theorem Ph{h:bU}:∀{vs:List ai} {ks:List (Int×Int)},eH h vs ks->∃fs,KatTups h vs fs/\fs.length=vs.length/\∀v∈fs,∃a t,v=Value.int a t
 |[],_,_=>⟨[],.nil,rfl,λv m=>by cases m⟩
 |v::vs,[],T=>by have:=T.1;simp at this
 |v::vs,k::ks,T=>by
  obtain⟨fs,f1,f2,f3⟩:=Ph (h:=h) (vs:=vs) (ks:=ks) ⟨by have:=T.1;simpa using this,λi hi=>by
   obtain⟨x,o,a,b,t,t',z,m,r⟩:=T.2 (i+1) (by simpa using hi)
   exact⟨x,o,a,b,t,t',z,m,by simpa using r⟩⟩
  obtain⟨x,o,a,b,t,t',z,m,h1,h2,h3,h4,_⟩:=T.2 0 (by simp)
  have h1:v=.ref x:=by simpa using h1
  subst h1;refine⟨.int a t::fs,.cons h2 h3 h4 (by simp) f1,by simp[f2],λv m=>?_⟩
  rcases y0a.mp m with rfl|m
  .exact⟨a,t,rfl⟩
  .exact f3 v m
def Ud{a:ag}{n:Nat}{P:PySem.Fin->au->Prop}(ho:s.heap.get? a=some (seqObj "list" vs.toArray n))(T:eH s.heap vs ks)(nd:ks.Nodup)(na:∀i x,i<ks.length->vs.getD i Value.none=.ref x->x≠a)(h2:2<=vs.length)(Hv:vs.length<64)
  (h:P (.done (.ret .none)) { s with heap:=sortedHeap s.heap a vs (List.toArray ((dc ks).map λi=>vs.getD i Value.none))}):wpAny (model prog w) A (Builtin.«list.sort» ⟨[.ref a],[]⟩) P E s:=by
 rw[list_sort_plain];have ha:a<s.heap.objs.size:=cP ho;refine ay (listItems_at ho rfl ?_);refine ay (listUpdate_at ho rfl ?_ (by rw[dw,sizeLine_eq];lia) (mL _))
 obtain⟨e1,Aa⟩:∃e1,(s.heap.update a (Obj.mapSeq λ_=>#[])).get? a=some (seqObj "list" #[] e1):=⟨_,get?_update_seq ho (λ_=>#[])⟩
 refine ay (seqEpoch_at Aa rfl ?_);refine ay (wpAny_newTuple ?_ (by show vs.length<=_;rw[sizeLine_eq];lia))
 refine ay (wpAny_newList ?_ (mL _));refine lD ?_;have Ab:(((s.heap.update a (Obj.mapSeq λ_=>#[])).push (seqObj "tuple" vs.toArray 0)).push (seqObj "list" #[] 0)).get? a=some (seqObj "list" #[] e1):=by
  rw[Fm _ _ _ (by rw[size_push',Nl];exact gM (AW ha)),Fm _ _ _ (by rw[Nl];exact gM ha)]
  exact Aa
 have T6:eH (((s.heap.update a (Obj.mapSeq λ_=>#[])).push (seqObj "tuple" vs.toArray 0)).push (seqObj "list" #[] 0)) vs ks:=⟨T.1,λi hi=>by
  obtain⟨x,o,b,c,t,t',z,m,y1,y2,r⟩:=T.2 i hi;refine⟨x,o,b,c,t,t',z,m,y1,c8 _ (c8 _ ?_),r⟩;rw[Iq _ _ _ _ (na i x hi y1)];exact y2⟩
 show wpAny (model prog w) A _ P E { s with heap:=((s.heap.update a (Obj.mapSeq λ_=>#[])).push (seqObj "tuple" vs.toArray 0)).push (seqObj "list" #[] 0)}
 dsimp only;have z_:¬vs.toArray.size<2:=by rw[dw];lia
 rw[ba z_,ba z_];obtain⟨fs,f1,f2,f3⟩:=Ph T6;refine ay (kat_kind (T:=.type "int") f1 (by lia) (λv hv=>?_) (by decide) ?_)
 .obtain⟨b,t,rfl⟩:=f3 v hv;exact λA Q E s' _ q=>wpAny_typeOf (typeIs_int s' b t) q
 .have O:=RF nd;have pq:=QA O (show 1<=ks.length by have:=T.1;lia)
  obtain⟨⟨q1,q2⟩,q3⟩:=G_ pq;have hlen:=T.1;refine ay (wpAny_mono (kat_run (Q:=λkg s'=>s'={ s with heap:=((s.heap.update a (Obj.mapSeq λ_=>#[])).push (seqObj "tuple" vs.toArray 0)).push (seqObj "list" #[] 0)}/\arrOf kg=(B5 (ltAt ks) (kas_sort ks.length)).map (kas_item (vs.toArray.zip vs.toArray))/\failedOf kg=none) rfl h2 Hv (λp' kg s' a1 a2 a3 a4=>⟨a4.2,by rw[<-a4.1];exact a2,a3⟩) (G:=λp s'=>p=B5 (ltAt ks) (kas_sort ks.length)/\s'=_) ?_) ?_ λ_ _ e=>e)
  .rw[hlen];exact RC (λi j C hi hj ij hC=>d7y T6 nd i j C hi hj ij hC) (GU (λp hp=>⟨hp,rfl⟩) q3)
  .rintro⟨⟨⟩,kg⟩ s' ⟨rfl,Lf,hf⟩;dsimp only;have Lx:=kat_snds rfl Lf;rw[Lx];refine ay (seqEpoch_at Ab rfl ?_);refine ay (listUpdate_at Ab rfl ?_ (mL _) (by rw[dw,bw,Nb,q1.size,sizeLine_eq];lia))
   rw[hf];simp only[bne_self_eq_false,su,j7];exact aU h
def U9{l:ag}{Q:ai->au->Prop}(hl:s.heap.IsList l vs.toArray)(T:eH s.heap vs ks)(nd:ks.Nodup)(h2:2<=vs.length)(Hv:vs.length<64)
  (h:Q (.ref (s.heap.objs.size+1)) { s with heap:=sortedAll s.heap vs (List.toArray ((dc ks).map λi=>vs.getD i Value.none))}):wpAny (model prog w) A (call (.builtin "sorted") [.ref l]) Q E s:=by
 refine Calls.call_function_entry kind_sorted plain_sorted entry_sorted (args_sorted1 _) ?_;unfold Builtin.«sorted»;refine ay (m:=checkCount "sorted" 1 1 _) (aU ?_);refine ay (collect_list hl ?_ (by rw[sizeLine_eq];lia))
 refine ay (wpAny_newList ?_ (by rw[sizeLine_eq];lia))
 have hsz:((s.heap.push (seqObj "list" #[] 0)).update s.heap.objs.size (Obj.mapSeq (·++vs.toArray))).objs.size=s.heap.objs.size+1:=by
  simp_all
 have ie:(((s.heap.push (seqObj "list" #[] 0)).update s.heap.objs.size (Obj.mapSeq (·++vs.toArray))).push (seqObj "list" vs.toArray 0)).get? (s.heap.objs.size+1)=some (seqObj "list" vs.toArray 0):=by
  rw[<-hsz];exact jO _ rfl
 have keep:∀b o,s.heap.get? b=some o->(((s.heap.push (seqObj "list" #[] 0)).update s.heap.objs.size (Obj.mapSeq (·++vs.toArray))).push (seqObj "list" vs.toArray 0)).get? b=some o:=λb o q=>by
  have ji:b<s.heap.objs.size:=cP q;rw[Fm _ _ _ (by rw[hsz];exact gM (AW ji)),Iq _ _ _ _ (gM ji),Fm _ _ _ (gM ji)]
  exact q
 show wpAny _ _ _ _ _ { s with heap:=((s.heap.push (seqObj "list" #[] 0)).update s.heap.objs.size (Obj.mapSeq (·++vs.toArray))).push (seqObj "list" vs.toArray 0)}
 rw[hsz];refine ay (lD (wpAny_call_entry slot_list_sort ⟨_,ie,rfl⟩ entry_list_sort (Ud ie (T.keep keep) nd (λi x hi e=>?_) h2 Hv ⟨_,rfl,?_⟩) (args_list_sort _)))
 .obtain⟨y,o,_,_,_,_,_,_,y1,y2,_⟩:=T.2 i hi;rw[y1] at e;cases e;exact gM (AW (cP y2))
 .exact aU ⟨_,rfl,h⟩
end
section
variable{X:Cx}{K:PySem.W.Frag}{H:Hp}
def xp(K:PySem.W.Frag)(H:Hp)(ys:List V)(ks:List (Int×Int)):Prop:=ys.length=ks.length/\∀i,i<ks.length->∃p z,ys[i]?=some (.ref p)/\gY K H p [.int (ks.getD i (0,0)).1,.int (ks.getD i (0,0)).2,z]
def RG(K:PySem.W.Frag):List V->Hp->VK->Prop:=λvs H Q=>∃a ys ks,vs=[.ref a]/\cM K H a ys/\xp K H ys ks/\ks.Nodup/\2<=ks.length/\ks.length<64/\∀l,H l=none->Q (.ref l) (upd H l (.lst ((dc ks).map λi=>ys.getD i .aI)))
theorem OP{ys:List V}{us:List ai}(r:Vals ys us):∀{is:List Nat},(∀i∈is,i<ys.length)->Vals (is.map λi=>ys.getD i .aI) (is.map λi=>us.getD i Value.none)
 |[],_=>.nil
 |i::is,h=>by
  have hi:=h i (.head _);obtain⟨u,e,ru⟩:=r.get (jq hi);have e1:ys.getD i .aI=ys[i]:=by simp[hi]
  have e2:us.getD i Value.none=u:=by rw[Cb,e];rfl
  refine .cons ?_ (OP r λj m=>h j (.tail _ m))
  lia
theorem Gk(nd:ks.Nodup)(h:1<=ks.length):(dc ks).Perm (List.range ks.length)/\(dc ks).Pairwise λi j=>ltAt ks i j=true:=by
 obtain⟨⟨q1,q2⟩,_⟩:=G_ (QA (RF nd) h);refine⟨by unfold dc;have:=Array.perm_iff_toList_perm.mp q1.pm;simpa using this,?_⟩
 rw[List.pairwise_iff_getElem];intro i j hi hj qK;have hs:=q1.size;have:=q2 i j qK (by unfold dc at hj;simp at hj;lia)
 unfold dc at hi hj ⊢;simp only[Nb] at hi hj;simpa[Array.getD,hi,hj] using this
def U_(K:PySem.W.Frag)(hK:X.K=K:=by rfl):bR X (.builtin "sorted") (RG K):=by
 subst hK;intro aa s Z H xs us Q I r h;obtain⟨a,ys,ks,rfl,hl,T,nd,h2,Hv,q⟩:=h;obtain⟨u,rfl,ru⟩:=vals1 r;cases ru;obtain⟨aF,rv,pl,hz⟩:=I.list hl;have hlen:=rv.length;have DZ:=T.1;have T':eH s.heap aF ks:=⟨by lia,λi hi=>by
  obtain⟨p,z,y1,y2⟩:=T.2 i hi;obtain⟨u,e,ru⟩:=rv.get y1;obtain rfl:u=Value.ref p:=ru;obtain⟨it2,H_,⟨o,g1,g2,n,g3⟩,_⟩:=I.tuple y2;cases H_ with
  |cons r1 t=>
   cases t with
   |cons r2 t=>
    cases t with
    |cons r3 t=>
     cases t;obtain⟨t1,rfl⟩:=r1;obtain⟨t2,rfl⟩:=r2;exact⟨p,o,_,_,t1,t2,_,n,by rw[Cb,e];rfl,g1,g2,g3,rfl⟩⟩
 refine U9 pl.isList T' nd (by lia) (by lia) ?_
 obtain⟨c,hc⟩:=sortedAll_at s.heap aF (List.toArray ((dc ks).map λi=>aF.getD i Value.none))
 obtain⟨s1,_⟩:=Gk nd (by lia)
 have hm:∀i∈dc ks,i<ys.length:=λi m=>by have:=s1.mem_iff.mp m;rw[xh] at this;lia
 have I3:=I.laid (h':=sortedAll s.heap aF (List.toArray ((dc ks).map λi=>aF.getD i Value.none))) (t':=s.toks) (o:=.lst ((dc ks).map λi=>ys.getD i .aI)) (λb o g=>sortedAll_old g) (xa _) (show bG X.prog X.w _ _ _ (.lst _) from⟨by rw[bw,s1.length_eq,vq,sizeLine_eq];lia,_,c,OP rv hm,hc⟩)
 exact⟨.ref (s.heap.objs.size+1),_,I3,rfl,q _ (I.bA.fresh (xa _))⟩
end
end L2
set_option autoImplicit false
namespace L2
open PySem PySem.Spec PySem.W PySem.Calls PyProof.Rows
def gq(kvs:List (TK×D)):Bool:=kvs.all λp=>yj p.1
def wb:D->ak (List D)
 |.aB kvs=>if gq kvs=true then some ((List.range kvs.length).map λi=>.tup (((kvs[i]?).map λp=>[p.1.d,p.2]).getD [])) else none
 |_=>none
section
variable{K:Frag}{W:XW}{q:Nat}{g:GE}{fz:Bool}{Z:St}{H:Hp}{R:It->Hp->Prop}{k:Kn}{es:List (TK×V×V)}{kvs:List (TK×D)}
def KI(h1:es.map (·.1)=kvs.map (·.1))(h2:ah K k (es.map (·.2.1)) (kvs.map (·.1.d)))(h:gq kvs=true):iu es:=Rm h1 (by rw[fF];exact h2) (by rw[Ft];exact h)
def d8a(t:tX (RI K q) K W q (bL fz wb g) Z H R):Rn (tE K W q g) Z H R:=by
 rcases Ga t with h|⟨d,ds,n,e,h⟩
 .exact h _
 .cases d with
  |aB kvs=>
   unfold wb at e;dsimp only at e;split at e
   .rename_i ht
    cases e;refine h _ λk1 H1 x le hd j=>?_
    obtain⟨a,es,ep,rfl,q2,q3,q4,q1⟩:=hd;have tx:=KI q2 q3 ht;refine⟨a,es,ep,rfl,jS.now (x:=.aI) q1 le,tx,j _ ?_⟩;have hl:kvs.length=es.length:=by have:=q4.length;rw[bw,bw] at this;exact this.symm
    rw[hl];refine .Et (λH s c=>⟨q1 H s c,tx⟩) λi us hi hv=>?_
    obtain⟨e,h1,rfl⟩:=hv;have DW:i<kvs.length:=by lia
    obtain⟨v,h3,h4⟩:=q4.get (i:=i) (d:=kvs[i].2) (by rw[gP,jq DW];rfl)
    obtain⟨v',h5,h6⟩:=q3.get (i:=i) (d:=kvs[i].1.d) (by rw[gP,jq DW];rfl)
    rw[gP,h1] at h3 h5;cases h3;cases h5;rw[jq DW];exact .cons h6 h4
   .cases e
  |_=>cases e
end
end L2
namespace L2
open PySem PySem.Spec PyProof.Rows
section
variable{X:Cx}{K:PySem.W.Frag}{k:Kn}{H:Hp}{x:V}{d:D}
def Top.txt{kvs:List (TK×D)}(t:Top K k H x (.aB kvs))(le:aw k.F H)(h:gq kvs=true):∃p es ep,x=.ref p/\H p=some (.dG es ep)/\iu es/\es.map (·.1)=kvs.map (·.1)/\ah K k (es.map (·.2.1)) (kvs.map (·.1.d))/\ah K k (es.map (·.2.2)) (kvs.map (·.2)):=by
 obtain⟨p,es,ep,rfl,h1,h2,h3,h4⟩:=t.aB le;exact⟨p,es,ep,rfl,h1,KI h2 h3 h,h2,h3,h4⟩
def EG(K:PySem.W.Frag):List V->Hp->VK->Prop:=λxs H Q=>(∃p ys,xs=[.ref p]/\(cM K H p ys\/gY K H p ys)/\Q (.int ys.length) H)\/(∃z,xs=[.str z]/\z.length<=sizeLine/\Q (.int z.length) H)\/∃p es ep,xs=[.ref p]/\H p=some (.dG es ep)/\iu es/\Q (.int es.length) H
def V'(hK:X.K=K):bR X (.builtin "len") (EG K):=(Ub K hK).or (m7.or (by
 intro aa s Z H xs us Q I r h;obtain⟨p,es,ep,rfl,hp,ht,q⟩:=h;obtain⟨u,rfl,ru⟩:=vals1 r;cases ru;obtain⟨kvs,D1,D2,D3,D4,lo⟩:=Bw I hp ht;have l1:kvs.length=es.length:=by have:=congrArg List.length D3;simpa using this
 refine call_len_dict lo D1.dictOf (by rw[sizeLine_eq] at D4;lia) ?_
 rw[l1];exact⟨.int es.length,H,I.tok _,⟨_,rfl⟩,q⟩))
def dD:D->ak Rv
 |.lst ds=>some (rd (.int ds.length))
 |.tup ds=>some (rd (.int ds.length))
 |.str z=>if z.length<=1000000 then some (rd (.int z.length)) else none
 |.aB kvs=>if gq kvs=true then some (rd (.int kvs.length)) else none
 |_=>none
def e4e:bY K (EG K) (o1 dD):=wo λk H x a y Q le t e res=>by
 unfold dD at e;split at e
 .cases e;obtain⟨p,ws,rfl,q,r⟩:=t.lst le;exact .inl ⟨p,ws,rfl,.inl q,by rw[r.length];exact res.flat le rfl⟩
 .cases e;obtain⟨p,ws,rfl,q,r⟩:=t.tup le;exact .inl ⟨p,ws,rfl,.inr q,by rw[r.length];exact res.flat le rfl⟩
 .split at e
  .cases e;cases t.flat rfl;exact .inr (.inl ⟨_,rfl,ml (by assumption),res.flat le rfl⟩)
  .cases e
 .split at e
  .cases e;obtain⟨p,es,ep,rfl,h1,h2,h3,h4,h5⟩:=t.txt le (by assumption)
   refine .inr (.inr ⟨p,es,ep,rfl,h1,h2,?_⟩);have:=h5.length;rw[bw,bw] at this;rw[this];exact res.flat le rfl
  .cases e
 .cases e
def uf:D->ak String
 |.aI=>some "NoneType"
 |.bl _=>some "bool"
 |.int _=>some "int"
 |.str _=>some "str"
 |.lst _=>some "list"
 |.tup _=>some "tuple"
 |_=>none
def Pj{n:String}(le:aw k.F H)(t:Top K k H x d)(e:uf d=some n):C_ K H x n:=by
 cases d with
 |lst _=>cases e;obtain⟨p,ws,rfl,q,r⟩:=t.lst le;exact .inl ⟨rfl,_,q⟩
 |tup _=>cases e;obtain⟨p,ws,rfl,q,r⟩:=t.tup le;exact .inr ⟨rfl,_,q⟩
 |_=>cases e <;> cases t.flat rfl <;> rfl
def ED(K:PySem.W.Frag):List V->Hp->VK->Prop:=λxs H Q=>(∃x k T,xs=[x,.ty T]/\C_ K H x k/\(T="int"\/T="str"\/T="bool"\/T="list"\/T="tuple")/\Q (.bl (rO k T)) H)\/yy K xs H Q
def Wa(hK:X.K=K):bR X (.builtin "isinstance") (ED K):=(VL K hK).or (V5 K hK)
def Ag:List D->Bool
 |[.ty a,.ty b]=>decide (a="tuple"/\b="list")
 |_=>false
def d8b{ds:List D}(h:Ag ds=true):ds=[.ty "tuple",.ty "list"]:=by
 unfold Ag at h;split at h
 .obtain⟨rfl,rfl⟩:=yR h;rfl
 .cases h
def jl(a t:D):ak Rv:=match t with
 |.ty T=>if T="int"\/T="str"\/T="bool"\/T="list"\/T="tuple" then(uf a).map λk=>rd (.bl (rO k T)) else none
 |.tup ds=>if Ag ds=true then(uf a).map λk=>rd (.bl (MT k)) else none
 |_=>none
def e4f:bY K (ED K) (o2 jl):=wq λk H x z a b y Q le t1 t2 e res=>by
 unfold jl at e;split at e
 .split at e
  .obtain⟨n,h,rfl⟩:=dm.mp e;cases t2.flat rfl;exact .inl ⟨x,n,_,rfl,Pj le t1 h,by assumption,res.flat le rfl⟩
  .cases e
 .split at e
  .rename_i ht
   cases d8b ht;obtain⟨n,h,rfl⟩:=dm.mp e;obtain⟨p,ws,rfl,q,r⟩:=t2.tup le;obtain⟨w1,us,rfl,r1,r2⟩:=r.b_;obtain⟨w2,us,rfl,r3,r4⟩:=r2.b_;cases r4.fT;cases r1.a_ rfl;cases r3.a_ rfl;exact .inr ⟨x,n,p,rfl,Pj le t1 h,q,res.flat le rfl⟩
  .cases e
 .cases e
def yz(K:PySem.W.Frag):List V->Hp->VK->Prop:=λxs H Q=>(∃p ys,xs=[.ref p]/\(cM K H p ys\/gY K H p ys)/\∀l,H l=none->Q (.ref l) (upd H l (.lst ys)))\/Ti K xs H Q
def Va(hc:X.calm=true)(hK:X.K=K):bR X (.type "list") (yz K):=(Uc K hK).or (hK ▸ U4 hc)
noncomputable def kZ:D->ak Rv
 |.lst ds=>some (.o (.lst ds))
 |.tup ds=>some (.o (.lst ds))
 |.aB kvs=>some (.o (.lst (kvs.map (·.1.d))))
 |_=>none
def d8c:bY K (yz K) (o1 kZ):=wo λk H x a y Q le t e res=>by
 unfold kZ at e;split at e
 .cases e;obtain⟨p,ws,rfl,q,r⟩:=t.lst le;exact .inl ⟨p,ws,rfl,.inl q,λl hl=>res.lst le r hl⟩
 .cases e;obtain⟨p,ws,rfl,q,r⟩:=t.tup le;exact .inl ⟨p,ws,rfl,.inr q,λl hl=>res.lst le r hl⟩
 .cases e;obtain⟨p,es,ep,rfl,h1,h2,h3,h4⟩:=t.aB le;exact .inr ⟨p,es,ep,rfl,h1,λl hl=>res.lst le h3 hl⟩
 .cases e
def qU:D->ak Rv
 |.aB kvs=>if gq kvs=true then some (.o (.lst (kvs.map (·.2)))) else none
 |_=>none
def d8d:bY K (λxs H Q=>∃d es ep,xs=[.ref d]/\H d=some (.dG es ep)/\iu es/\∀q,H q=none->Q (.ref q) (upd H q (.lst (es.map (·.2.2))))) (o1 qU):=wo λk H x a y Q le t e res=>by
 unfold qU at e;split at e
 .split at e
  .cases e;obtain⟨p,es,ep,rfl,h1,h2,h3,h4,h5⟩:=t.txt le (by assumption)
   exact⟨p,es,ep,rfl,h1,h2,λl hl=>res.lst le h5 hl⟩
  .cases e
 .cases e
noncomputable def Ha(q:List Bool->Bool):D->ak Rv
 |.lst ds=>(hV ds).map λbs=>rd (.bl (q bs))
 |_=>none
def XA(q:List Bool->Bool):bY K (λxs H Q=>∃(a:ag) (bs:List Bool),xs=[.ref a]/\cM K H a (bs.map V.bl)/\Q (.bl (q bs)) H) (o1 (Ha q)):=wo λk H x a y Q le t e res=>by
 unfold Ha at e;split at e
 .obtain⟨bs,h,rfl⟩:=dm.mp e;obtain⟨p,ws,rfl,s,r⟩:=t.lst le;rw[Of h] at r;cases Og r;exact⟨p,bs,rfl,s,res.flat le rfl⟩
 .cases e
noncomputable def lY(f:List Int->Int):D->ak Rv
 |.lst ds=>(kX ds).bind λis=>if is=[] then none else some (rd (.int (f is)))
 |_=>none
def QB(f:List Int->Int):bY K (λxs H Q=>∃(a:ag) (is:List Int),xs=[.ref a]/\cM K H a (is.map V.int)/\is≠[]/\Q (.int (f is)) H) (o1 (lY f)):=wo λk H x a y Q le t e res=>by
 unfold lY at e;split at e
 .obtain⟨is,h,e⟩:=cA.mp e;split at e
  .cases e
  .cases e;obtain⟨p,ws,rfl,s,r⟩:=t.lst le;rw[ON h] at r;cases N2 r;exact⟨p,is,rfl,s,by assumption,res.flat le rfl⟩
 .cases e
def jJ:List D->ak (List (Int×Int))
 |[]=>some []
 |.tup [.int a,.int b,_]::ds=>(jJ ds).map λks=>(a,b)::ks
 |_=>none
theorem Pk:∀{ds:List D} {ks:List (Int×Int)} {ws:List V},jJ ds=some ks->ah K k ws ds->aw k.F H->xp K H ws ks
 |[],ks,ws,e,r,le=>by cases e;exact⟨by rw[r.length];rfl,λi hi=>nomatch hi⟩
 |d::ds,ks,ws,e,r,le=>by
  obtain⟨w,us,rfl,r1,r2⟩:=r.b_;unfold jJ at e;split at e
  .rename_i h;cases h
  .rename_i a b z ds' h
   cases h;obtain⟨ym,e1,rfl⟩:=dm.mp e;obtain⟨l1,l2⟩:=Pk e1 r2 le;obtain⟨p,ws,rfl,q,r3⟩:=r1.isTup;obtain⟨w1,us1,rfl,t1,r3⟩:=r3.b_;obtain⟨w2,us2,rfl,t2,r3⟩:=r3.b_;obtain⟨w3,us3,rfl,t3,r3⟩:=r3.b_;cases r3.fT;cases t1.a_ rfl;cases t2.a_ rfl;refine⟨congrArg (·+1) l1,λi hi=>?_⟩
   cases i with
   |zero=>exact⟨p,w3,rfl,le.AM q⟩
   |succ i=>exact l2 i (Nat.lt_of_succ_lt_succ hi)
  .cases e
def yD(K:PySem.W.Frag):List V->Hp->VK->Prop:=λvs H Q=>Rw K vs H Q\/RG K vs H Q
def Vb(hc:X.calm=true)(hK:X.K=K):bR X (.builtin "sorted") (yD K):=(hK ▸ Uo hc).or (U_ K hK)
def mI(ds:List D)(is:List Nat):List D:=is.map λi=>ds.getD i .aI
def qS:D->ak Rv
 |.lst ds=>if ds.length<2 then some (.o (.lst ds)) else(jJ ds).bind λks=>if ks.Nodup/\ks.length<64 then some (.o (.lst (mI ds (dc ks)))) else none
 |.aB kvs=>if(gq kvs&&Nat.blt kvs.length 2)=true then some (.o (.lst (kvs.map (·.1.d)))) else none
 |_=>none
theorem Pl{ws:List V}{ds:List D}(r:ah K k ws ds):∀{is:List Nat},(∀i∈is,i<ds.length)->ah K k (is.map λi=>ws.getD i .aI) (mI ds is)
 |[],_=>.nil
 |i::is,h=>by
  have hi:=h i (.head _);obtain⟨v,h1,h2⟩:=r.get (i:=i) (d:=ds[i]) (jq hi);unfold mI;rw[cq,cq,show ws.getD i .aI=v by rw[Cb,h1];rfl,show ds.getD i .aI=ds[i] by rw[Cb,jq hi];rfl]
  exact .cons h2 (Pl r λj m=>h j (.tail _ m))
def d8e:bY K (yD K) (o1 qS):=wo λk H x a y Q le t e res=>by
 unfold qS at e;split at e
 .obtain⟨p,ws,rfl,s,r⟩:=t.lst le;split at e
  .cases e;exact .inl ⟨p,ws,rfl,.inl s,by rw[r.length];assumption,λl hl=>res.lst le r hl⟩
  .rename_i h2
   obtain⟨ks,h,e⟩:=cA.mp e;split at e
   .rename_i hk
    cases e;have T:=Pk h r le;have l1:ks.length=ws.length:=T.1.symm;have l2:=r.length;refine .inr ⟨p,ws,ks,rfl,s,T,hk.1,by lia,hk.2,λl hl=>res.lst le (Pl r λi m=>?_) hl⟩
    grind [Gk]
   .cases e
 .split at e
  .rename_i hh
   obtain⟨h1,h2⟩:=B'.mp hh;cases e;obtain⟨p,es,ep,rfl,h3,h4,h5,h6,h7⟩:=t.txt le h1;have:=h6.length;have l2:_<2:=fU (A2 h2) (bP _);exact .inl ⟨p,_,rfl,.inr ⟨es,ep,h3,h4,rfl⟩,by rw[this,bw];exact l2,λl hl=>res.lst le h6 hl⟩
  .cases e
 .cases e
def bT{α:Type}:List (TK×α)->TK->α->List (TK×α)
 |[],k,v=>[(k,v)]
 |(j,w)::r,k,v=>if j=k then(j,v)::r else(j,w)::bT r k v
def ia:List D->ak (List (TK×D))
 |[]=>some []
 |.tup [a,b]::ds=>(kY a).bind λj=>(ia ds).map λps=>(j,b)::ps
 |_=>none
noncomputable def qz:D->ak Rv
 |.lst ds=>(ia ds).bind λps=>if ps.length<1000 then some (.o (.aB (ps.foldl (λkvs p=>bT kvs p.1 p.2) []))) else none
 |_=>none
theorem J_{j:TK}{y v:V}{e:D}(ry:ah K k [y] [j.d])(rv:ah K k [v] [e]):∀{ws:List (TK×V×V)} {kvs:List (TK×D)},ws.map (·.1)=kvs.map (·.1)->ah K k (ws.map (·.2.1)) (kvs.map (·.1.d))->ah K k (ws.map (·.2.2)) (kvs.map (·.2))->
  (dh ws j y v).map (·.1)=(bT kvs j e).map (·.1)/\ah K k ((dh ws j y v).map (·.2.1)) ((bT kvs j e).map (·.1.d))/\ah K k ((dh ws j y v).map (·.2.2)) ((bT kvs j e).map (·.2))
 |[],[],_,_,_=>⟨rfl,ry,rv⟩
 |w::ws,p::kvs,h,r1,r2=>by
  obtain⟨h1,h2⟩:=List.cons.inj (show w.1::ws.map (·.1)=p.1::kvs.map (·.1) from h)
  obtain⟨a1,a2⟩:=ah.inv r1;obtain⟨b1,b2⟩:=ah.inv r2;unfold dh bT;by_cases q:p.1=j
  .rw[bI (h1.trans q),bI q];exact⟨congr (congrArg List.cons h1) h2,.cons a1 a2,.cons rv b2⟩
  .rw[ba (λz=>q (h1.symm.trans z)),ba q]
   obtain⟨c1,c2,c3⟩:=J_ ry rv h2 a2 b2;exact⟨congr (congrArg List.cons h1) c1,.cons a1 c2,.cons b1 c3⟩
 |[],_::_,h,_,_=>nomatch h
 |_::_,[],h,_,_=>nomatch h
def sU(K:PySem.W.Frag)(k:Kn)(q:TK×V×V)(p:TK×D):Prop:=q.1=p.1/\ah K k [q.2.1] [q.1.d]/\ah K k [q.2.2] [p.2]
theorem Pm:∀{ds:List D} {ps:List (TK×D)} {ws:List V},ia ds=some ps->ah K k ws ds->aw k.F H->∃qs:List (TK×V×V),j8 K H ws qs/\Paired (sU K k) qs ps
 |[],ps,ws,e,r,le=>by cases e;cases r.fT;exact⟨[],⟨rfl,λi p h=>nomatch h⟩,.nil⟩
 |d::ds,ps,ws,e,r,le=>by
  unfold ia at e;split at e
  .rename_i h;cases h
  .rename_i a b ds' h
   cases h;obtain⟨j,q1,e⟩:=cA.mp e;obtain⟨ps',q2,rfl⟩:=dm.mp e;obtain⟨w,us,rfl,r1,r2⟩:=r.b_;obtain⟨p,ws,rfl,sq,ri⟩:=r1.isTup;obtain⟨y,us1,rfl,t1,ri⟩:=ri.b_;obtain⟨v,us2,rfl,t2,ri⟩:=ri.b_;cases ri.fT;obtain⟨qs,h1,h3⟩:=Pm q2 r2 le;have rk:ah K k [y] [j.d]:=by rw[(By q1).1];exact t1
   refine⟨(j,y,v)::qs,⟨congrArg (·+1) h1.len,λi p h=>?_⟩,.cons ⟨rfl,rk,t2⟩ h3⟩
   cases i with
   |zero=>cases h;exact⟨_,rfl,le.AM sq,ud (k:=k.all H) j (rk.all le),(By q1).2⟩
   |succ i=>exact h1.item i p h
  .cases e
def QC{qs:List (TK×V×V)}{ps:List (TK×D)}(p:Paired (sU K k) qs ps):∀{ws:List (TK×V×V)} {kvs:List (TK×D)},ws.map (·.1)=kvs.map (·.1)->ah K k (ws.map (·.2.1)) (kvs.map (·.1.d))->ah K k (ws.map (·.2.2)) (kvs.map (·.2))->
  (eI ws qs).map (·.1)=(ps.foldl (λkvs p=>bT kvs p.1 p.2) kvs).map (·.1)/\ah K k ((eI ws qs).map (·.2.1)) ((ps.foldl (λkvs p=>bT kvs p.1 p.2) kvs).map (·.1.d))/\ah K k ((eI ws qs).map (·.2.2)) ((ps.foldl (λkvs p=>bT kvs p.1 p.2) kvs).map (·.2)):=by
 induction p with
 |nil=>exact λa b c=>⟨a,b,c⟩
 |@cons q p qs ps h _ ih=>
  intro ws kvs a b c;obtain⟨h1,h2,h3⟩:=h;obtain⟨j1,j2,j3⟩:=J_ h2 h3 a b c;rw[h1] at j1 j2 j3;have:=ih (ws:=dh ws p.1 q.2.1 q.2.2) (kvs:=bT kvs p.1 p.2) j1 j2 j3;rw[show eI ws (q::qs)=eI (dh ws p.1 q.2.1 q.2.2) qs by unfold eI;rw[Nm,h1],Nm]
  exact this
def XB:bY K (Rt K) (o1 qz):=wo λk H x a y Q le t e res=>by
 unfold qz at e;split at e
 .obtain⟨ps,q1,e⟩:=cA.mp e;split at e
  .rename_i hn
   cases e;obtain⟨p,ws,rfl,s,r⟩:=t.lst le;obtain⟨qs,g1,g3⟩:=Pm q1 r le;obtain⟨o1,o2,o3⟩:=QC g3 (ws:=[]) (kvs:=[]) rfl .nil .nil;exact⟨p,ws,qs,rfl,s,g1,by rw[Paired.length g3];exact hn,λl ep hl=>res.aB le o1 o2 o3 hl⟩
  .cases e
 .cases e
noncomputable def S6:D->ak String
 |.str _=>some "str"
 |.lst _=>some "list"
 |.aB _=>some "dict"
 |_=>none
def e4g{T:String}(le:aw k.F H)(t:Top K k H x d)(e:S6 d=some T):Ih K T x H:=by
 cases d with
 |str _=>cases e;cases t.flat rfl;rfl
 |lst _=>cases e;obtain⟨p,ws,rfl,q,r⟩:=t.lst le;exact .inl ⟨rfl,_,q⟩
 |aB _=>cases e;obtain⟨p,es,ep,rfl,h1,h2⟩:=t.aB le;exact .inr (.inr (.inl ⟨rfl,.inr (.inr ⟨es,ep,h1⟩)⟩))
 |_=>cases e
def Hb(T:String)(o:List D->ak Rv)(f:GE)(g:GA):GE:=λU S=>bd (f U S) λr S1=>if(wC S1 (nI r)).bind S6=some T then bd (g U S1) λvs S2=>(wD S2 (nI r::vs)).bind λds=>(o ds).map λy=>.ok y S2 else none
def XC{W:XW}{q:Nat}{T:String}{o:List D->ak Rv}{r:V->List V->Hp->VK->Prop}{f:GE}{g:GA}{Z:St}{H:Hp}{Q:VK}(bA:bY K (qQ r) o)(t:tE K W q (Hb T o f g) Z H Q):MI K T r (tE K W q f) (gp K W q g) Z H Q:=by
 obtain⟨k,U,S,res,ok,gk,e,w⟩:=t;refine tX.bd ok gk e w λr S1 x k1 H1 bH g1 r1 e1 w1 _=>?_
 obtain⟨k2,u2,cJ,r2⟩:=r9 bH r1;split at e1
 .rename_i hT
  obtain⟨d,h1,h2⟩:=cA.mp hT;refine⟨e4g cJ.le (G5 cJ r2 h1) h2,tX.bd cJ (g1.up (u2 q)) e1 (w1.up (u2 q)) λvs S3 xs k3 H3 jY g3 r3 e3 w3 u3=>?_⟩
  obtain⟨ds,e4,e5⟩:=cA.mp e3;obtain⟨y,e6,rfl⟩:=dm.mp e5;obtain⟨x',xs',z,rr⟩:=bA k3 H3 (x::xs) ds y Q jY.le (Qg jY (.cons (r2.up u3) r3) e4) e6 (.fin jY w3)
  lia
 .cases e1
def jj:D->D->ak Rv
 |.lst ds,.str z=>(e_ ds).bind λys=>(findS ys z).map λj=>rd (.int (j:Nat))
 |_,_=>none
def XD:bY K (qQ (Rq K)) (o2 jj):=wq λk H x z a b y Q le t1 t2 e res=>by
 unfold jj at e;split at e
 .obtain⟨ys,e1,e2⟩:=cA.mp e;obtain⟨j,e3,rfl⟩:=dm.mp e2;obtain⟨p,ws,rfl,s,r⟩:=t1.lst le;rw[JB e1] at r;cases Jf r;cases t2.flat rfl;obtain⟨s1,s2⟩:=CC e3;exact⟨_,_,rfl,p,ys,_,j,rfl,rfl,s,s1,s2,res.flat le rfl⟩
 .cases e
noncomputable def qE:D->D->ak Rv
 |.aB kvs,i=>(kY i).map λj=>rd ((aS kvs j).getD .aI)
 |_,_=>none
def d8f:bY K (qQ (yx K)) (o2 qE):=wq λk H x z a b y Q le t1 t2 e res=>by
 unfold qE at e;split at e
 .obtain⟨j,hj,rfl⟩:=dm.mp e;obtain⟨p,o,rfl,g,h⟩:=w6 le t1 t2 hj;refine⟨_,_,rfl,p,_,o,rfl,rfl,g,?_⟩;rcases h with⟨rfl,h⟩|⟨v,e,rfl,h,r⟩
  .rw[h] at res;exact res.flat le rfl
  .rw[h] at res;exact res.rep le r
 .cases e
end
variable{k:Kn}{ws:List V}{ds:List D}{v:V}
noncomputable def Cell.box:Cell->ak Bx
 |.o b=>some b
 |_=>none
def rG(S:aN):Val->ak Bx
 |.c n=>(S.s[n]?).bind Cell.box
 |.d (.ref n)=>(S.r[n]?).bind Cell.box
 |_=>none
noncomputable def setB(S:aN)(b:Bx):Val->aN
 |.c n=>⟨S.s.set n (.o b),S.r⟩
 |.d (.ref n)=>⟨S.s,S.r.set n (.o b)⟩
 |_=>S
noncomputable def Bx.mb(q:Nat):Bx->Bool
 |.lst _=>Nat.ble q 1
 |.aB _=>q == 0
noncomputable def Bx.ty:Bx->String
 |.lst _=>"list"
 |.aB _=>"dict"
section
variable{K:PySem.W.Frag}{k:Kn}{H:Hp}{S:aN}{x:V}{v:Val}{b:Bx}{a:ag}
def RJ{c:Cell}(h:c.box=some b):c=.o b:=by
 cases c <;> cases h;rfl
def RK{q:Nat}(h:dz K k H a b)(m:b.mb q=true):∀o,H a=some o->we q o=false:=by
 intro o e;cases b with
 |lst xs=>
  obtain⟨ws,e1,_⟩:=h;rw[e] at e1;cases e1;have:=A2 m
  match q,this with
  |0,_=>rfl
  |1,_=>rfl
 |aB kvs=>cases(beq_iff_eq.mp m);rfl
def C2(ok:bX K k H S)(r:cT K k x v)(e:rG S v=some b):∃a,x=.ref a/\dz K k H a b/\∀q b' H',lW H H' a->b.mb q=true->dz K k H' a b'->bX K k H' (setB S b' v)/\Up q k H k H':=by
 cases v with
 |c n=>
  obtain⟨a,rfl,h1⟩:=r;obtain⟨c,h2,h3⟩:=cA.mp e;cases RJ h3;obtain⟨h4,h5⟩:=ok.s.at' n a _ h1 h2;exact⟨a,rfl,h5,λq b' H' o m h=>ok.My h1 o h4 (RK h5 m) (c:=.o b') ⟨h4,h⟩⟩
 |d y=>
  cases y with
  |ref n=>
   obtain⟨a,rfl,h1⟩:=ah.isRef r;obtain⟨c,h2,h3⟩:=cA.mp e;cases RJ h3;obtain⟨h4,h5⟩:=ok.r.at' n a _ h1 h2;exact⟨a,rfl,h5,λq b' H' o m h=>ok.EM h1 o h4 (RK h5 m) (c:=.o b') ⟨h4,h⟩⟩
  |_=>cases e
def e8n{T:String}(h:dz K k H a b)(e:b.ty=T):Ih K T (.ref a) H:=by
 cases b with
 |lst xs=>obtain⟨ws,h1,_⟩:=h;exact .inl ⟨e.symm,ws,.inl (.inl h1)⟩
 |aB kvs=>obtain⟨es,ep,h1,_⟩:=h;exact .inr (.inr (.inl ⟨e.symm,.inr (.inr ⟨es,ep,h1⟩)⟩))
end
def lV(K:PySem.W.Frag)(r:V->List V->Hp->VK->Prop)(m:Bx->List D->ak (Bx×D)):Prop:=∀k H a b ds b' d xs Q,aw k.F H->dz K k H a b->ah K k xs ds->m b ds=some (b',d)->(∀x o',dz K k (upd H a o') a b'->ah K k [x] [d]->Q x (upd H a o'))->r (.ref a) xs H Q
def gf(q:Nat)(T:String)(m:Bx->List D->ak (Bx×D))(f:GE)(g:GA):GE:=λU S=>bd (f U S) λr S1=>if(rG S1 (nI r)).map Bx.ty=some T then bd (g U S1) λvs S2=>(rF vs S2).bind λp=>(rG p.2 (nI r)).bind λb=>if b.mb q=true then(m b p.1).map λz=>.ok (rd z.2) (setB p.2 z.1 (nI r)) else none else none
section
variable{X:Cx}{K:PySem.W.Frag}{W:XW}{q:Nat}{T:String}{m:Bx->List D->ak (Bx×D)}{r:V->List V->Hp->VK->Prop}{f:GE}{g:GA}{Z:St}{H:Hp}{Q:VK}
def e4h(hm:lV K r m)(t:tE K W q (gf q T m f g) Z H Q):MI K T r (tE K W q f) (gp K W q g) Z H Q:=by
 obtain⟨k,U,S,res,ok,gk,e,w⟩:=t;refine tX.bd ok gk e w λr S1 x k1 H1 bH g1 r1 e1 w1 _=>?_
 obtain⟨k2,u2,cJ,r2⟩:=r9 bH r1;split at e1
 .rename_i hT
  obtain⟨b0,h1,h2⟩:=dm.mp hT;obtain⟨a0,ea,h3,_⟩:=C2 cJ r2 h1;refine⟨ea ▸ e8n h3 h2,tX.bd cJ (g1.up (u2 q)) e1 (w1.up (u2 q)) λvs S3 xs k3 H3 jY g3 r3 e3 w3 u3=>?_⟩
  obtain⟨⟨ds,S4⟩,e4,e5⟩:=cA.mp e3;obtain⟨k4,u4,rP,r4⟩:=GL jY r3 e4;obtain⟨b,e6,e7⟩:=cA.mp e5;obtain⟨a,rfl,h4,h5⟩:=C2 rP ((r2.up u3).up (u4 q)) e6;split at e7
  .rename_i hb
   obtain⟨⟨b',d⟩,e8,rfl⟩:=dm.mp e7;refine hm k4 H3 a b ds b' d xs Q rP.le h4 r4 e8 λy o' h6 h7=>?_
   obtain⟨ny,u5⟩:=h5 q b' _ CM hb h6;exact(w3.up (u4 q)) y k4 _ u5 ny h7
  .cases e7
 .cases e1
noncomputable def vH:Bx->List D->ak (Bx×D)
 |.lst xs,[d]=>if xs.length<1000000 then some (.lst (xs++[d]),.aI) else none
 |_,_=>none
def AJ:ah K k [.aI] [.aI]:=.flat rfl .nil
def GV{xs:List V}{d:D}(h:ah K k xs [d]):∃x,xs=[x]/\ah K k [x] [d]:=by
 obtain⟨x,us,rfl,h1,h2⟩:=h.b_;cases h2.fT;exact⟨x,rfl,h1⟩
def Wb:lV K Qd vH:=by
 intro k H a b ds b' d xs Q le hb r e h;unfold vH at e;split at e
 .split at e
  .rename_i hl
   cases e;obtain⟨ws,h1,h2⟩:=hb;obtain⟨y,rfl,r1⟩:=GV r;exact⟨a,ws,y,rfl,rfl,h1,fU (by rw[h2.length];exact hl) (by decide),h .aI _ ⟨_,aJ,h2.append r1⟩ AJ⟩
  .cases e
 .cases e
noncomputable def C3:Bx->List D->ak (Bx×D)
 |.lst xs,[.int i,d]=>if 0<=i/\i<2^62/\xs.length<1000000 then some (.lst (xs.take i.toNat++d::xs.drop i.toNat),.aI) else none
 |_,_=>none
def Wc:lV K Qe C3:=by
 intro k H a b ds b' d xs Q le hb r e h;unfold C3 at e;split at e
 .split at e
  .rename_i hl
   cases e;obtain⟨ws,h1,h2⟩:=hb;obtain⟨y,us,rfl,r1,r2⟩:=r.b_;obtain⟨z,rfl,r3⟩:=GV r2;cases r1.a_ rfl;refine⟨a,ws,_,z,rfl,rfl,h1,hl.1,hl.2.1,fU (by rw[h2.length];exact hl.2.2) (by decide),h .aI _ ⟨_,aJ,?_⟩ AJ⟩
   have:∀(n:Nat) (l:List V),rL l n z=l.take n++z::l.drop n:=λn l=>by unfold rL;rfl
   rw[this];exact(h2.take _).append (.cons r3 (h2.drop _))
  .cases e
 .cases e
noncomputable def GW:Bx->List D->ak (Bx×D)
 |.lst xs,[.str z]=>(e_ xs).bind λys=>(findS ys z).map λj=>(.lst (xs.eraseIdx j),.aI)
 |_,_=>none
def Wd(h:ah K k ws ds)(j:Nat):ah K k (ws.eraseIdx j) (ds.eraseIdx j):=by
 rw[List.eraseIdx_eq_take_drop_succ,List.eraseIdx_eq_take_drop_succ];exact(h.take _).append (h.drop _)
def We:lV K Qw GW:=by
 intro k H a b ds b' d xs Q le hb r e h;unfold GW at e;split at e
 .obtain⟨ys,e1,e2⟩:=cA.mp e;obtain⟨j,e3,e4⟩:=dm.mp e2;cases e4;obtain⟨ws,h1,h2⟩:=hb;obtain⟨y,rfl,r1⟩:=GV r;cases r1.a_ rfl;obtain⟨s1,s2⟩:=CC e3;have h3:=Wd h2 j;rw[JB e1] at h2;cases Jf h2;exact⟨a,ys,_,j,rfl,rfl,h1,s1,s2,h .aI _ ⟨_,aJ,by rw[<-Gb];exact h3⟩ AJ⟩
 .cases e
def dr{α:Type}(kvs:List (TK×α))(z:Str):List (TK×α):=kvs.filter λe=>iY z e.1
def jK:Bx->List D->ak (Bx×D)
 |.aB kvs,[.str z]=>if gq kvs=true then(aS kvs (.inr z)).map λd=>(.aB (dr kvs z),d) else none
 |_,_=>none
theorem Pn{k:Kn}(z:Str):∀{ws:List (TK×V×V)} {kvs:List (TK×D)},ws.map (·.1)=kvs.map (·.1)->ah K k (ws.map (·.2.1)) (kvs.map (·.1.d))->ah K k (ws.map (·.2.2)) (kvs.map (·.2))->
  (dr ws z).map (·.1)=(dr kvs z).map (·.1)/\ah K k ((dr ws z).map (·.2.1)) ((dr kvs z).map (·.1.d))/\ah K k ((dr ws z).map (·.2.2)) ((dr kvs z).map (·.2))
 |[],[],_,_,_=>⟨rfl,.nil,.nil⟩
 |w::ws,p::kvs,h,r1,r2=>by
  obtain⟨h1,h2⟩:=List.cons.inj (show w.1::ws.map (·.1)=p.1::kvs.map (·.1) from h)
  obtain⟨a1,a2⟩:=ah.inv r1;obtain⟨b1,b2⟩:=ah.inv r2;obtain⟨c1,c2,c3⟩:=Pn z h2 a2 b2;unfold dr at *;rw[B8,B8,h1];split
  .exact⟨congr (congrArg List.cons h1) c1,.cons a1 c2,.cons b1 c3⟩
  .exact⟨c1,c2,c3⟩
 |[],_::_,h,_,_=>nomatch h
 |_::_,[],h,_,_=>nomatch h
def d8g:lV K (yB K) jK:=by
 intro k H a b ds b' d xs Q le hb r e h;unfold jK at e;split at e
 .split at e
  .rename_i ht
   obtain⟨v0,e1,e2⟩:=dm.mp e;cases e2;obtain⟨es,ep,h1,h2,h3,h4⟩:=hb;obtain⟨y,rfl,r1⟩:=GV r;cases r1.a_ rfl;obtain⟨f1,f2,f3⟩:=Pn (K:=K) _ h2 h3 h4;rcases J9 (k:=.inr _) h2 h4 with⟨_,z⟩|⟨v,e,z1,z2,z3⟩
   .rw[z] at e1;cases e1
   .rw[z2] at e1;cases e1;exact⟨a,es,ep,_,v,rfl,rfl,h1,KI h2 h3 ht,z1,λp_=>h v _ ⟨_,p_,aJ,f1,f2,f3⟩ z3⟩
  .cases e
 .cases e
end
def qR(K:PySem.W.Frag):rn:=λo i v H Q=>yC o i v H Q\/∃a H4,o=.ref a/\y7 K H a i v H4/\Q H4
def Sg{X:Cx}(hu:X.A.units+41<cLine):vA X (qR X.K):=by
 intro aa s Z H o i v ov iv u Q I ro ri rv h;rcases h with h|⟨a,H4,rfl,g,q⟩
 .exact WX aa s Z H o i v ov iv u Q I ro ri rv h
 .cases ro;exact V2 (by lia) I g ri rv λs4 I4=>⟨H4,I4,q⟩
def wG(b:Bx)(i v:D):ak Bx:=match b with
 |.lst xs=>(intD i).bind λk=>(wd xs.length k).map λj=>.lst (xs.set j v)
 |.aB kvs=>(kY i).bind λj=>if kvs.length<1000000 then some (.aB (bT kvs j v)) else none
section
variable{X:Cx}{K:PySem.W.Frag}{W:XW}{q:Nat}{fv fo fi:GE}{o e i:Expr}{pos pos':Pos}{Z:St}{H:Hp}
def d8h{d:D}(h:ah K k ws ds)(r:ah K k [v] [d])(j:Nat):ah K k (ws.set j v) (ds.set j d):=by
 induction ds generalizing ws j with
 |nil=>rw[h.fT];exact .nil
 |cons x ds ih=>
  obtain⟨w,us,rfl,h1,h2⟩:=h.b_;cases j with
  |zero=>exact .cons r h2
  |succ j=>exact .cons h1 (ih h2 j)
def RL{a:ag}{b b':Bx}{di dv:D}{y:V}{Q:Hp->Prop}(le:aw k.F H)(hb:dz K k H a b)(ri:ah K k [y] [di])(rv:ah K k [v] [dv])(e:wG b di dv=some b')(h:∀o',dz K k (upd H a o') a b'->Q (upd H a o')):qR K (.ref a) y v H Q:=by
 unfold wG at e;split at e
 .obtain⟨j,h1,e⟩:=cA.mp e;obtain⟨n,h2,rfl⟩:=dm.mp e;cases GR h1;cases ri.a_ rfl;obtain⟨ws,h3,h4⟩:=hb;exact .inl ⟨a,ws,j,n,rfl,rfl,h3,by rw[h4.length];exact h2,h _ ⟨_,aJ,d8h h4 rv n⟩⟩
 .obtain⟨j,h1,e⟩:=cA.mp e;split at e
  .rename_i hl
   cases e;obtain⟨es,ep,h2,h3,h4,h5⟩:=hb;obtain⟨k1,k2⟩:=By h1;have ry:ah K k [y] [j.d]:=by rw[k1];exact ri
   obtain⟨p1,p2,p3⟩:=J_ ry rv h3 h4 h5;have nj:es.length<sizeLine:=by
    have:=h5.length;rw[bw,bw] at this;rw[this];exact fU hl (by decide)
   exact .inr ⟨a,_,rfl,⟨es,ep,j,h2,Qr h3 h4 le,ud (k:=k.all H) j (ry.all le),k2,nj,rfl⟩,h _ ⟨_,_,aJ,p1,p2,p3⟩⟩
  .cases e
def cw(q:Nat)(fv fo fi:GE):GS:=λU S=>lr U (og fv (og fo (og fi gN)) U S) λvs S1=>match vs with
 |[v,o,i]=>(rF [v,i] S1).bind λp=>(rG p.2 o).bind λb=>if b.mb q=true then(match p.1 with
  |[dv,di]=>(wG b di dv).map λb'=>.nx U (setB p.2 b' o)
  |_=>none) else none
 |_=>none
def e4j{D:Ends}(t:tS K W q (cw q fv fo fi) D Z H):tE K W q fv Z H λv H1=>tE K W q fo Z H1 λo H2=>tE K W q fi Z H2 λi H3=>qR K o i v H3 λH4=>D.nx Z H4:=by
 have t1:gp K W q (og fv (og fo (og fi gN))) Z H λxs H3=>∃v o i,xs=[v,o,i]/\qR K o i v H3 λH4=>D.nx Z H4:=by
  obtain⟨k,U,S,fr,ok,gk,e,w⟩:=t;refine tS.bd ok gk e w λvs S1 xs k1 H1 bH g1 r1 e1 w1=>?_
  split at e1
  .rename_i v o i
   cases r1 with
   |@cons xv _ _ _ rv t=>
    cases t with
    |@cons xo _ _ _ ro t=>
     cases t with
     |@cons xi _ _ _ ri t=>
      cases t;refine⟨xv,xo,xi,rfl,?_⟩;obtain⟨⟨ds,S2⟩,e2,e3⟩:=cA.mp e1;obtain⟨k2,u2,cJ,r2⟩:=GL bH (.cons rv (.cons ri .nil)) e2;obtain⟨b,e4,e5⟩:=cA.mp e3;obtain⟨a,rfl,h4,h5⟩:=C2 cJ (ro.up (u2 q)) e4;split at e5
      .rename_i hb
       obtain _|⟨dv,_|⟨di,_|⟨_,_⟩⟩⟩:=ds
       .cases e5
       .cases e5
       .obtain⟨b',e6,rfl⟩:=dm.mp e5;obtain⟨s1,s2⟩:=r2.inv;refine RL cJ.le h4 s2 s1 e6 λo' h6=>?_
        obtain⟨ny,u5⟩:=h5 q b' _ CM hb h6;exact bW.now (bW.up (bW.up w1 (u2 q)) u5) ny ((g1.up (u2 q)).up u5)
       .cases e5
      .cases e5
  .cases e1
 refine pZ (vG t1) λv H1 h=>pZ (vG h) λo H2 h=>pZ (vG h) λi H3 h=>?_
 obtain⟨v',o',i',e,h⟩:=BG h;cases e;exact h
def e4k(he:PE X e (tE K W q fv))(ho:PE X o (tE K W q fo))(hi:PE X i (tE K W q fi))(hu:X.A.units+41<cLine)(hK:X.K=K)
  (ha:∀v,assign (.Subscript o i pos') X.env v=(do
   let ov <-holding [v] (eval o X.env)
   let iv <-holding [v,ov] (eval i X.env)
   standAt pos'
   holding [v,ov,iv] (setItem ov iv v)
   release [v,ov,iv] []))
  (hs:swapsWithSole [.Subscript o i pos'] e pos.line X.env=pure false) (hw:swappedStores [.Subscript o i pos'] e X.env=pure none)
  (h1:(assignEach [.Subscript o i pos'] X.env).map (·.2)=[assign (.Subscript o i pos') X.env]):PS X (.Assign [.Subscript o i pos'] e pos) (tS K W q (cw q fv fo fi)):=by
 subst hK;exact(e2a he (e1z ho hi (Sg hu) ha) hs hw h1).mono λD Z H t=>e4j t
end
end L2
namespace L2
open PySem PySem.Spec PySem.W PyProof.Rows
section
variable{X:Cx}{K:Frag}{W:XW}{q:Nat}{pos:Pos}{aa:List (ag×Obj)}{Z:St}
def uq:PE X (.Dict [] [] pos) e4d:=λaa s Z H Q I h=>
 wpAny_Dict_empty ⟨.ref s.heap.objs.size,_,I.laid (a:=s.heap.objs.size) (o:=.dG [] 0) (t':=s.toks) (λ_ _ q=>c8 _ q) (bP _) (JM s.heap I.big),rfl,h _ (I.bA.fresh (bP _))⟩
noncomputable def r_:GE:=λ_ S=>some (.ok (.o (.aB [])) S)
def tJ:PE X (.Dict [] [] pos) (tE K W q r_):=uq.mono λZ H Q t p hp=>by
 obtain⟨k,U,S,res,ok,gk,e,w⟩:=t;cases e;exact lI.aB (.fin ok w) ok.le rfl .nil .nil hp
def qm(K:Frag)(F:Hp)(e:TK×V×V):Prop:=bf K F [e.2.1] [e.1.d]/\e.1.ok 8=true
def RM(K:Frag)(wM:List (TE×TE)):TE:=λZ H Q=>∀p,H p=none->G3 wM Z (upd H p (.dG [] 0)) λps H2=>(∃e0,H2 p=some (.dG [] e0))/\∃(F:Hp) (qs:List (TK×V×V)),F p=none/\aw F H2/\ps=qs.map (·.2)/\(∀e∈qs,qm K F e)/\qs.length<=15/\∀ep,Q (.ref p) (upd H2 p (.dG (eI [] qs) ep))
def XE{F:Hp}{qs:List (TK×V×V)}(h:∀e∈qs,qm K F e):∀{es:List (TK×V×V)},bf K F (es.map (·.2.1)) (es.map (·.1.d))->bf K F ((eI es qs).map (·.2.1)) ((eI es qs).map (·.1.d)):=λ{es} r=>Oh K (λp m=>(h p m).1) r
theorem OQ{A:cQ}{E:ai->au->Prop}{F H2:Hp}{p:ag}(hF:F p=none)(le:aw F H2)(hu:A.units+8<cLine){Q:Unit->au->Prop}:∀{qs:List (TK×V×V)} {ws:List (ai×ai)} {es:List (TK×V×V)} {ep:Nat} {s:au},VV (qs.map (·.2)) ws->(∀e∈qs,qm X.K F e)->bf X.K F (es.map (·.2.1)) (es.map (·.1.d))->es.length+qs.length<=1000->Inv X aa Z (upd H2 p (.dG es ep)) s->(∀ep s,Inv X aa Z (upd H2 p (.dG (eI es qs) ep)) s->Q () s)->
  wpAny (model X.prog X.w) A (forIn ws () λ(x:ai×ai) _=>do dictSet p x.1 x.2;pure (ForInStep.yield ())) Q E s
 |[],_,es,ep,s,v,_,_,_,I,h=>by
  rw[yM] at v;cases v;rw[List.forIn_nil];exact aU (h ep s I)
 |e::qs,_,es,ep,s,v,hk,r,hl,I,h=>by
  rw[cq] at v;cases v with
  |cons rv v=>
   rw[List.forIn_cons];have sm:aw F (upd H2 p (.dG es ep)):=λb o z=>by rw[c_ (λy=>by rw[y,hF] at z;cases z)];exact le b o z
   have Lo:=hk e (.head _);rw[lS] at hl;refine ay (ay (Jz (by lia) I ⟨es,ep,e.1,aJ,r.Ii sm,Lo.1.Ii sm,Lo.2,by rw[sizeLine_eq];lia,rfl⟩ rv.1 rv.2 λs' I'=>aU ?_))
   rw[Zr] at I';have HJ:=FZ e.1 e.2.1 e.2.2 es;have e3:(eI es [e]).length=(dh es e.1 e.2.1 e.2.2).length:=rfl;exact OQ (es:=eI es [e]) hF le hu v (λe m=>hk e (.tail _ m)) (XE (qs:=[e]) (λx m=>by cases lB.mp m;exact Lo) r) (by lia) I' h
def XF{keys:List (ak Expr)}{values:List Expr}{wM:List (TE×TE)}(h:A_ X pos keys values wM)(hu:X.A.units+41<cLine)(jX:keys.all (·.isSome)=true)(hl:keys.length=values.length)(h0:keys≠[])(z5:keys.length<=15):PE X (.Dict keys values pos) (RM X.K wM):=by
 intro aa s Z H Q I q;have hn:=I.bA.fresh (bP s.heap.objs.size);have I1:=I.laid (a:=s.heap.objs.size) (o:=.dG [] 0) (h':=s.heap.push { cls:=.type "dict",data:=.dict #[]}) (t':=s.toks) (λ_ _ q=>c8 _ q) (bP _) (JM s.heap I.big)
 have lp:∀(ks:List (ak Expr)) (vs:List Expr),ks.all (·.isSome)=true->ks.length=vs.length->(pairTrees ks vs X.env pos).length=ks.length:=by
  intro ks
  induction ks with
  |nil=>intro vs _ e;cases vs with
   |nil=>rfl
   |cons _ _=>cases e
  |cons k ks ih=>
   intro vs a e;rw[qj,fX] at a;cases k with
   |none=>cases a.1
   |some k=>cases vs with
    |nil=>cases e
    |cons v vs=>exact congrArg (·+1) (ih vs a.2 (Nat.succ.inj e))
 have LY:=lp keys values jX hl;rw[arm_eval_Dict,zip_pairTrees keys values X.env pos jX hl,dictDisplay_pairs _ (λz=>h0 (List.eq_nil_of_length_eq_zero (by rw[<-LY,z];rfl))) (by rw[LY];lia)]
 refine ay (wpAny_standAt (ay ?_));unfold subDict;refine ay (wpAny_alloc (ay (lD ?_)));rw[bI (by rw[LY];exact z5)]
 refine ay (bK (h aa _ Z _ _ I1 (q _ hn)) λws s2 hh=>?_)
 obtain⟨ps,H2,I2,rel,⟨e0,e⟩,F,qs,hF,le,ep,hk,hq,q2⟩:=hh;subst ep;refine lD (ay ?_);have eu:upd H2 s.heap.objs.size (.dG [] e0)=H2:=by
  grind [aJ,c_]
 refine OQ hF le (by show X.A.units+8<cLine;lia) rel hk .nil (by rw[B9];lia) (eu ▸ I2) λep s' I'=>?_
 exact aU (aU (aU ⟨.ref _,_,I',rfl,q2 ep⟩))
noncomputable def Kj:List D->ak (List (TK×D))
 |[]=>some []
 |a::b::ds=>(kY a).bind λj=>(Kj ds).map λps=>(j,b)::ps
 |_=>none
def qC(g:GA):GE:=λU S=>bd (g U ⟨S.s++[.o (.aB [])],S.r⟩) λvs S1=>(rF vs S1).bind λz=>if z.2.s.length=S.s.length+1 then(match z.2.s[S.s.length]? with
 |some (.o (.aB []))=>(Kj z.1).bind λps=>if ps.length<=15 then some (.ok (.o (.aB (ps.foldl (λkvs p=>bT kvs p.1 p.2) []))) ⟨z.2.s.take S.s.length,z.2.r⟩) else none
 |_=>none) else none
def BA:List (GE×GE)->GA
 |[]=>gN
 |p::r=>og p.1 (og p.2 (BA r))
noncomputable def tP:List (V×V)->List V
 |[]=>[]
 |p::r=>p.1::p.2::tP r
noncomputable abbrev Ig(K:Frag)(W:XW)(q:Nat)(gs:List (GE×GE)):List (TE×TE):=gs.map λp=>(tE K W q p.1,tE K W q p.2)
def XG{gs:List (GE×GE)}:∀{H:Hp} {Q:List (V×V)->Hp->Prop},gp K W q (BA gs) Z H (λxs H2=>∀ps,tP ps=xs->Q ps H2)->G3 (Ig K W q gs) Z H Q:=by
 induction gs with
 |nil=>intro H Q t;exact BG t [] rfl
 |cons p gs ih=>intro H Q t;exact pZ (vG t) λx H1 t=>pZ (vG t) λy H2 t=>ih (pZ t λxs H3 h ps e=>h _ (by rw[<-e];rfl))
theorem QD{k:Kn}:∀{ps:List (V×V)} {ds:List D} {es:List (TK×D)},Kj ds=some es->ah K k (tP ps) ds->∃qs:List (TK×V×V),ps=qs.map (·.2)/\(∀e∈qs,qm K k.F e)/\Paired (sU K k) qs es
 |[],ds,es,e,r=>by
  cases ds with
  |nil=>cases e;exact⟨[],rfl,(λ_ m=>nomatch m),.nil⟩
  |cons _ _=>have:=r.length;cases this
 |p::ps,ds,es,e,r=>by
  cases ds with
  |nil=>have:=r.length;cases this
  |cons a ds=>cases ds with
   |nil=>have:=r.length;cases this
   |cons b ds=>
    obtain⟨j,q1,e⟩:=cA.mp e;obtain⟨ps',q2,rfl⟩:=dm.mp e;obtain⟨r1,r⟩:=ah.inv r;obtain⟨r2,r⟩:=ah.inv r;obtain⟨qs,h1,h2,h3⟩:=QD q2 r;have rk:ah K k [p.1] [j.d]:=by rw[(By q1).1];exact r1
    refine⟨(j,p.1,p.2)::qs,by rw[h1];rfl,λe m=>?_,.cons ⟨rfl,rk,r2⟩ h3⟩
    rcases y0a.mp m with rfl|m
    .exact⟨ud (k:=k) j rk,(By q1).2⟩
    .exact h2 e m
def Wf{α:Type}{l:List α}{n:Nat}{p:α}(h:l.length=n+1)(e:l[n]?=some p):l=l.take n++[p]:=by
 conv=>lhs;rw[<-List.take_append_drop n l]
 congr 1
 obtain⟨hn,e⟩:=fA.mp e;rw[Ng hn,e,Ik (by lia)]
def d8i{gs:List (GE×GE)}{H:Hp}{Q:VK}(t:tE K W q (qC (BA gs)) Z H Q):RM K (Ig K W q gs) Z H Q:=by
 intro p hp;obtain⟨k,U,S,res,ok,gk,e,w⟩:=t;have sm:aw H (upd H p (.dG [] 0)):=s_ hp;obtain⟨fx,nx⟩:=ok.fresh hp;have cJ:bX K k _ S:=ok.new (aw.refl _) (λa _ o z=>sm a o z) (ok.le.trans sm) λ_ _ z=>z
 obtain⟨jY,u3⟩:=cJ.pushS (b:=.aB []) fx nx ⟨[],0,aJ,rfl,.nil,.nil⟩;have u4:Up q k H ⟨k.F,k.A,k.T++[p]⟩ (upd H p (.dG [] 0)):=(Up.of (aw.refl _) sm).trans (u3 q);refine XG ?_;refine tX.bd (R':=RE K) (Q':=Q) jY (gk.up u4) e (w.up u4) λvs S1 xs k1 H1 bH g1 r1 e1 w1 u1 ps0 e0=>?_
 subst e0;obtain⟨z,e2,e1⟩:=cA.mp e1;obtain⟨k2,u2,ny,r5⟩:=GL bH r1 e2;split at e1
 .rename_i hl
  split at e1
  .rename_i hc
   obtain⟨ps,e3,e1⟩:=cA.mp e1;split at e1
   .rename_i z5
    cases e1;have ep:k2.T[S.s.length]?=some p:=G4 (u2 q).t (G4 u1.t (by rw[<-ok.s.ln];exact GI))
    obtain⟨hF,es,e0,hH,hk,_,_⟩:=ny.s.at' _ _ _ ep hc;cases es with
    |cons _ _=>cases hk
    |nil=>
     obtain⟨qs,h1,h2,h3⟩:=QD e3 r5;have hlT:k2.T.length=S.s.length+1:=ny.s.ln.trans hl;have eT:=Wf hlT ep;have np:p∉k2.A++k2.T.take S.s.length:=by
      have nd:=ny.nd;rw[eT,<-nK] at nd;exact λm=>(nR.mp nd).2.2 p m p (List.mem_singleton_self _) rfl
     refine⟨⟨e0,hH⟩,k2.F,qs,hF,ny.le,h1,h2,by rw[Paired.length h3];exact z5,λp_=>?_⟩
     obtain⟨o1,o2,o3⟩:=QC h3 (ws:=[]) (kvs:=[]) rfl .nil .nil;have ho:lW H1 (upd H1 p (.dG (eI [] qs) p_)) p:=CM;have L7:=ny.take S.s.length;have ok7:bX K ⟨k2.F,k2.A,k2.T.take S.s.length⟩ (upd H1 p (.dG (eI [] qs) p_)) ⟨z.2.s.take S.s.length,z.2.r⟩:=L7.new (aw.refl _) (λa m o y=>by rw[ho a λy=>np (y ▸ m)];exact y) (λb o y=>by rw[ho b λy'=>by rw[y',hF] at y;cases y];exact ny.le b o y) λ_ _ y=>y
     have uu:=u4.trans (u1.trans (u2 q));refine w (.ref p) ⟨k2.F,k2.A,k2.T.take S.s.length⟩ _ ⟨uu.f,uu.a,Pb uu.t (Fq ok.s.ln),λa o y1 y2=>?_⟩ ok7 ⟨p,rfl,hF,np,_,p_,aJ,o1,ah.mono (k:=k2) ⟨aw.refl k2.F,lT k2.A⟩ o2,ah.mono (k:=k2) ⟨aw.refl k2.F,lT k2.A⟩ o3⟩
     rw[ho a λy=>by rw[y,hp] at y2;cases y2]
     exact uu.h a o y1 y2
   .cases e1
  .cases e1
 .cases e1
def d8j{keys:List (ak Expr)}{values:List Expr}{gs:List (GE×GE)}(hK:X.K=K)(h:A_ X pos keys values (Ig K W q gs))(hu:X.A.units+41<cLine)(jX:keys.all (·.isSome)=true)(hl:keys.length=values.length)(h0:keys≠[])(z5:keys.length<=15):PE X (.Dict keys values pos) (tE K W q (qC (BA gs))):=(XF h hu jX hl h0 z5).mono λZ H Q t=>by
 rw[hK];exact d8i t
end
end L2
namespace L2
open PySem PySem.Spec PyProof.Rows
variable{aY:Str}{Z:St}{H:Hp}{Q:Str->Hp->Prop}
noncomputable def ng:D->ak Rv
 |.str x=>if x.length<=1000000 then some (rd (.str x)) else none
 |.int i=>if i.natAbs.log2<1920 then some (rd (.str (Str.ofString (toString i)))) else none
 |_=>none
def Mp:V->Hp->VK->Prop:=λx H Q=>(∃z:Str,x=.str z/\z.length<=sizeLine/\Q (.str z) H)\/∃i:Int,x=.int i/\i.natAbs.log2<1920/\Q (.str (Str.ofString (toString i))) H
abbrev TJ:=Str->St->Hp->(Str->Hp->Prop)->Prop
def yI:TJ:=λaY _ H Q=>Q aY H
def RN(te:TE)(tj:TJ):TJ:=λaY Z H Q=>te Z H λx H1=>∃y,x=.str y/\(aY++y).length<=sizeLine/\tj (aY++y) Z H1 Q
def PJ(X:Cx)(es:List Expr)(tj:TJ):Prop:=∀(aY:Str) (aa:List (ag×Obj)) (s:au) (Z:St) (H:Hp) (Q:Str->Hp->Prop) (R:Str->au->Prop),Inv X aa Z H s->tj aY Z H Q->aY.length<=sizeLine->
 (∀out s' H',out.length<=sizeLine->Inv X aa Z H' s'->Q out H'->R out s')->Joins (model X.prog X.w) X.A X.xe (evalEach es X.env) aY R s
abbrev GJ:=Str->Gx Str
noncomputable def kR:GJ:=λaY _ S=>some (.ok aY S)
noncomputable def Rv.str:Rv->ak Str
 |.v (.d (.str i))=>some i
 |_=>none
noncomputable def nO(f:GE)(j:GJ):GJ:=λaY U S=>bd (f U S) λr S1=>r.str.bind λy=>if(aY++y).length<=1000000 then j (aY++y) U S1 else none
noncomputable def zu(j:GJ):GE:=λU S=>bd (j Str.empty U S) λz S1=>some (.ok (rd (.str z)) S1)
abbrev RS:Rp Str Str:=λ_ _ b a=>b=a
section
variable{X:Cx}{K:PySem.W.Frag}{W:XW}{q:Nat}{f:GE}{e v:Expr}{es:List Expr}{j:GJ}{pos:Pos}{te:TE}{tj:TJ}
def Rv.AO{r:Rv}{i:Str}(h:r.str=some i):r=rd (.str i):=by
 unfold Rv.str at h;split at h
 .cases h;rfl
 .cases h
def e4l:bY K (Mn Mp) (o1 ng):=wo λk H x a y Q le t e res=>by
 unfold ng at e;split at e
 .split at e
  .cases e;cases t.flat rfl;exact⟨_,rfl,.inl ⟨_,rfl,ml (by assumption),res.flat le rfl⟩⟩
  .cases e
 .split at e
  .cases e;cases t.flat rfl;exact⟨_,rfl,.inr ⟨_,rfl,by assumption,res.flat le rfl⟩⟩
  .cases e
 .cases e
def Dx(h:PE X v (tE K W q f)):PE X (.FormattedValue v (-1) none pos) (tE K W q (gO (o1 ng) (bj f))):=by
 intro aa s Z H Q I t;refine wpAny_FormattedValue_plain (bK (h aa s Z H _ I (KS (vO e4l t))) λu s1 ⟨x,H1,I1,r1,q1⟩=>?_)
 rcases q1 with⟨z,rfl,hz,q⟩|⟨i,rfl,hi,q⟩
 .obtain⟨t',rfl⟩:=r1;exact PyProof.Rows.formatField_str (λt2 tk=>⟨.str z,H1,I1.tok _,⟨_,rfl⟩,q⟩) hz
 .obtain⟨t',rfl⟩:=r1;exact wpAny_formatField_int hi ⟨.str _,H1,I1.tok _,⟨_,rfl⟩,q⟩
def e4m:PJ X [] yI:=λaY aa s Z H Q R I t hl hR=>Joins_nil (hR _ _ _ hl I t)
def d8k(he:PE X e te)(hj:PJ X es tj):PJ X (e::es) (RN te tj):=λaY aa s Z H Q R I t hl hR=>
 Joins_cons (bK (he aa s Z H _ I t) λu s1 ⟨x,H1,I1,r1,y,hy,HI,q1⟩=>by
  subst hy;obtain⟨t,rfl⟩:=r1;exact⟨y,t,rfl,HI,hj (aY++y) aa s1 Z H1 Q R I1 q1 HI hR⟩)
def d8l(t:tX RS K W q (kR aY) Z H Q):yI aY Z H Q:=Ds t λ_ _=>rfl
def XH(hj:∀aY Z H Q,tX RS K W q (j aY) Z H Q->tj aY Z H Q)(t:tX RS K W q (nO f j aY) Z H Q):RN (tE K W q f) tj aY Z H Q:=by
 obtain⟨k,U,S,res,ok,gk,e,w⟩:=t;refine tX.bd ok gk e w λr S1 x k1 H1 bH g1 r1 e1 w1 _=>?_
 obtain⟨y,e2,e3⟩:=cA.mp e1;cases Rv.AO e2;split at e3
 .exact⟨y,(show ah K k1 [x] [.str y] from r1).a_ rfl,ml (by assumption),hj _ _ _ _ ⟨k1,U,S1,res,bH,g1,e3,w1⟩⟩
 .cases e3
def Wg{v1 v2:Expr}{rest:List Expr}(h:PJ X (v1::v2::rest) tj)(hj:∀aY Z H Q,tX RS K W q (j aY) Z H Q->tj aY Z H Q):PE X (.JoinedStr (v1::v2::rest) pos) (tE K W q (zu j)):=by
 intro aa s Z H Q I t;refine wpAny_JoinedStr (h Str.empty aa s Z H (λout H'=>Q (.str out) H') _ I (hj _ _ _ _ ?_) (mL _) λout s' H' h1 I' hQ=>⟨h1,.str out,H',I'.tok _,⟨_,rfl⟩,hQ⟩)
 obtain⟨k,U,S,res,ok,gk,e,w⟩:=t;refine tX.bd ok gk e w λz S1 z' k1 H1 bH g1 r1 e1 w1 _=>?_
 cases e1;cases r1;exact w1.now bH (show ah K k1 [_] [_] from .flat rfl .nil)
end
variable{S:aN}{n:Nat}{op:Operator}{h:Int->Int->Int}
def kj(K:PySem.W.Frag)(atr:List (ag×Str)):Prop:=∀p∈atr,pO K p.1/\fI K p.1 p.2
noncomputable def t9(S:aN)(n:Nat):ak (ag×List (Str×D)):=(S.r[n]?).bind λc=>match c with
 |.ins C fs=>some (C,fs)
 |_=>none
def GX{p:ag×List (Str×D)}(h:t9 S n=some p):S.r[n]?=some (.ins p.1 p.2):=by
 obtain⟨c,h1,h2⟩:=cA.mp h;cases c <;> cases h2;exact h1
def br(atr:List (ag×Str))(g:Str)(f:GE):GE:=λU S=>bd (f U S) λr S1=>r.ref.bind λn=>(t9 S1 n).bind λp=>if atr.contains (p.1,g)=true then(p.2.lookup g).map λd=>.ok (rd d) S1 else none
noncomputable def fR(f:Str)(v:D):List (Str×D)->List (Str×D)
 |[]=>[(f,v)]
 |(g,x)::r=>if g=f then(g,v)::r else(g,x)::fR f v r
section
variable{X:Cx}{K:PySem.W.Frag}{W:XW}{q:Nat}{atr:List (ag×Str)}{g:Str}{f fv fo fe fi:GE}{e o value i:Expr}{pos pos' fq:Pos}{Z:St}{H:Hp}
theorem JO{k:Kn}{g:Str}{d:D}:∀{gs:List (Str×V)} {fs:List (Str×D)},gs.map (·.1)=fs.map (·.1)->ah K k (gs.map (·.2)) (fs.map (·.2))->fs.lookup g=some d->∃v,gs.lookup g=some v/\ah K k [v] [d]
 |[],[],_,_,e=>nomatch e
 |(x,v)::gs,(y,c)::fs,h,r,e=>by
  obtain⟨h1,h2⟩:=List.cons.inj (show x::gs.map (·.1)=y::fs.map (·.1) from h)
  obtain⟨a1,a2⟩:=ah.inv r;subst h1;rw[List.lookup_cons] at e ⊢;split at e
  .cases e;exact⟨v,rfl,a1⟩
  .exact JO h2 a2 e
 |[],_::_,h,_,_=>nomatch h
 |_::_,[],h,_,_=>nomatch h
theorem Po{k:Kn}{g:Str}{v:V}{d:D}(rv:ah K k [v] [d]):∀{gs:List (Str×V)} {fs:List (Str×D)},gs.map (·.1)=fs.map (·.1)->ah K k (gs.map (·.2)) (fs.map (·.2))->(eJ g v gs).map (·.1)=(fR g d fs).map (·.1)/\ah K k ((eJ g v gs).map (·.2)) ((fR g d fs).map (·.2))
 |[],[],_,_=>⟨rfl,rv⟩
 |(x,w)::gs,(y,c)::fs,h,r=>by
  obtain⟨h1,h2⟩:=List.cons.inj (show x::gs.map (·.1)=y::fs.map (·.1) from h)
  obtain⟨a1,a2⟩:=ah.inv r;subst h1;unfold eJ fR;split
  .exact⟨congrArg (List.cons x) h2,.cons rv a2⟩
  .obtain⟨c1,c2⟩:=Po rv h2 a2;exact⟨congrArg (List.cons x) c1,.cons a1 c2⟩
 |[],_::_,h,_=>nomatch h
 |_::_,[],h,_=>nomatch h
def e4n(ha:kj K atr)(he:PE X e (tE K W q f))(hb:attributeBase e g X.env (eval e X.env)=eval e X.env)(hK:X.K=K):PE X (.Attribute e g pos) (tE K W q (br atr g f)):=by
 subst hK;refine(e2j he hb).mono λZ H Q t=>?_
 obtain⟨k,U,S,res,ok,gk,e,w⟩:=t;refine tX.bd ok gk e w λr S1 x k1 H1 bH g1 r1 e1 w1 _=>?_
 obtain⟨n,e2,e3⟩:=cA.mp e1;cases Rv.nE e2;obtain⟨p,e4,e5⟩:=cA.mp e3;split at e5
 .rename_i hc
  obtain⟨h1,h2⟩:=ha _ (j6.mp hc);obtain⟨d,e6,rfl⟩:=dm.mp e5;obtain⟨a,dx,gs,rfl,h3,h4,h5,h6,h7⟩:=Dc bH r1 (GX e4);obtain⟨v,h8,h9⟩:=JO h6 h7 e6;exact⟨a,_,dx,gs,v,rfl,h5,h1,h2,h8,w1.now bH h9⟩
 .cases e5
def bX.EL{k:Kn}{a C dx:ag}{gs:List (Str×V)}{fs:List (Str×D)}{v:V}{d:D}(ok:bX K k H S)(hA:k.A[n]?=some a)(hF:k.F a=none)(h5:H a=some (.ins C dx gs))(h6:gs.map (·.1)=fs.map (·.1))(h7:ah K k (gs.map (·.2)) (fs.map (·.2)))(rv:ah K k [v] [d])(hq:Nat.ble q 1=true):
  bX K k (upd H a (.ins C dx (eJ g v gs))) ⟨S.s,S.r.set n (.ins C (fR g d fs))⟩/\Up q k H k (upd H a (.ins C dx (eJ g v gs))):=by
 obtain⟨c1,c2⟩:=Po (g:=g) rv h6 h7;refine ok.EM hA CM hF (λo z=>?_) ⟨hF,dx,_,aJ,c1,c2⟩
 rw[h5] at z;cases z;have:=A2 hq
 match q,this with
 |0,_=>rfl
 |1,_=>rfl
def eX(q:Nat)(atr:List (ag×Str))(g:Str)(fv fo:GE):GS:=λU S=>lr U (fv U S) λr1 S1=>lr U (fo U S1) λr2 S2=>(qa S2 (nI r1)).bind λz=>r2.ref.bind λn=>(t9 z.2 n).bind λp=>if(atr.contains (p.1,g)&&Nat.ble q 1&&Nat.blt p.2.length 1000)=true then some (.nx U ⟨z.2.s,z.2.r.set n (.ins p.1 (fR g z.1 p.2))⟩) else none
def e4o(ha:kj K atr)(ho:PE X o (tE K W q fo))(hv:PE X value (tE K W q fv))(hs:swapsWith value (some (.Attribute o g pos')) pos.line X.env=pure false)(hK:X.K=K):PS X (.Assign [.Attribute o g pos'] value pos) (tS K W q (eX q atr g fv fo)):=by
 subst hK;refine(e2k ho hv hs).mono λD Z H t=>?_
 obtain⟨k,U,S,fr,ok,gk,e,w⟩:=t;refine tS.bd ok gk e w λr1 S1 y k1 H1 bH g1 q1 e1 w1=>?_
 obtain⟨k2,u2,cJ,q2⟩:=r9 bH q1;refine tS.Dp cJ (g1.up (u2 q)) e1 (w1.up (u2 q)) λr2 S2 x k3 H3 jY g3 r3 e2 w3 u3=>?_
 obtain⟨⟨d,S3⟩,e3,e4⟩:=cA.mp e2;obtain⟨k4,u4,rP,r4⟩:=GK jY (q2.up u3) e3;obtain⟨n,e5,e6⟩:=cA.mp e4;cases Rv.nE e5;obtain⟨p,e7,e8⟩:=cA.mp e6;split at e8
 .rename_i hc
  cases e8;simp only[fX] at hc;obtain⟨⟨HD,tZ⟩,Lh⟩:=hc;obtain⟨h1,h2⟩:=ha _ (j6.mp HD);obtain⟨a,dx,gs,rfl,h3,h4,h5,h6,h7⟩:=Dc rP (ah.mono (u4 q).le r3) (GX e7);have hl:gs.length<1000:=by
   have:=h7.length;rw[bw,bw] at this;rw[this];exact A2 Lh
  obtain⟨ny,u5⟩:=rP.EL (g:=g) h3 h4 h5 h6 h7 r4 tZ;exact⟨a,_,dx,gs,rfl,h5,h1,h2,hl,bW.now (bW.up w3 ((u4 q).trans u5)) ny (g3.up ((u4 q).trans u5))⟩
 .cases e8
def Kk(q:Nat)(h:Int->Int->Int)(atr:List (ag×Str))(g:Str)(fo fe:GE):GS:=λU S=>lr U (fo U S) λr S1=>r.ref.bind λn=>(t9 S1 n).bind λp=>if atr.contains (p.1,g)=true then(match p.2.lookup g with
 |some (.int a)=>lr U (fe U S1) λr2 S2=>r2.int.bind λb=>(t9 S2 n).bind λp2=>if(p2.1 == p.1&&Nat.ble q 1&&Nat.blt p2.2.length 1000)=true then some (.nx U ⟨S2.s,S2.r.set n (.ins p2.1 (fR g (.int (h a b)) p2.2))⟩) else none
 |_=>none) else none
def d8m(Ad:yY X op λx y H Q=>∃i j,x=.int i/\y=.int j/\Q (.int (h i j)) H)(ha:kj K atr)(ho:PE X o (tE K W q fo))(hv:PE X value (tE K W q fe))(hK:X.K=K):PS X (.AugAssign (.Attribute o g fq) op value pos) (tS K W q (Kk q h atr g fo fe)):=by
 subst hK;refine(VA ho hv Ad).mono λD Z H t=>?_
 obtain⟨k,U,S,fr,ok,gk,e,w⟩:=t;refine tS.bd ok gk e w λr S1 x k1 H1 bH g1 r1 e1 w1=>?_
 obtain⟨n,e2,e3⟩:=cA.mp e1;cases Rv.nE e2;obtain⟨p,e4,e5⟩:=cA.mp e3;split at e5
 case isFalse=>cases e5
 rename_i hc
 obtain⟨h1,h2⟩:=ha _ (j6.mp hc);obtain⟨a,dx,gs,rfl,h3,h4,h5,h6,h7⟩:=Dc bH r1 (GX e4);split at e5
 case h_2=>cases e5
 rename_i iv hl
 obtain⟨v,h8,h9⟩:=JO h6 h7 hl;cases h9.a_ rfl;refine⟨a,_,dx,gs,_,rfl,h5,h1,h2,h8,tS.Dp bH g1 e5 w1 λr2 S2 y k2 H2 cJ g2 q2 e6 w2 u2=>?_⟩
 obtain⟨b,e7,e8⟩:=cA.mp e6;cases Rv.jk e7;cases(show ah X.K k2 [y] [.int b] from q2).a_ rfl;obtain⟨p2,e9,KR⟩:=cA.mp e8;split at KR
 case isFalse=>cases KR
 rename_i hc
 cases KR;simp only[fX,beq_iff_eq] at hc;obtain⟨⟨HD,tZ⟩,Lh⟩:=hc;obtain⟨a',dx2,jI,z,h3',h4',Sx,h6',Sy⟩:=Dc cJ (ah.mono u2.le r1) (GX e9);cases z;have hl:jI.length<1000:=by
  have:=Sy.length;rw[bw,bw] at this;rw[this];exact A2 Lh
 obtain⟨ny,u5⟩:=cJ.EL (g:=g) (v:=.int (h iv b)) (d:=.int (h iv b)) h3' h4' Sx h6' Sy (.flat rfl .nil) tZ;exact⟨_,_,rfl,rfl,dx2,jI,HD ▸ Sx,hl,HD ▸ bW.now (bW.up w2 u5) ny (g2.up u5)⟩
def Kl(q:Nat)(h:Int->Int->Int)(fo fi fe:GE):GS:=λU S=>lr U (fo U S) λr1 S1=>lr U (fi U S1) λr2 S2=>(match nI r2,rG S2 (nI r1) with
 |.d di,some (.aB kvs)=>(kY di).bind λj=>(match aS kvs j with
  |some (.int a)=>lr U (fe U S2) λr3 S3=>r3.int.bind λb=>(rG S3 (nI r1)).bind λc=>if c.mb q=true then(match c with
   |.aB ug=>if ug.length<1000000 then some (.nx U (setB S3 (.aB (bT ug j (.int (h a b)))) (nI r1))) else none
   |_=>none) else none
  |_=>none)
 |_,_=>none)
def XI(hu:X.A.units+41<cLine):Cn X (λo i H Q=>∃a v,o=.ref a/\gZ X.K H a i (some v)/\Q v H):=by
 intro aa s Z H o i ov iv Q I ro ri h;obtain⟨p,v,rfl,g,q⟩:=h;cases ro;exact OL (by lia) I g ri λw' s3 I3 nH=>⟨v,H,I3,nH,q⟩
def d8n(Ad:Fz X op (LJ h))(ho:PE X o (tE K W q fo))(hi:PE X i (tE K W q fi))(hv:PE X value (tE K W q fe))(hu:X.A.units+41<cLine)(hK:X.K=K)
  (ha:∀ov iv new,augStore i ov iv new=(do holding [new,ov,iv] (setItem ov iv new);release [new,ov,iv] [];pure .next)):PS X (.AugAssign (.Subscript o i fq) op value pos) (tS K W q (Kl q h fo fi fe)):=by
 subst hK;refine(Zy ho hi (XI hu) hv Ad (Sg hu) ha).mono λD Z H t=>?_
 obtain⟨k,U,S,fr,ok,gk,e,w⟩:=t;refine tS.bd ok gk e w λr1 S1 x k1 H1 bH g1 q1 e1 w1=>?_
 obtain⟨k2,u2,cJ,q2⟩:=r9 bH q1;refine tS.Dp cJ (g1.up (u2 q)) e1 (w1.up (u2 q)) λr2 S2 y k3 H3 jY g3 r3 e2 w3 u3=>?_
 obtain⟨k4,u4,rP,q4⟩:=r9 jY r3;have q5:=(q2.up u3).up (u4 q);split at e2
 case h_2=>cases e2
 rename_i di kvs hd hg
 rw[hd] at q4;obtain⟨j,e3,e4⟩:=cA.mp e2;obtain⟨a,rfl,hb,_⟩:=C2 rP q5 hg;split at e4
 case h_2=>cases e4
 rename_i iv D9
 have tp:Top X.K k4 H3 (.ref a) (.aB kvs):=.inr ⟨a,.aB kvs,rfl,rfl,hb⟩;obtain⟨p,o,z,g,hh⟩:=w6 rP.le tp (.inl q4) e3;cases z;rcases hh with⟨_,z⟩|⟨v,d,rfl,z,rv⟩
 .rw[D9] at z;cases z
 rw[D9] at z;cases z;cases rv.a_ rfl;refine⟨a,_,rfl,g,tS.Dp rP (g3.up (u4 q)) e4 (w3.up (u4 q)) λr5 S5 y5 k5 H5 ny g5 q6 e5 w5 u5=>?_⟩
 obtain⟨b,e6,e7⟩:=cA.mp e5;cases Rv.jk e6;cases(show ah X.K k5 [y5] [.int b] from q6).a_ rfl;obtain⟨c,e8,e9⟩:=cA.mp e7;obtain⟨a',z,j',MX⟩:=C2 ny (q5.up u5) e8;cases z;split at e9
 case isFalse=>cases e9
 rename_i hm
 cases c with
 |lst _=>cases e9
 |aB ug=>
  dsimp only at e9;split at e9
  case isFalse=>cases e9
  rename_i hl
  cases e9;refine⟨_,_,rfl,rfl,RL (b:=.aB ug) (dv:=.int (h iv b)) (di:=di) (b':=.aB (bT ug j (.int (h iv b)))) ny.le j' ((show cT X.K k4 y (.d di) from q4).up u5) (.flat rfl .nil) ?_ λo' h6=>?_⟩
  .unfold wG;dsimp only;rw[e3,vn,bI hl]
  .obtain⟨L7,u6⟩:=MX q _ _ CM hm h6;exact bW.now (bW.up w5 u6) L7 (g5.up u6)
end
end L2
namespace L2
open PySem PySem.Spec PySem.W PyProof.Rows
variable{k k':Int->Int->Bool}{op:CmpOp}{j:GJ}{T:String}{m:Str}
def cv.le{k k':Nat}{A:PySem.Around}(h:cv k A)(e:k'<=k:=by decide):cv k' A:=h.mono e
def wx{X:Cx}:eL X W0:=λ_ _ _ _ _ _ _ _ _ _ _ z=>z.elim
def BZ:List Str->Bool
 |[]=>true
 |x::l => !l.contains x&&BZ l
theorem Hc:∀{l:List Str},BZ l=true->l.Nodup
 |[],_=>.nil
 |x::l,h=>by
  obtain⟨h1,h2⟩:=B'.mp h;rw[Bool.not_eq_true',<-Bool.not_eq_true,j6] at h1;exact sj.mpr ⟨h1,Hc h2⟩
section
variable{X:Cx}{K:Frag}{W:XW}{q:Nat}{a b c e o:Expr}{es rest:List Expr}{f g h:GE}{fs:GA}{ft fu:GT}{pos p apos bM:Pos}{x:Str}
def xv(i:Nat)(hN:X.N[i]?=some x)(hv:FE X.env.scope x)(hd:(x == ("__debug__":Str))=false)(rH:(x == ("__classdict__":Str))=false):PE X (.Name x pos) (tE K W q (tV i)):=e2v (Rc hN hv hd rH)
def xi{i:Int}{j}:PE X (.Constant (.int i) j pos) (tE K W q (gC (.int i))):=zP e1q
def xs{i:Str}{j}:PE X (.Constant (.str i) j pos) (tE K W q (gC (.str i))):=zP e1s
def xb{i:Bool}{j}:PE X (.Constant (.bool i) j pos) (tE K W q (gC (.bl i))):=zP e7v
def xn{j}:PE X (.Constant .none j pos) (tE K W q (gC .aI)):=zP e1r
def xty{n:String}(hm:X.mg x=none)(hv:bootBuiltins x=some (.type n))(hg:Gl X x)(hn:x≠"__name__")(hd:(x == ("__debug__":Str))=false):PE X (.Name x pos) (tE K W q (gC (.ty n))):=zP (e8d hg hm hv hn hd)
def pM(K:Frag)(op:Operator)(o:List D->ak Rv):Prop:=∀X:Cx,X.K=K->∃r,dB X (binaryOp op) r/\bY K (nD r) o
def M4:pM K .Add (o2 vM):=λX h=>⟨_,ο K h,e3p⟩
def M8:pM K .Sub (o2 (dU vj λi j=>.int (i - j))):=λX h=>⟨_,e2e,e3q⟩
def M6:pM K .Mult (o2 wg):=λX h=>⟨_,ρ,e3t⟩
def Fj:pM K .FloorDiv (o2 (dU (λ_ j=>decide (0<j/\j<1073741824)) λi j=>.int (i / j))):=λX h=>⟨_,ZA,π⟩
def M5:pM K .Mod (o2 (dU (λ_ j=>decide (0<j)) λi j=>.int (i%j))):=λX h=>⟨_,e2f,e3r⟩
def M7:pM K .Pow (o2 (dU (λi j=>decide (0<=j/\j<=1000000/\i.natAbs<2^64)) λi j=>.int (i^j.toNat))):=λX h=>⟨_,e2g,e3s⟩
def xo{op:Operator}{o:List D->ak Rv}(c:pM K op o)(ha:PE X a (tE K W q f))(hb:PE X b (tE K W q g))(hK:X.K=K):PE X (.BinOp a op b pos) (tE K W q (gO o (cy f g))):=by
 obtain⟨r,h1,h2⟩:=c X hK;exact e8f h1 h2 ha hb
def M_(ha:PE X a (tE K W q f)):PE X (.UnaryOp .USub a pos) (tE K W q (gO (o1 wk) (bj f))):=e8g e2h e3u ha
def kl(K:Frag)(op:CmpOp)(o:List D->ak Rv):Prop:=∀X:Cx,X.K=K->X.A.units+41<cLine->∃r,dB X (compareOp op) r/\bY K (nD r) o
def Xh:kl K .Eq (o2 (xR false)):=λX h u=>⟨_,e3y K (by lia) h,e8i⟩
def Xn:kl K .NotEq (o2 (xR true)):=λX h u=>⟨_,e3w K (by lia) h,e8j⟩
def Xm:kl K .Lt (o2 (dU vj λi j=>.bl (decide (i<j)))):=λX h u=>⟨_,yu,Kh⟩
def Xl:kl K .LtE (o2 (dU vj λi j=>.bl (decide (i<=j)))):=λX h u=>⟨_,yr,Kh⟩
def Xi:kl K .Gt (o2 (dU vj λi j=>.bl (decide (j<i)))):=λX h u=>⟨_,e8a,Kh⟩
def Xj:kl K .In (o2 (BS false)):=λX h u=>⟨_,e3z K u h,Sd false⟩
def KC:kl K .NotIn (o2 (BS true)):=λX h u=>⟨_,V3 K u h,Sd true⟩
def Xk:kl K .Is (o2 (BU false)):=λX h u=>⟨_,e4b,Se false⟩
def KA:kl K .IsNot (o2 (BU true)):=λX h u=>⟨_,χ,Se true⟩
def xc{o:List D->ak Rv}(c:kl K op o)(ha:PE X a (tE K W q f))(hb:PE X b (tE K W q g))(hu:X.A.units+41<cLine)(hK:X.K=K)(hm:behindInMarks op b=false):PE X (.Compare a [op] [b] pos) (tE K W q (gO o (cy f g))):=by
 obtain⟨r,h1,h2⟩:=c X hK hu;exact e2w h1 h2 ha hb hm
def yc{o:List D->ak Rv}(c:kl K op o)(ha:PE X a (tE K W q f))(hb:PE X b (tE K W q g))(hu:X.A.units+41<cLine)(hK:X.K=K)(hm:behindInMarks op b=false):PT X (.Compare a [op] [b] pos) (tT K W q (gB (gO o (cy f g)))):=by
 obtain⟨r,h1,h2⟩:=c X hK hu;exact Sr (ZD h1 ha hb hm) λ_ _ _ t=>Hr (vO h2 t)
noncomputable def Km(c c':Int->Int->Bool)(f g h:GE):GE:=λU S=>bd (f U S) λr1 S1=>bd (g U S1) λr2 S2=>r1.int.bind λi=>r2.int.bind λj=>if c i j=true then bd (h U S2) λr3 S3=>r3.int.map λl=>.ok (rd (.bl (c' j l))) S3 else some (.ok (rd (.bl false)) S2)
def XJ{Z:St}{H:Hp}{Q:VK}(t:tE K W q (Km k k' f g h) Z H Q):Rg (qP λi j=>.bl (k i j)) (qP λi j=>.bl (k' i j)) (tE K W q f) (tE K W q g) (tE K W q h) Z H Q:=by
 obtain⟨n,U,S,res,ok,gk,e,w⟩:=t;refine tX.bd ok gk e w λr1 S1 x k1 H1 bH g1 q1 e1 w1 _=>tX.bd bH g1 e1 w1 λr2 S2 y k2 H2 cJ g2 q2 e2 w2 _=>?_
 obtain⟨i,h1,e3⟩:=cA.mp e2;obtain⟨j,h2,e4⟩:=cA.mp e3;cases Rv.jk h1;cases Rv.jk h2;cases(show ah K k1 [x] [.int i] from q1).a_ rfl;cases(show ah K k2 [y] [.int j] from q2).a_ rfl;refine⟨i,j,rfl,rfl,k i j,rfl,?_⟩;split at e4
 .rename_i hk
  rw[hk];refine ua (tX.bd cJ g2 e4 w2 λr3 S3 z k3 H3 jY g3 q3 e5 w3 _=>?_)
  obtain⟨l,h3,rfl⟩:=dm.mp e5;cases Rv.jk h3;cases(show ah K k3 [z] [.int l] from q3).a_ rfl;exact⟨_,_,rfl,rfl,w3.now jY (show ah K k3 [_] [_] from .flat rfl .nil)⟩
 .rename_i hk
  cases e4;rw[Bool.not_eq_true] at hk;rw[hk];exact t_ (w2.now cJ (show ah K k2 [_] [_] from .flat rfl .nil))
def ych{As:CmpOp}(h1:∀X:Cx,dB X (compareOp op) (qP λi j=>.bl (k i j)))(h2:∀X:Cx,dB X (compareOp As) (qP λi j=>.bl (k' i j)))(ha:PE X a (tE K W q f))(hb:PE X b (tE K W q g))(hc:PE X c (tE K W q h))(hm:lastMarks [op,As] [b,c]=false):PT X (.Compare a [op,As] [b,c] pos) (tT K W q (gB (Km k k' f g h))):=Sr (WN (h1 X) (h2 X) ha hb hc hm) λ_ _ _ t=>XJ t
def yt(ha:PE X a (tE K W q f))(hK:X.K=K)(ht:∀whole,isTrue a X.env whole=(do let v <-whole;standAt a.pos;holding [v] (truthy v))):PT X a (tT K W q (cZ f)):=e2x hK ha ht
def ya1(h:PT X a (tT K W q ft)):PW X (.BoolOp .And [a] pos) (tT K W q ft):=Zv h
def yo1(h:PT X a (tT K W q ft)):PW X (.BoolOp .Or [a] pos) (tT K W q ft):=e1t h
def xix(ha:PE X a (tE K W q f))(hb:PE X b (tE K W q g))(hu:X.A.units+41<cLine)(hK:X.K=K)(hs:J4 b):PE X (.Subscript a b pos) (tE K W q (gO (o2 HV) (cy f g))):=e8h (LL K hu hK) e8l ha hb hs
def xsl{lo hi:ak Expr}{p2:Pos}{fl fh}(he:PE X e (tE K W q f))(hl:PO X lo (tX Ba K W q fl))(hu:PO X hi (tX Ba K W q fh))(hK:X.K=K):PE X (.Subscript e (.Slice lo hi none p2) pos) (tE K W q (zD f fl fh)):=Xs he hl hu hK
def zc{g:GE}{h:GA}(ha:PE X e (tE K W q g))(hr:PA X es (gp K W q h))(hs:starEach (e::es) X.env=(false,eval e X.env)::starEach es X.env):PA X (e::es) (gp K W q (og g h)):=ZY ha hr hs
def xd{keys:List (ak Expr)}{values:List Expr}{gs:List (GE×GE)}(h:A_ X pos keys values (Ig K W q gs))(hu:X.A.units+41<cLine)(hK:X.K=K)(jX:keys.all (·.isSome)=true)(hl:keys.length=values.length)(h0:keys≠[])(z5:keys.length<=15):PE X (.Dict keys values pos) (tE K W q (qC (BA gs))):=d8j hK h hu jX hl h0 z5
def FA(X:Cx)(K:Frag)(W:XW)(q:Nat)(es:List Expr)(j:GJ):Prop:=∃tj,PJ X es tj/\∀aY Z H Q,tX RS K W q (j aY) Z H Q->tj aY Z H Q
def jn:FA X K W q [] kR:=⟨_,e4m,λ_ _ _ _ t=>d8l t⟩
def jc(he:PE X e (tE K W q f))(hr:FA X K W q es j):FA X K W q (e::es) (nO f j):=by
 obtain⟨tj,h1,h2⟩:=hr;exact⟨_,d8k he h1,λ_ _ _ _ t=>XH h2 t⟩
def xj{v1 v2:Expr}(h:FA X K W q (v1::v2::rest) j):PE X (.JoinedStr (v1::v2::rest) pos) (tE K W q (zu j)):=by
 obtain⟨tj,h1,h2⟩:=h;exact Wg h1 h2
def uM(K:Frag)(v:ai)(o:List D->ak Rv):Prop:=∀X:Cx,X.K=K->X.calm=true->X.A.units+41<cLine->∃r,bR X v r/\bY K r o
def LO:uM K (.builtin "len") (o1 dD):=λX h c u=>⟨_,V' h,e4e⟩
def LN:uM K (.builtin "isinstance") (o2 jl):=λX h c u=>⟨_,Wa h,e4f⟩
def LM:uM K (.builtin "all") (o1 (Ha λbs=>bs.all id)):=λX h c u=>⟨_,V7 K c h,XA _⟩
def LP:uM K (.builtin "min") (o1 (lY iX)):=λX h c u=>⟨_,Xt K c h,QB _⟩
def Eh:uM K (.builtin "sorted") (o1 qS):=λX h c u=>⟨_,Vb c h,d8e⟩
def Eg:uM K (.type "list") (o1 kZ):=λX h c u=>⟨_,Va c h,d8c⟩
def Ef:uM K (.type "dict") (o1 qz):=λX h c u=>⟨_,U7 K u c h,XB⟩
def xB{id:String}{o:List D->ak Rv}(k:uM K (.builtin id) o)(hm:X.mg x=none)(hv:bootBuiltins x=some (.builtin id))(ha:PA X (e::es) (gp K W q fs))(hu:X.A.units+41<cLine)(hc:X.calm=true)(hK:X.K=K)(hg:Gl X x)(hn:x≠"__name__")(lO:(x == ("__debug__":Str))=false)
  (he:starEach (e::es) X.env=(false,eval e X.env)::starEach es X.env) (ka:(backTo pos (starEach es X.env)).any (·.1)=false):PE X (.Call (.Name x p) (e::es) [] pos) (tE K W q (gO o fs)):=by
 obtain⟨r,h1,h2⟩:=k X hK hc hu;exact(WU h1 hg hm hv ha hn lO he ka).mono λ_ _ _ t=>vO h2 t
def xT{o:List D->ak Rv}(k:uM K (.type T) o)(hm:X.mg x=none)(hv:bootBuiltins x=some (.type T))(ha:PA X (e::es) (gp K W q fs))(hu:X.A.units+41<cLine)(hc:X.calm=true)(hK:X.K=K)(hg:Gl X x)(hn:x≠"__name__")(lO:(x == ("__debug__":Str))=false)
  (he:starEach (e::es) X.env=(false,eval e X.env)::starEach es X.env) (ka:(backTo pos (starEach es X.env)).any (·.1)=false):PE X (.Call (.Name x p) (e::es) [] pos) (tE K W q (gO o fs)):=by
 obtain⟨r,h1,h2⟩:=k X hK hc hu;exact(VC h1 hg hm hv ha hn lO he ka).mono λ_ _ _ t=>vO h2 t
def II(K:Frag)(T:String)(m:Str)(o:List D->ak Rv):Prop:=∀X:Cx,X.K=K->X.A.units+41<cLine->∃id r,PlainAttrs T/\Slot T m id/\typeOf (.builtin id)=pure (.type "method_descriptor")/\IJ X id r/\bY K (qQ r) o
def An:II K "list" "index" (o2 jj):=λX h u=>⟨_,_,PySem.F.plainAttrs_list,PySem.F.slot_list_index,PySem.F.type_list_index,Xu K h,XD⟩
def El:II K "dict" "get" (o2 qE):=λX h u=>⟨_,_,PySem.F.plainAttrs_dict,PySem.F.slot_dict_get,PySem.F.type_dict_get,d7v K u h,d8f⟩
def xM{o':List D->ak Rv}(k:II K T m o')(ho:PE X o (tE K W q f))(ha:PA X (e::es) (gp K W q fs))(hu:X.A.units+41<cLine)(hK:X.K=K)
  (eD:attributeBase o m X.env (eval o X.env)=eval o X.env)
  (t5:((backTo bM (starEach (e::es) X.env)).all (λx => !x.1)&&(backToKw bM (keywordEach [] X.env)).all (λx=>x.1.isSome) && decide ((e::es).length+([]:List Keyword).length+(if([]:List Keyword).isEmpty then 0 else 1)<30))=true)
  (eE:(apos.endLine == bM.line)=true) (hs:starEach (e::es) X.env=(false,eval e X.env)::starEach es X.env) (kU:(backTo bM (starEach es X.env)).any (·.1)=false):PE X (.Call (.Attribute o m apos) (e::es) [] bM) (tE K W q (Hb T o' f fs)):=by
 subst hK;obtain⟨id,r,h1,h2,h3,h4,h5⟩:=k X rfl hu;exact(R_ h1 h2 h3 h4 ho ha eD t5 eE hs kU).mono λ_ _ _ t=>XC h5 t
def Ck(K:Frag)(T:String)(m:Str)(o:Bx->List D->ak (Bx×D)):Prop:=∀X:Cx,X.K=K->∃id r,PlainAttrs T/\Slot T m id/\typeOf (.builtin id)=pure (.type "method_descriptor")/\IJ X id r/\lV K r o
def wR:Ck K "list" "append" vH:=λX h=>⟨_,_,PySem.F.plainAttrs_list,PySem.F.slot_list_append,PySem.F.type_list_append,VE,Wb⟩
def wU:Ck K "list" "insert" C3:=λX h=>⟨_,_,PySem.F.plainAttrs_list,PySem.F.slot_list_insert,PySem.F.type_list_insert,VJ,Wc⟩
def wV:Ck K "list" "remove" GW:=λX h=>⟨_,_,PySem.F.plainAttrs_list,PySem.F.slot_list_remove,PySem.F.type_list_remove,V8,We⟩
def Ff:Ck K "dict" "pop" jK:=λX h=>⟨_,_,PySem.F.plainAttrs_dict,PySem.F.slot_dict_pop,PySem.F.type_dict_pop,ω K,d8g⟩
def xU{o':Bx->List D->ak (Bx×D)}(k:Ck K T m o')(ho:PE X o (tE K W q f))(ha:PA X (e::es) (gp K W q fs))(hK:X.K=K)
  (eD:attributeBase o m X.env (eval o X.env)=eval o X.env)
  (t5:((backTo bM (starEach (e::es) X.env)).all (λx => !x.1)&&(backToKw bM (keywordEach [] X.env)).all (λx=>x.1.isSome) && decide ((e::es).length+([]:List Keyword).length+(if([]:List Keyword).isEmpty then 0 else 1)<30))=true)
  (eE:(apos.endLine == bM.line)=true) (hs:starEach (e::es) X.env=(false,eval e X.env)::starEach es X.env) (kU:(backTo bM (starEach es X.env)).any (·.1)=false):PE X (.Call (.Attribute o m apos) (e::es) [] bM) (tE K W q (gf q T o' f fs)):=by
 subst hK;obtain⟨id,r,h1,h2,h3,h4,h5⟩:=k X rfl;exact(R_ h1 h2 h3 h4 ho ha eD t5 eE hs kU).mono λ_ _ _ t=>e4h h5 t
def xf{atr:List (ag×Str)}(ha:kj K atr)(he:PE X e (tE K W q f))(hb:attributeBase e m X.env (eval e X.env)=eval e X.env)(hK:X.K=K):PE X (.Attribute e m pos) (tE K W q (br atr m f)):=e4n ha he hb hK
end
section
variable{X:Cx}{K:Frag}{W:XW}{q k n:Nat}{e o:Expr}{es:List Expr}{f:GE}{fs:GA}{m:GM}{pos p apos:Pos}{x y:Str}{st:Stmt}{fa C:ag}{fd:bQ}{ps:List Str}
def xC(D:aW K X.mg x st fa fd ps)(F:dA X.prog X.w X.K X.mg X.base (nU X.prog X.w) k fa fd ps (uN K q n m))(ha:PA X (e::es) (gp K W q fs))(hr:cv k X.A)(hm:jr m n)(hp:eL X W)(hK:X.K=K)(hg:Gl X x)(lO:(x == ("__debug__":Str))=false)
  (he:starEach (e::es) X.env=(false,eval e X.env)::starEach es X.env) (ka:(backTo pos (starEach es X.env)).any (·.1)=false):PE X (.Call (.Name x p) (e::es) [] pos) (tE K W q (ar m fs)):=by
 subst hK;exact(ZI F hr hg D.mg D.fn.kp D.bd .nil (qN hp) ha lO he ka).mono λ_ _ _ t=>Z4 hm t
def xN(M:Mk K C fa)(hx:X.mg x=some (.ref C))(B:Binds K fd ps [])(F:dA X.prog X.w X.K X.mg X.base (nU X.prog X.w) k fa fd ps (uN K q n m))(ha:PA X (e::es) (gp K W q fs))(hr:cv (k+1) X.A)(hm:jr m n)(hp:eL X W)(hK:X.K=K)(hg:Gl X x)(lO:(x == ("__debug__":Str))=false)
  (he:starEach (e::es) X.env=(false,eval e X.env)::starEach es X.env) (ka:(backTo pos (starEach es X.env)).any (·.1)=false):PE X (.Call (.Name x p) (e::es) [] pos) (tE K W q (tU C m fs)):=by
 subst hK;exact(ZK M F hr hg hx B .nil (qN hp) ha lO he ka).mono λ_ _ _ t=>Z5 hm t
end
structure MethAt (K:Frag) (C:ag) (m qual:Str) (st:Stmt) (f:ag) (fd:bQ) (ps:List Str):Prop where
 fn:Fun K m qual st f fd
 mt:Meth K C m f
 bd:Binds K fd ps []
section
variable{X:Cx}{K:Frag}{W:XW}{q k n:Nat}{e o:Expr}{es:List Expr}{f:GE}{fs:GA}{m:GM}{pos p apos:Pos}{x y:Str}{st:Stmt}{fa C:ag}{fd:bQ}{ps:List Str}{pl:Sem Bool}
def xH(c:pO K C)(D:MethAt K C x y st fa fd ps)(F:dA X.prog X.w X.K X.mg X.base (nU X.prog X.w) k fa fd ps (uN K q n m))(ho:PE X o (tE K W q f))(ha:PA X (e::es) (gp K W q fs))(hr:cv k X.A)(hm:jr m n)(hp:eL X W)(hK:X.K=K)
  (lP:starEach (e::es) X.env=(false,eval e X.env)::starEach es X.env) (ka:(backTo pos (starEach es X.env)).any (·.1)=false)
  (ht:eval (.Call (.Attribute o x apos) (e::es) [] pos) X.env=(do
   let ov <-eval o X.env
   standAt apos.atName
   let (f,first) <-holding [ov] (getMethod ov x pl)
   callWith pos f first (backTo pos (starEach (e::es) X.env)) (backToKw pos (keywordEach [] X.env)))):PE X (.Call (.Attribute o x apos) (e::es) [] pos) (tE K W q (aM C x m f fs)):=by
 subst hK;exact(ZJ ho c D.mt F hr D.bd .nil (qN hp) ha lP ka ht).mono λ_ _ _ t=>Qi hm t
def xH0(c:pO K C)(D:MethAt K C x y st fa fd ps)(F:dA X.prog X.w X.K X.mg X.base (nU X.prog X.w) k fa fd ps (uN K q n m))(ho:PE X o (tE K W q f))(hr:cv k X.A)(hm:jr m n)(hp:eL X W)(hK:X.K=K)
  (ht:eval (.Call (.Attribute o x apos) [] [] pos) X.env=(do
   let ov <-eval o X.env
   standAt apos.atName
   let (f,first) <-holding [ov] (getMethod ov x pl)
   callWith pos f first (backTo pos (starEach [] X.env)) (backToKw pos (keywordEach [] X.env)))):PE X (.Call (.Attribute o x apos) [] [] pos) (tE K W q (aM C x m f gN)):=by
 subst hK;refine(WS ho c D.mt F hr D.bd .nil (qN hp) ht).mono λZ H Q t=>?_
 refine pZ (Qi hm t) λz H1 h=>?_
 obtain⟨a,dx,fs,h1,h2,h3,h4⟩:=h;exact⟨a,dx,fs,h1,h2,h3,BG h4⟩
end
section
variable{X:Cx}{K:Frag}{W:XW}{q:Nat}{a b c e o l tg:Expr}{es:List Expr}{f g:GE}{fz:Bool}{pos p apos bM:Pos}
def xLV(Lr:X.mg "list"=none)(ho:PE X o (tE K W q f))(hc:X.calm=true)(DV:Gl X "list")(hs:starEach [.Call (.Attribute o "values" apos) [] [] bM] X.env=[(false,eval (.Call (.Attribute o "values" apos) [] [] bM) X.env)])
  (eD:attributeBase o "values" X.env (eval o X.env)=eval o X.env) (eE:(apos.endLine == bM.line)=true):PE X (.Call (.Name "list" p) [.Call (.Attribute o "values" apos) [] [] bM] [] pos) (tE K W q (gO (o1 qU) (bj f))):=(Xp DV Lr ho hc hs eD eE).mono λZ H Q t=>KS (pZ (vO d8d t) λxs H1 h=>by
 obtain⟨d,es,ep,rfl,h⟩:=h;exact⟨_,rfl,d,es,ep,rfl,h⟩)
def pgn(i:Nat){x:Str}(hN:BZ X.N=true)(hi:X.N[i]?=some x)(hx:Loc X.env.scope x)(hf:X.fn x=true\/X.env.scope.names.lookup x=some .local):PG X (.Name x pos) (qD i):=Zx (Hc hN) hi hx hf
def pgt{es:List Expr}{k:Nat}{t:uO}{n:Nat}(h:Co X es t)(hn:(assignEach es X.env).length=n)(lP:(assignEach es X.env).findIdx? (·.1)=none)(hc:X.calm=true)(hK:X.K=K):PG X (.Tuple es k pos) (zZ K n t):=hK ▸ e1y hc h hn lP
def vz(X:Cx)(K:Frag)(W:XW)(q:Nat)(tg iter:Expr)(src:m6):Prop:=∃wi,PI X tg iter wi/\∀Z H R,tX (RI K q) K W q src Z H R->wi Z H R
def sA(he:PE X l (tE K W q g))(hK:X.K=K):vz X K W q tg l (bL fz fD g):=⟨_,e3g he,λ_ _ _ t=>by rw[hK];exact e3h t⟩
def Mv(hm:X.mg "reversed"=none)(he:PE X l (tE K W q g))(hK:X.K=K)(hg:Gl X "reversed")(hs:starEach [l] X.env=[(false,eval l X.env)]):vz X K W q tg (.Call (.Name "reversed" p) [l] [] pos) (bL fz AI g):=⟨_,e3b hg hm (GF he nA (by rw[hs,starEach])) hs,λ_ _ _ t=>by rw[hK];exact Ψ t⟩
def sEn{elts:List Expr}{x1:Nat}{fq:Pos}(hm:X.mg "enumerate"=none)(he:PE X l (tE K W q g))(hK:X.K=K)(hg:Gl X "enumerate")(hs:starEach [l] X.env=[(false,eval l X.env)]):vz X K W q (.Tuple elts x1 fq) (.Call (.Name "enumerate" p) [l] [] pos) (bL fz KU g):=⟨_,Γ hg hm (GF he nA (by rw[hs,starEach])) hs,λ_ _ _ t=>by rw[hK];exact e3i t⟩
def sI{elts:List Expr}{x1:Nat}{fq:Pos}(ho:PE X o (tE K W q g))(eD:attributeBase o "items" X.env (eval o X.env)=eval o X.env)(eE:(apos.endLine == bM.line)=true):vz X K W q (.Tuple elts x1 fq) (.Call (.Attribute o "items" apos) [] [] bM) (bL fz wb g):=⟨_,Xq ho eD eE,λ_ _ _ t=>d8a t⟩
def sR1{fs:GA}(hm:X.mg "range"=none)(ha:PA X [a] (gp K W q fs))(hg:Gl X "range")(hs:starEach [a] X.env=[(false,eval a X.env)]):vz X K W q tg (.Call (.Name "range" p) [a] [] pos) (jW nF fs):=⟨_,Vv hg hm ha hs,λ_ _ _ t=>Ω t⟩
def sRT{fs:GA}(hm:X.mg "range"=none)(ha:PA X [a,b,c] (gp K W q fs))(hg:Gl X "range")(hs:starEach [a,b,c] X.env=[(false,eval a X.env),(false,eval b X.env),(false,eval c X.env)])(v_:starEach [b,c] X.env=[(false,eval b X.env),(false,eval c X.env)]):vz X K W q tg (.Call (.Name "range" p) [a,b,c] [] pos) (jW wB fs):=⟨_,VU hg hm ha hs v_,λ_ _ _ t=>γ t⟩
def yn:sT X [] (tT K W0 q (iR true)):=λaa s Z H Q I t=>ZR aa s Z H Q I (by
 obtain⟨k,U,S,res,ok,gk,e,w⟩:=t;cases e;exact w.now ok rfl)
def y1{ft:GT}(h:PT X c (tT K W0 q ft)):sT X [c] (tT K W0 q ft):=ZS h
end
variable{x g:Str}{atr:List (ag×Str)}{mg:Str->ak ai}{tab:List (Str×ag)}{B0 C:ag}
section
variable{X:Cx}{K:Frag}{W:XW}{q:Nat}{tg iter elt:Expr}{ifs:List Expr}{scope:Scope}{t:TG}{gg:GG}{tt:Nat->GT}{te:Nat->GE}{src:m6}{pos:Pos}{M:List Str}{n:Nat}{cY:List Nat}
def Ra(h:fV scope.names X.env.scope.names X.N M n cY=true)(hk:scope.kind=.function):dO X scope M n cY:=.of _ _ h rfl rfl hk
def xL(M:List Str)(s:vz X K W q tg iter src)(ht:kq K t gg)(hg:∀C s H fp,PG (fj X scope M C s H fp) tg t)(hT:∀m C s H fp,sT (fj X scope M C s H fp) ifs (tT K W0 m (tt m)))(hE:∀m C s H fp,PE (fj X scope M C s H fp) elt (tE K W0 m (te m)))
  (ok:fV scope.names X.env.scope.names X.N M n cY=true) (hk:scope.kind=.function) (hc:X.calm=true) (hs:∀x,foldedSetIterable iter X.env x=pure x):PE X (.ListComp elt [⟨tg,iter,ifs,0⟩] scope pos) (tE K W q (cg q src gg tt te n cY)):=by
 obtain⟨wi,h1,h2⟩:=s;exact ε hc (Ra ok hk) h1 h2 ht hg hT hE hs
def wL{mu:Bool}{i:Nat}{px pk:Pos}(M:List Str)(s:vz X K W q tg iter src)(ht:kq K t gg)(hg:∀C s H fp,PG (fj X scope M C s H fp) tg t)(hT:∀m C s H fp,sT (fj X scope M C s H fp) ifs (tT K W0 m (tt m)))(hE:∀m C s H fp,PE (fj X scope M C s H fp) elt (tE K W0 m (te m)))
  (ok:fV scope.names X.env.scope.names X.N M n cY=true) (hN:BZ X.N=true) (hk:scope.kind=.function) (z9:X.N[i]?=some x) (hx:Loc X.env.scope x) (hc:X.calm=true) (D8:swapsWith (.ListComp elt [⟨tg,iter,ifs,0⟩] scope pos) (some (.Name x px)) pk.line X.env=pure true) (hs:∀x,foldedSetIterable iter X.env x=pure x) (hf:X.fn x=true\/X.env.scope.names.lookup x=some .local) :
  PS X (.Assign [.Name x px] (.ListComp elt [⟨tg,iter,ifs,0⟩] scope pos) pk) (tS K W q (av i mu (cg q src gg tt te n cY))):=by
 obtain⟨wi,h1,h2⟩:=s;exact ζ hc (Ra ok hk) (Hc hN) z9 hx h1 h2 ht hg hT hE D8 hs hf
end
section
variable{X:Cx}{K:Frag}{W:XW}{q:Nat}{tg iter e o i value:Expr}{body:List Stmt}{t:TG}{gg:GG}{src:m6}{pos pos' fq:Pos}{f fv fo fi fe:GE}{x:Str}
def wF{fb:Nat->GS}(s:vz X K W q tg iter src)(ht:kq K t gg)(hg:PG X tg t)(hb:∀n,je X body (tS K W n (fb n)))(hp:PassesOwn (model X.prog X.w) X.A X.env X.xe)(hc:X.calm=true)(hs:∀x,foldedSetIterable iter X.env x=pure x):PS X (.For tg iter body [] pos) (tS K W q (bN q src gg fb)):=by
 obtain⟨wi,h1,h2⟩:=s;exact e3j hp hc h1 h2 hg ht hb hs
def wS{mu:Bool}{i:Nat}(he:PE X e (tE K W q f))(hN:BZ X.N=true)(hi:X.N[i]?=some x)(hx:Loc X.env.scope x)(hs:swapsWith e (some (.Name x pos')) pos.line X.env=pure false)(hf:X.fn x=true\/X.env.scope.names.lookup x=some .local):PS X (.Assign [.Name x pos'] e pos) (tS K W q (av i mu f)):=e2z (Hc hN) hi hx he hs hf
def wE(he:PE X e (tE K W q f))(hs:swapsWith e none pos.line X.env=pure false):PS X (.Expr e pos) (tS K W q (cW f)):=Z8 he hs
def wP(he:PE X e (tE K W q fv))(ho:PE X o (tE K W q fo))(hi:PE X i (tE K W q fi))(hu:X.A.units+41<cLine)(hK:X.K=K)
  (ha:∀v,assign (.Subscript o i pos') X.env v=(do
   let ov <-holding [v] (eval o X.env)
   let iv <-holding [v,ov] (eval i X.env)
   standAt pos'
   holding [v,ov,iv] (setItem ov iv v)
   release [v,ov,iv] []))
  (hs:swapsWithSole [.Subscript o i pos'] e pos.line X.env=pure false) (hw:swappedStores [.Subscript o i pos'] e X.env=pure none)
  (h1:(assignEach [.Subscript o i pos'] X.env).map (·.2)=[assign (.Subscript o i pos') X.env]):PS X (.Assign [.Subscript o i pos'] e pos) (tS K W q (cw q fv fo fi)):=e4k he ho hi hu hK ha hs hw h1
def wA(ha:kj K atr)(ho:PE X o (tE K W q fo))(hv:PE X value (tE K W q fv))(hs:swapsWith value (some (.Attribute o g pos')) pos.line X.env=pure false)(hK:X.K=K):PS X (.Assign [.Attribute o g pos'] value pos) (tS K W q (eX q atr g fv fo)):=e4o ha ho hv hs hK
def wAI(ha:kj K atr)(ho:PE X o (tE K W q fo))(hv:PE X value (tE K W q fe))(hK:X.K=K):PS X (.AugAssign (.Attribute o g fq) .Add value pos) (tS K W q (Kk q (λi j=>i+j) atr g fo fe)):=d8m (λaa s Z H x y v u Q I r1 r2 h=>e2l aa s Z H x y v u Q I r1 r2 (by
 obtain⟨i,j,rfl,rfl,h⟩:=h;exact⟨i,j,rfl,rfl,h⟩)) ha ho hv hK
def wAD{op:Operator}{h:Int->Int->Int}(Ad:∀X:Cx,Fz X op (LJ h))(ho:PE X o (tE K W q fo))(hi:PE X i (tE K W q fi))(hv:PE X value (tE K W q fe))(hu:X.A.units+41<cLine)(hK:X.K=K)
  (ha:∀ov iv new,augStore i ov iv new=(do holding [new,ov,iv] (setItem ov iv new);release [new,ov,iv] [];pure .next)):PS X (.AugAssign (.Subscript o i fq) op value pos) (tS K W q (Kl q h fo fi fe)):=d8n (Ad X) ho hi hv hu hK ha
structure qX (K:Frag) (mg:Str->ak ai) (tab:List (Str×ag)) (B0:ag):Prop where
 all:∀p∈tab,mg p.1=some (.ref p.2)/\fG K p.2 (.ref B0::sd) none/\keepIn K (.ref p.2)=true
 G0:fG K B0 sd none
 mg0:mg "CarryError"=some (.ref B0)
def qX.ix(E:qX K mg tab B0){i:Nat}{n:Str}(h:tab[i]?=some (n,C)):mg n=some (.ref C)/\fG K C (.ref B0::sd) none/\keepIn K (.ref C)=true:=E.all (n,C) (uH h)
def wX{p cp:Pos}(j:Nat)(E:qX K X.mg tab B0)(he:PE X e (tE K W q fe))(hp:eL X W)(hj:tab[j]?=some (x,C))(hc:X.calm=true)(hg:Gl X x)(lO:(x == ("__debug__":Str))=false)
  (lP:starEach [e] X.env=(false,eval e X.env)::starEach [] X.env) (hK:X.K=K):PS X (.Raise (some (.Call (.Name x p) [e] [] cp)) none pos) (tS K W q (pC C fe)):=by
 obtain⟨h1,h2,h4⟩:=E.ix hj;exact Xe h2 E.G0 h4 h1 hp he hc hg lO lP hK
noncomputable def wT(tab:List (Str×ag))(C:ag):ak Bool:=if tab.any (λp=>p.2 == C)=true then some true else none
def wY{np hp:Pos}{b0:Stmt}{pz:List Stmt}{g f:GS}(E:qX K X.mg tab B0)(hb:∀(pn:List (ag×Obj)) (E:ai->au->Prop) (W:XW),eL (X.dI pn E) W->je (X.dI pn E) body (tS K W q f))(hS:∀e,je (X.dH e) (b0::pz) (tS K W0 q g))
  (hg:Gl X "CarryError") (hK:X.K=K) (lP:X.stack=X.env::X.outer) (hf:X.env.frame=some X.env.locals) :
  PS X (.Try body [.ExceptHandler (some (.Name "CarryError" np)) none (b0::pz) hp] [] [] pos) (tS K W q (tW f [(wT tab,g)])):=by
 refine e3m hb (η E.mg0 (λC b h=>?_) hS e3l hg (by decide) hK) lP hf
 unfold wT at h;split at h
 .rename_i hC
  cases h;obtain⟨p,m,e⟩:=List.any_eq_true.mp hC;cases(beq_iff_eq.mp e);refine((E.all p m).2.1.exm E.G0 rfl).trans (congrArg some ?_);simp
 lia
end
def d8o{P:de}{w:cB}{K:Frag}{base:bU}{k:Nat}{f:ag}{fd:bQ}{m:GM}(F:dA P w K mg base (nU P w) k f fd [x] (uN K 0 1 m)){n:Nat}(h:∀ns:List Int,ns.length<=n->∃S,m [.d (.lst (ns.map D.int))] ⟨[],[]⟩=some (.ok (.v (.d (.bl true))) S)):
  dA P w K mg base (nU P w) k f fd [x] (λvs H Q _=>∃(a:ag) (ns:List Int),vs=[.ref a]/\cM K H a (ns.map V.int)/\ns.length<=n/\∀H',Q (.bl true) H'):=⟨λvs H Q E h=>by obtain⟨a,ns,rfl,_⟩:=h;rfl,λA outer s H args us vs Q E hr e0 hb r hq=>by
 obtain⟨a,ns,rfl,hs,hl,q⟩:=hq;obtain⟨S,e⟩:=h ns hl;refine F.run A outer s H args us [.ref a] Q E hr e0 hb r ⟨rfl,⟨H,[],[]⟩,[.d (.lst (ns.map D.int))],⟨[],[]⟩,_,⟨aw.refl _,.nil,⟨rfl,λ_ _ _ z=>nomatch z⟩,⟨rfl,λ_ _ _ z=>nomatch z⟩⟩,.cons (show ah K ⟨H,[],[]⟩ [.ref a] [.lst (ns.map D.int)] from .lst hs ?_ .nil) .nil,e,λv k' H' u ok r'=>?_⟩
 .exact W8 ns
 .cases(show ah K k' [v] [.bl true] from r').a_ rfl;exact q H'⟩
def K3{N P:List Str}{sc:Scope}(h1:sc.kind=.function:=by rfl)(h2:sc.isCoroutine=false:=by rfl)(h3:sc.isGenerator=false:=by rfl)(h4:N.Nodup:=by decide +kernel)(h5:N.take P.length=P:=by rfl)(h6:∀x∈P,sc.names.lookup x=some .local \/ sc.names.lookup x=some .cell:=by decide +kernel)(h7:∀y∈sc.names,y.2≠.free:=by decide +kernel):iq N P sc:=⟨h1,h2,h3,h4,h5,h6,h7⟩
def d8p{A:PySem.Around}{k:Nat}(hr:cv k A):A.units+41<PySem.cLine:=Nf (Nat.add_le_add_left (by decide:41<=64) _) hr.units
section
variable{X:Cx}{K:Frag}{W:XW}{q:Nat}{pos:Pos}{x:Str}
def xk{z:Str}(hm:∃t,X.mg x=some (.str z t))(hg:Gl X x)(hd:(x == ("__debug__":Str))=false):PE X (.Name x pos) (tE K W q (gC (.str z))):=zP (v:=.str z) (by
 intro aa s Z H Q I h;obtain⟨t,hm⟩:=hm;exact Bu I hg hm ⟨.str z,H,I,⟨t,rfl⟩,h⟩ hd)
def xki{n:Int}(hm:∃t,X.mg x=some (.int n t))(hg:Gl X x)(hd:(x == ("__debug__":Str))=false):PE X (.Name x pos) (tE K W q (gC (.int n))):=zP (v:=.int n) (by
 intro aa s Z H Q I h;obtain⟨t,hm⟩:=hm;exact Bu I hg hm ⟨.int n,H,I,⟨t,rfl⟩,h⟩ hd)
end
abbrev bq:=o2 vM
abbrev rD:=o2 (dU vj λi j=>.int (i - j))
abbrev g_:=o2 wg
abbrev tD:=o2 (dU (λ_ j=>decide (0<j/\j<1073741824)) λi j=>.int (i / j))
abbrev g9:=o2 (dU (λ_ j=>decide (0<j)) λi j=>.int (i%j))
abbrev Dl:=o2 (dU (λi j=>decide (0<=j/\j<=1000000/\i.natAbs<2^64)) λi j=>.int (i^j.toNat))
abbrev eZ:=o2 (xR false)
abbrev Mm:=o2 (xR true)
abbrev iLt:Int->Int->Bool:=λi j=>decide (i<j)
abbrev LI:Int->Int->Bool:=λi j=>decide (i<=j)
abbrev iGt:Int->Int->Bool:=λi j=>decide (j<i)
abbrev Ea:Int->Int->Int:=λi j=>i+j
abbrev ux:=o2 (dU vj λi j=>.bl (iLt i j))
abbrev qLe:=o2 (dU vj λi j=>.bl (LI i j))
abbrev qGt:=o2 (dU vj λi j=>.bl (iGt i j))
abbrev nC:=o2 (BS false)
abbrev jZ:=o2 (BS true)
abbrev H9:=o2 (BU false)
abbrev AA:=o2 (BU true)
abbrev Ml:List Bool->Bool:=λbs=>bs.all id
noncomputable def RO(e:DictEntry):Bool:=match e.key with|.str _ _=>true|_=>false
def errC_mk{K:Frag}{C:ag}{bm:List ai}{HQ:ak ai}{nm q:Str}{N:ag}{bs:List ai}{sn:List Str}{sub:List ai}{ab:Bool}{col:ak Bool}{dd:ak ag}{k0 k1 k2 k3 k5:ak ai}{on:ai}{B1:ak ag}{es:Array DictEntry}{ep:Nat}{B2:Array (ak ai)}
  (l:K.lookup C=some (excClassObj nm q C N bs bm true sn sub ab col dd k0 k1 k2 k3 k5 "ValueError.__new__")) (d:K.lookup N=some ⟨on,B1,.dict es ep,B2⟩) (s:es.toList.all RO=true) (i:nsFind es "__init__"=HQ):fG K C bm HQ:=by
 refine⟨_,_,_,_,_,_,_,_,_,_,_,_,_,_,_,_,_,_,_,l,d,λe he=>?_,i⟩
 have:=pK.1 s e (M'.2 he);unfold RO at this;split at this
 .exact⟨_,_,by assumption⟩
 .cases this
instance instGE (n:Nat):OfNat GE n:=⟨tV n⟩
abbrev gI(n:Int):GE:=gC (.int n)
abbrev gX(a b:GE):GE:=gO (o2 HV) (cy a b)
abbrev bC(o:List D->ak Rv)(a b:GE):GE:=gO o (cy a b)
abbrev dR(a b c:GE):GA:=og a (cy b c)
abbrev lu(a b c d:GE):GA:=og a (dR b c d)
abbrev cL(a:GS):GS:=dP a o_
abbrev jI(a b:GS):GS:=dP a (cL b)
abbrev qG(a b c:GS):GS:=dP a (jI b c)
abbrev u9(a b c d:GS):GS:=dP a (qG b c d)
abbrev qH(a b c d e:GS):GS:=dP a (u9 b c d e)
instance instGG (n:Nat):OfNat GG n:=⟨af n⟩
abbrev cO(f:GT)(g:GS):GS:=gh f (cL g) o_
abbrev gQ(o:List D->ak Rv)(a b:GE):GT:=gB (bC o a b)
noncomputable def aR(p n:Nat)(m:Nat->GS)(q:Nat):GM:=runM p n (m q)
end L2
namespace L2
open PySem Lean Meta
variable{s:List Cell}{z:List D}
def tL(e:Lean.Expr)(i:Nat)(k:Lean.Expr->ak (Lean.Expr×Bool)):SimpM Simp.Step:=do
 let a:=e.getAppArgs
 let r0 <-Simp.simp a[i]!
 let x:=(<-instantiateMVars r0.expr).cleanupAnnotations.headBeta
 let pr <-match r0.proof? with
  |none=>pure none
  |some p=>pure (some (<-mkCongrArg (.lam `z (<-inferType a[i]!) (mkAppN e.getAppFn (a.set! i (.bvar 0))) .default) p))
 match k x with
 |some (y,true)=>return .visit { expr:=y.headBeta,proof?:=pr}
 |some (y,false)=>return .done { expr:=y.headBeta,proof?:=pr}
 |none=>return .done { expr:=mkAppN e.getAppFn (a.set! i x),proof?:=pr}
def isOk(x:Lean.Expr):ak (Lean.Expr×Lean.Expr):=if x.isAppOfArity ``Option.some 2&&x.appArg!.isAppOfArity ``Rs.ok 3 then some (x.appArg!.appFn!.appArg!,x.appArg!.appArg!) else none
def DE(n:Name):Bool:=(n.getRoot == `L2 && !(#[``dQ,``findS,``e_,``hV,``kX,``jV,``jl,``aN.cut,``aS,``aQ,``bT,``ia,``jJ,``dc,``mI,``gm,``nG,``d_,``iX,``aH,``bB,``cS,``bd,``lr,``uW,``jj,``Cell.kc,``runM].contains n)) || (n.getRoot == `List&&n != ``List.toArray) || n.getRoot == `Option || n.getRoot == `Prod || n.getRoot == `GetElem? || n.getRoot == `OfNat || n.getRoot == `Nat || n.getRoot == `BEq || n == ``ite || n == ``dite || n.getRoot == `Bool || n.getRoot == `Decidable || n == ``and || n == ``or || n == ``not || n.getRoot == `id || n.getRoot == `HAppend || n.getRoot == `Append || n.getRoot == `instHAppendOfAppend
def e4p(e:Lean.Expr):MetaM Lean.Expr:=withCanUnfoldPred (λ_ c=>return DE c.name || c.name.isInternal || (<-isInstance c.name) || (<-isMatcher c.name)) (withDefault (whnf e))
def e4q(e:Lean.Expr):MetaM Bool:=do
 if e.isFVar || e.isLit then return true
 let .const n _:=e.getAppFn|return false
 if n == ``OfNat.ofNat then return true
 if n == ``Nat.succ then return false
 return (<-getEnv).isConstructor n
simproc_decl ev (_):=λe=>do
 let .const n ls:=e.getAppFn|return .continue
 let a:=e.getAppArgs
 if n == ``OfNat.ofNat&&a.size>=3&&(a[2]!.isAppOf ``instGG || a[2]!.isAppOf ``instGE) then return .visit { expr:=mkAppN (mkApp (mkConst (if a[2]!.isAppOf ``instGG then ``af else ``tV)) a[1]!) (a.extract 3 a.size)}
 if n == ``Option.bind&&a.size == 4 then
  return <-tL e 2 λx=>if x.isAppOfArity ``Option.some 2 then some (mkApp a[3]! x.appArg!,true) else if x.isAppOfArity ``Option.none 1 then some (mkApp (.const ``Option.none (ls.drop 1)) a[1]!,false) else none
 if n == ``Option.map&&a.size == 4 then
  return <-tL e 3 λx=>if x.isAppOfArity ``Option.some 2 then some (mkApp2 (.const ``Option.some (ls.drop 1)) a[1]! (mkApp a[2]! x.appArg!).headBeta,true) else if x.isAppOfArity ``Option.none 1 then some (mkApp (.const ``Option.none (ls.drop 1)) a[1]!,false) else none
 if(n == ``bd || n == ``uW || n == ``lr)&&a.size == 4 then
  return <-tL e 2 λx=>match isOk x with
   |some (v,S)=>some (mkApp2 a[3]! v S,true)
   |none=>if n != ``uW&&x.isAppOfArity ``Option.some 2&&x.appArg!.isAppOfArity ``Rs.ex 4 then
     let b:=x.appArg!.getAppArgs
     if n == ``lr then some (mkApp2 (.const ``Option.some [0]) (.const ``Fr []) (mkApp4 (.const ``Fr.ex []) b[1]! b[2]! a[1]! b[3]!),true) else some (mkApp2 (.const ``Option.some [0]) (mkApp (.const ``Rs []) a[1]!) (mkApp4 (.const ``Rs.ex []) a[1]! b[1]! b[2]! b[3]!),true)
    else none
 if n == ``ite then return <-reduceIte e
 if n == ``List.length&&a.size == 2 then
  let some (_,vs):=a[1]!.listLit?|return .continue
  return .done { expr:=mkNatLit vs.length}
 if n == ``runM&&a.size == 5 then
  let some (_,vs):=a[3]!.listLit?|return .continue
  let (some p,some k):=(a[0]!.nat?,a[1]!.nat?)|return .continue
  unless vs.length == p do return .continue
  let V:=mkConst ``Val
  let G <-mkListLit (mkApp (.const ``Option [0]) V) (vs.map (λv=>mkApp2 (.const ``Option.some [0]) V v)++List.replicate (k - p) (mkApp (.const ``Option.none [0]) V))
  let f <-mkAppM ``leave #[<-mkAppM ``List.length #[<-mkAppM ``aN.s #[a[4]!]]]
  return .visit { expr:=<-mkAppM ``Option.bind #[(mkApp2 a[2]! G a[4]!).headBeta,f]}
 if n.getRoot == `Nat || n.getRoot == `OfNat || n.getRoot == `BEq || n.getRoot == `Decidable || n == ``dite then return .continue
 unless DE n || n == ``getElem? || n == ``HAppend.hAppend do return .continue
 if <-isMatcher n then return .continue
 if(<-getEnv).isConstructor n then return .continue
 if n.getRoot == `L2&&(<-isReducible n) then
  let some e' <-withDefault (unfoldDefinition? e)|return .continue
  return .visit { expr:=e'.headBeta}
 let t <-whnfR (<-inferType e)
 if t.isAppOfArity ``Option 1&&n.getRoot == `L2 then
  let some e' <-withDefault (unfoldDefinition? e)|return .continue
  let e' <-whnfCore e'
  if(<-isMatcherApp e') then return .continue
  return .visit { expr:=e'}
 if t.isForall then return .continue
 let e' <-e4p e
 if e' != e&&(<-e4q e') then return .visit { expr:=e'}
 return .continue
def KZ:List Simp.DSimproc:=[Nat.reduceAdd,Nat.reduceSub,Nat.reduceMul,Nat.reduceDiv,Nat.reduceMod,Int.reduceAdd,Int.reduceSub,Int.reduceMul,Int.reduceDiv,Int.reduceMod,Int.reduceNeg,Int.reduceToNat,Int.reduceBEq,Nat.reduceBEq]
def K1:List Simp.Simproc:=[reduceCtorEq,Nat.reduceLT,Nat.reduceLeDiff,Nat.reduceEqDiff,Int.reduceLT,Int.reduceLE,Int.reduceEq]
simproc_decl aO (_):=λe=>do
 for p in KZ do
  match <-p e with
  |.done x=>return .done { expr:=x}
  |.visit x=>return .visit { expr:=x}
  |.continue (some x)=>return .continue (some { expr:=x})
  |_=>pure ()
 for p in K1 do
  match <-p e with
  |.continue none=>pure ()
  |r=>return r
 return .continue
section
variable{α:Type}{l L M:List α}{c:α}{j:Nat}{S:aN}{r L':List Cell}
def fW:S.cut S.s.length=S:=by unfold aN.cut;rw[Nj]
def uY:aN.cut ⟨s++L',r⟩ s.length=⟨s,r⟩:=by unfold aN.cut;rw[List.take_left]
def cf:aN.cut ⟨s,r⟩ s.length=⟨s,r⟩:=by unfold aN.cut;rw[Nj]
def eM:(l++L)[l.length]?=L[0]?:=by rw[vk (bP _),Nd]
def Gp:(l++L)[l.length+j]?=L[j]?:=by rw[vk (Il _ _),Nat.add_sub_cancel_left]
def k9:(l++L).set l.length c=l++L.set 0 c:=by rw[List.set_append_right _ _ (bP _),Nd]
def Mw:(l++L).set (l.length+j) c=l++L.set j c:=by rw[List.set_append_right _ _ (Il _ _),Nat.add_sub_cancel_left]
def Ej:(l++L).length=l.length+L.length:=dy
def zz:(l++L)++M=l++(L++M):=nK _ _ _
def Am:(l.length<l.length)=False:=eq_false (j5 _)
def lt2:(l.length+j<l.length)=False:=eq_false (by lia)
def eS{a b:Int}:aQ (.int a) (.int b)=(a == b):=rfl
def hZ{a b:Str}:aQ (.str a) (.str b)=(a == b):=rfl
def HR{z:Str}:jl (.str z) (.ty "str")=some (rd (.bl true)):=rfl
def HS:jl (.tup z) (.ty "tuple")=some (rd (.bl true)):=rfl
def LK{z:Str}:jl (.str z) (.ty "tuple")=some (rd (.bl false)):=rfl
def is4:jl (.lst z) (.ty "list")=some (rd (.bl true)):=rfl
def Rb{n:Nat}{x:Cell}:aN.cut ⟨s.set n x,r⟩ s.length=⟨s.set n x,r⟩:=by
 unfold aN.cut;dsimp only;rw[AY (by rw[sr];exact bP _)]
def cx{a:α}:dQ (a::l) 0=some a:=vF (j:=0) rfl
def cV{a b:α}:dQ (a::b::l) 1=some b:=vF (j:=1) rfl
def jg{a b c:α}:dQ (a::b::c::l) 2=some c:=vF (j:=2) rfl
def vN{a b c d:α}:dQ (a::b::c::d::l) 3=some d:=vF (j:=3) rfl
end
end L2
namespace L2
open PySem
section
variable{α:Type}{gg:GG}{tt:GT}{te:GE}{S:aN}{f:α->D}{U cs:Gm}{a:ak Val}
theorem He(h:α->ak D)(G:Gm->Prop):∀(xs:List α) (U:Gm) (aY:List D),G U->aY.length+xs.length<=1000000->(∀x∈xs,∀U,G U->∃U',gg (f x) U=some U'/\G U'/\((h x=none/\tt U' S=some (.ok false S))\/∃r d,h x=some d/\tt U' S=some (.ok true S)/\te U' S=some (.ok r S)/\nI r=.d d))->
  bB gg tt te (xs.map f) U S aY=some (.ok (aY++xs.filterMap h) S)
 |[],U,aY,_,_,_=>by rw[Cd,mO];rfl
 |x::xs,U,aY,g,hl,hx=>by
  obtain⟨U',e1,g',e2⟩:=hx x (.head _) U g;rw[lS] at hl;rw[cq];unfold bB;rw[e1,vn];rcases e2 with⟨e2,e3⟩|⟨r,d,e2,e3,e4,e5⟩
  .rw[e3,List.filterMap_cons_none e2];exact He h G xs U' aY g' (by lia) λy m=>hx y (.tail _ m)
  .have e6:gD te U' S=some (.ok d S):=by unfold gD bd;rw[e4];show(qa S (nI r)).map _=_;rw[e5];rfl
   rw[e3,List.filterMap_cons_some e2];show uW (gD te U' S) _=_;rw[e6];show(if aY.length<1000000 then _ else _)=_
   rw[bI (by lia),He h G xs U' (aY++[d]) g' (by rw[dy,vm];lia) λy m=>hx y (.tail _ m),nK]
   rfl
def DH{d:D}:af 0 d (a::cs)=some (some (.d d)::cs):=by
 rfl
def xJ(h:α->ak D)(xs:List α)(hl:xs.length<=1000000)(hx:∀x∈xs,(h x=none/\tt (some (.d (f x))::cs) S=some (.ok false S))\/∃r d,h x=some d/\tt (some (.d (f x))::cs) S=some (.ok true S)/\te (some (.d (f x))::cs) S=some (.ok r S)/\nI r=.d d):bB (af 0) tt te (xs.map f) (a::cs) S []=some (.ok (xs.filterMap h) S):=by
 rw[He h (λU=>∃a,U=a::cs) xs _ [] ⟨a,rfl⟩ (by rw[B9];lia) λx m U ⟨a,hU⟩=>⟨_,by rw[hU];exact DH,⟨_,rfl⟩,hx x m⟩,yO]
def uX(h:α->D)(xs:List α)(hl:xs.length<=1000000)(hx:∀x∈xs,∃r,te (some (.d (f x))::cs) S=some (.ok r S)/\nI r=.d (h x)):bB (af 0) (iR true) te (xs.map f) (a::cs) S []=some (.ok (xs.map h) S):=by
 rw[xJ (λx=>some (h x)) xs hl λx m=>.inr (let ⟨r,h1,h2⟩:=hx x m;⟨r,_,rfl,rfl,h1,h2⟩),List.filterMap_eq_map']
theorem RP{body:GS}(I:List α->Gm->aN->Prop):∀(xs dn:List α) (U:Gm) (S:aN),I dn U S->(∀d x r,dn++xs=d++x::r->∀U S,I d U S->∃U1 U' S',gg (f x) U=some U1/\(body U1 S=some (.nx U' S')\/body U1 S=some (.ct U' S'))/\I (d++[x]) U' S')->∃U' S',aH gg body (xs.map f) U S=some (.nx U' S')/\I (dn++xs) U' S'
 |[],dn,U,S,i,_=>⟨U,S,rfl,by rw[mO];exact i⟩
 |x::xs,dn,U,S,i,hx=>by
  obtain⟨U1,U',S',e1,e2,i'⟩:=hx dn x xs rfl U S i;obtain⟨U2,S2,e3,i2⟩:=RP I xs (dn++[x]) U' S' i' λd y r e=>hx d y r (by rw[<-e,nK];rfl)
  refine⟨U2,S2,?_,by rw[nK] at i2;exact i2⟩
  rw[cq];unfold aH;rw[e1,vn];rcases e2 with e2|e2
  .rw[e2];exact e3
  .rw[e2];exact e3
def lq{body:GS}(I:List α->Gm->aN->Prop)(xs:List α)(i:I [] U S)(hx:∀d x r,xs=d++x::r->∀U S,I d U S->∃U1 U' S',gg (f x) U=some U1/\(body U1 S=some (.nx U' S')\/body U1 S=some (.ct U' S'))/\I (d++[x]) U' S'):∃U' S',aH gg body (xs.map f) U S=some (.nx U' S')/\I xs U' S':=RP I xs [] U S i λd x r e=>hx d x r e
theorem QE{β:Type}{body:GS}(st:β->aN->Gm×aN)(I:List α->β->Prop):∀(xs dn:List α) (b:β),I dn b->(∀d x r,dn++xs=d++x::r->∀b,I d b->∃b',I (d++[x]) b'/\∀S,∃U1,gg (f x) (st b S).1=some U1/\(body U1 (st b S).2=some (.nx (st b' S).1 (st b' S).2)\/body U1 (st b S).2=some (.ct (st b' S).1 (st b' S).2)))->
  ∃b',I (dn++xs) b'/\∀S,aH gg body (xs.map f) (st b S).1 (st b S).2=some (.nx (st b' S).1 (st b' S).2)
 |[],dn,b,i,_=>⟨b,by rw[mO];exact i,λS=>rfl⟩
 |x::xs,dn,b,i,hx=>by
  obtain⟨b1,i1,h1⟩:=hx dn x xs rfl b i;obtain⟨b2,i2,h2⟩:=QE st I xs (dn++[x]) b1 i1 λd y r e=>hx d y r (by rw[<-e,nK];rfl)
  refine⟨b2,by rw[nK] at i2;exact i2,λS=>?_⟩
  obtain⟨U1,e1,e2⟩:=h1 S;rw[cq];unfold aH;rw[e1,vn];rcases e2 with e2|e2
  .rw[e2];exact h2 S
  .rw[e2];exact h2 S
def RQ{β:Type}{body:GS}(st:β->aN->Gm×aN)(I:List α->β->Prop)(xs:List α)(b:β)(i:I [] b)(hx:∀d x r,xs=d++x::r->∀b,I d b->∃b',I (d++[x]) b'/\∀S,∃U1,gg (f x) (st b S).1=some U1/\(body U1 (st b S).2=some (.nx (st b' S).1 (st b' S).2)\/body U1 (st b S).2=some (.ct (st b' S).1 (st b' S).2))):
  ∃b',I xs b'/\∀S,aH gg body (xs.map f) (st b S).1 (st b S).2=some (.nx (st b' S).1 (st b' S).2):=QE st I xs [] b i λd x r e=>hx d x r e
def e4r(enc:α->D)(xs:List α):d_ (xs.map enc)=((List.range xs.length).zip xs).map λ(p:Nat×α)=>D.tup [.int (p.1:Nat),enc p.2]:=by
 unfold d_;rw[bw];refine Ni λi=>?_
 rw[gP,gP];by_cases h:i<xs.length
 .have z:((List.range xs.length).zip xs)[i]?=some (i,xs[i]):=List.getElem?_zip_eq_some.mpr ⟨A1 h,jq h⟩;rw[A1 h,z];simp[h]
 .rw[A4 (by simp;lia),A4 (by simp;lia)]
  rfl
def e8o{body:GS}(enc:α->D)(I:List α->Gm->aN->Prop)(xs:List α)(i:I [] U S)(hx:∀d x r,xs=d++x::r->∀U S,I d U S->∃U1 U' S',gg (.tup [.int (d.length:Nat),enc x]) U=some U1/\body U1 S=some (.nx U' S')/\I (d++[x]) U' S'):∃U' S',aH gg body (d_ (xs.map enc)) U S=some (.nx U' S')/\I xs U' S':=by
 have hs:((List.range xs.length).zip xs).map Prod.snd=xs:=by rw[List.map_snd_zip];simp
 rw[e4r];obtain⟨U',S',e,p⟩:=lq (gg:=gg) (body:=body) (f:=λ(p:Nat×α)=>D.tup [.int (p.1:Nat),enc p.2]) (U:=U) (S:=S) (λpre U S=>I (pre.map Prod.snd) U S) ((List.range xs.length).zip xs) i (by
  intro q x post e U S p;have ve:xs=q.map Prod.snd++x.2::post.map Prod.snd:=by
   simp_all
  have hi:x.1=(q.map Prod.snd).length:=by
   have:((List.range xs.length).zip xs)[q.length]?=some x:=by rw[e,vk (bP _)];simp
   rw[List.getElem?_zip_eq_some] at this;have h1:=this.1;rw[fA] at h1;obtain⟨hl,h1⟩:=h1;rw[List.getElem_range] at h1;rw[bw];exact h1.symm
  obtain⟨U1,U2,S2,a,b,c⟩:=hx _ _ _ ve U S p;exact⟨U1,U2,S2,by rw[hi];exact a,.inl b,by rw[eK];exact c⟩)
 exact⟨U',S',e,by rw[hs] at p;exact p⟩
theorem QF{body:GS}{rv:Rv}{S':aN}(I:List α->Gm->aN->Prop){x:α}{r:List α}:∀(d dn:List α) (U:Gm) (S:aN),I dn U S->(∀d' y r',dn++d=d'++y::r'->∀U S,I d' U S->∃U1 U' S',gg (f y) U=some U1/\(body U1 S=some (.nx U' S')\/body U1 S=some (.ct U' S'))/\I (d'++[y]) U' S')->(∀U S,I (dn++d) U S->∃U1,gg (f x) U=some U1/\body U1 S=some (.rt rv S'))->aH gg body ((d++x::r).map f) U S=some (.rt rv S')
 |[],dn,U,S,i,_,hs=>by
  obtain⟨U1,e1,e2⟩:=hs U S (by rw[mO];exact i)
  rw[yO,cq];unfold aH;rw[e1,vn,e2];rfl
 |y::d,dn,U,S,i,hp,hs=>by
  obtain⟨U1,U',S',e1,e2,i'⟩:=hp dn y d rfl U S i;have e3:=QF I (x:=x) (r:=r) d (dn++[y]) U' S' i' (λd' z r' e=>hp d' z r' (by rw[<-e,nK];rfl)) (λU S h=>hs U S (by rw[nK] at h;exact h))
  rw[List.cons_append,cq];unfold aH;rw[e1,vn];rcases e2 with e2|e2
  .rw[e2];exact e3
  .rw[e2];exact e3
end
end L2
namespace L2
open PySem PySem.Spec PySem.W PyProof.Rows
section
variable{X:Cx}
noncomputable abbrev uA:List Int->Int:=λis=>is.sum
def XM(K:PySem.W.Frag)(hc:X.calm=true:=by rfl)(hK:X.K=K:=by rfl):bR X (.builtin "sum") (λxs H Q=>∃(a:ag) (is:List Int),xs=[.ref a]/\cM K H a (is.map V.int)/\is≠[]/\Q (.int (uA is)) H):=by
 subst hK;intro aa s Z H xs us Q I r h;obtain⟨a,is,rfl,hs,fP,q⟩:=h;obtain⟨u,rfl,ru⟩:=vals1 r;cases ru;obtain⟨aF,rv,p,hz⟩:=I.list hs;obtain⟨ps,e1,e2⟩:=Jl rv;subst e1;have el:(ps.map λp=>Value.int p.1 p.2).toArray=intItems ps.toArray:=by unfold intItems;simp
 have pl:=p.isList;rw[el] at pl;refine sum_intListG (I.ok.hd hc) pl λh' tk t' hk=>?_
 have hm:preSum (numAt ps.toArray) ps.toArray.size=uA is:=by
  grind [PySem.preSum_eq]
 rw[hm];exact⟨.int (uA is),H,I.kept (h':=h') (t':=tk) λb o e=>hk b o e,⟨t',rfl⟩,q⟩
def LQ{K:Frag}:uM K (.builtin "sum") (o1 (lY uA)):=λX h c u=>⟨_,XM K c h,QB _⟩
end
section
variable{K:Frag}{mg:Str->ak ai}{h:bU}{x y:Str}{st:Stmt}{f C:ag}{fd:bQ}{ps:List Str}
abbrev RT(x y:Str)(st:Stmt)(ps:List Str):Prop:=∀(kV doc pm:ai) (an:ak ag) (gd ct:ai) (us:List ai),us.length=ps.length->bindArgs (PySem.W.fnOf x y (C1 st) (zq st) (rX st) .none kV doc pm an gd ct) ⟨us,[]⟩=pure (ps.zip us)
def dM(X:K.In h)(G:h.Ns mainGlobals mg)(a:nsIn K mainGlobals x=some (some (.ref f)))(F:Fun K x x st f fd)(b:RT x x st ps):aW K mg x st f fd ps:=⟨F,mg_of X G a,F.binds b⟩
def mM(a:findIn K (.ref C) x=some (some (.ref f)))(n:isFn K (.ref f)=true)(F:Fun K x y st f fd)(b:RT x y st ps):MethAt K C x y st f fd ps:=⟨F,⟨a,n,F.kp⟩,F.binds b⟩
def kM{v:Tok->ai}{t:Tok}(X:K.In h)(G:h.Ns mainGlobals mg)(a:nsIn K mainGlobals x=some (some (v t))):∃t,mg x=some (v t):=⟨t,mg_of X G a⟩
end
end L2
namespace L2
open PySem Lean Meta
def dvR:List Name:=[``zU,``vU,``Dz,``zV,``wL,``wS,``wE,``wP,``wA,``wAI,``wAD,``wX,``wY,``wF,``tK,``xv,``xi,``xs,``xb,``xn,``xty,``xk,``xki,``xo,``M_,``xc,``xix,``xsl,``xd,``xj,``jn,``jc,``xB,``xT,``xM,``xU,``xf,``xC,``xN,``xH,``xH0,``xLV,``xL,``zT,``zS,``tJ,``vR,``Dx,``Dy,``zR,``Az,``zc,``zQ,``PW.pt,``DB,``zX,``zW,``yc,``ych,``yt,``ya1,``yo1,``yn,``y1,``vT,``vS,``uw,``wz,``pgn,``pgt,``ur,``wy,``wI,``AS,``uE,``wK,``sA,``Mv,``sEn,``sI,``sR1,``sRT,``M4,``M8,``M6,``Fj,``M5,``M7,``Xh,``Xn,``Xm,``Xl,``Xi,``Xj,``KC,``Xk,``KA,``LO,``LN,``LM,``LP,``LQ,``Eh,``Eg,``Ef,``An,``El,``wR,``wU,``wV,``Ff,``qw,``PyProof.Rows.Boot.min,``PyProof.Rows.Boot.sum,``yr,``yu,``Af,``EB,``cv.le,``rS,``wu,``wx,``Nn]
def dvM(tg N cY:Lean.Expr):MetaM Lean.Expr:=do
 let nm (e:Lean.Expr):=e.getArg! 0
 let ts:=if tg.isAppOf ``Expr.Name then[nm tg] else((tg.getArg! 0).listLit?.map (·.2.map nm)).getD []
 let ns:=(((<-whnf N).listLit?).map (·.2)).getD []
 let cs:=((cY.listLit?.map (·.2)).getD []).map λi=>ns.getD ((i.nat?).getD 0) (mkNatLit 0)
 mkListLit (mkConst ``Str) (ts++cs)
def o9{α:Type}(f:α->MetaM Bool):List α->MetaM Bool
 |[]=>return false
 |x::l=>do if <-f x then return true else o9 f l
def DA:Nat->MVarId->MetaM Unit
 |0,_=>failure
 |n+1,g0=>do
  let (_,g) <-g0.intros
  g.withContext do
  let t:=(<-instantiateMVars (<-g.getType)).cleanupAnnotations.headBeta
  let run (s:MetaM Syntax):MetaM Bool:=do
   let st <-saveState
   try
    let (gs,_) <-Lean.Elab.runTactic g (<-s)
    unless gs.isEmpty do failure
    return true
   catch _=>st.restore;return false
  let use (fix:Lean.Expr->MetaM Unit) (f:Lean.Expr):MetaM Bool:=do
   let s <-saveState
   try
    let y <-whnfR (<-inferType f)
    unless y.getForallBody.getAppFn.constName? == t.getAppFn.constName? do failure
    let (ms,_,ty) <-forallMetaTelescope y
    unless <-isDefEq ty t do failure
    let each (h:Lean.Expr->MetaM Unit):=o9 (λm=>do
     unless <-m.mvarId!.isAssigned do h m
     return false) ms.toList
    discard <| each fix
    discard <| each λm=>do if <-isProp (<-inferType m) then DA n m.mvarId!
    g.assign (mkAppN f ms)
    return true
   catch _=>s.restore;return false
  let wW:=use λ_=>pure ()
  let c:=t.getAppFn.constName?.getD .anonymous
  if c == ``Eq then
   let l:=t.appFn!.appArg!
   if l.isAppOf ``BZ || l.isAppOf ``fV then
    if <-run `(tactic| kernel_rfl) then return
   if <-(try g.refl;pure true catch _=>pure false) then return
  let env <-getEnv
  if c == ``dA then
   if <-o9 (o9 λ(k,i)=>do
    if k.getPrefix == `Carry&&(<-whnfR i.type).getForallBody.isAppOf ``dA then wW (<-mkConstWithFreshMVarLevels k) else return false) [env.constants.map₂.toList,env.constants.map₁.toList] then return
   failure
  if <-o9 (λd=>do
   if d.isImplementationDetail then return false
   if <-wW d.toExpr then return true
   let some s:=d.type.getAppFn.constName?|return false
   unless isStructure env s&&s.getPrefix == `Carry do return false
   o9 (λf=>do wW (<-mkProjection d.toExpr f)) (getStructureFields env s).toList) ((<-getLCtx).decls.toList.filterMap id) then return
  if <-o9 (λr=>do
   let f <-mkConstWithFreshMVarLevels r
   if r == ``wX then
    o9 (λj=>use (λm=>do if(<-inferType m).isConstOf ``Nat then m.mvarId!.assign (mkNatLit j)) f) (List.range 12)
   else if r == ``xL || r == ``wL then
    use (λm=>do
     if(<-instantiateMVars (<-inferType m)).isAppOf ``List then
      let some lc:=t.find? (·.isAppOf ``Expr.ListComp)|failure
      let some gc:=t.find? (·.isAppOf ``cg)|failure
      let some co:=((lc.getArg! 1).listLit?.bind (·.2.head?))|failure
      m.mvarId!.assign (<-dvM (co.getArg! 0) (<-mkAppM ``Cx.N #[t.getArg! 0]) gc.appArg!)) f
   else wW f) dvR then return
  unless <-run `(tactic| first|rfl|exact Or.inl rfl|exact Or.inr rfl|exact Or.inr (Or.inl rfl)|exact Or.inr (Or.inr rfl)|decide|(intro _ _;rfl)|with_unfolding_all rfl) do failure
simproc_decl dv (je _ _ _):=λe=>do
 let a:=e.getAppArgs
 let b <-withDefault (whnf a[1]!)
 let m <-mkFreshExprMVar (mkApp3 e.getAppFn a[0]! b a[2]!)
 withDefault (DA 200 m.mvarId!)
 return .done { expr:=mkConst ``True,proof?:=<-mkEqTrue (<-mkExpectedTypeHint (<-instantiateMVars m) e)}
end L2
namespace L2
open PySem PySem.Spec PyProof.Rows
abbrev cF{A:Type}(Tx:PySem.W.Frag->(Str->ak ai)->A->Prop)(k:Nat)(f:A->ag)(fd:A->bQ)(ps:List Str)(p:Nat)(M:Nat->GM):Prop:=∀{P:de} {w:cB} {K:PySem.W.Frag} {mg:Str->ak ai} {base:bU} {t:A} (T:Tx K mg t) (q:Nat),dA P w K mg base (nU P w) k (f t) (fd t) ps (uN K q p (M q))
def cK{A:Type}{Tx:PySem.W.Frag->(Str->ak ai)->A->Prop}{k p n:Nat}{f:A->ag}{fd:A->bQ}{ps:List Str}{x qual:Str}{st:Stmt}{m:Nat->GS}(F:∀{K:PySem.W.Frag} {mg:Str->ak ai} {t:A},Tx K mg t->Fun K x qual st (f t) (fd t))(N:List Str)
  (hb:∀{P:de} {w:cB} {K:PySem.W.Frag} {mg:Str->ak ai} {base:bU} {t:A} (T:Tx K mg t) (q:Nat) (gd:ai) (A:cQ) (outer:List Env) (s:au) (H:Hp) (E:XK),cv k (A.deeper (envOfC qual (rX st) s.heap.objs.size (f t) gd))->(A.deeper (envOfC qual (rX st) s.heap.objs.size (f t) gd)).units+41<cLine->je (m8 (nU P w) P w K mg base N qual (rX st) (f t) gd A outer s H E) (zq st) (tS K (WF E) q (m q)):=by intros;simp only[dv])
  (S:iq N ps (rX st):=by exact K3) (hp:ps.length=p:=by rfl) (hn:N.length=n:=by rfl):cF Tx (k+1) f fd ps p (aR p n m):=λT q=>e3a (F T) S hp hn λgd A outer s H E hr=>hb T q gd A outer s H E hr (d8p hr)
end L2
namespace Carry
open PySem L2
def SB(f:ag)(H H':Hp):Prop:=∀b o,H b=some o->b≠f->H' b=some o
structure yX where
 ns:List Int
 pl:Int
 E2:Int
 mode:Int
 num:Int
def DF(sl:ag)(F:yX):HO:=.lst [.ref sl,.int F.pl,.int F.E2,.int F.mode,.int F.num]
structure FeedAt (H:Hp) (f sl:ag) (F:yX):Prop where
 fo:H f=some (DF sl F)
 so:H sl=some (.lst (F.ns.map V.int))
 pos:0<=F.pl
 len:F.ns.length<=63
def cellOf(F:yX):Int:=if 0<F.ns.length then F.ns.getD (F.pl%F.ns.length).toNat 0+F.pl / F.ns.length*31 else F.pl
structure ao where
 name:Str
 long:Int
 ring:Bool
 outs:List Str
structure aA where
 ae:List ao
 carts:List Str
def yF(xs:List Str):List V:=xs.map V.str
def e4s(H:Hp)(v:V)(b:ao):Prop:=∃p o,v=.ref p/\H p=some (.tup [.str b.name,.int b.long,.bl b.ring,.ref o])/\H o=some (.lst (yF b.outs))
structure HouseAt (H:Hp) (p pb pc:ag) (refs:List V) (h:aA):Prop where
 top:H p=some (.tup [.ref pb,.ref pc])
 bl:H pb=some (.lst refs)
 ct:H pc=some (.lst (yF h.carts))
 each:Paired (e4s H) refs h.ae
def nt(xs:List Str)(k:Nat)(y:Str):List Str:=xs.take k++y::xs.drop k
theorem Gq(xs:List Str)(k:Nat)(y:Str):(nt xs k y).length=xs.length+1:=by
 unfold nt;rw[dy,lS,yL,B7];lia
theorem k8{xs:List Str}{k:Nat}{y z:Str}:z∈nt xs k y↔z=y\/z∈xs:=by
 unfold nt;rw[dN,y0a];constructor
 .rintro(h|h|h)
  .exact .inr (List.mem_of_mem_take h)
  .exact .inl h
  .exact .inr (List.mem_of_mem_drop h)
 .rintro(h|h)
  .exact .inr (.inl h)
  .rw[<-List.take_append_drop k xs,dN] at h;rcases h with h|h
   .exact .inl h
   .exact .inr (.inr h)
seal PE PA PT PS je
noncomputable def top(i:Nat):Stmt:=PySem.Challenge.pw_carry_k69_whole_nothing_stands_for_ever.main.body.getD i (.Pass ⟨0,0,0,0⟩)
abbrev Wh:Stmt:=top 15
abbrev Ue:Stmt:=top 17
abbrev Ug:Stmt:=top 18
abbrev Uh:Stmt:=top 19
abbrev UE:Stmt:=top 20
abbrev Uq:Stmt:=top 21
abbrev Ur:Stmt:=top 22
abbrev Us:Stmt:=top 23
abbrev Wi:Stmt:=top 24
abbrev Wj:Stmt:=top 25
abbrev e8p:Stmt:=top 27
abbrev XN:Stmt:=top 28
abbrev e8q:Stmt:=top 29
abbrev XO:Stmt:=top 31
abbrev Ut:Stmt:=top 32
abbrev Vc:Stmt:=top 33
abbrev e4t:Stmt:=top 34
abbrev T3:Stmt:=top 35
abbrev TV:Stmt:=top 36
abbrev T8:Stmt:=top 37
abbrev XQ:Stmt:=top 40
abbrev T4:Stmt:=top 41
abbrev XR:Stmt:=top 43
abbrev Wk:Stmt:=top 44
abbrev X4:Stmt:=top 45
abbrev Wl:Stmt:=top 46
abbrev Wm:Stmt:=top 47
abbrev X5:Stmt:=top 48
abbrev X6:Stmt:=top 49
abbrev Wn:Stmt:=top 50
abbrev T5:Stmt:=top 51
abbrev Uu:Stmt:=top 52
abbrev UG:Stmt:=top 53
abbrev Wo:Stmt:=top 54
abbrev X7:Stmt:=top 55
abbrev X8:Stmt:=top 56
abbrev UH:Stmt:=top 57
abbrev e8r:Stmt:=top 58
abbrev X9:Stmt:=kx (top 39) 0
abbrev Vd:Stmt:=kx (top 39) 1
abbrev Ve:Stmt:=kx (top 39) 2
abbrev Uv:Stmt:=kx (top 39) 3
abbrev d8q:Stmt:=kx (top 39) 4
abbrev X_:Stmt:=kx (top 39) 5
abbrev Ya:Stmt:=kx (top 39) 6
abbrev Wq:Stmt:=kx (top 39) 7
abbrev TX:Stmt:=kx (top 39) 8
abbrev T9:Stmt:=kx (top 39) 9
abbrev TY:Stmt:=kx (top 39) 10
abbrev Wr:Stmt:=kx (top 39) 11
abbrev Vf:Stmt:=kx (top 39) 12
abbrev UI:Stmt:=kx (top 39) 15
abbrev Yb:Stmt:=kx (top 39) 16
abbrev d8r:Stmt:=kx (top 39) 17
abbrev Yc:Stmt:=kx (top 39) 18
abbrev UJ:Stmt:=kx (top 39) 20
abbrev UK:Stmt:=kx (top 39) 21
abbrev Uw:Stmt:=kx (top 39) 22
abbrev Yd:Stmt:=kx (top 39) 23
abbrev UL:Stmt:=kx (top 39) 24
abbrev Ux:Stmt:=kx (top 39) 25
noncomputable abbrev jh:List (Str×ag):=[("NoName",44),("NoSize",56),("NoOut",68),("NoHand",80),("NoMoment",92),("NoFlight",104),("NoBelt",116),("NoRoom",128),("NoBag",140)]
abbrev cHall:ag:=454
noncomputable abbrev atrs:List (ag×Str):=[(cHall,"built"),(cHall,"told_rounds"),(cHall,"now"),(cHall,"book"),(cHall,"halts"),(cHall,"places"),(cHall,"readings"),(cHall,"rounded"),(cHall,"gone"),(cHall,"carted")]
set_option genInjectivity false in
set_option genSizeOfSpec false in
structure aV where
 mB:ag
 l9:bQ
 gK:ag
 gF:bQ
 gH:ag
 gE:bQ
 gG:ag
 gA:bQ
 jG:ag
 jz:bQ
 iK:ag
 iC:bQ
 iJ:ag
 iB:bQ
 iH:ag
 iz:bQ
 mH:ag
 mj:bQ
 mq:ag
 l0:bQ
 xV:ag
 xO:bQ
 oP:ag
 oq:bQ
 xS:ag
 xK:bQ
 o8:ag
 oM:bQ
 iI:ag
 iA:bQ
 kO:ag
 kI:bQ
 tO:ag
 tI:bQ
 eW:ag
 eR:bQ
 eB:ag
 dZ:bQ
 fO:ag
 fL:bQ
 oQ:ag
 ow:bQ
 eU:ag
 eP:bQ
 oY:ag
 oG:bQ
 mD:ag
 md:bQ
 o7:ag
 oK:bQ
 mF:ag
 mh:bQ
 mG:ag
 mi:bQ
 o5:ag
 oI:bQ
 o6:ag
 oJ:bQ
 mE:ag
 mf:bQ
 eV:ag
 eQ:bQ
 iO:ag
 iG:bQ
 jF:ag
 jy:bQ
 mC:ag
 l_:bQ
 oX:ag
 oF:bQ
 oZ:ag
 oH:bQ
 jE:ag
 jx:bQ
 tN:ag
 tH:bQ
 kL:ag
 kG:bQ
 kK:ag
 kF:bQ
 kJ:ag
 kE:bQ
 iL:ag
 iD:bQ
 qB:ag
 qy:bQ
 oV:ag
 oB:bQ
 oW:ag
 oE:bQ
 my:ag
 l7:bQ
 ec:ag
 dX:bQ
 fM:ag
 fK:bQ
 eA:ag
 dY:bQ
 mr:ag
 l6:bQ
 kN:ag
 kH:bQ
 jD:ag
 jw:bQ
 oR:ag
 ox:bQ
 qA:ag
 qx:bQ
 oS:ag
 oz:bQ
 jA:ag
 jt:bQ
 jB:ag
 ju:bQ
 iM:ag
 iE:bQ
 oU:ag
 oA:bQ
 jC:ag
 jv:bQ
 iN:ag
 iF:bQ
structure Txt (K:PySem.W.Frag) (mg:Str->ak ai) (t:aV):Prop where
 q9:aW K mg "is_name" Wh t.mB t.l9 ["thing"]
 lG:aW K mg "right_house" Ue t.gK t.gF ["house"]
 lF:aW K mg "check_carts" Ug t.gH t.gE ["carts","taken"]
 lE:aW K mg "check_belts" Uh t.gG t.gA ["belts","taken"]
 n6:aW K mg "take_name" UE t.jG t.jz ["name","taken"]
 mU:aW K mg "check_outs" Uq t.iK t.iC ["belts","carts"]
 mT:aW K mg "check_hand" Ur t.iJ t.iB ["house"]
 mR:aW K mg "belt_names" Us t.iH t.iz ["belts"]
 rj:aW K mg "reached" Wi t.mH t.mj ["house","belt"]
 qY:aW K mg "belt_of" Wj t.mq t.l0 ["house","name"]
 Ci:aW K mg "far" e8p t.xV t.xO ["house","place","cart"]
 sx:aW K mg "begins" XN t.oP t.oq ["house","cart"]
 Cg:aW K mg "arm" e8q t.xS t.xK ["house","belt","cart"]
 sR:aW K mg "wanted" XO t.o8 t.oM ["hall"]
 mS:aW K mg "busy_belts" Ut t.iI t.iA ["hall"]
 pT:aW K mg "off_belt" Vc t.kO t.kI ["house","belt","cart","busy"]
 yW:aW K mg "turn" e4t t.tO t.tI ["hall"]
 jR:aW K mg "stand_stopped" T3 t.eW t.eR ["bags","goals","stopped","whys"]
 i_:aW K mg "stand_yielding" TV t.eB t.dZ ["bags","goals","whys"]
 ko:aW K mg "stand_behind" T8 t.fO t.fL ["bags","goals","whys"]
 sy:aW K mg "copied" XQ t.oQ t.ow ["house"]
 jP:aW K mg "check_closing" T4 t.eU t.eP ["closing"]
 sL:aW K mg "_law_cell" XR t.oY t.oG ["_law_script","_law_k"]
 ra:aW K mg "_law_digit" Wk t.mD t.md ["_law_script","_law_k","_law_at","_law_many"]
 sP:aW K mg "_law_pick" X4 t.o7 t.oK ["_law_script","_law_k","_law_many"]
 rf:aW K mg "_law_other" Wl t.mF t.mh ["_law_script","_law_k","_law_many"]
 rh:aW K mg "_law_third" Wm t.mG t.mi ["_law_script","_law_k","_law_many"]
 sN:aW K mg "_law_name" X5 t.o5 t.oI ["_law_script","_law_k","_law_n"]
 sO:aW K mg "_law_outs" X6 t.o6 t.oJ ["_law_script","_law_k","_law_names","_law_carts"]
 rb:aW K mg "_law_house" Wn t.mE t.mf ["_law_script"]
 jQ:aW K mg "_law_flight_name" T5 t.eV t.eQ ["_law_script","_law_n"]
 mZ:aW K mg "_law_bag_name" Uu t.iO t.iG ["_law_script","_law_n"]
 n5:aW K mg "_law_closing" UG t.jF t.jy ["_law_script","_law_k"]
 q_:aW K mg "_law_deeds" Wo t.mC t.l_ ["_law_script","_law_k","_law_house_here"]
 sJ:aW K mg "_law_call" X7 t.oX t.oF ["_law_hall","_law_deed"]
 sM:aW K mg "_law_done" X8 t.oZ t.oH ["_law_hall","_law_deed"]
 n4:aW K mg "_law_all_out" UH t.jE t.jx ["_law_hall","_law_house_here"]
 sQ:aW K mg "law" e8r t.tN t.tH ["_law_script"]
 sD:Fun K "__init__" "Hall.__init__" X9 t.kL t.kG
 B_h_init:Binds K t.kG ["self","house","rounds"] []
 pR:MethAt K cHall "flight" "Hall.flight" Vd t.kK t.kF ["self","name","cart","closing"]
 pQ:MethAt K cHall "change" "Hall.change" Ve t.kJ t.kE ["self","name","closing"]
 mV:MethAt K cHall "call_off" "Hall.call_off" Uv t.iL t.iD ["self","name"]
 vx:MethAt K cHall "put" "Hall.put" d8q t.qB t.qy ["self","bag","flight","belt"]
 sG:MethAt K cHall "read" "Hall.read" X_ t.oV t.oB ["self","bag","flight"]
 sH:MethAt K cHall "stop" "Hall.stop" Ya t.oW t.oE ["self","belt"]
 q8:MethAt K cHall "start" "Hall.start" Wq t.my t.l7 ["self","belt"]
 i8:MethAt K cHall "check_flight" "Hall.check_flight" TX t.ec t.dX ["self","name"]
 km:MethAt K cHall "check_belt" "Hall.check_belt" T9 t.fM t.fK ["self","name"]
 i9:MethAt K cHall "check_inside" "Hall.check_inside" TY t.eA t.dY ["self","bag"]
 qZ:MethAt K cHall "house" "Hall.house" Wr t.mr t.l6 ["self"]
 pS:MethAt K cHall "rounds" "Hall.rounds" Vf t.kN t.kH ["self"]
 nZ:MethAt K cHall "stopped" "Hall.stopped" UI t.jD t.jw ["self"]
 sC:MethAt K cHall "bags" "Hall.bags" Yb t.oR t.ox ["self"]
 vw:MethAt K cHall "out" "Hall.out" d8r t.qA t.qx ["self"]
 sE:MethAt K cHall "late" "Hall.late" Yc t.oS t.oz ["self"]
 nW:MethAt K cHall "cart_of" "Hall.cart_of" UJ t.jA t.jt ["self","bag"]
 nX:MethAt K cHall "catches" "Hall.catches" UK t.jB t.ju ["self","bag"]
 mW:MethAt K cHall "in_order" "Hall.in_order" Uw t.iM t.iE ["self"]
 sF:MethAt K cHall "move" "Hall.move" Yd t.oU t.oA ["self","moves"]
 nY:MethAt K cHall "move_on" "Hall.move_on" UL t.jC t.jv ["self","bag","goal"]
 mY:MethAt K cHall "move_out" "Hall.move_out" Ux t.iN t.iF ["self","bag","cart"]
 C_Hall:pO K cHall
 Mk_Hall:Mk K cHall t.kL
 mg_Hall:mg "Hall"=some (.ref cHall)
 atr:kj K atrs
 er:qX K mg jh 31
 b_len:mg "len"=none
 b_isinstance:mg "isinstance"=none
 b_int:mg "int"=none
 b_bool:mg "bool"=none
 b_str:mg "str"=none
 b_list:mg "list"=none
 b_tuple:mg "tuple"=none
 b_range:mg "range"=none
 b_enumerate:mg "enumerate"=none
 b_reversed:mg "reversed"=none
 b_all:mg "all"=none
 b_sorted:mg "sorted"=none
 b_dict:mg "dict"=none
 b_min:mg "min"=none
 b_sum:mg "sum"=none
 c_LETTERS:∃t,mg "LETTERS"=some (.str "abcdefghijklmnopqrstuvwxyz" t)
 c_MOST_LETTERS:∃t,mg "MOST_LETTERS"=some (.int 8 t)
def F0(n1:Nat):GE:=(bC nC 0 (gC (.str "abcdefghijklmnopqrstuvwxyz")))
def CJ(q:Nat):GS:=(qG (cO (eY (cZ (gO (o2 jl) (cy 0 (gC (.ty "str")))))) (aG (gC (.bl false)))) (cO (eY (gB (Km LI LI (gI 1) (gO (o1 dD) (bj 0)) (gC (.int 8))))) (aG (gC (.bl false)))) (aG (gO (o1 (Ha Ml)) (bj (cg q (bL false fD 0) 0 (λ_=>iR true) F0 1 [])))))
def pX:=aR 1 1 CJ
theorem e1c:cF Txt 1 aV.mB aV.l9 ["thing"] 1 pX:=cK (λT=>T.q9.fn) ["thing"]
def NF(n1:Nat):GE:=(gX 0 (gI 0))
def NR(q:Nat):GS:=(cL (aG (cg q (bL false fD 0) 0 (λ_=>iR true) NF 1 [])))
def uQ:=aR 1 1 NR
theorem d1l:cF Txt 1 aV.iH aV.iz ["belts"] 1 uQ:=cK (λT=>T.mR.fn) ["belts"]
def Bh(n1:Nat):GS:=(cL (cO (gQ eZ (gX 2 (gI 0)) 1) (aG (aX true (lu (gX 2 (gI 0)) (gX 2 (gI 1)) (gX 2 (gI 2)) (gO (o1 kZ) (bj (gX 2 (gI 3)))))))))
def OR(q:Nat):GS:=(jI (bN q (bL true fD (gX 0 (gI 0))) 2 Bh) (aG (gC .aI)))
def zh:=aR 2 3 OR
theorem e1d:cF Txt 1 aV.mq aV.l0 ["house","name"] 2 zh:=cK (λT=>T.qY.fn) ["house","name","belt"]
def Jn(n2:Nat):GT:=(gQ nC 0 1)
def Jo(n2:Nat):GE:=(gX 1 0)
def Bl(n1:Nat):GS:=(jI (av 7 false (cg n1 (bL false fD 6) 0 Jn Jo 1 [2])) (cO (cZ 7) (cw n1 (bC bq 4 (gO (o1 (lY iX)) (bj 7))) 2 3)))
def Pp(q:Nat):GS:=(qG (av 2 true (qC (BA [(1,(gI 0))]))) (bN q (bL true AI (gX 0 (gI 0))) (bD [3,4,5,6]) Bl) (aG 2))
def CP:=aR 2 8 Pp
theorem e4u:cF Txt 1 aV.oP aV.oq ["house","cart"] 2 CP:=cK (λT=>T.sx.fn) ["house","cart","known","name","long","ring","outs","behind"]
def Bb(n1:Nat):GS:=(jI (av 8 false (gX 1 4)) (gh (gQ nC (gX 6 (gI 0)) 2) (cL (cw n1 (aX true (cy (gC (.str "stopped")) (gX 6 (gI 0)))) 3 4)) (cL (cO (du (cZ (gO (o2 jl) (cy 8 (gC (.ty "tuple"))))) (gQ nC (gX 8 (gI 0)) 2)) (cw n1 (aX true (cy (gC (.str "stopped")) (gX 8 (gI 0)))) 3 4)))))
def NB(q:Nat):GS:=(cL (bN q (bL true fD 0) (bD [4,5,6,7]) Bb))
def FJ:=aR 4 9 NB
theorem c2l:cF Txt 1 aV.eW aV.eR ["bags","goals","stopped","whys"] 4 FJ:=cK (λT=>T.jR.fn) ["bags","goals","stopped","whys","bag","flight","place","gone","goal"]
def IM(n1:Nat):GT:=(du (gQ jZ (gX 0 (gI 0)) 1) (cZ (gO (o2 jl) (cy (gX 2 (gX 0 (gI 0))) (gC (.ty "tuple"))))))
def IP(n1:Nat):GE:=0
def Cq(n1:Nat):GS:=(jI (av 9 false (gX 1 5)) (cO (kT (gQ jZ 9 4) (gQ eZ (gX 7 (gI 0)) (gX 9 (gI 0)))) (cw n1 5 4 9)))
def Cr(n1:Nat):GS:=(jI (av 10 false (gX 4 (gX 1 5))) (cO (gQ Mm 10 5) (cw n1 (aX true (cy (gC (.str "yields")) 10)) 2 5)))
def Nx(q:Nat):GS:=(u9 (av 3 false (cg q (bL false fD 0) 0 IM IP 1 [2,1])) (av 4 true r_) (bN q (bL true fD 3) (bD [5,6,7,8]) Cq) (bN q (bL true fD 3) (bD [5,6,7,8]) Cr))
def FG:=aR 3 11 Nx
theorem c1v:cF Txt 1 aV.eB aV.dZ ["bags","goals","whys"] 3 FG:=cK (λT=>T.i_.fn) ["bags","goals","whys","asking","chosen","bag","flight","place","gone","goal","other"]
def Cs(n1:Nat):GS:=(cL (cw n1 4 3 6))
def y8(n1:Nat):GS:=(jI (av 9 false (Hb "dict" (o2 qE) 3 (bj (gX 1 4)))) (gh (du (gQ jZ 4 2) (gQ nC 9 2)) (jI (cw n1 (aX true (cy (gC (.str "behind")) 9)) 2 4) (av 8 false (gC (.bl true)))) o_))
def FH(q:Nat):GS:=(jI (av 8 false (gC (.bl false))) (bN q (bL true fD 1) 4 y8))
def NG(q:Nat):GS:=(u9 (av 3 true r_) (bN q (bL true fD 0) (bD [4,5,6,7]) Cs) (av 8 false (gC (.bl true))) (cS (cZ 8) (FH q) 1000))
def FN:=aR 3 10 NG
theorem c6h:cF Txt 1 aV.fO aV.fL ["bags","goals","whys"] 3 FN:=cK (λT=>T.ko.fn) ["bags","goals","whys","holder","bag","flight","place","gone","grown","other"]
def NC(q:Nat):GS:=(cL (cO (gQ ux 0 (gI 0)) (pC 92 (gC (.str "a flight closes at a moment from 0 on")))))
def Ct:=aR 1 1 NC
theorem c2m:cF Txt 1 aV.eU aV.eP ["closing"] 1 Ct:=cK (λT=>T.jP.fn) ["closing"]
def JP(q:Nat):GS:=(jI (cO (gQ ux 1 (gO (o1 dD) (bj 0))) (aG (gX 0 1))) (aG (gI 0)))
def qt:=aR 2 2 JP
theorem e4v:cF Txt 1 aV.oY aV.oG ["_law_script","_law_k"] 2 qt:=cK (λT=>T.sL.fn) ["_law_script","_law_k"]
def Oi(q:Nat):GS:=(cL (aG (br atrs "told_rounds" 0)))
def CD:=aR 1 1 Oi
theorem d8s:cF Txt 1 aV.kN aV.kH ["self"] 1 CD:=cK (λT=>T.pS.fn) ["self"]
def QG(q:Nat):GS:=(cL (aG (gO (o1 kZ) (bj (br atrs "gone" 0)))))
def vI:=aR 1 1 QG
theorem e7t:cF Txt 1 aV.qA aV.qx ["self"] 1 vI:=cK (λT=>T.vw.fn) ["self"]
def NS(q:Nat):GS:=(qH (cW (gf q "dict" jK (br atrs "places" 0) (bj 1))) (cW (gf q "dict" jK (br atrs "readings" 0) (bj 1))) (cW (gf q "dict" jK (br atrs "rounded" 0) (bj 1))) (cw q 2 (br atrs "carted" 0) 1) (cW (gf q "list" vH (br atrs "gone" 0) (bj (aX true (dR 1 2 (br atrs "now" 0)))))))
def Cw:=aR 3 3 NS
theorem d1m:cF Txt 1 aV.iN aV.iF ["self","bag","cart"] 3 Cw:=cK (λT=>T.mY.fn) ["self","bag","cart"]
def N3(q:Nat):GS:=(jI (cO (kT (eY (cZ (ar (pX q) (bj 0)))) (gQ nC 0 1)) (pC 44 (gC (.str "a belt or a cart has no name, or one that is taken")))) (cw q (gC (.bl true)) 1 0))
def Bi:=aR 2 2 N3
theorem d4m:cF Txt 2 aV.jG aV.jz ["name","taken"] 2 Bi:=cK (λT=>T.n6.fn) ["name","taken"]
def Cu(n2:Nat):GS:=(jI (cO (gQ jZ 7 6) (pC 68 (zu (nO (gC (.str "belt ")) (nO (gO (o1 ng) (bj 4)) (nO (gC (.str " has an out that is no cart, no belt behind it, or there twice")) kR)))))) (cW (gf n2 "list" GW 6 (bj 7))))
def FO(n1:Nat):GS:=(qH (av 4 false (gX 3 (gI 0))) (av 5 false (BP (cZ (gO (o2 jl) (cy (gX 3 (gI 3)) (gC (.ty "list"))))) (gX 3 (gI 3)) (aX false gN))) (av 6 true (bC bq (ar (uQ n1) (bj (zD 0 (BI (bC bq 2 (gI 1))) BH))) 1)) (bN n1 (bL true fD 5) 7 Cu) (cO (eY (cZ 5)) (pC 68 (zu (nO (gC (.str "belt ")) (nO (gO (o1 ng) (bj 4)) (nO (gC (.str " has no outs")) kR)))))))
def NT(q:Nat):GS:=(cL (bN q (bL true KU 0) (bD [2,3]) FO))
def FV:=aR 2 8 NT
theorem d1n:cF Txt 2 aV.iK aV.iC ["belts","carts"] 2 FV:=cK (λT=>T.mU.fn) ["belts","carts","k","belt","name","outs","left","out"]
def Cy(n2:Nat):GS:=(cL (cw n2 (gC (.bl true)) 2 7))
def Bj(n1:Nat):GS:=(cL (cO (kT (gQ eZ 3 1) (gQ nC 3 2)) (bN n1 (bL true fD 6) 7 Cy)))
def Jg(n1:Nat):GT:=(gQ nC 0 1)
def Jh(n1:Nat):GE:=0
def OS(q:Nat):GS:=(qG (av 2 true r_) (bN q (bL true fD (gX 0 (gI 0))) (bD [3,4,5,6]) Bj) (aG (cg q (bL false fD (bC bq (ar (uQ q) (bj (gX 0 (gI 0)))) (gX 0 (gI 1)))) 0 Jg Jh 1 [2])))
def Gd:=aR 2 8 OS
theorem e1e:cF Txt 2 aV.mH aV.mj ["house","belt"] 2 Gd:=cK (λT=>T.rj.fn) ["house","belt","found","name","long","ring","outs","out"]
def Sh(q:Nat):GS:=(qG (av 3 false (ar (CP q) (cy 0 2))) (cO (gQ jZ (gX 1 (gI 0)) 3) (aG (gC .aI))) (aG (bC rD (gX 3 (gX 1 (gI 0))) (gX 1 (gI 1)))))
def Hk:=aR 3 4 Sh
theorem e9g:cF Txt 2 aV.xV aV.xO ["house","place","cart"] 3 Hk:=cK (λT=>T.Ci.fn) ["house","place","cart","known"]
def C4(n1:Nat):GS:=(cL (cO (du (gQ nC 5 3) (kT (gQ H9 4 (gC .aI)) (gQ ux (gX 3 5) (gX 3 4)))) (av 4 false 5)))
def Si(q:Nat):GS:=(u9 (av 3 false (ar (CP q) (cy 0 2))) (av 4 false (gC .aI)) (bN q (bL true fD (gX (ar (zh q) (cy 0 1)) (gI 3))) 5 C4) (aG 4))
def Hm:=aR 3 6 Si
theorem e9h:cF Txt 2 aV.xS aV.xK ["house","belt","cart"] 3 Hm:=cK (λT=>T.Cg.fn) ["house","belt","cart","known","best","out"]
def Jp(n1:Nat):GE:=(ar (zh n1) (cy 1 0))
def Pq(q:Nat):GS:=(jI (av 1 false (cg q (bL false fD (ar (uQ q) (bj (gX 0 (gI 0))))) 0 (λ_=>iR true) Jp 1 [0])) (aG (aX true (cy 1 (gO (o1 kZ) (bj (gX 0 (gI 1))))))))
def CQ:=aR 1 2 Pq
theorem e4y:cF Txt 2 aV.oQ aV.ow ["house"] 1 CQ:=cK (λT=>T.sy.fn) ["house","belts"]
def JC(q:Nat):GS:=(u9 (av 4 false (ar (qt q) (cy 0 1))) (cO (gQ eZ (bC g9 (ar (qt q) (cy 0 (gI 0))) (gI 2)) (gI 1)) (aG (bC g9 (bC g9 (bC tD 4 (gX (aX false (og (gI 2) (lu (gI 128) (gI 8192) (gI 524288) (gI 33554432)))) 2)) (gI 64)) 3))) (av 5 false (bC g9 (bC g_ (bC bq (bC bq (bC bq (bC g9 4 (gI 1000003)) (bC g_ 1 1)) (bC g_ (gI 1009) 2)) (gI 7)) (gI 48271)) (gI 999983))) (aG (bC g9 (bC g9 (bC g_ (bC bq (bC bq 5 (bC g_ (gI 5) 1)) 2) (bC bq (gI 69621) (bC g_ (gI 2) 2))) (gI 1000033)) 3)))
def ic:=aR 4 6 JC
theorem e1f:cF Txt 2 aV.mD aV.md ["_law_script","_law_k","_law_at","_law_many"] 4 ic:=cK (λT=>T.ra.fn) ["_law_script","_law_k","_law_at","_law_many","_law_cell_here","_law_mixed"]
def Oj(q:Nat):GS:=(u9 (cO (kT (eY (cZ (ar (pX q) (bj 1)))) (gQ nC 1 (br atrs "book" 0))) (pC 44 (gC (.str "a flight has no name, or one that another flight has")))) (cO (gQ jZ 2 (zD (gX (br atrs "built" 0) (gI 1)) (BI (gI 1)) BH)) (pC 68 (gC (.str "a flight's cart is none of the house, or the hand")))) (cW (ar (Ct q) (bj 3))) (cw q (aX true (dR 1 2 3)) (br atrs "book" 0) 1))
def F7:=aR 4 4 Oj
theorem d8t:cF Txt 2 aV.kK aV.kF ["self","name","cart","closing"] 4 F7:=cK (λT=>T.pR.fn) ["self","name","cart","closing"]
def Ny(q:Nat):GS:=(cL (cO (kT (eY (cZ (ar (pX q) (bj 1)))) (gQ jZ 1 (br atrs "book" 0))) (pC 104 (gC (.str "no flight is called so")))))
def y9:=aR 2 2 Ny
theorem c1w:cF Txt 2 aV.ec aV.dX ["self","name"] 2 y9:=cK (λT=>T.i8.fn) ["self","name"]
def NH(q:Nat):GS:=(cL (cO (gQ jZ 1 (ar (uQ q) (bj (gX (br atrs "built" 0) (gI 0))))) (pC 116 (gC (.str "no belt is called so")))))
def Be:=aR 2 2 NH
theorem c6j:cF Txt 2 aV.fM aV.fK ["self","name"] 2 Be:=cK (λT=>T.km.fn) ["self","name"]
def IS(q:Nat):GS:=(cL (cO (kT (eY (cZ (ar (pX q) (bj 1)))) (gQ jZ 1 (br atrs "places" 0))) (pC 140 (gC (.str "no bag in the house is called so")))))
def y_:=aR 2 2 IS
theorem c1x:cF Txt 2 aV.eA aV.dY ["self","bag"] 2 y_:=cK (λT=>T.i9.fn) ["self","bag"]
def IZ(n1:Nat):GT:=(gQ nC 0 (br atrs "halts" 1))
def I_(n1:Nat):GE:=0
def N4(q:Nat):GS:=(cL (aG (cg q (bL false fD (ar (uQ q) (bj (gX (br atrs "built" 0) (gI 0))))) 0 IZ I_ 1 [0])))
def Cz:=aR 1 1 N4
theorem d4n:cF Txt 2 aV.jD aV.jw ["self"] 1 Cz:=cK (λT=>T.nZ.fn) ["self"]
def IU(n1:Nat):GE:=(aX true (dR (Hb "list" (o2 jj) 2 (bj (gX 1 (gI 0)))) (gX 1 (gI 1)) 0))
def IV(n1:Nat):GE:=(gX 0 (gI 2))
def Jc(q:Nat):GS:=(qG (av 1 false (ar (uQ q) (bj (gX (br atrs "built" 0) (gI 0))))) (av 2 false (cg q (bL false wb (br atrs "places" 0)) (bD [0,1]) (λ_=>iR true) IU 2 [1])) (aG (cg q (bL false fD (gO (o1 qS) (bj 2))) 0 (λ_=>iR true) IV 1 [])))
def Bf:=aR 1 3 Jc
theorem d1q:cF Txt 2 aV.iM aV.iE ["self"] 1 Bf:=cK (λT=>T.mW.fn) ["self","ranks","spots"]
def Ji(q:Nat):GS:=(u9 (av 3 false (gX (br atrs "places" 0) 1)) (av 4 false (ar (zh q) (cy (br atrs "built" 0) (gX 3 (gI 0))))) (cO (du (cZ (gX 4 (gI 2))) (du (gQ eZ 3 (aX true (cy (gX 4 (gI 0)) (bC rD (gX 4 (gI 1)) (gI 1))))) (gQ eZ 2 (aX true (cy (gX 4 (gI 0)) (gI 0)))))) (Kl q Ea (br atrs "rounded" 0) 1 (gI 1))) (cw q 2 (br atrs "places" 0) 1))
def xq:=aR 3 5 Ji
theorem d4o:cF Txt 2 aV.jC aV.jv ["self","bag","goal"] 3 xq:=cK (λT=>T.nY.fn) ["self","bag","goal","was","belt"]
def FK(n1:Nat):GS:=(cL (cW (ar (Bi n1) (cy 2 1))))
def NL(q:Nat):GS:=(jI (bN q (bL true fD 0) 2 FK) (cO (eY (cZ 0)) (pC 80 (gC (.str "a house has a cart at least, the hand")))))
def FQ:=aR 2 3 NL
theorem c8r:cF Txt 3 aV.gH aV.gE ["carts","taken"] 2 FQ:=cK (λT=>T.lF.fn) ["carts","taken","cart"]
def FL(n1:Nat):GS:=(qG (cW (ar (Bi n1) (cy 2 1))) (av 6 false (BP (cZ 4) (gI 2) (gI 1))) (cO (gQ ux 3 6) (pC 56 (zu (nO (gC (.str "belt ")) (nO (gO (o1 ng) (bj 2)) (nO (gC (.str " has fewer than ")) (nO (gO (o1 ng) (bj 6)) (nO (gC (.str " cells")) kR)))))))))
def NM(q:Nat):GS:=(cL (bN q (bL true fD 0) (bD [2,3,4,5]) FL))
def FR:=aR 2 7 NM
theorem c8s:cF Txt 3 aV.gG aV.gA ["belts","taken"] 2 FR:=cK (λT=>T.lE.fn) ["belts","taken","name","long","ring","outs","least"]
def IW(n1:Nat):GS:=(cL (cO (gQ jZ 1 (ar (Gd n1) (cy 0 2))) (pC 80 (zu (nO (gC (.str "the hand can not be come to from belt ")) (nO (gO (o1 ng) (bj 2)) kR))))))
def NU(q:Nat):GS:=(jI (av 1 false (gX (gX 0 (gI 1)) (gI 0))) (bN q (bL true fD (ar (uQ q) (bj (gX 0 (gI 0))))) 2 IW))
def FW:=aR 1 3 NU
theorem d1r:cF Txt 3 aV.iJ aV.iB ["house"] 1 FW:=cK (λT=>T.mT.fn) ["house","hand","name"]
def CF(q:Nat):GS:=(u9 (av 4 false (ar (Hm q) (dR 0 (gX 1 (gI 0)) 2))) (cO (gQ nC 4 (gX 0 (gI 1))) (aG 4)) (cO (du (cZ (gX 1 (gI 2))) (gQ nC 4 3)) (aG (aX true (cy (gX 1 (gI 0)) (gI 0))))) (aG (aX true (cy 4 (gI 0)))))
def rW:=aR 4 5 CF
theorem d8u:cF Txt 3 aV.kO aV.kI ["house","belt","cart","busy"] 4 rW:=cK (λT=>T.pT.fn) ["house","belt","cart","busy","out"]
def Pu(q:Nat):GS:=(cL (aG (ar (ic q) (lu 0 1 (gI 0) 2))))
def lJ:=aR 3 3 Pu
theorem e4z:cF Txt 3 aV.o7 aV.oK ["_law_script","_law_k","_law_many"] 3 lJ:=cK (λT=>T.sP.fn) ["_law_script","_law_k","_law_many"]
def OT(q:Nat):GS:=(cL (aG (ar (ic q) (lu 0 1 (gI 1) 2))))
def j9:=aR 3 3 OT
theorem e1g:cF Txt 3 aV.mF aV.mh ["_law_script","_law_k","_law_many"] 3 j9:=cK (λT=>T.rf.fn) ["_law_script","_law_k","_law_many"]
def OU(q:Nat):GS:=(cL (aG (ar (ic q) (lu 0 1 (gI 2) 2))))
def n9:=aR 3 3 OU
theorem e1h:cF Txt 3 aV.mG aV.mi ["_law_script","_law_k","_law_many"] 3 n9:=cK (λT=>T.rh.fn) ["_law_script","_law_k","_law_many"]
def Ol(q:Nat):GS:=(qG (cW (aM cHall "check_flight" (y9 q) 0 (bj 1))) (cW (ar (Ct q) (bj 2))) (cw q (aX true (dR 1 (gX (gX (br atrs "book" 0) 1) (gI 1)) 2)) (br atrs "book" 0) 1))
def F8:=aR 3 3 Ol
theorem d8v:cF Txt 3 aV.kJ aV.kE ["self","name","closing"] 3 F8:=cK (λT=>T.pQ.fn) ["self","name","closing"]
def Cv(n1:Nat):GS:=(cL (cO (gQ eZ (gX (br atrs "readings" 0) 2) 1) (cw n1 (gC .aI) (br atrs "readings" 0) 2)))
def NV(q:Nat):GS:=(qG (cW (aM cHall "check_flight" (y9 q) 0 (bj 1))) (cW (gf q "dict" jK (br atrs "book" 0) (bj 1))) (bN q (bL true fD (gO (o1 kZ) (bj (br atrs "readings" 0)))) 2 Cv))
def FX:=aR 2 3 NV
theorem d1s:cF Txt 3 aV.iL aV.iD ["self","name"] 2 FX:=cK (λT=>T.mV.fn) ["self","name","bag"]
def tm(q:Nat):GS:=(dP (cO (kT (eY (cZ (ar (pX q) (bj 1)))) (kT (gQ nC 1 (br atrs "places" 0)) (gQ nC 1 (br atrs "carted" 0)))) (pC 44 (gC (.str "a bag has no name, or one that a bag of this hall has or had")))) (dP (cO (gQ AA 2 (gC .aI)) (cW (aM cHall "check_flight" (y9 q) 0 (bj 2)))) (dP (cW (aM cHall "check_belt" (Be q) 0 (bj 3))) (qH (av 4 false (aX true (cy 3 (gI 0)))) (cO (gQ nC 4 (gO (o1 qU) (bj (br atrs "places" 0)))) (pC 128 (zu (nO (gC (.str "cell 0 of belt ")) (nO (gO (o1 ng) (bj 3)) (nO (gC (.str " has a bag")) kR)))))) (cw q 4 (br atrs "places" 0) 1) (cw q 2 (br atrs "readings" 0) 1) (cw q (gI 0) (br atrs "rounded" 0) 1)))))
def rC:=aR 4 5 tm
theorem e7u:cF Txt 3 aV.qB aV.qy ["self","bag","flight","belt"] 4 rC:=cK (λT=>T.vx.fn) ["self","bag","flight","belt","place"]
def Pw(q:Nat):GS:=(qG (cW (aM cHall "check_inside" (y_ q) 0 (bj 1))) (cW (aM cHall "check_flight" (y9 q) 0 (bj 2))) (cw q 2 (br atrs "readings" 0) 1))
def Gr:=aR 3 3 Pw
theorem e5a:cF Txt 3 aV.oV aV.oB ["self","bag","flight"] 3 Gr:=cK (λT=>T.sG.fn) ["self","bag","flight"]
def JQ(q:Nat):GS:=(jI (cW (aM cHall "check_belt" (Be q) 0 (bj 1))) (cw q (gC (.bl true)) (br atrs "halts" 0) 1))
def CS:=aR 2 2 JQ
theorem e5b:cF Txt 3 aV.oW aV.oE ["self","belt"] 2 CS:=cK (λT=>T.sH.fn) ["self","belt"]
def JD(q:Nat):GS:=(jI (cW (aM cHall "check_belt" (Be q) 0 (bj 1))) (cO (gQ nC 1 (br atrs "halts" 0)) (cW (gf q "dict" jK (br atrs "halts" 0) (bj 1)))))
def zj:=aR 2 2 JD
theorem e1i:cF Txt 3 aV.my aV.l7 ["self","belt"] 2 zj:=cK (λT=>T.q8.fn) ["self","belt"]
def OV(q:Nat):GS:=(cL (aG (ar (CQ q) (bj (br atrs "built" 0)))))
def Ge:=aR 1 1 OV
theorem e1j:cF Txt 3 aV.mr aV.l6 ["self"] 1 Ge:=cK (λT=>T.qZ.fn) ["self"]
def Jq(n1:Nat):GE:=(aX true (lu 0 (gX (br atrs "readings" 1) 0) (gX (br atrs "places" 1) 0) (gX (br atrs "rounded" 1) 0)))
def Px(q:Nat):GS:=(cL (aG (cg q (bL false fD (aM cHall "in_order" (Bf q) 0 gN)) 0 (λ_=>iR true) Jq 1 [0])))
def pY:=aR 1 1 Px
theorem e5c:cF Txt 3 aV.oR aV.ox ["self"] 1 pY:=cK (λT=>T.sC.fn) ["self"]
def N5(q:Nat):GS:=(u9 (cO (gQ H9 (gX (br atrs "readings" 0) 1) (gC .aI)) (aG (gC (.bl false)))) (av 2 false (gX (br atrs "book" 0) (gX (br atrs "readings" 0) 1))) (av 3 false (ar (Hk q) (dR (br atrs "built" 0) (gX (br atrs "places" 0) 1) (gX 2 (gI 1))))) (aG (tR (bC AA 3 (gC .aI)) (bC qLe (bC bq (br atrs "now" 0) 3) (gX 2 (gI 2))))))
def CA:=aR 2 4 N5
theorem d4p:cF Txt 3 aV.jB aV.ju ["self","bag"] 2 CA:=cK (λT=>T.nX.fn) ["self","bag","flight","needed"]
def zg(n1:Nat):GS:=(cL (gh (cZ (gO (o2 jl) (cy 3 (gC (.ty "tuple"))))) (cL (cW (aM cHall "move_on" (xq n1) 0 (cy 2 3)))) (cL (cW (aM cHall "move_out" (Cw n1) 0 (cy 2 3))))))
def Py(q:Nat):GS:=(jI (Kk q Ea atrs "now" 0 (gI 1)) (bN q (bL true fD 1) (bD [2,3]) zg))
def Gs:=aR 2 4 Py
theorem e5d:cF Txt 3 aV.oU aV.oA ["self","moves"] 2 Gs:=cK (λT=>T.sF.fn) ["self","moves","bag","goal"]
def NN(q:Nat):GS:=(dP (av 1 false (gX 0 (gI 0))) (dP (av 2 false (gX 0 (gI 1))) (dP (av 3 true r_) (qH (cW (ar (FQ q) (cy 2 3))) (cW (ar (FR q) (cy 1 3))) (cW (ar (FV q) (cy 1 2))) (cW (ar (FW q) (bj 0))) (aG (gC (.bl true)))))))
def FT:=aR 1 4 NN
theorem c8t:cF Txt 4 aV.gK aV.gF ["house"] 1 FT:=cK (λT=>T.lG.fn) ["house","belts","carts","taken"]
def IX(n1:Nat):GT:=(gQ eZ (gX (gX 0 (gI 2)) (gI 1)) (gI 0))
def IY(n1:Nat):GE:=(gX (gX 0 (gI 2)) (gI 0))
def NW(q:Nat):GS:=(cL (aG (bC bq (aM cHall "stopped" (Cz q) 0 gN) (cg q (bL false fD (aM cHall "bags" (pY q) 0 gN)) 0 IX IY 1 []))))
def FY:=aR 1 1 NW
theorem d1t:cF Txt 4 aV.iI aV.iA ["hall"] 1 FY:=cK (λT=>T.mS.fn) ["hall"]
def JR(q:Nat):GS:=(dP (av 3 false (gC (.str "abcdefghijklmnopqrstuvwxyz"))) (dP (av 4 false (ar (lJ q) (dR 0 1 (gI 26)))) (qH (cO (gQ eZ (ar (j9 q) (dR 0 1 (gI 3))) (gI 0)) (aG (bC g_ (gX 3 (bC g9 (bC bq 4 (bC tD 2 (gI 8))) (gI 26))) (bC bq (gI 1) (bC g9 2 (gI 8)))))) (av 5 false (bC bq (gI 1) (ar (n9 q) (dR 0 1 (gI 8))))) (av 6 false (ar (j9 q) (dR 0 1 5))) (av 7 false (gX 3 (ar (ic q) (lu 0 1 (gI 3) (gI 26))))) (aG (bC bq (bC bq (bC g_ 7 6) (gX 3 (bC g9 (bC bq (bC g_ (gI 7) 2) 4) (gI 26)))) (bC g_ 7 (bC rD (bC rD 5 (gI 1)) 6)))))))
def rY:=aR 3 8 JR
theorem e5e:cF Txt 4 aV.o5 aV.oI ["_law_script","_law_k","_law_n"] 3 rY:=cK (λT=>T.sN.fn) ["_law_script","_law_k","_law_n","_law_letters","_law_base","_law_many","_law_spot","_law_rest"]
def vB(n1:Nat):GS:=(jI (av 9 false (gX 5 (ar (ic n1) (lu 0 (bC bq (gI 6) 1) (bC bq (gI 1) 8) (gO (o1 dD) (bj 5)))))) (cO (gQ jZ 9 6) (cW (gf n1 "list" C3 6 (cy (bC g9 (bC g9 (bC tD 7 (gX (aX false (dR (gI 1) (gI 4) (gI 16))) 8)) (gI 4)) (bC bq (gO (o1 dD) (bj 6)) (gI 1))) 9)))))
def Jr(n1:Nat):GT:=(gQ nC 0 1)
def Js(n1:Nat):GE:=0
def Gu(q:Nat):GS:=(dP (av 4 false (zD 2 (BI (bC bq 1 (gI 1))) BH)) (dP (av 5 false (bC bq 4 3)) (qH (av 6 true (aX false gN)) (av 7 false (ar (n9 q) (dR 0 (bC bq (gI 1) 1) (gI 64)))) (bN q (jW nF (bj (bC bq (gI 1) (ar (lJ q) (dR 0 (bC bq (gI 6) 1) (gI 3)))))) 8 vB) (cO (du (gQ jZ (gX 3 (gI 0)) 6) (gQ eZ (gO (o1 dD) (bj (cg q (bL false fD 6) 0 Jr Js 1 [4]))) (gI 0))) (cW (gf q "list" C3 6 (cy (ar (ic q) (lu 0 (bC bq (gI 1) 1) (gI 3) (bC bq (gO (o1 dD) (bj 6)) (gI 1)))) (gX 3 (gI 0)))))) (aG 6))))
def rB:=aR 4 10 Gu
theorem e5f:cF Txt 4 aV.o6 aV.oJ ["_law_script","_law_k","_law_names","_law_carts"] 4 rB:=cK (λT=>T.sO.fn) ["_law_script","_law_k","_law_names","_law_carts","_law_later","_law_some","_law_outs_here","_law_spots","_law_j","_law_out"]
def F1(q:Nat):GS:=(u9 (av 2 false (ar (lJ q) (dR 0 (bC bq 1 (gI 1)) (gI 10)))) (cO (gQ eZ 2 (gI 0)) (aG (bC rD (gO (o1 wk) (bj (gI 1))) (bC g9 (ar (qt q) (cy 0 1)) (bC Dl (gI 10) (gI 8)))))) (cO (gQ eZ 2 (gI 1)) (aG (bC g9 (ar (qt q) (cy 0 1)) (bC Dl (gI 10) (gI 9))))) (aG (ar (ic q) (lu 0 (bC bq 1 (gI 1)) (gI 3) (gI 30)))))
def xr:=aR 2 3 F1
theorem d4q:cF Txt 4 aV.jF aV.jy ["_law_script","_law_k"] 2 xr:=cK (λT=>T.n5.fn) ["_law_script","_law_k","_law_kind"]
def vE(q:Nat):GS:=(cL (gh (gQ eZ (gX 1 (gI 0)) (gC (.str "flight"))) (cL (cW (aM cHall "flight" (F7 q) 0 (dR (gX 1 (gI 1)) (gX 1 (gI 2)) (gX 1 (gI 3)))))) (cL (gh (gQ eZ (gX 1 (gI 0)) (gC (.str "change"))) (cL (cW (aM cHall "change" (F8 q) 0 (cy (gX 1 (gI 1)) (gX 1 (gI 2)))))) (cL (gh (gQ eZ (gX 1 (gI 0)) (gC (.str "off"))) (cL (cW (aM cHall "call_off" (FX q) 0 (bj (gX 1 (gI 1)))))) (cL (gh (gQ eZ (gX 1 (gI 0)) (gC (.str "put"))) (cL (cO (gQ ux (gO (o1 dD) (bj (aM cHall "bags" (pY q) 0 gN))) (gI 8)) (cW (aM cHall "put" (rC q) 0 (dR (gX 1 (gI 1)) (gX 1 (gI 2)) (gX 1 (gI 3))))))) (cL (gh (gQ eZ (gX 1 (gI 0)) (gC (.str "read"))) (cL (cW (aM cHall "read" (Gr q) 0 (cy (gX 1 (gI 1)) (gX 1 (gI 2)))))) (cL (gh (gQ eZ (gX 1 (gI 0)) (gC (.str "stop"))) (cL (cW (aM cHall "stop" (CS q) 0 (bj (gX 1 (gI 1)))))) (cL (cO (gQ eZ (gX 1 (gI 0)) (gC (.str "start"))) (cW (aM cHall "start" (zj q) 0 (bj (gX 1 (gI 1)))))))))))))))))))
def tf:=aR 2 2 vE
theorem e5g:cF Txt 4 aV.oX aV.oF ["_law_hall","_law_deed"] 2 tf:=cK (λT=>T.sJ.fn) ["_law_hall","_law_deed"]
def Vg(n1:Nat):GT:=(du (gQ AA (gX (br atrs "readings" 1) 0) (gC .aI)) (eY (cZ (aM cHall "catches" (CA n1) 1 (bj 0)))))
def Vh(n1:Nat):GE:=0
def Pz(q:Nat):GS:=(cL (aG (cg q (bL false fD (aM cHall "in_order" (Bf q) 0 gN)) 0 Vg Vh 1 [0])))
def CT:=aR 1 1 Pz
theorem e5h:cF Txt 4 aV.oS aV.oz ["self"] 1 CT:=cK (λT=>T.sE.fn) ["self"]
def N6(q:Nat):GS:=(qG (cW (aM cHall "check_inside" (y_ q) 0 (bj 1))) (cO (cZ (aM cHall "catches" (CA q) 0 (bj 1))) (aG (gX (gX (br atrs "book" 0) (gX (br atrs "readings" 0) 1)) (gI 1)))) (aG (gX (gX (br atrs "built" 0) (gI 1)) (gI 0))))
def F2:=aR 2 2 N6
theorem d4r:cF Txt 4 aV.jA aV.jt ["self","bag"] 2 F2:=cK (λT=>T.nW.fn) ["self","bag"]
def vC(n1:Nat):GS:=(qG (av 8 false (ar (zh n1) (cy 1 (gX 6 (gI 0))))) (gh (gQ ux (bC bq (gX 6 (gI 1)) (gI 1)) (gX 8 (gI 1))) (cL (av 9 false (aX true (cy (gX 6 (gI 0)) (bC bq (gX 6 (gI 1)) (gI 1)))))) (cL (gh (du (cZ (gX 8 (gI 2))) (du (gQ H9 5 (gC .aI)) (gQ ux 7 (aM cHall "rounds" (CD n1) 0 gN)))) (cL (av 9 false (aX true (cy (gX 6 (gI 0)) (gI 0))))) (cL (av 9 false (ar (rW n1) (lu 1 8 (aM cHall "cart_of" (F2 n1) 0 (bj 4)) 2))))))) (cW (gf n1 "list" vH 3 (bj (aX true (cy 4 9))))))
def PB(q:Nat):GS:=(qH (av 1 false (aM cHall "house" (Ge q) 0 gN)) (av 2 false (ar (FY q) (bj 0))) (av 3 true (aX false gN)) (bN q (bL true fD (aM cHall "bags" (pY q) 0 gN)) (bD [4,5,6,7]) vC) (aG 3))
def Gv:=aR 1 10 PB
theorem e5i:cF Txt 5 aV.o8 aV.oM ["hall"] 1 Gv:=cK (λT=>T.sR.fn) ["hall","house","busy","told","bag","flight","place","gone","belt","goal"]
def F3(n1:Nat):GE:=(ar (rY n1) (dR 1 (gI 11) 0))
def F4(n1:Nat):GE:=(ar (rY n1) (dR 1 (gI 11) (bC bq (gI 10) 0)))
def qp(n1:Nat):GS:=(qH (av 5 false (bC eZ (ar (lJ n1) (dR 0 (bC bq (gI 1) 4) (gI 3))) (gI 0))) (av 6 false (bC bq (gI 1) (ar (j9 n1) (dR 0 (bC bq (gI 1) 4) (gI 5))))) (cO (du (gQ eZ 4 (gI 0)) (du (gQ ux (gO (o1 dD) (bj 1)) (gI 3)) (gQ eZ (ar (n9 n1) (dR 0 (gI 0) (gI 3))) (gI 1)))) (av 6 false (bC bq (gI 10) (ar (ic n1) (lu 0 (gI 0) (gI 3) (gI 14)))))) (cO (cZ 5) (av 6 false (bC bq 6 (gI 1)))) (cW (gf n1 "list" vH 3 (bj (aX true (lu (gX 1 4) 6 5 (ar (rB n1) (lu 0 4 1 2))))))))
def OW(q:Nat):GS:=(qH (av 1 false (cg q (jW nF (bj (bC bq (gI 1) (ar (lJ q) (dR 0 (gI 0) (gI 5)))))) 0 (λ_=>iR true) F3 1 [0])) (av 2 false (cg q (jW nF (bj (bC bq (gI 1) (ar (j9 q) (dR 0 (gI 0) (gI 4)))))) 0 (λ_=>iR true) F4 1 [0])) (av 3 true (aX false gN)) (bN q (jW nF (bj (gO (o1 dD) (bj 1)))) 4 qp) (aG (aX true (cy 3 2))))
def Bo:=aR 1 7 OW
theorem e1k:cF Txt 5 aV.mE aV.mf ["_law_script"] 1 Bo:=cK (λT=>T.rb.fn) ["_law_script","_law_names","_law_carts","_law_belts","_law_k","_law_ring","_law_long"]
def IT(q:Nat):GS:=(jI (cO (gQ eZ 1 (gI 6)) (aG (gC (.str "A")))) (aG (ar (rY q) (dR 0 (gX (aX false (dR (gI 11) (gI 12) (gI 13))) (ar (ic q) (lu 0 (gI 12) (gI 4) (gI 3)))) 1))))
def Bc:=aR 2 2 IT
theorem c2n:cF Txt 5 aV.eV aV.eQ ["_law_script","_law_n"] 2 Bc:=cK (λT=>T.jQ.fn) ["_law_script","_law_n"]
def Jd(q:Nat):GS:=(jI (cO (gQ eZ 1 (gI 12)) (aG (gC (.str "b1")))) (aG (ar (rY q) (dR 0 (gX (aX false (dR (gI 11) (gI 12) (gI 13))) (ar (ic q) (lu 0 (gI 13) (gI 4) (gI 3)))) 1))))
def Bg:=aR 2 2 Jd
theorem d1u:cF Txt 5 aV.iO aV.iG ["_law_script","_law_n"] 2 Bg:=cK (λT=>T.mZ.fn) ["_law_script","_law_n"]
def JS(q:Nat):GS:=(qG (av 2 false (gC (.bl true))) (tW (cL (cW (ar (tf q) (cy 0 1)))) [(wT jh,(cL (av 2 false (gC (.bl false)))))]) (aG 2))
def CU:=aR 2 3 JS
theorem e5j:cF Txt 5 aV.oZ aV.oH ["_law_hall","_law_deed"] 2 CU:=cK (λT=>T.sM.fn) ["_law_hall","_law_deed","_law_done_here"]
def PC(q:Nat):GS:=(dP (cW (ar (FT q) (bj 1))) (dP (eX q atrs "built" (ar (CQ q) (bj 1)) 0) (dP (eX q atrs "told_rounds" 2 0) (dP (eX q atrs "now" (gI 0) 0) (dP (eX q atrs "book" (jH r_) 0) (dP (eX q atrs "halts" (jH r_) 0) (qH (eX q atrs "places" (jH r_) 0) (eX q atrs "readings" (jH r_) 0) (eX q atrs "rounded" (jH r_) 0) (eX q atrs "gone" (jH (aX false gN)) 0) (eX q atrs "carted" (jH r_) 0))))))))
def CV:=aR 3 3 PC
theorem e5k:cF Txt 5 aV.kL aV.kG ["self","house","rounds"] 3 CV:=cK (λT=>T.sD) ["self","house","rounds"]
def CW(n1:Nat):GS:=(cL (gh (gQ nC 6 3) (cL (cW (gf n1 "list" vH 4 (bj (aX true (lu 6 8 8 (gX 3 6))))))) (jI (cW (gf n1 "list" vH 4 (bj (aX true (lu 6 8 (gX 2 6) (gC .aI)))))) (cW (gf n1 "list" vH 5 (bj (aX true (cy 6 (gX 2 6)))))))))
def RU(q:Nat):GS:=(dP (av 1 false (aM cHall "bags" (pY q) 0 gN)) (dP (av 2 false (gO (o1 qz) (bj (ar (Gv q) (bj 0))))) (dP (av 3 true r_) (dP (cW (ar (FJ q) (lu 1 2 (aM cHall "stopped" (Cz q) 0 gN) 3))) (dP (cW (ar (FG q) (dR 1 2 3))) (dP (cW (ar (FN q) (dR 1 2 3))) (qH (av 4 true (aX false gN)) (av 5 true (aX false gN)) (bN q (bL true fD 1) (bD [6,7,8,9]) CW) (cW (aM cHall "move" (Gs q) 0 (bj 5))) (aG 4))))))))
def xD:=aR 1 10 RU
theorem e8s:cF Txt 6 aV.tO aV.tI ["hall"] 1 xD:=cK (λT=>T.yW.fn) ["hall","bags","goals","whys","log","moves","bag","flight","place","gone"]
def F5(n1:Nat):GE:=(gX 0 (gI 0))
def s9(q:Nat):GS:=(dP (cO (gQ ux 3 (gI 3)) (aG (aX false (bj 10)))) (dP (cO (gQ eZ 3 (gI 3)) (aG (aX false (bj (aX true (dR (gC (.str "change")) 5 (ar (xr q) (cy 0 1)))))))) (dP (cO (gQ eZ 3 (gI 4)) (aG (aX false (bj (aX true (cy (gC (.str "off")) 5)))))) (qH (cO (gQ eZ 3 (gI 5)) (aG (aX false (cy (aX true (cy (gC (.str "off")) 5)) 10)))) (gh (gQ ux 3 (gI 11)) (jI (cO (gQ eZ (ar (j9 q) (dR 0 (bC bq 1 (gI 1)) (gI 3))) (gI 0)) (aG (aX false (bj (aX true (lu (gC (.str "put")) 6 (gC .aI) 8)))))) (aG (aX false (bj (aX true (lu (gC (.str "put")) 6 5 8)))))) o_) (cO (gQ eZ 3 (gI 11)) (aG (aX false (bj (aX true (dR (gC (.str "read")) 6 5)))))) (cO (gQ ux 3 (gI 14)) (aG (aX false (bj (aX true (cy (gX (aX false (cy (gC (.str "stop")) (gC (.str "start")))) (bC rD 3 (gI 12))) 8)))))) (aG (aX false (bj (aX true (cy (gC (.str "turn")) (bC bq (gI 1) (ar (n9 q) (dR 0 (bC bq 1 (gI 1)) (BP (gQ qGt (gX (gX (gX 2 (gI 0)) (gI 0)) (gI 1)) (gI 9)) (gI 12) (gI 4))))))))))))))
def JE(rest:GS)(q:Nat):GS:=(dP (av 3 false (ar (lJ q) (dR 0 1 (gI 20)))) (dP (av 4 false (ar (n9 q) (dR 0 1 (gI 10)))) (dP (av 5 false (ar (Bc q) (cy 0 (BP (gQ eZ 4 (gI 9)) (gI 6) (bC g9 4 (gI 3)))))) (dP (av 6 false (ar (Bg q) (cy 0 (ar (j9 q) (dR 0 1 (gI 13)))))) (dP (av 7 false (cg q (bL false fD (gX 2 (gI 0))) 0 (λ_=>iR true) F5 1 [])) (dP (av 8 false (gX (bC bq (bC bq 7 7) (zD (gX 2 (gI 1)) BH (BI (gI 1)))) (ar (n9 q) (dR 0 (bC bq 1 (gI 1)) (bC bq (bC g_ (gI 2) (gO (o1 dD) (bj 7))) (gI 1)))))) (dP (av 9 false (bC bq (gX 2 (gI 1)) (zD 7 BH (BI (gI 1))))) (dP (av 10 false (aX true (lu (gC (.str "flight")) 5 (gX 9 (ar (j9 q) (dR 0 (bC bq 1 (gI 1)) (gO (o1 dD) (bj 9))))) (ar (xr q) (cy 0 1))))) rest))))))))
def rA(q:Nat):GS:=(JE (s9 q) q)
def Bp:=aR 3 11 rA
theorem e1l:cF Txt 6 aV.mC aV.l_ ["_law_script","_law_k","_law_house_here"] 3 Bp:=cK (λT=>T.q_.fn) ["_law_script","_law_k","_law_house_here","_law_kind","_law_mark","_law_flight","_law_bag","_law_belts","_law_belt","_law_carts","_law_told"]
def FU(n1:Nat):GE:=(gX 0 (gI 1))
def Ja(n2:Nat):GT:=(du (gQ H9 (gX 0 (gI 3)) (gC .aI)) (gQ Mm (gX 0 (gI 2)) (gX 0 (gI 1))))
def Jb(n2:Nat):GE:=0
def ze(n1:Nat):GS:=(qH (av 6 false (aM cHall "bags" (pY n1) 0 gN)) (cO (gQ eZ (gO (o1 dD) (bj 6)) (gI 0)) (aG (gC (.bl true)))) (av 7 false (ar (xD n1) (bj 0))) (cO (gQ eZ (gO (o1 dD) (bj (cg n1 (bL false fD 7) 0 Ja Jb 1 []))) (gI 0)) (aG (gC (.bl false)))) (cO (gQ eZ (aM cHall "bags" (pY n1) 0 gN) 6) (aG (gC (.bl false)))))
def N7(q:Nat):GS:=(qH (av 2 false (gO (o1 dD) (bj (aM cHall "bags" (pY q) 0 gN)))) (av 3 false (gO (o1 (lY uA)) (bj (cg q (bL false fD (gX 1 (gI 0))) 0 (λ_=>iR true) FU 1 [])))) (av 4 false (bC g_ (bC g_ 2 (gO (o1 dD) (bj (gX 1 (gI 0))))) (bC bq (bC g_ (bC bq (aM cHall "rounds" (CD q) 0 gN) (gI 2)) 3) 2))) (bN q (jW nF (bj (bC bq 4 (gI 1)))) 5 ze) (aG (gC (.bl false))))
def Bk:=aR 2 8 N7
theorem d4t:cF Txt 7 aV.jE aV.jx ["_law_hall","_law_house_here"] 2 Bk:=cK (λT=>T.n4.fn) ["_law_hall","_law_house_here","_law_many","_law_cells","_law_most","_law_k","_law_rows","_law_log"]
def C5(n3:Nat):GS:=(cL (cW (ar (xD n3) (bj 2))))
def BB(n2:Nat):GS:=(cL (gh (gQ eZ (gX 4 (gI 0)) (gC (.str "turn"))) (cL (bN n2 (jW nF (bj (gX 4 (gI 1)))) 5 C5)) (cL (cW (ar (CU n2) (cy 2 4))))))
def BC(n1:Nat):GS:=(cL (bN n1 (bL true fD (ar (Bp n1) (dR 0 3 1))) 4 BB))
def BD(n1:Nat):GS:=(cL (cW (aM cHall "start" (zj n1) 2 (bj (gX 6 (gI 0))))))
def Sj(q:Nat):GS:=(qG (av 7 false (bC bq (gO (o1 dD) (bj (aM cHall "bags" (pY q) 2 gN))) (gO (o1 dD) (bj (aM cHall "out" (vI q) 2 gN))))) (cO (kT (eY (cZ (ar (Bk q) (cy 2 1)))) (gQ Mm (gO (o1 dD) (bj (aM cHall "out" (vI q) 2 gN))) 7)) (aG (gC (.bl false)))) (aG (tR (bC eZ (ar (xD q) (bj 2)) (aX false gN)) (tR (bC eZ (aM cHall "bags" (pY q) 2 gN) (aX false gN)) (tR (bC eZ (aM cHall "late" (CT q) 2 gN) (aX false gN)) (bC eZ (gO (o1 dD) (bj (aM cHall "out" (vI q) 2 gN))) 7))))))
def KJ(rest:GS)(q:Nat):GS:=(dP (av 1 false (ar (Bo q) (bj 0))) (dP (av 2 false (tU cHall (CV q) (cy 1 (ar (lJ q) (dR 0 (gI 14) (gI 3)))))) (dP (bN q (jW wB (dR (gI 15) (bC bq (gI 23) (bC g_ (gI 2) (ar (j9 q) (dR 0 (gI 14) (gI 20))))) (gI 2))) 3 BC) (dP (bN q (bL true fD (gX 1 (gI 0))) 6 BD) rest))))
def Ho(q:Nat):GS:=(KJ (Sj q) q)
def Dt:=aR 1 8 Ho
theorem e5m:cF Txt 8 aV.tN aV.tH ["_law_script"] 1 Dt:=cK (λT=>T.sQ.fn) ["_law_script","_law_house_here","_law_hall","_law_k","_law_deed","_law_count","_law_belt","_law_many"]
variable{i n:Nat}
abbrev Pr(M:Nat->GM)(vs:List Val)(r:Rv):Prop:=∀q S,M q vs S=some (.ok r S)
noncomputable abbrev aZ(ns:List Int):D:=.lst (ns.map D.int)
theorem qq0{α:Type _}{a:α}{l:List α}:(a::l)[0]?=some a:=rfl
theorem qq1{α:Type _}{a:α}{l:List α}:(a::l)[i+1]?=l[i]?:=rfl
theorem qq2{α:Type _}{a:α}{l:List α}:(a::l).length=l.length+1:=rfl
theorem qq3{α:Type _}:([]:List α).length=0:=rfl
theorem qq4{α:Type _}{x a:α}{l:List α}:(x::l).set 0 a=a::l:=rfl
theorem qq5{α:Type _}{x a:α}{l:List α}:(x::l).set (n+1) a=x::l.set n a:=rfl
theorem qq6{α β:Type _}{f:α->β}{a:α}{l:List α}:(a::l).map f=f a::l.map f:=rfl
theorem qq7{α β:Type _}{f:α->β}:([]:List α).map f=[]:=rfl
theorem qq8{α:Type _}{a:α}:List.replicate 0 a=[]:=rfl
theorem qq9{α:Type _}{a:α}:List.replicate (n+1) a=a::List.replicate n a:=rfl
theorem qqa{α:Type _}{a:α}{l:List α}:(a::l).take (i+1)=a::l.take i:=rfl
theorem qqb{α:Type _}{a:α}{l r:List α}:(a::l)++r=a::(l++r):=rfl
theorem qqc{α:Type _}(l:List α):[]++l=l:=rfl
theorem qqd{α:Type _}{l:List α}:l.take 0=[]:=rfl
theorem aK:(false=true)=False:=su
theorem qqf(n:Nat):0+n=n:=Nat.zero_add n
theorem Ws(ns:List Int)(k v:Int)(h1:(k<(ns.length:Int))=True)(h2:dQ (ns.map D.int) k=some (.int v)):Pr qt [.d (aZ ns),.d (.int k)] (rd (.int v)):=by
 intro q S;unfold qt JP;simp only[↓ev,bw,h1,decide_true,h2,fW]
theorem Wt(ns:List Int)(k:Int)(h1:(k<(ns.length:Int))=False):Pr qt [.d (aZ ns),.d (.int k)] (rd (.int 0)):=by
 intro q S;unfold qt JP;simp only[↓ev,bw,h1,decide_false,aK,fW]
theorem Ko(ns:List Int)(k:Nat):∃v,Pr qt [.d (aZ ns),.d (.int k)] (rd (.int v)):=by
 by_cases h:k<ns.length
 .exact⟨_,Ws ns k _ (bJ (by lia)) (vF (by rw[gP,jq h];rfl))⟩
 .exact⟨_,Wt ns k (eq_false (by lia))⟩
noncomputable abbrev Th:List D:=[.int 2,.int 128,.int 8192,.int 524288,.int 33554432]
theorem KN(ns:List Int)(k a bV c0 c d:Int)(h0:Pr qt [.d (aZ ns),.d (.int 0)] (rd (.int c0)))(hk:Pr qt [.d (aZ ns),.d (.int k)] (rd (.int c)))(e:(c0%2 == 1)=true)
  (ha:dQ Th a=some (.int d)) (d0:(0<d)=True) (d1:(d<1073741824)=True) (m0:(0<bV)=True):Pr ic [.d (aZ ns),.d (.int k),.d (.int a),.d (.int bV)] (rd (.int (c / d%64%bV))):=by
 intro q S;unfold ic JC;simp only[↓ev,hk,aO,h0,decide_true,aK,eS,e,ha,d0,d1,and_self,m0,fW]
theorem KO(ns:List Int)(k a bV c0 c:Int)(h0:Pr qt [.d (aZ ns),.d (.int 0)] (rd (.int c0)))(hk:Pr qt [.d (aZ ns),.d (.int k)] (rd (.int c)))(e:(c0%2 == 1)=false)
  (k0:0<=k) (k1:k<1000) (a0:0<=a) (a1:a<1000) (m0:(0<bV)=True):∃v,Pr ic [.d (aZ ns),.d (.int k),.d (.int a),.d (.int bV)] (rd (.int (v%bV))):=by
 have mk:((-(2^64)<k/\k<2^64 \/ -(2^64)<k/\k<2^64)=True):=bJ (.inl ⟨by lia,by lia⟩)
 have m1:∀x:Int,(((-(2^64):Int)<1009/\(1009:Int)<2^64 \/ -(2^64)<x/\x<2^64)=True):=λx=>bJ (.inl ⟨by decide,by decide⟩)
 have m2:∀x:Int,((-(2^64)<x/\x<2^64\/(-(2^64):Int)<48271/\(48271:Int)<2^64)=True):=λx=>bJ (.inr ⟨by decide,by decide⟩)
 have m3:∀x:Int,(((-(2^64):Int)<5/\(5:Int)<2^64 \/ -(2^64)<x/\x<2^64)=True):=λx=>bJ (.inl ⟨by decide,by decide⟩)
 have m4:∀x:Int,(((-(2^64):Int)<2/\(2:Int)<2^64 \/ -(2^64)<x/\x<2^64)=True):=λx=>bJ (.inl ⟨by decide,by decide⟩)
 have m5:∀x:Int,((-(2^64)<x/\x<2^64\/(-(2^64):Int)<69621+2*a/\69621+2*a<2^64)=True):=λx=>bJ (.inr ⟨by lia,by lia⟩)
 refine⟨((c%1000003+k*k+1009*a+7)*48271%999983+5*k+a)*(69621+2*a)%1000033,?_⟩;intro q S;unfold ic JC;simp only[↓ev,hk,aO,h0,decide_true,aK,eS,e,mk,m1,m2,m3,m4,m5,m0,fW]
def bu(ns:List Int)(k a:Nat)(bV:Int):Int:=match ic 0 [.d (aZ ns),.d (.int k),.d (.int a),.d (.int bV)] ⟨[],[]⟩ with
 |some (.ok (.v (.d (.int v))) _)=>v
 |_=>0
theorem e8t:∀a:Nat,a<5->∃d:Int,dQ Th (a:Int)=some (.int d)/\0<d/\d<1073741824
 |0,_=>⟨2,rfl,by decide,by decide⟩
 |1,_=>⟨128,rfl,by decide,by decide⟩
 |2,_=>⟨8192,rfl,by decide,by decide⟩
 |3,_=>⟨524288,rfl,by decide,by decide⟩
 |4,_=>⟨33554432,rfl,by decide,by decide⟩
 |n+5,h=>cC h (by lia)
theorem g7(ns:List Int)(k a:Nat)(bV:Int)(hk:k<1000)(ha:a<5)(m0:0<bV):Pr ic [.d (aZ ns),.d (.int k),.d (.int a),.d (.int bV)] (rd (.int (bu ns k a bV)))/\0<=bu ns k a bV/\bu ns k a bV<bV:=by
 obtain⟨c0,h0⟩:=Ko ns 0;obtain⟨c,h1⟩:=Ko ns k;obtain⟨v,e⟩:∃v,Pr ic [.d (aZ ns),.d (.int k),.d (.int a),.d (.int bV)] (rd (.int (v%bV))):=by
  cases e:(c0%2 == 1) with
  |true=>
   obtain⟨d,d1,d2,d3⟩:=e8t a ha;exact⟨_,KN ns k a bV c0 c d h0 h1 e d1 (bJ d2) (bJ d3) (bJ m0)⟩
  |false=>exact KO ns k a bV c0 c h0 h1 e (by lia) (by lia) (by lia) (by lia) (bJ m0)
 have z:bu ns k a bV=v%bV:=by unfold bu;rw[e]
 rw[z];exact⟨e,Int.emod_nonneg _ (by lia),Int.emod_lt_of_pos _ m0⟩
theorem zF(ns:List Int)(k:Nat)(bV:Int)(hk:k<1000)(m0:0<bV):Pr lJ [.d (aZ ns),.d (.int k),.d (.int bV)] (rd (.int (bu ns k 0 bV))):=by
 have h:=(g7 ns k 0 bV hk (by decide) m0).1
 have h:Pr ic [.d (aZ ns),.d (.int k),.d (.int 0),.d (.int bV)] _:=h;intro q S;unfold lJ Pu;simp only[↓ev,h,fW]
theorem xw(ns:List Int)(k:Nat)(bV:Int)(hk:k<1000)(m0:0<bV):Pr j9 [.d (aZ ns),.d (.int k),.d (.int bV)] (rd (.int (bu ns k 1 bV))):=by
 have h:=(g7 ns k 1 bV hk (by decide) m0).1
 have h:Pr ic [.d (aZ ns),.d (.int k),.d (.int 1),.d (.int bV)] _:=h;intro q S;unfold j9 OT;simp only[↓ev,h,fW]
theorem zv(ns:List Int)(k:Nat)(bV:Int)(hk:k<1000)(m0:0<bV):Pr n9 [.d (aZ ns),.d (.int k),.d (.int bV)] (rd (.int (bu ns k 2 bV))):=by
 have h:=(g7 ns k 2 bV hk (by decide) m0).1
 have h:Pr ic [.d (aZ ns),.d (.int k),.d (.int 2),.d (.int bV)] _:=h;intro q S;unfold n9 OU;simp only[↓ev,h,fW]
variable{i:Nat}
abbrev Gn:Str:="abcdefghijklmnopqrstuvwxyz"
abbrev ig:List Nat:=Gn.cps.toList
theorem Ai:ig.length=26:=by decide +kernel
theorem QH:(Gn.length<=1000000)=True:=bJ (by decide +kernel)
theorem e5n:ig.Nodup:=by decide +kernel
theorem zA(k:Int)(h0:0<=k)(h1:k<26):dQ ig k=some (ig.getD k.toNat 0):=W5 0 h0 (by rw[Ai];exact h1)
theorem Eo:∀i:Nat,i<26->∀n:Nat,n<9->MulOk ⟨#[ig.getD i 0]⟩ (n:Int):=by decide +kernel
theorem Ep:∀i:Nat,i<26->∀n:Nat,n<9->Txt.mul ⟨#[ig.getD i 0]⟩ (n:Int)=⟨(List.replicate n (ig.getD i 0)).toArray⟩:=by decide +kernel
theorem Ap(i:Nat)(hi:i<26)(n:Nat)(hn:n<9):MulOk ⟨#[ig.getD i 0]⟩ (n:Int)/\Txt.mul ⟨#[ig.getD i 0]⟩ (n:Int)=⟨(List.replicate n (ig.getD i 0)).toArray⟩:=⟨Eo i hi n hn,Ep i hi n hn⟩
theorem QI(a b:List Nat):(⟨a.toArray⟩:Str)++(⟨b.toArray⟩:Str)=⟨(a++b).toArray⟩:=by
 show(⟨a.toArray++b.toArray⟩:Str)=_
 simp_all
theorem Er(ns:List Int)(q n b m:Int)(c:Nat)(z:Str)(hp:Pr lJ [.d (aZ ns),.d (.int q),.d (.int 26)] (rd (.int b)))(ho:Pr j9 [.d (aZ ns),.d (.int q),.d (.int 3)] (rd (.int 0)))
  (vb:dQ ig ((b+n / 8)%26)=some c) (em:1+n%8=m) (hm:MulOk ⟨#[c]⟩ m=True) (hz:Txt.mul ⟨#[c]⟩ m=z):Pr rY [.d (aZ ns),.d (.int q),.d (.int n)] (rd (.str z)):=by
 intro q' S;unfold rY JR;simp only[↓ev,aO,hp,ho,aK,eS,fY,and_self,decide_true,QH,vb,em,hm,hz,fW]
theorem Es(ns:List Int)(q n b v t sp r:Int)(cr cc:Nat)(z1 z2 z3 z4:Str)(hp:Pr lJ [.d (aZ ns),.d (.int q),.d (.int 26)] (rd (.int b)))(ho:Pr j9 [.d (aZ ns),.d (.int q),.d (.int 3)] (rd (.int v)))(hv:(v == 0)=false)
  (ht:Pr n9 [.d (aZ ns),.d (.int q),.d (.int 8)] (rd (.int t))) (hs:Pr j9 [.d (aZ ns),.d (.int q),.d (.int (1+t))] (rd (.int sp))) (hr:Pr ic [.d (aZ ns),.d (.int q),.d (.int 3),.d (.int 26)] (rd (.int r)))
  (Lf:dQ ig r=some cr) (hac:dQ ig ((7*n+b)%26)=some cc) (h7:((-(2^64):Int)<7/\(7:Int)<2^64 \/ -(2^64)<n/\n<2^64)=True) (m1:MulOk ⟨#[cr]⟩ sp=True) (e1:Txt.mul ⟨#[cr]⟩ sp=z1) (m2:MulOk ⟨#[cr]⟩ (1+t - 1 - sp)=True) (e2:Txt.mul ⟨#[cr]⟩ (1+t - 1 - sp)=z2)
  (l1:(z1.length+(⟨#[cc]⟩:Str).length<=1000000)=True) (e3:z1++(⟨#[cc]⟩:Str)=z3) (l2:(z3.length+z2.length<=1000000)=True) (e4:z3++z2=z4):Pr rY [.d (aZ ns),.d (.int q),.d (.int n)] (rd (.str z4)):=by
 intro q' S;unfold rY JR;simp only[↓ev,aO,hp,ho,aK,eS,hv,ht,hs,hr,QH,Lf,m1,e1,h7,decide_true,hac,l1,e3,m2,e2,l2,e4,fW]
def vg(ns:List Int)(q n:Nat):List Nat:=if bu ns q 1 3=0 then List.replicate (1+n%8) (ig.getD (((bu ns q 0 26).toNat+n / 8)%26) 0)
 else List.replicate (bu ns q 1 (1+bu ns q 2 8)).toNat (ig.getD (bu ns q 3 26).toNat 0)++ig.getD ((7*n+(bu ns q 0 26).toNat)%26) 0::List.replicate ((bu ns q 2 8).toNat - (bu ns q 1 (1+bu ns q 2 8)).toNat) (ig.getD (bu ns q 3 26).toNat 0)
def jL(ns:List Int)(q n:Nat):Str:=⟨(vg ns q n).toArray⟩
theorem vJ(l:List Nat):(⟨l.toArray⟩:Str).length=l.length:=by show l.toArray.size=_;simp
theorem Hf(ns:List Int)(q:Nat)(hq:q<1000)(n:Nat)(hn:n<20):Pr rY [.d (aZ ns),.d (.int q),.d (.int n)] (rd (.str (jL ns q n))):=by
 obtain⟨p1,p2,p3⟩:=g7 ns q 0 26 hq (by decide) (by decide)
 obtain⟨o1,o2,o3⟩:=g7 ns q 1 3 hq (by decide) (by decide)
 obtain⟨t1,t2,t3⟩:=g7 ns q 2 8 hq (by decide) (by decide)
 obtain⟨r1,r2,r3⟩:=g7 ns q 3 26 hq (by decide) (by decide)
 obtain⟨s1,s2,s3⟩:=g7 ns q 1 (1+bu ns q 2 8) hq (by decide) (by lia)
 have hp:=zF ns q 26 hq (by decide)
 have ho:=xw ns q 3 hq (by decide)
 have ht:=zv ns q 8 hq (by decide)
 have hs:=xw ns q (1+bu ns q 2 8) hq (by lia)
 unfold jL vg;split
 .rename_i h
  rw[h] at ho;have ei:(((bu ns q 0 26).toNat+n / 8)%26:Nat)=((bu ns q 0 26+(n:Int) / 8)%26).toNat:=by lia
  rw[ei];obtain⟨q1,q2⟩:=Ap ((bu ns q 0 26+(n:Int) / 8)%26).toNat (by lia) (1+n%8) (by lia)
  exact Er ns q n _ ((1+n%8:Nat):Int) _ _ hp ho (zA _ (by lia) (by lia)) (by lia) (bJ q1) q2
 .rename_i h
  have ei:((7*n+(bu ns q 0 26).toNat)%26:Nat)=((7*(n:Int)+bu ns q 0 26)%26).toNat:=by lia
  rw[ei];obtain⟨q1,q2⟩:=Ap (bu ns q 3 26).toNat (by lia) (bu ns q 1 (1+bu ns q 2 8)).toNat (by lia)
  obtain⟨q3,q4⟩:=Ap (bu ns q 3 26).toNat (by lia) ((bu ns q 2 8).toNat - (bu ns q 1 (1+bu ns q 2 8)).toNat) (by lia)
  rw[show(((bu ns q 1 (1+bu ns q 2 8)).toNat:Nat):Int)=bu ns q 1 (1+bu ns q 2 8) by lia] at q1 q2
  rw[show(((bu ns q 2 8).toNat - (bu ns q 1 (1+bu ns q 2 8)).toNat:Nat):Int)=1+bu ns q 2 8 - 1 - bu ns q 1 (1+bu ns q 2 8) by lia] at q3 q4
  refine Es ns q n _ _ _ _ _ _ _ _ _ (⟨(List.replicate (bu ns q 1 (1+bu ns q 2 8)).toNat (ig.getD (bu ns q 3 26).toNat 0)++[ig.getD ((7*(n:Int)+bu ns q 0 26)%26).toNat 0]).toArray⟩:Str) _ hp ho (by simpa using h) ht hs r1 (zA _ r2 r3) (zA _ (by lia) (by lia)) (bJ (.inl ⟨by decide,by decide⟩)) (bJ q1) q2 (bJ q3) q4 (bJ ?_) ?_ (bJ ?_) ?_
  .rw[vJ,qW];show _+1<=_;lia
  .exact QI _ [_]
  .rw[vJ,vJ,dy,qW,qW];simp only[qq2,qq3];lia
  .rw[QI,nK];rfl
theorem Gw{l:List Nat}(h:i<l.length):l.getD i 0∈l:=by
 simp_all
theorem PD(ns:List Int)(q:Nat)(hq:q<1000)(n:Nat):∀c∈vg ns q n,c∈ig:=by
 obtain⟨r1,r2,r3⟩:=g7 ns q 3 26 hq (by decide) (by decide)
 intro c hc;unfold vg at hc;split at hc
 .rw[List.eq_of_mem_replicate hc];exact Gw (by rw[Ai];lia)
 .rw[dN,y0a] at hc;rcases hc with hc|hc|hc
  .rw[List.eq_of_mem_replicate hc];exact Gw (by rw[Ai];lia)
  .rw[hc];exact Gw (by rw[Ai];lia)
  .rw[List.eq_of_mem_replicate hc];exact Gw (by rw[Ai];lia)
theorem BK(ns:List Int)(q:Nat)(hq:q<1000)(n:Nat):1<=(vg ns q n).length/\(vg ns q n).length<=8:=by
 obtain⟨t1,t2,t3⟩:=g7 ns q 2 8 hq (by decide) (by decide)
 obtain⟨s1,s2,s3⟩:=g7 ns q 1 (1+bu ns q 2 8) hq (by decide) (by lia)
 unfold vg;split
 .rw[qW];lia
 .rw[dy,lS,qW,qW];lia
theorem PF{j:Nat}(hi:i<26)(hj:j<26)(e:ig.getD i 0=ig.getD j 0):i=j:=by
 have h1:i<ig.length:=by rw[Ai];exact hi
 have h2:j<ig.length:=by rw[Ai];exact hj
 rw[Cb,jq h1,Cb,jq h2] at e;exact(Fp e5n).mp e
theorem RV(ns:List Int)(q:Nat)(hq:q<1000)(n m:Nat)(hn:n<20)(hm:m<20)(e:jL ns q n=jL ns q m):n=m:=by
 obtain⟨p1,p2,p3⟩:=g7 ns q 0 26 hq (by decide) (by decide)
 have e:vg ns q n=vg ns q m:=by
  have:=congrArg Str.cps e;simpa[jL] using this
 unfold vg at e;split at e
 .have l:=congrArg List.length e;rw[qW,qW] at l;have z:ig.getD (((bu ns q 0 26).toNat+n / 8)%26) 0=ig.getD (((bu ns q 0 26).toNat+m / 8)%26) 0:=by
   simp_all
  have:=PF (by lia) (by lia) z
  lia
 .have e:=List.append_cancel_left e;rw[List.cons.injEq] at e;have:=PF (by lia) (by lia) e.1
  lia
theorem d8x:∀c∈ig,(Builtin.Str.occurrences Gn ⟨#[c]⟩ 0 Gn.length 1).isEmpty=false:=by decide +kernel
theorem e5o(c:Nat)(h:c∈ig):(Builtin.Str.occurrences (Str.ofString "abcdefghijklmnopqrstuvwxyz") (jV c) 0 (Str.ofString "abcdefghijklmnopqrstuvwxyz").length 1).isEmpty=false:=d8x c h
theorem PH:∀n:Nat,(List.replicate n true).all id=true
 |0=>rfl
 |n+1=>by rw[List.replicate_succ,qj,PH n];rfl
theorem JF:∀bs:List Bool,hV (bs.map D.bl)=some bs
 |[]=>rfl
 |b::bs=>by rw[cq];unfold hV;rw[JF bs];rfl
theorem OX(l:List Nat)(h1:1<=l.length)(h2:l.length<=8)(hc:∀c∈l,c∈ig):Pr pX [.d (.str ⟨l.toArray⟩)] (rd (.bl true)):=by
 have e:∀q S,bB (af 0) (iR true) (F0 q) (l.map λc=>.str (jV c)) [none] S []=some (.ok ((List.replicate l.length true).map D.bl) S):=λq S=>by
  rw[uX (λ_=>D.bl true) l (by lia) λc m=>⟨rd (.bl true),by
   have h:=e5o c (hc c m);unfold F0;simp only[↓ev,aK,h,mQ],rfl⟩,List.map_replicate,List.map_const']
 have c1:(1<=((⟨l.toArray⟩:Str).length:Int))=True:=bJ (by rw[vJ];lia)
 have c2:(((⟨l.toArray⟩:Str).length:Int)<=8)=True:=bJ (by rw[vJ];lia)
 have c3:((⟨l.toArray⟩:Str).length<=1000000)=True:=bJ (by rw[vJ];lia)
 intro q S;unfold pX CJ;simp only[↓ev,HR,aK,c3,c1,decide_true,c2,e,JF,PH,fW]
abbrev P0(M:Nat->GM)(vs:List Val)(r:Rv):Prop:=∀S,M 0 vs S=some (.ok r S)
noncomputable abbrev dS(xs:List Str):List D:=xs.map D.str
theorem j_(x:Str):∀xs:List Str,((dS xs).any λz=>aQ z (.str x))=xs.contains x
 |[]=>rfl
 |y::r=>by
  rw[dS,cq,List.any_cons,<-dS,j_ x r,List.contains_cons,hZ]
  congr 1
  exact BEq.comm
theorem ky(n:Nat)(xs:List Str):(dS xs).all (c7 n)=true:=by
 rw[pK];intro d hd;obtain⟨y,_,rfl⟩:=fB.mp hd;cases n <;> rfl
theorem QJ(xs:List Str)(i:Nat)(y:Str):(dS xs).take i++.str y::(dS xs).drop i=dS (nt xs i y):=by
 unfold nt;simp only[dS,eK,qq6,Np,Ir]
noncomputable abbrev bS(S:aN)(xs:List D):aN:=⟨S.s++[.o (.lst xs)],S.r⟩
section
variable{S:aN}{ns:List Int}{k j sp d ll:Int}{s2 s3 s4:ak Val}{yE:List D}{outs:List Str}{y:Str}{a9:ak Val}
theorem e8u(hl:(yE.length:Int)=ll)(hd:Pr ic [.d (aZ ns),.d (.int (6+k)),.d (.int (1+j)),.d (.int ll)] (rd (.int d)))(ha:dQ yE d=some (.str y))(hc:outs.contains y=true):
  vB 0 [some (.d (aZ ns)),some (.d (.int k)),s2,s3,s4,some (.d (.lst yE)),some (.c S.s.length),some (.d (.int sp)),some (.d (.int j)),a9] (bS S (dS outs))=some (.nx [some (.d (aZ ns)),some (.d (.int k)),s2,s3,s4,some (.d (.lst yE)),some (.c S.s.length),some (.d (.int sp)),some (.d (.int j)),some (.d (.str y))] (bS S (dS outs))):=by
 unfold vB;simp only[↓ev,hl,hd,ha,aO,eM,ky,j_,hc,lC,aK]
abbrev W3:List D:=[.int 1,.int 4,.int 16]
theorem e5p{w ol p:Int}{o2:List Str}(hl:(yE.length:Int)=ll)(hd:Pr ic [.d (aZ ns),.d (.int (6+k)),.d (.int (1+j)),.d (.int ll)] (rd (.int d)))(ha:dQ yE d=some (.str y))(hc:outs.contains y=false)
  (hw:dQ W3 j=some (.int w)) (w0:(0<w)=True) (w1:(w<1073741824)=True) (el:((dS outs).length:Int)=ol) (o0:(0<ol+1)=True) (hp:sp / w%4%(ol+1)=p) (p0:(0<=p)=True) (p1:(p<2^62)=True) (p2:((dS outs).length<1000000)=True) (h2:(dS outs).take p.toNat++.str y::(dS outs).drop p.toNat=dS o2) :
  vB 0 [some (.d (aZ ns)),some (.d (.int k)),s2,s3,s4,some (.d (.lst yE)),some (.c S.s.length),some (.d (.int sp)),some (.d (.int j)),a9] (bS S (dS outs))=some (.nx [some (.d (aZ ns)),some (.d (.int k)),s2,s3,s4,some (.d (.lst yE)),some (.c S.s.length),some (.d (.int sp)),some (.d (.int j)),some (.d (.str y))] (bS S (dS o2))):=by
 unfold vB;simp only[↓ev,hl,hd,ha,aO,eM,ky,j_,hc,mQ,aK,hw,w0,w1,and_self,decide_true,el,o0,hp,p0,p1,p2,h2,k9]
end
theorem PL(ds:List D)(n:Nat):cutD ds (some (n:Int)) none=ds.drop n:=by
 unfold cutD;have e:HT.cG ds.length 0 (some (n:Int))=min n ds.length:=by
  unfold HT.cG;simp;lia
 have e2:HT.cG ds.length ds.length none=ds.length:=rfl;rw[e,e2];by_cases h:n<=ds.length
 .rw[Nat.min_eq_left h];exact AY (by rw[B7];exact bP _)
 .rw[Nat.min_eq_right (by lia),List.drop_eq_nil_of_le (bP _),List.drop_eq_nil_of_le (by lia),List.take_nil]
theorem Wu(xs:List Str)(k:Nat)(y:Str):(nt xs k y).Perm (y::xs):=by
 unfold nt;refine(List.perm_middle (l₁:=xs.take k) (l₂:=xs.drop k)).trans ?_;rw[List.take_append_drop]
theorem QK{xs:List Str}{k:Nat}{y:Str}(h:xs.Nodup)(hy:y∉xs):(nt xs k y).Nodup:=(Wu xs k y).nodup_iff.mpr (sj.mpr ⟨hy,h⟩)
structure pV (later carts:List Str) (hd:Str) (outs:List Str):Prop where
 nd:outs.Nodup
 sub:∀o∈outs,o∈later++carts
 ne:outs≠[]
 hand:hd∈outs\/∃o∈outs,o∈later
 len:outs.length<=4
theorem GY{xs:List Str}{k:Int}(h0:0<=k)(h1:k<xs.length):dQ (dS xs) k=some (.str (xs.getD k.toNat "")):=by
 have Ln:k.toNat<xs.length:=by lia
 have e:(dS xs)[k.toNat]?=some (.str (xs.getD k.toNat "")):=by simp[Ln]
 have z:=vF e
 rwa[show((k.toNat:Nat):Int)=k by lia] at z
theorem Wv{xs:List Str}{i:Nat}(h:i<xs.length):xs.getD i ""∈xs:=by
 simp_all
theorem e8v:∀j:Nat,j<3->∃d:Int,dQ W3 (j:Int)=some (.int d)/\0<d/\d<1073741824
 |0,_=>⟨1,rfl,by decide,by decide⟩
 |1,_=>⟨4,rfl,by decide,by decide⟩
 |2,_=>⟨16,rfl,by decide,by decide⟩
 |n+3,h=>cC h (by lia)
abbrev pd(S:aN)(ns:List Int)(k sp:Int)(s2:ak Val)(carts later:List Str)(a8 a9:ak Val):Gm:=[some (.d (aZ ns)),some (.d (.int k)),s2,some (.d (.lst (dS carts))),some (.d (.lst (dS later))),some (.d (.lst (dS (later++carts)))),some (.c S.s.length),some (.d (.int sp)),a8,a9]
theorem d8y(ns:List Int)(k j:Nat)(sp:Int)(s2:ak Val)(carts later outs:List Str)(a9:ak Val)(hk:k<5)(hj:j<3)(sl:0<(later++carts).length)(Ia:(later++carts).length<=100)(nd:outs.Nodup)(sb:∀o∈outs,o∈later++carts)(ol:outs.length<=j):
  ∃o2 y,o2.Nodup/\(∀o∈o2,o∈later++carts)/\o2.length<=j+1/\o2≠[]/\∀S,vB 0 (pd S ns k sp s2 carts later (some (.d (.int j))) a9) (bS S (dS outs))=some (.nx (pd S ns k sp s2 carts later (some (.d (.int j))) (some (.d (.str y)))) (bS S (dS o2))):=by
 obtain⟨d1,d2,d3⟩:=g7 ns (6+k) (1+j) ((later++carts).length:Int) (by lia) (by lia) (by lia)
 rw[show((6+k:Nat):Int)=6+(k:Int) by lia,show((1+j:Nat):Int)=1+(j:Int) by lia] at d1
 have ha:=GY (xs:=later++carts) d2 d3;have hm:(later++carts).getD (bu ns (6+k) (1+j) ((later++carts).length:Int)).toNat ""∈later++carts:=Wv (by lia)
 generalize(later++carts).getD (bu ns (6+k) (1+j) ((later++carts).length:Int)).toNat ""=y at ha hm;have hl:((dS (later++carts)).length:Int)=((later++carts).length:Int):=by rw[bw]
 cases hc:outs.contains y with
 |true=>
  refine⟨outs,y,nd,sb,by lia,λz=>?_,λS=>e8u hl d1 ha hc⟩
  rw[z] at hc;cases hc
 |false=>
  obtain⟨w,w1,w2,w3⟩:=e8v j hj;have o0:(0:Int)<(outs.length:Int)+1:=by lia
  have el:((dS outs).length:Int)=(outs.length:Int):=by rw[bw]
  have p0:0<=sp / w%4%((outs.length:Int)+1):=Int.emod_nonneg _ (by lia)
  have p1:sp / w%4%((outs.length:Int)+1)<(outs.length:Int)+1:=Int.emod_lt_of_pos _ o0;have hy:y∉outs:=by simpa using hc
  refine⟨_,y,QK (k:=(sp / w%4%((outs.length:Int)+1)).toNat) nd hy,λo ho=>?_,by rw[Gq];lia,λz=>?_,λS=>e5p hl d1 ha hc w1 (bJ w2) (bJ w3) el (bJ o0) rfl (bJ p0) (bJ (by lia)) (bJ (by rw[bw];lia)) (QJ _ _ _)⟩
  .rcases k8.mp ho with z|z
   .rw[z];exact hm
   .exact sb o z
  grind [Gq]
theorem Om(q:Nat)(S:aN)(outs later:List Str)(h:outs.length<=1000):bB (af 0) (Jr q) (Js q) (dS outs) [none,some (.d (.lst (dS later)))] S []=some (.ok (dS (outs.filter λo=>later.contains o)) S):=by
 rw[dS,xJ (λo=>if later.contains o=true then some (.str o) else none) outs (by lia) λo m=>by
  unfold Jr Js;cases hc:later.contains o with
  |true=>exact .inr ⟨rd (.str o),.str o,rfl,by simp only[↓ev,ky,aK,j_,hc],by simp only[↓ev],rfl⟩
  |false=>exact .inl ⟨rfl,by simp only[↓ev,ky,aK,j_,hc]⟩]
 congr 2
 induction outs with
 |nil=>rfl
 |cons o r ih=>
  grind
section
variable{S:aN}{ns:List Int}{k sp r:Int}{later carts o1 outs:List Str}{names:List D}{hand:Str}{a8 a9:ak Val}
structure vy (S:aN) (ns:List Int) (k sp r:Int) (later carts o1:List Str) (names:List D) (hand:Str) (a8 a9:ak Val):Prop where
 c1:cutD names (some (k+1)) none=dS later
 c2:((dS later).length+(dS carts).length<=1000000)=True
 ht:Pr n9 [.d (aZ ns),.d (.int (1+k)),.d (.int 64)] (rd (.int sp))
 hp:Pr lJ [.d (aZ ns),.d (.int (6+k)),.d (.int 3)] (rd (.int r))
 hi:Nat.ble (1+r).natAbs 1000000000000=true
 ap:dS later++dS carts=dS (later++carts)
 hl:aH (af 8) (vB 0) (gm 0 (1+r).toNat) (pd S ns k sp (some (.d (.lst names))) carts later none none) (bS S [])=some (.nx (pd S ns k sp (some (.d (.lst names))) carts later a8 a9) (bS S (dS o1)))
 vb:dQ (dS carts) 0=some (.str hand)
theorem d8z(h:vy S ns k sp r later carts o1 names hand a8 a9)(hc:o1.contains hand=true):rB 0 [.d (aZ ns),.d (.int k),.d (.lst names),.d (.lst (dS carts))] S=some (.ok (.o (.lst (dS o1))) S):=by
 obtain⟨c1,c2,ht,hp,hi,ap,hl,vb⟩:=h;unfold rB Gu;simp only[↓ev,c1,aO,c2,ap,aK,ht,hp,hi,i6,hl,pd,bS,vb,eM,ky,j_,hc,lC,Am,uY]
theorem d9a(h:vy S ns k sp r later carts o1 names hand a8 a9)(hc:o1.contains hand=false)(hlen:o1.length<=1000){n:Int}(hn:((dS (o1.filter λo=>later.contains o)).length:Int)=n)(hz:(n == 0)=false):rB 0 [.d (aZ ns),.d (.int k),.d (.lst names),.d (.lst (dS carts))] S=some (.ok (.o (.lst (dS o1))) S):=by
 obtain⟨c1,c2,ht,hp,hi,ap,hl,vb⟩:=h;have e:=λq S=>Om q S o1 later hlen
 unfold rB Gu;simp only[↓ev,c1,aO,c2,ap,aK,ht,hp,hi,i6,hl,pd,bS,vb,eM,ky,j_,hc,mQ,e,hn,eS,hz,Am,uY]
theorem Ye(h:vy S ns k sp r later carts o1 names hand a8 a9)(hc:o1.contains hand=false)(hlen:o1.length<=1000)(hn:((dS (o1.filter λo=>later.contains o)).length:Int)=0){d ol:Int}(el:((dS o1).length:Int)=ol)(hd:Pr ic [.d (aZ ns),.d (.int (1+k)),.d (.int 3),.d (.int (ol+1))] (rd (.int d)))
  (p0:(0<=d)=True) (p1:(d<2^62)=True) (p2:((dS o1).length<1000000)=True) (h2:(dS o1).take d.toNat++.str hand::(dS o1).drop d.toNat=dS outs):rB 0 [.d (aZ ns),.d (.int k),.d (.lst names),.d (.lst (dS carts))] S=some (.ok (.o (.lst (dS outs))) S):=by
 obtain⟨c1,c2,ht,hp,hi,ap,hl,vb⟩:=h;have e:=λq S=>Om q S o1 later hlen
 unfold rB Gu;simp only[↓ev,c1,aO,c2,ap,aK,ht,hp,hi,i6,hl,pd,bS,vb,eM,ky,j_,hc,mQ,e,hn,eS,fY,el,hd,p0,p1,p2,and_self,h2,k9,Am,uY]
end
theorem JT{n i:Nat}{d r:List Nat}(e:List.range n=d++i::r):d.length=i/\i<n:=by
 have h2:d.length<n:=by have:=congrArg List.length e;simp at this;lia
 have h1:=congrArg (λl=>l[d.length]?) e
 simp only[vk (bP _),Nd,qq0] at h1;rw[A1 h2] at h1;have:=Option.some.inj h1;exact⟨this,this ▸ h2⟩
theorem rR(n:Nat):gm 0 n=(List.range n).map λ(i:Nat)=>D.int (i:Int):=by
 unfold gm;simp only[Int.zero_add]
theorem e5q(ns:List Int)(k:Nat)(names carts:List Str)(hand:Str)(hk:k<5)(hl:names.length<=5)(hh:carts.head?=some hand)(hc:carts.length<=4):
  ∃outs,pV (names.drop (k+1)) carts hand outs/\∀S,rB 0 [.d (aZ ns),.d (.int k),.d (.lst (dS names)),.d (.lst (dS carts))] S=some (.ok (.o (.lst (dS outs))) S):=by
 have hc0:0<carts.length:=by cases carts with|nil=>cases hh|cons a b=>simp
 obtain⟨r1,r2,r3⟩:=g7 ns (6+k) 0 3 (by lia) (by decide) (by decide)
 have hp:=zF ns (6+k) 3 (by lia) (by decide)
 have ht:=zv ns (1+k) 64 (by lia) (by decide)
 rw[show((6+k:Nat):Int)=6+(k:Int) by lia] at hp
 rw[show((1+k:Nat):Int)=1+(k:Int) by lia] at ht
 have sl:0<(names.drop (k+1)++carts).length:=by rw[dy];lia
 have Ia:(names.drop (k+1)++carts).length<=100:=by rw[dy,B7];lia
 obtain⟨⟨o1,a8,a9⟩,⟨nd,sb,ol,one⟩,e1⟩:=RQ (gg:=af 8) (body:=vB 0) (f:=λ(i:Nat)=>D.int (i:Int)) (λ(b:List Str×ak Val×ak Val) S=>(pd S ns k (bu ns (1+k) 2 64) (some (.d (.lst (dS names)))) carts (names.drop (k+1)) b.2.1 b.2.2,bS S (dS b.1)))
  (λpre b=>b.1.Nodup/\(∀o∈b.1,o∈names.drop (k+1)++carts)/\b.1.length<=pre.length/\(pre≠[]->b.1≠[])) (List.range (1+bu ns (6+k) 0 3).toNat) ([],none,none)
  ⟨Ip,λo m=>(by cases m),bP _,λz=>cC rfl z⟩ (by
   rintro d i r eq ⟨outs,a8,a9⟩ ⟨nd,sb,ol,_⟩;obtain⟨hq,hi⟩:=JT eq;obtain⟨o2,y,n2,s2,l2,ne2,e2⟩:=d8y ns k i (bu ns (1+k) 2 64) (some (.d (.lst (dS names)))) carts (names.drop (k+1)) outs a9 hk (by lia) sl Ia nd sb (jN ol (Fq hq))
   exact⟨(o2,some (.d (.int i)),some (.d (.str y))),⟨n2,s2,by rw[dy,vm,hq];exact l2,λ_=>ne2⟩,λS=>⟨_,rfl,.inl (e2 S)⟩⟩)
 dsimp only at nd sb ol one e1;rw[vq] at ol;have one:o1≠[]:=one (by intro z;have:=congrArg List.length z;simp at this;lia)
 have e1:=λS=>(congrArg (λl=>aH (af 8) (vB 0) l _ _) (rR _)).trans (e1 S)
 have vb:dQ (dS carts) 0=some (.str hand):=by
  cases carts with
  |nil=>cases hh
  |cons a b=>cases hh;exact vF (xs:=D.str hand::b.map D.str) (j:=0) rfl
 have hm:hand∈names.drop (k+1)++carts:=pJ _ (List.mem_of_mem_head? hh);have H:∀S,vy S ns k (bu ns (1+k) 2 64) (bu ns (6+k) 0 3) (names.drop (k+1)) carts o1 (dS names) hand a8 a9:=λS=>⟨by rw[show(k:Int)+1=((k+1:Nat):Int) by lia,PL,dS,dS,Ir],bJ (by rw[bw,bw,B7];lia),ht,hp,Nq (by lia),eK.symm,e1 S,vb⟩
 cases DQ:o1.contains hand with
 |true=>exact⟨o1,⟨nd,sb,one,.inl (by simpa using DQ),by lia⟩,λS=>d8z (H S) DQ⟩
 |false=>
  by_cases hf:(o1.filter λo=>(names.drop (k+1)).contains o).length=0
  .obtain⟨d1,d2,d3⟩:=g7 ns (1+k) 3 ((o1.length:Int)+1) (by lia) (by decide) (by lia)
   rw[show((1+k:Nat):Int)=1+(k:Int) by lia] at d1
   have hy:hand∉o1:=by simpa using DQ
   refine⟨_,⟨QK (k:=(bu ns (1+k) 3 ((o1.length:Int)+1)).toNat) nd hy,λo ho=>?_,λz=>?_,.inl (k8.mpr (.inl rfl)),by rw[Gq];lia⟩,λS=>Ye (H S) DQ (by lia) (by rw[bw,hf];rfl) (by rw[bw]) d1 (bJ d2) (bJ (by lia)) (bJ (by rw[bw];lia)) (QJ _ _ _)⟩
   .rcases k8.mp ho with z|z
    .rw[z];exact hm
    .exact sb o z
   .have:=Gq o1 (bu ns (1+k) 3 ((o1.length:Int)+1)).toNat hand;rw[z] at this;simp at this
  .refine⟨o1,⟨nd,sb,one,.inr ?_,by lia⟩,λS=>d9a (H S) DQ (by lia) rfl (by rw[bw];simp only[uI];lia)⟩
   simp_all
def aq(b:ao):D:=.tup [.str b.name,.int b.long,.bl b.ring,.lst (dS b.outs)]
def aE(h:aA):D:=.tup [.lst (h.ae.map aq),.lst (dS h.carts)]
abbrev gj(S:aN)(ns:List Int)(names carts:List Str)(k:Int)(a5 a6:ak Val):Gm:=[some (.d (aZ ns)),some (.d (.lst (dS names))),some (.d (.lst (dS carts))),some (.c S.s.length),some (.d (.int k)),a5,a6]
section
variable{S:aN}{ns:List Int}{ki pv ov nl tv dv:Int}{names carts outs:List Str}{nm:Str}{bl:List D}{rg:Bool}{a5 a6:ak Val}
theorem hB0(hp:Pr lJ [.d (aZ ns),.d (.int (1+ki)),.d (.int 3)] (rd (.int pv)))(hr:(pv == 0)=rg)(ho:Pr j9 [.d (aZ ns),.d (.int (1+ki)),.d (.int 5)] (rd (.int ov)))(ha:dQ (dS names) ki=some (.str nm))(hx:∀S,rB 0 [.d (aZ ns),.d (.int ki),.d (.lst (dS names)),.d (.lst (dS carts))] S=some (.ok (.o (.lst (dS outs))) S))(hb:(bl.length<1000000)=True)(e1:(ki == 0)=false):qp 0 (gj S ns names carts ki a5 a6) (bS S bl)=some (.nx (gj S ns names carts ki (some (.d (.bl rg))) (some (.d (.int (if rg=true then(1+ov)+1 else(1+ov)))))) (bS S (bl++[.tup [.str nm,.int (if rg=true then(1+ov)+1 else(1+ov)),.bl rg,.lst (dS outs)]]))):=by
 unfold qp gj bS;cases rg with
 |true=>simp only[↓ev,hp,aK,eS,hr,aO,ho,e1,eM,ha,hx,hb,k9]
 |false=>simp only[↓ev,hp,aK,eS,hr,aO,ho,e1,eM,ha,hx,hb,k9]
theorem hB1(hp:Pr lJ [.d (aZ ns),.d (.int (1+ki)),.d (.int 3)] (rd (.int pv)))(hr:(pv == 0)=rg)(ho:Pr j9 [.d (aZ ns),.d (.int (1+ki)),.d (.int 5)] (rd (.int ov)))(ha:dQ (dS names) ki=some (.str nm))(hx:∀S,rB 0 [.d (aZ ns),.d (.int ki),.d (.lst (dS names)),.d (.lst (dS carts))] S=some (.ok (.o (.lst (dS outs))) S))(hb:(bl.length<1000000)=True)(e1:(ki == 0)=true)(el:((dS names).length:Int)=nl)(e2:(nl<3)=False):qp 0 (gj S ns names carts ki a5 a6) (bS S bl)=some (.nx (gj S ns names carts ki (some (.d (.bl rg))) (some (.d (.int (if rg=true then(1+ov)+1 else(1+ov)))))) (bS S (bl++[.tup [.str nm,.int (if rg=true then(1+ov)+1 else(1+ov)),.bl rg,.lst (dS outs)]]))):=by
 unfold qp gj bS;cases rg with
 |true=>simp only[↓ev,hp,aK,eS,hr,aO,ho,e1,el,e2,decide_false,eM,ha,hx,hb,k9]
 |false=>simp only[↓ev,hp,aK,eS,hr,aO,ho,e1,el,e2,decide_false,eM,ha,hx,hb,k9]
theorem hB2(hp:Pr lJ [.d (aZ ns),.d (.int (1+ki)),.d (.int 3)] (rd (.int pv)))(hr:(pv == 0)=rg)(ho:Pr j9 [.d (aZ ns),.d (.int (1+ki)),.d (.int 5)] (rd (.int ov)))(ha:dQ (dS names) ki=some (.str nm))(hx:∀S,rB 0 [.d (aZ ns),.d (.int ki),.d (.lst (dS names)),.d (.lst (dS carts))] S=some (.ok (.o (.lst (dS outs))) S))(hb:(bl.length<1000000)=True)(e1:(ki == 0)=true)(el:((dS names).length:Int)=nl)(e2:(nl<3)=True)(ht:Pr n9 [.d (aZ ns),.d (.int 0),.d (.int 3)] (rd (.int tv)))(e3:(tv == 1)=false):qp 0 (gj S ns names carts ki a5 a6) (bS S bl)=some (.nx (gj S ns names carts ki (some (.d (.bl rg))) (some (.d (.int (if rg=true then(1+ov)+1 else(1+ov)))))) (bS S (bl++[.tup [.str nm,.int (if rg=true then(1+ov)+1 else(1+ov)),.bl rg,.lst (dS outs)]]))):=by
 unfold qp gj bS;cases rg with
 |true=>simp only[↓ev,hp,aK,eS,hr,aO,ho,e1,el,e2,decide_true,ht,e3,eM,ha,hx,hb,k9]
 |false=>simp only[↓ev,hp,aK,eS,hr,aO,ho,e1,el,e2,decide_true,ht,e3,eM,ha,hx,hb,k9]
theorem hB3(hp:Pr lJ [.d (aZ ns),.d (.int (1+ki)),.d (.int 3)] (rd (.int pv)))(hr:(pv == 0)=rg)(ho:Pr j9 [.d (aZ ns),.d (.int (1+ki)),.d (.int 5)] (rd (.int ov)))(ha:dQ (dS names) ki=some (.str nm))(hx:∀S,rB 0 [.d (aZ ns),.d (.int ki),.d (.lst (dS names)),.d (.lst (dS carts))] S=some (.ok (.o (.lst (dS outs))) S))(hb:(bl.length<1000000)=True)(e1:(ki == 0)=true)(el:((dS names).length:Int)=nl)(e2:(nl<3)=True)(ht:Pr n9 [.d (aZ ns),.d (.int 0),.d (.int 3)] (rd (.int tv)))(e3:(tv == 1)=true)(hd:Pr ic [.d (aZ ns),.d (.int 0),.d (.int 3),.d (.int 14)] (rd (.int dv))):qp 0 (gj S ns names carts ki a5 a6) (bS S bl)=some (.nx (gj S ns names carts ki (some (.d (.bl rg))) (some (.d (.int (if rg=true then(10+dv)+1 else(10+dv)))))) (bS S (bl++[.tup [.str nm,.int (if rg=true then(10+dv)+1 else(10+dv)),.bl rg,.lst (dS outs)]]))):=by
 unfold qp gj bS;cases rg with
 |true=>simp only[↓ev,hp,aK,eS,hr,aO,ho,e1,el,e2,decide_true,ht,e3,hd,eM,ha,hx,hb,k9]
 |false=>simp only[↓ev,hp,aK,eS,hr,aO,ho,e1,el,e2,decide_true,ht,e3,hd,eM,ha,hx,hb,k9]
end
theorem d9b(ns:List Int)(k:Nat)(names carts:List Str)(hand:Str)(bs:List ao)(a5 a6:ak Val)(hk:k<names.length)(hl:names.length<=5)(hh:carts.head?=some hand)(hc:carts.length<=4)(hb:bs.length<=100):
  ∃b:ao,b.name=names.getD k ""/\(1<=b.long/\b.long<=26/\(b.long<=6\/k=0/\names.length<3))/\(b.ring=true->2<=b.long)/\pV (names.drop (k+1)) carts hand b.outs/\∃jU vK,∀S,qp 0 (gj S ns names carts k a5 a6) (bS S (bs.map aq))=some (.nx (gj S ns names carts k jU vK) (bS S ((bs++[b]).map aq))):=by
 have hp:=zF ns (1+k) 3 (by lia) (by decide)
 have ho:=xw ns (1+k) 5 (by lia) (by decide)
 obtain⟨o1,o2,o3⟩:=g7 ns (1+k) 1 5 (by lia) (by decide) (by decide)
 rw[show((1+k:Nat):Int)=1+(k:Int) by lia] at hp ho
 obtain⟨outs,ok,eo⟩:=e5q ns k names carts hand (by lia) hl hh hc
 have ha:=GY (xs:=names) (k:=(k:Int)) (by lia) (by lia)
 rw[Int.toNat_natCast] at ha;have ht:Pr n9 [.d (aZ ns),.d (.int 0),.d (.int 3)] _:=zv ns 0 3 (by decide) (by decide)
 obtain⟨d1,d2,d3⟩:=g7 ns 0 3 14 (by decide) (by decide) (by decide)
 have d1:Pr ic [.d (aZ ns),.d (.int 0),.d (.int 3),.d (.int 14)] _:=d1;have el:((dS names).length:Int)=(names.length:Int):=by rw[bw]
 have x6:((bs.map aq).length<1000000)=True:=bJ (by rw[bw];lia)
 obtain⟨l',l1,e⟩:∃l':Int,(1<=l'/\l'<=25/\(l'<=5\/k=0/\names.length<3))/\∀S,qp 0 (gj S ns names carts k a5 a6) (bS S (bs.map aq))=some (.nx (gj S ns names carts k (some (.d (.bl (bu ns (1+k) 0 3 == 0)))) (some (.d (.int (if(bu ns (1+k) 0 3 == 0)=true then l'+1 else l'))))) (bS S (bs.map aq++[.tup [.str (names.getD k ""),.int (if(bu ns (1+k) 0 3 == 0)=true then l'+1 else l'),.bl (bu ns (1+k) 0 3 == 0),.lst (dS outs)]]))):=by
  cases e1:((k:Int) == 0) with
  |false=>exact⟨_,by lia,λS=>hB0 hp rfl ho ha eo x6 e1⟩
  |true=>
   by_cases e2:(names.length:Int)<3
   .cases e3:(bu ns 0 2 3 == 1) with
    |false=>exact⟨_,by lia,λS=>hB2 hp rfl ho ha eo x6 e1 el (bJ e2) ht e3⟩
    |true=>exact⟨_,by have:=beq_iff_eq.mp e1;lia,λS=>hB3 hp rfl ho ha eo x6 e1 el (bJ e2) ht e3 d1⟩
   .exact⟨_,by lia,λS=>hB1 hp rfl ho ha eo x6 e1 el (eq_false e2)⟩
 refine⟨ao.mk (names.getD k "") (if(bu ns (1+k) 0 3 == 0)=true then l'+1 else l') (bu ns (1+k) 0 3 == 0) outs,rfl,?_,λhr=>?_,ok,_,_,λS=>by rw[eK];exact e S⟩
 all_goals lia
theorem Vi(q:Nat)(S:aN)(ns:List Int)(n:Nat)(hn:n<=14):bB (af 0) (iR true) (F3 q) (gm 0 n) [none,some (.d (aZ ns))] S []=some (.ok (dS ((List.range n).map (jL ns 11))) S):=by
 rw[rR,uX (λk=>D.str (jL ns 11 k)) (List.range n) (by rw[vq];lia) λi m=>⟨rd (.str (jL ns 11 i)),by
  have h:Pr rY [.d (aZ ns),.d (.int 11),.d (.int i)] _:=Hf ns 11 (by decide) i (by have:=xh.mp m;lia)
  unfold F3;generalize(i:Int)=ii at *;simp only[↓ev,h],rfl⟩,dS,fF]
 rfl
theorem Vj(q:Nat)(S:aN)(ns:List Int)(n:Nat)(hn:n<=4):bB (af 0) (iR true) (F4 q) (gm 0 n) [none,some (.d (aZ ns))] S []=some (.ok (dS ((List.range n).map λi=>jL ns 11 (10+i))) S):=by
 rw[rR,uX (λk=>D.str (jL ns 11 (10+k))) (List.range n) (by rw[vq];lia) λi m=>⟨rd (.str (jL ns 11 (10+i))),by
  have h:Pr rY [.d (aZ ns),.d (.int 11),.d (.int ((10+i:Nat):Int))] _:=Hf ns 11 (by decide) (10+i) (by have:=xh.mp m;lia)
  rw[show((10+i:Nat):Int)=10+(i:Int) by lia] at h
  unfold F4;generalize(i:Int)=ii at *;simp only[↓ev,h],rfl⟩,dS,fF]
 rfl
theorem QL:∀{bs:List ao},(∀b∈bs,b.outs.length<=4)->(bs.map λx=>x.outs.length).sum<=4*bs.length
 |[],_=>bP _
 |b::bs,h=>by
  rw[cq,sv,lS];have:=QL λb m=>h b (uG _ m)
  have:=h b (AV ..);lia
theorem PM(ns:List Int)(l:List Nat)(nd:l.Nodup)(hl:∀i∈l,i<14):(l.map (jL ns 11)).Nodup:=by
 rw[List.Nodup,Iu];exact nd.imp_of_mem λha hb ne z=>ne (RV ns 11 (by decide) _ _ (by have:=hl _ ha;lia) (by have:=hl _ hb;lia) z)
theorem Ww(S:aN)(ns:List Int)(n c:Int)(names carts:List Str)(a4 a5 a6:ak Val)(bs:List D)(hp:Pr lJ [.d (aZ ns),.d (.int 0),.d (.int 5)] (rd (.int n)))(ho:Pr j9 [.d (aZ ns),.d (.int 0),.d (.int 4)] (rd (.int c)))
  (i1:Nat.ble (1+n).natAbs 1000000000000=true) (i2:Nat.ble (1+c).natAbs 1000000000000=true) (nl:Int) (el:((dS names).length:Int)=nl) (i3:Nat.ble nl.natAbs 1000000000000=true)
  (e1:∀q S,bB (af 0) (iR true) (F3 q) (gm 0 (1+n).toNat) [none,some (.d (aZ ns))] S []=some (.ok (dS names) S)) (e2:∀q S,bB (af 0) (iR true) (F4 q) (gm 0 (1+c).toNat) [none,some (.d (aZ ns))] S []=some (.ok (dS carts) S))
  (e3:aH (af 4) (qp 0) (gm 0 nl.toNat) [some (.d (aZ ns)),some (.d (.lst (dS names))),some (.d (.lst (dS carts))),some (.c S.s.length),none,none,none] (bS S [])=some (.nx [some (.d (aZ ns)),some (.d (.lst (dS names))),some (.d (.lst (dS carts))),some (.c S.s.length),a4,a5,a6] (bS S bs))) :
  Bo 0 [.d (aZ ns)] S=some (.ok (rd (.tup [.lst bs,.lst (dS carts)])) S):=by
 unfold Bo OW;simp only[↓ev,hp,i1,i6,e1,aO,ho,i2,e2,aK,el,i3,e3,bS,eM,k9,uY]
variable{ks:List Str}
noncomputable def findB(bs:List ao)(n:Str):ak ao:=bs.find? λb=>b.name == n
structure sW (h:aA):Prop where
 bl:h.ae.length<=100
 ct:h.carts.length<=100
 ou:(h.ae.map λx=>x.outs.length).sum<=900
def lU(carts:List Str):List ao->Prop
 |[]=>True
 |b::bs=>(∀o∈b.outs,o∈bs.map ao.name\/o∈carts)/\b.name∉bs.map ao.name/\b.name∉carts/\lU carts bs
theorem xu{carts:List Str}:∀{bs:List ao},lU carts bs->∀x∈bs,∀y∈bs,x.name=y.name->x=y
 |z::bs,f,x,hx,y,hy,e=>by
  rcases y0a.mp hx with vf|vf
  .rcases y0a.mp hy with Ae|Ae
   .rw[vf,Ae]
   .exact cC (mP (f:=ao.name) Ae) (by rw[<-e,vf];exact f.2.1)
  .rcases y0a.mp hy with Ae|Ae
   .exact cC (mP (f:=ao.name) vf) (by rw[e,Ae];exact f.2.1)
   .exact xu f.2.2.2 x vf y Ae e
theorem Gf{carts:List Str}:∀{bs:List ao},lU carts bs->∀c∈carts,c∉bs.map ao.name
 |[],_,c,_,h=>by cases h
 |b::bs,f,c,hc,h=>by
  rcases y0a.mp h with z|z
  .exact f.2.2.1 (by rw[<-z];exact hc)
  .exact Gf f.2.2.2 c hc z
theorem CG{carts:List Str}:∀{xs ys:List ao},lU carts (xs++ys)->lU carts ys
 |[],_,f=>f
 |_::xs,ys,f=>CG (xs:=xs) f.2.2.2
abbrev rM(x:Str):Prop:=Pr pX [.d (.str x)] (rd (.bl true))
structure ax (h:aA):Prop where
 fwd:lU h.carts h.ae
 sm:sW h
 nm:∀b∈h.ae,rM b.name
 cm:∀c∈h.carts,rM c
 lg:∀b∈h.ae,1<=b.long/\(b.ring=true->2<=b.long)
 hd:∀b∈h.ae,h.carts.getD 0 ""∈b.outs\/∃o∈b.outs,o∈h.ae.map ao.name
 cn:h.carts.Nodup
 c0:0<h.carts.length
 nd:∀b∈h.ae,b.outs.Nodup
theorem zw(bs:List ao)(h:bs.length<=1000000):Pr uQ [.d (.lst (bs.map aq))] (.o (.lst (dS (bs.map ao.name)))):=by
 have e:∀q S,bB (af 0) (iR true) (NF q) (bs.map aq) [none] S []=some (.ok (dS (bs.map ao.name)) S):=λq S=>by
  rw[uX (λb=>D.str (ao.name b)) bs h λb m=>⟨rd (.str b.name),by
   rfl,rfl⟩,dS,fF]
  rfl
 intro q S;unfold uQ NR;simp only[↓ev,e,fW]
def nQ(ks:List Str):List (TK×D):=ks.map λk=>(TK.inr k,.bl true)
noncomputable def g8(ks:List Str)(k:Str):List Str:=if ks.contains k then ks else ks++[k]
theorem xE(x:Str):∀ks:List Str,(aS (nQ ks) (.inr x)).isSome=ks.contains x
 |[]=>rfl
 |k::ks=>by
  have ih:=xE x ks;unfold aS nQ at *;rw[cq,Ca,List.contains_cons];by_cases e:k=x
  .rw[xl (by rw[e]),e,fY]
   rfl
  .rw[yQ (λz=>e (TK.inr.inj z)),show(x == k)=false by rw[uI];exact λz=>e z.symm]
   rw[Bool.false_or];exact ih
theorem Hg(k:Str):∀ks:List Str,bT (nQ ks) (.inr k) (.bl true)=nQ (g8 ks k)
 |[]=>rfl
 |j::ks=>by
  have ih:=Hg k ks;show(if(TK.inr j)=TK.inr k then(TK.inr j,D.bl true)::nQ ks else(TK.inr j,D.bl true)::bT (nQ ks) (.inr k) (.bl true))=_
  unfold g8 at *;rw[List.contains_cons];by_cases e:j=k
  .rw[bI (by rw[e]),e,fY,Bool.true_or,bI rfl];rfl
  .rw[ba (λz=>e (TK.inr.inj z)),ih,show(k == j)=false by rw[uI];exact λz=>e z.symm,Bool.false_or]
   cases ks.contains k with
   |true=>rw[bI rfl,bI rfl];rfl
   |false=>rw[ba si,ba si];rfl
theorem Kp(ks:List Str):(nQ ks).length=ks.length:=by unfold nQ;rw[bw]
theorem PN(ks:List Str)(k:Str):(g8 ks k).length<=ks.length+1:=by
 unfold g8;split
 .lia
 .rw[dy,vm];exact bP _
theorem Yf{k n:Str}:n∈g8 ks k↔n=k\/n∈ks:=by
 unfold g8;split
 .rename_i h
  rw[j6] at h;constructor
  .exact .inr
  .rintro(rfl|h')
   .exact h
   .exact h'
 .rw[dN,lB];exact Or.comm
theorem e5r{x:Str}{S:aN}{n:Nat}(hs:S.s[n]?=some (.o (.aB (nQ ks))))(hn:rM x)(hx:ks.contains x=false)(hl:(ks.length<1000000)=True):Bi 0 [.d (.str x),.c n] S=some (.ok (rd .aI) ⟨S.s.set n (.o (.aB (nQ (g8 ks x)))),S.r⟩):=by
 unfold Bi N3;simp only[↓ev,hn,aK,hs,xE,hx,Kp,hl,Hg,Rb]
variable{S:aN}{n:Nat}{ks carts:List Str}
noncomputable abbrev tk(S:aN)(n:Nat)(ks:List Str):aN:=⟨S.s.set n (.o (.aB (nQ ks))),S.r⟩
theorem take1{x:Str}(hn:n<S.s.length)(hx:rM x)(h:x∉ks)(hl:ks.length<1000):Bi 0 [.d (.str x),.c n] (tk S n ks)=some (.ok (rd .aI) (tk S n (ks++[x]))):=by
 have hc:ks.contains x=false:=by simpa using h
 rw[e5r (S:=tk S n ks) (n:=n) (w9 hn) hx hc (bJ (by lia))]
 grind [g8,List.set_set]
theorem Vk{d0 a:ak Val}(hn:n<S.s.length)(nm:∀c∈carts,rM c)(nd:(ks++carts).Nodup)(hl:ks.length+carts.length<1000):
  ∃a',aH (af 2) (FK 0) (dS carts) [d0,some (.c n),a] (tk S n ks)=some (.nx [d0,some (.c n),a'] (tk S n (ks++carts))):=by
 obtain⟨U',S',e,a',rfl,rfl⟩:=lq (gg:=af 2) (body:=FK 0) (f:=D.str) (U:=[d0,some (.c n),a]) (S:=tk S n ks) (λpre U S'=>∃a',U=[d0,some (.c n),a']/\S'=tk S n (ks++pre)) carts ⟨a,rfl,by rw[mO]⟩ (by
  rintro d x r eq U S' ⟨a',rfl,rfl⟩;have h1:x∉ks++d:=by
   grind
  have h2:=congrArg List.length eq;rw[dy,lS] at h2;have h:=take1 hn (nm x (by rw[eq];simp)) h1 (by rw[dy];lia)
  refine⟨[d0,some (.c n),some (.d (.str x))],[d0,some (.c n),some (.d (.str x))],_,rfl,.inl ?_,_,rfl,rfl⟩;rw[<-nK];unfold FK;simp only[↓ev,h,zz])
 exact⟨a',e⟩
theorem d9c(hn:n<S.s.length)(nm:∀c∈carts,rM c)(nd:(ks++carts).Nodup)(hl:ks.length+carts.length<1000)(h0:carts≠[]):FQ 0 [.d (.lst (dS carts)),.c n] (tk S n ks)=some (.ok (rd .aI) (tk S n (ks++carts))):=by
 obtain⟨a',e⟩:=Vk (d0:=some (.d (.lst (dS carts)))) (a:=none) hn nm nd hl;have z:(dS carts).isEmpty=false:=by cases carts with|nil=>exact cC rfl h0|cons _ _=>rfl
 have lc:∀ym,(tk S n ym).cut (tk S n ks).s.length=tk S n ym:=λym=>by unfold aN.cut;simp only[sr];rw[AY (by rw[sr];exact bP _)]
 unfold FQ NL;simp only[↓ev,i6,e,z,mQ,aK,lc]
variable{S:aN}{n:Nat}{ks:List Str}
theorem e5s{c:Cell}{ym:List Str}:(tk S n ym).cut (S.s.set n c).length=tk S n ym:=by
 unfold aN.cut;simp only[sr];rw[AY (by rw[sr];exact bP _)]
theorem Vl{bs:List ao}{d0 a2 a3 a4 a5 a6:ak Val}(hn:n<S.s.length)(nm:∀b∈bs,rM b.name)(lg:∀b∈bs,1<=b.long/\(b.ring=true->2<=b.long))(nd:(ks++bs.map ao.name).Nodup)(hl:ks.length+bs.length<1000):
  ∃b2 b3 b4 b5 b6,aH (bD [(af 2),(af 3),(af 4),(af 5)]) (FL 0) (bs.map aq) [d0,some (.c n),a2,a3,a4,a5,a6] (tk S n ks)=some (.nx [d0,some (.c n),b2,b3,b4,b5,b6] (tk S n (ks++bs.map ao.name))):=by
 obtain⟨U',S',e,b2,b3,b4,b5,b6,rfl,rfl⟩:=lq (gg:=bD [(af 2),(af 3),(af 4),(af 5)]) (body:=FL 0) (f:=aq) (U:=[d0,some (.c n),a2,a3,a4,a5,a6]) (S:=tk S n ks) (λpre U S'=>∃b2 b3 b4 b5 b6,U=[d0,some (.c n),b2,b3,b4,b5,b6]/\S'=tk S n (ks++pre.map ao.name)) bs ⟨a2,a3,a4,a5,a6,rfl,by rw[yM,mO]⟩ (by
  rintro d x r eq U S' ⟨b2,b3,b4,b5,b6,rfl,rfl⟩;have h1:x.name∉ks++d.map ao.name:=by
   grind
  have h2:=congrArg List.length eq;rw[dy,lS] at h2;have mx:x∈bs:=by rw[eq];simp
  have h:=take1 hn (nm x mx) h1 (by rw[dy,bw];lia)
  obtain⟨l1,l2⟩:=lg x mx;have e1:∀b,bD [(af 2),(af 3),(af 4),(af 5)] (aq x) [d0,some (.c n),b2,b3,b4,b5,b]=some [d0,some (.c n),some (.d (.str x.name)),some (.d (.int x.long)),some (.d (.bl x.ring)),some (.d (.lst (dS x.outs))),b]:=λ_=>rfl
  refine⟨_,[d0,some (.c n),some (.d (.str x.name)),some (.d (.int x.long)),some (.d (.bl x.ring)),some (.d (.lst (dS x.outs))),some (.d (.int (if x.ring=true then 2 else 1)))],_,e1 _,.inl ?_,_,_,_,_,_,rfl,rfl⟩
  rw[eK,cq,yM,<-nK];unfold FL;cases hr:x.ring with
  |true=>
   have z:(x.long<2)=False:=eq_false (by have:=l2 hr;lia)
   simp only[↓ev,h,zz,aO,z,decide_false,aK]
  |false=>
   have z:(x.long<1)=False:=eq_false (by lia)
   simp only[↓ev,h,zz,aK,aO,z,decide_false])
 exact⟨b2,b3,b4,b5,b6,e⟩
theorem d9d{bs:List ao}(hn:n<S.s.length)(nm:∀b∈bs,rM b.name)(lg:∀b∈bs,1<=b.long/\(b.ring=true->2<=b.long))(nd:(ks++bs.map ao.name).Nodup)(hl:ks.length+bs.length<1000):FR 0 [.d (.lst (bs.map aq)),.c n] (tk S n ks)=some (.ok (rd .aI) (tk S n (ks++bs.map ao.name))):=by
 obtain⟨b2,b3,b4,b5,b6,e⟩:=Vl (d0:=some (.d (.lst (bs.map aq)))) (a2:=none) (a3:=none) (a4:=none) (a5:=none) (a6:=none) hn nm lg nd hl;unfold FR NM;simp only[↓ev,i6,e,e5s]
variable{ks:List Str}
noncomputable abbrev h_(S:aN)(ks:List Str):aN:=⟨S.s++[.o (.aB (nQ ks))],S.r⟩
def bO(b:Str)(ks:List Str)(x:ao):List Str:=if(x.name == b || ks.contains x.name)=true then x.outs.foldl g8 ks else ks
theorem PQ(outs:List Str):∀ks:List Str,(outs.foldl g8 ks).length<=ks.length+outs.length:=by
 induction outs with
 |nil=>intro ks;exact bP _
 |cons o outs ih=>
  grind [PN]
section
variable{S:aN}{g0 g1 g3 g4 g5 g6 a:ak Val}
theorem Mj{o:Str}(hl:(ks.length<1000000)=True):Cy 0 [g0,g1,some (.c S.s.length),g3,g4,g5,g6,some (.d (.str o))] (h_ S ks)=some (.nx [g0,g1,some (.c S.s.length),g3,g4,g5,g6,some (.d (.str o))] (h_ S (g8 ks o))):=by
 unfold Cy;simp only[↓ev,eM,Kp,hl,Hg,k9]
theorem Yg(outs ks:List Str)(h:ks.length+outs.length<1000000):∃a',aH (af 7) (Cy 0) (dS outs) [g0,g1,some (.c S.s.length),g3,g4,g5,g6,a] (h_ S ks)=some (.nx [g0,g1,some (.c S.s.length),g3,g4,g5,g6,a'] (h_ S (outs.foldl g8 ks))):=by
 obtain⟨U',S',e,a',rfl,rfl⟩:=lq (gg:=af 7) (body:=Cy 0) (f:=D.str) (U:=[g0,g1,some (.c S.s.length),g3,g4,g5,g6,a]) (S:=h_ S ks) (λpre U S'=>∃a',U=[g0,g1,some (.c S.s.length),g3,g4,g5,g6,a']/\S'=h_ S (pre.foldl g8 ks)) outs ⟨a,rfl,rfl⟩ (by
  rintro d x r eq U S' ⟨a',rfl,rfl⟩;have h2:=congrArg List.length eq;rw[dy,lS] at h2;have:=PQ d ks;refine⟨_,_,_,rfl,.inl (Mj (bJ (by lia))),_,rfl,by rw[Nk];rfl⟩)
 exact⟨a',e⟩
theorem Vm(b:Str)(bs:List ao)(ks:List Str)(a3 a4 a5 a6 a7:ak Val)(h:ks.length+(bs.map λx=>x.outs.length).sum<1000000):∃b3 b4 b5 b6 b7,aH (bD [(af 3),(af 4),(af 5),(af 6)]) (Bj 0) (bs.map aq) [g0,some (.d (.str b)),some (.c S.s.length),a3,a4,a5,a6,a7] (h_ S ks)=some (.nx [g0,some (.d (.str b)),some (.c S.s.length),b3,b4,b5,b6,b7] (h_ S (bs.foldl (bO b) ks))):=by
 obtain⟨U',S',e,b3,b4,b5,b6,b7,rfl,rfl,_⟩:=lq (gg:=bD [(af 3),(af 4),(af 5),(af 6)]) (body:=Bj 0) (f:=aq) (U:=[g0,some (.d (.str b)),some (.c S.s.length),a3,a4,a5,a6,a7]) (S:=h_ S ks) (λpre U S'=>∃b3 b4 b5 b6 b7,U=[g0,some (.d (.str b)),some (.c S.s.length),b3,b4,b5,b6,b7]/\S'=h_ S (pre.foldl (bO b) ks)/\(pre.foldl (bO b) ks).length<=ks.length+(pre.map λx=>x.outs.length).sum) bs ⟨a3,a4,a5,a6,a7,rfl,rfl,Il _ _⟩ (by
  rintro d x r eq U S' ⟨b3,b4,b5,b6,b7,rfl,rfl,hl⟩;rw[eq,eK,cq,List.sum_append,sv] at h;have hf:=PQ x.outs (d.foldl (bO b) ks);have e1:bD [(af 3),(af 4),(af 5),(af 6)] (aq x) [g0,some (.d (.str b)),some (.c S.s.length),b3,b4,b5,b6,b7]=some [g0,some (.d (.str b)),some (.c S.s.length),some (.d (.str x.name)),some (.d (.int x.long)),some (.d (.bl x.ring)),some (.d (.lst (dS x.outs))),b7]:=rfl;rw[Nk,eK,List.sum_append];show ∃U1 U' S',_/\_/\∃b3 b4 b5 b6 b7,U'=_/\S'=h_ S (bO b (d.foldl (bO b) ks) x)/\(bO b (d.foldl (bO b) ks) x).length<=_+(_+(x.outs.length+0));obtain⟨a',e2⟩:=Yg (S:=S) (g0:=g0) (g1:=some (.d (.str b))) (g3:=some (.d (.str x.name))) (g4:=some (.d (.int x.long))) (g5:=some (.d (.bl x.ring))) (g6:=some (.d (.lst (dS x.outs)))) (a:=b7) x.outs (d.foldl (bO b) ks) (by lia)
  generalize d.foldl (bO b) ks=ks1 at *;unfold bO;cases c1:x.name == b with
  |true=>
   refine⟨_,_,_,e1,.inl (by unfold Bj;simp only[↓ev,aK,hZ,c1,i6,e2] <;> rfl),_,_,_,_,_,rfl,?_,?_⟩
   all_goals lia
  |false=>
   cases c2:ks1.contains x.name with
   |true=>
    refine⟨_,_,_,e1,.inl (by unfold Bj;simp only[↓ev,aK,hZ,c1,eM,xE,c2,i6,e2] <;> rfl),_,_,_,_,_,rfl,?_,?_⟩
    .rw[Nr,bI rfl]
    .rw[Nr,bI rfl];lia
   |false=>
    refine⟨_,_,_,e1,.inl (by unfold Bj;simp only[↓ev,aK,hZ,c1,eM,xE,c2] <;> rfl),_,_,_,_,_,rfl,?_,?_⟩
    all_goals lia)
 exact⟨b3,b4,b5,b6,b7,e⟩
theorem Uy(q:Nat)(xs:List Str)(h:xs.length<=1000000):bB (af 0) (Jg q) (Jh q) (dS xs) [none,some (.c S.s.length)] (h_ S ks) []=some (.ok (dS (xs.filter λo=>ks.contains o)) (h_ S ks)):=by
 rw[dS,xJ (λo=>if ks.contains o=true then some (.str o) else none) xs (by lia) λo m=>by
  unfold Jg Jh;cases hc:ks.contains o with
  |true=>exact .inr ⟨rd (.str o),.str o,rfl,by simp only[↓ev,eM,aK,xE,hc],by simp only[↓ev],rfl⟩
  |false=>exact .inl ⟨rfl,by simp only[↓ev,eM,aK,xE,hc]⟩]
 congr 2
 induction xs with
 |nil=>rfl
 |cons o r ih=>
  grind
theorem Wx{h:aA}(sm:sW h)(b:Str):P0 Gd [.d (aE h),.d (.str b)] (.o (.lst (dS ((h.ae.map ao.name++h.carts).filter λx=>(h.ae.foldl (bO b) []).contains x)))):=by
 intro S;have h1:=sm.bl;have h2:=sm.ct;have h3:=sm.ou;obtain⟨b3,b4,b5,b6,b7,e⟩:=Vm (S:=S) (g0:=some (.d (aE h))) b h.ae [] none none none none none (by rw[B9];lia)
 have hn:=zw h.ae (by lia)
 have hc:=λq=>Uy (S:=S) (ks:=h.ae.foldl (bO b) []) q (h.ae.map ao.name++h.carts) (by rw[dy,bw];lia)
 have ap:dS (h.ae.map ao.name)++dS h.carts=dS (h.ae.map ao.name++h.carts):=eK.symm;have le:((dS (h.ae.map ao.name)).length+(dS h.carts).length<=1000000)=True:=bJ (by rw[bw,bw,bw];lia)
 have hD:aE h=.tup [.lst (h.ae.map aq),.lst (dS h.carts)]:=rfl;rw[show h_ S []=⟨S.s++[.o (.aB [])],S.r⟩ from rfl] at e;rw[hD] at e ⊢;unfold Gd OS;simp only[↓ev,aO,cx,i6,e,h_,hn,cV,le,ap,hc,uY]
end
variable{outs:List Str}{b n:Str}{h:aA}
def RW(bs:List ao)(b:Str):List Str:=bs.foldl (bO b) []
inductive RR (bs:List ao) (outs:List Str):Str->Prop
 |base {n:Str}:n∈outs->RR bs outs n
 |step {m n:Str} {b:ao}:RR bs outs m->b∈bs->b.name=m->n∈b.outs->RR bs outs n
theorem iW:∀{ks:List Str} {n:Str},n∈outs.foldl g8 ks↔n∈outs\/n∈ks:=by
 induction outs with
 |nil=>intro ks n;simp
 |cons o outs ih=>
  grind [Yf]
theorem Wy{ks:List Str}{x:ao}(h:n∈ks):n∈bO b ks x:=by
 unfold bO;split
 .exact iW.mpr (.inr h)
 .exact h
theorem Wz{bs:List ao}:∀{ks:List Str} {n:Str},n∈ks->n∈bs.foldl (bO b) ks:=by
 induction bs with
 |nil=>intro ks n h;exact h
 |cons x bs ih=>intro ks n h;exact ih (Wy h)
theorem OY{carts:List Str}{b:Str}:∀{bs:List ao} {ks:List Str} {n:Str},lU carts bs->n∈bs.foldl (bO b) ks->n∈ks\/n∈bs.tail.map ao.name\/n∈carts
 |[],ks,n,_,h=>.inl h
 |x::bs,ks,n,f,h=>by
  rcases OY f.2.2.2 h with z|z|z
  .unfold bO at z;split at z
   .rcases iW.mp z with z|z
    .rcases f.1 n z with z|z
     .exact .inr (.inl z)
     .exact .inr (.inr z)
    .exact .inl z
   .exact .inl z
  .refine .inr (.inl ?_);cases bs with
   |nil=>exact z
   |cons y bs=>exact uG _ z
  .exact .inr (.inr z)
theorem Je{carts:List Str}{b:Str}:∀{bs:List ao} {ks:List Str},lU carts bs->∀x∈bs,(x.name=b\/x.name∈bs.foldl (bO b) ks)->∀o∈x.outs,o∈bs.foldl (bO b) ks
 |y::bs,ks,f,x,hx,hn,o,ho=>by
  rcases y0a.mp hx with rfl|hx
  .have h1:(x.name == b || ks.contains x.name)=true:=by
    rcases hn with hn|hn
    .lia
    .rcases OY (b:=b) f hn with z|z|z
     .simp_all
     .exact cC z f.2.1
     .exact cC z f.2.2.1
   show o∈bs.foldl (bO b) (bO b ks x);refine Wz ?_;unfold bO;rw[bI h1];exact iW.mpr (.inl ho)
  .exact Je (ks:=bO b ks y) f.2.2.2 x hx hn o ho
theorem PR{Dr:List ao}{b:ao}(hb:b∈Dr)(hu:∀x∈Dr,x.name=b.name->x=b):∀{bs:List ao} {ks:List Str},(∀x∈bs,x∈Dr)->(∀n∈ks,RR Dr b.outs n)->∀n∈bs.foldl (bO b.name) ks,RR Dr b.outs n
 |[],ks,_,h,n,hn=>h n hn
 |x::bs,ks,hs,h,n,hn=>PR hb hu (λy hy=>hs y (uG _ hy)) (λm hm=>by
   unfold bO at hm;split at hm
   .rename_i hc
    rcases iW.mp hm with z|z
    .rw[Nc,beq_iff_eq,j6] at hc;rcases hc with hc|hc
     .rw[hu x (hs x AV) hc] at z;exact .base z
     .exact .step (h _ hc) (hs x AV) rfl z
    .exact h m z
   .exact h m hm) n hn
theorem WA(f:lU h.carts h.ae){b:ao}(hb:b∈h.ae)(n:Str):n∈RW h.ae b.name↔RR h.ae b.outs n:=by
 unfold RW;constructor
 .exact PR hb (λx hx e=>xu f x hx b hb e) (λ_ m=>m) (λ_ m=>by cases m) n
 .intro r
  induction r with
  |base m=>exact Je f b hb (.inl rfl) _ m
  |step r hx hn hm ih=>exact Je f _ hx (.inr (by rw[hn];exact ih)) _ hm
theorem Yh{bs:List ao}{w:ao}(hw:w∈bs)(r:RR bs outs w.name)(r2:RR bs w.outs n):RR bs outs n:=by
 induction r2 with
 |base m=>exact .step r hw rfl m
 |step _ hb hn hm ih=>exact .step ih hb hn hm
theorem J'{h:aA}(g:ax h):∀{bs pre:List ao},h.ae=pre++bs->∀b∈bs,RR h.ae b.outs (h.carts.getD 0 "")
 |x::bs,pre,eq,b,hb=>by
  have u0:h.ae=(pre++[x])++bs:=by rw[eq];simp
  rcases y0a.mp hb with rfl|hb
  .have HA:b∈h.ae:=by rw[eq];simp
   have fx:lU h.carts (b::bs):=CG (by rw[<-eq];exact g.fwd)
   rcases g.hd b HA with z|⟨o,z1,z2⟩
   .exact .base z
   .rcases fx.1 o z1 with y|y
    .obtain⟨w,hw,ew⟩:=fB.mp y;exact Yh (w:=w) (by rw[u0];simp[hw]) (by rw[ew];exact .base z1) (J' g u0 w hw)
    .exact cC z2 (Gf g.fwd o y)
  .exact J' g u0 b hb
theorem C6(g:ax h):h.carts.getD 0 ""∈h.carts/\dQ (dS h.carts) 0=some (.str (h.carts.getD 0 "")):=by
 have:=g.c0;cases HE:h.carts with
 |nil=>rw[HE] at this;simp at this
 |cons c cs=>exact⟨by simp,vF (j:=0) rfl⟩
theorem e5t(g:ax h):P0 FW [.d (aE h)] (rd .aI):=by
 intro S;have bl:=g.sm.bl;obtain⟨hc,i0⟩:=C6 g;have e1:=zw h.ae (by lia)
 obtain⟨U',S',e,a,rfl,rfl⟩:=lq (gg:=af 2) (body:=IW 0) (f:=D.str) (U:=[some (.d (aE h)),some (.d (.str (h.carts.getD 0 ""))),none]) (S:=S) (λ_ U S'=>∃a,U=[some (.d (aE h)),some (.d (.str (h.carts.getD 0 ""))),a]/\S'=S) (h.ae.map ao.name) ⟨_,rfl,rfl⟩ (by
  rintro d x r eq U S' ⟨a,rfl,rfl⟩;obtain⟨b,hb,rfl⟩:∃b∈h.ae,b.name=x:=fB.mp (by rw[eq];simp)
  have e1:=Wx g.sm b.name;have hm:((h.ae.map ao.name++h.carts).filter λx=>(h.ae.foldl (bO b.name) []).contains x).contains (h.carts.getD 0 "")=true:=by
   rw[j6,yJ];exact⟨pJ _ hc,j6.mpr ((WA g.fwd hb _).mpr (J' g (pre:=[]) rfl b hb))⟩
  refine⟨[some (.d (aE h)),some (.d (.str (h.carts.getD 0 ""))),some (.d (.str b.name))],_,_,rfl,.inl ?_,some (.d (.str b.name)),rfl,rfl⟩;unfold IW;generalize((h.ae.map ao.name++h.carts).filter λx=>(h.ae.foldl (bO b.name) []).contains x)=l at *
  generalize h.carts.getD 0 ""=hand at *;simp only[↓ev,e1,ky,j_,hm,lC,aK])
 have hD:aE h=.tup [.lst (h.ae.map aq),.lst (dS h.carts)]:=rfl;generalize h.carts.getD 0 ""=hand at *;rw[hD] at e ⊢;unfold FW NU;simp only[↓ev,cV,i0,aO,cx,e1,i6,e,fW]
theorem NX{x z:Str}:∀{ys:List Str} {j:Nat},ys[j]?=some z->x∈ys->x≠z->x∈ys.eraseIdx j
 |y::ys,0,e,hx,fP=>by
  simp_all
 |y::ys,j+1,e,hx,fP=>by
  rw[List.getElem?_cons_succ] at e;show x∈y::ys.eraseIdx j;rcases y0a.mp hx with rfl|hx
  .exact .head _
  .exact .tail _ (NX e hx fP)
 |[],_,_,hx,_=>by cases hx
theorem Gg{z:Str}{ys:List Str}(h:z∈ys):∃j,findS ys z=some j:=by
 cases q:findS ys z with
 |some j=>exact⟨j,rfl⟩
 |none=>
  unfold findS at q;rw[List.findIdx?_eq_none_iff] at q;have:=q z h;simp at this
theorem Ys(L:List Str)(j:Nat):(dS L).eraseIdx j=dS (L.eraseIdx j):=by
 grind [List.eraseIdx_eq_take_drop_succ,List.map_take,List.map_drop]
section
variable{S:aN}{s0 s1 s2 s3 s4 s5 a7:ak Val}
theorem Mq{L:List Str}{x:Str}{j:Nat}(hc:L.contains x=true)(hj:findS L x=some j):Cu 0 [s0,s1,s2,s3,s4,s5,some (.c S.s.length),some (.d (.str x))] (bS S (dS L))=some (.nx [s0,s1,s2,s3,s4,s5,some (.c S.s.length),some (.d (.str x))] (bS S (dS (L.eraseIdx j)))):=by
 have h:=OO L;unfold Cu;simp only[↓ev,bS,eM,ky,j_,hc,lC,aK,h,hj,Ys,k9]
theorem d9e(outs L:List Str)(nd:outs.Nodup)(hs:∀o∈outs,o∈L):∃L' b7,aH (af 7) (Cu 0) (dS outs) [s0,s1,s2,s3,s4,s5,some (.c S.s.length),a7] (bS S (dS L))=some (.nx [s0,s1,s2,s3,s4,s5,some (.c S.s.length),b7] (bS S (dS L'))):=by
 obtain⟨U',S',e,L',b7,rfl,rfl,_⟩:=lq (gg:=af 7) (body:=Cu 0) (f:=D.str) (U:=[s0,s1,s2,s3,s4,s5,some (.c S.s.length),a7]) (S:=bS S (dS L)) (λpre U S'=>∃L' b7,U=[s0,s1,s2,s3,s4,s5,some (.c S.s.length),b7]/\S'=bS S (dS L')/\∀o∈outs,o∉pre->o∈L') outs ⟨L,a7,rfl,rfl,λo ho _=>hs o ho⟩ (by
  rintro q x post eq U S' ⟨L',b7,rfl,rfl,hL⟩;have hxq:x∉q:=λz=>by
   rw[eq] at nd;exact(nR.mp nd).2.2 x z x (.head _) rfl
  have hx:x∈L':=hL x (by rw[eq];simp) hxq
  obtain⟨j,hj⟩:=Gg hx;refine⟨_,_,_,rfl,.inl (Mq (j6.mpr hx) hj),L'.eraseIdx j,some (.d (.str x)),rfl,rfl,λo ho hq=>?_⟩
  simp only[dN,lB,not_or] at hq;exact NX (CC hj).1 (hL o ho hq.1) hq.2)
 exact⟨L',b7,e⟩
end
theorem Yt(q:List ao)(x:ao)(post:List ao)(i:Int)(hi:i=(q.length:Nat)):cutD ((q++x::post).map aq) (some (i+1)) none=post.map aq:=by
 unfold cutD;have e4:HT.cG ((q++x::post).map aq).length 0 (some (i+1))=q.length+1:=by
  grind [HT.cG]
 have e5:HT.cG ((q++x::post).map aq).length ((q++x::post).map aq).length none=((q++x::post).map aq).length:=rfl;have e6:((q++x::post).map aq).drop (q.length+1)=post.map aq:=by
  rw[<-Ir,show q++x::post=(q++[x])++post by simp,List.drop_left' (by simp)]
 grind
section
variable{S:aN}{h:aA}
theorem Yu{d0:List D}{cs:List Str}{i:Int}{x:ao}{post:List ao}{a4 a5 a6 a7:ak Val}(hs:cutD d0 (some (i+1)) none=post.map aq)(hp:post.length<=1000)(hc:cs.length<=1000)(nd:x.outs.Nodup)(sb:∀o∈x.outs,o∈post.map ao.name++cs)(ne:x.outs≠[]):
  ∃L' b7,FO 0 [some (.d (.lst d0)),some (.d (.lst (dS cs))),some (.d (.int i)),some (.d (aq x)),a4,a5,a6,a7] S=some (.nx [some (.d (.lst d0)),some (.d (.lst (dS cs))),some (.d (.int i)),some (.d (aq x)),some (.d (.str x.name)),some (.d (.lst (dS x.outs))),some (.c S.s.length),b7] (bS S (dS L'))):=by
 obtain⟨L',b7,e⟩:=d9e (S:=S) (s0:=some (.d (.lst d0))) (s1:=some (.d (.lst (dS cs)))) (s2:=some (.d (.int i))) (s3:=some (.d (aq x))) (s4:=some (.d (.str x.name))) (s5:=some (.d (.lst (dS x.outs)))) (a7:=a7) x.outs (post.map ao.name++cs) nd sb;have e1:=zw post (by lia)
 have ap:dS (post.map ao.name)++dS cs=dS (post.map ao.name++cs):=eK.symm;have le:((dS (post.map ao.name)).length+(dS cs).length<=1000000)=True:=bJ (by rw[bw,bw,bw];lia)
 have z:(dS x.outs).isEmpty=false:=by cases hz:x.outs with|nil=>exact cC hz ne|cons _ _=>rfl
 have hD:aq x=.tup [.str x.name,.int x.long,.bl x.ring,.lst (dS x.outs)]:=rfl;refine⟨L',b7,?_⟩;rw[hD] at e ⊢;unfold FO;simp only[↓ev,cx,aO,vN,is4,hs,e1,le,ap,i6,e,z,mQ,aK]
theorem WB(g:ax h)(ho:∀b∈h.ae,b.outs≠[]):P0 FV [.d (.lst (h.ae.map aq)),.d (.lst (dS h.carts))] (rd .aI):=by
 intro S;have bl:=g.sm.bl;have ct:=g.sm.ct;have fw:=g.fwd;obtain⟨U',S',e,a2,a3,a4,a5,a6,a7,L,rfl,rfl⟩:=e8o (gg:=bD [(af 2),(af 3)]) (body:=FO 0) (U:=[some (.d (.lst (h.ae.map aq))),some (.d (.lst (dS h.carts))),none,none,none,none,none,none]) (S:=S) aq (λpre U S'=>∃a2 a3 a4 a5 a6 a7 L,U=[some (.d (.lst (h.ae.map aq))),some (.d (.lst (dS h.carts))),a2,a3,a4,a5,a6,a7]/\S'=⟨S.s++L,S.r⟩) h.ae ⟨_,_,_,_,_,_,[],rfl,by rw[mO]⟩ (by
  rintro q x post eq U S' ⟨a2,a3,a4,a5,a6,a7,L,rfl,rfl⟩;have hb:x∈h.ae:=by rw[eq];simp
  have hl:=congrArg List.length eq;rw[dy,lS] at hl;have fx:lU h.carts (x::post):=CG (by rw[<-eq];exact fw)
  have hs:=Yt q x post (q.length:Nat) rfl;rw[<-eq] at hs;obtain⟨L',b7,e⟩:=Yu (S:=⟨S.s++L,S.r⟩) (a4:=a4) (a5:=a5) (a6:=a6) (a7:=a7) (cs:=h.carts) hs (by lia) (by lia) (g.nd x hb) (λo m=>by
   rcases fx.1 o m with z|z
   .exact Fo _ z
   .exact pJ _ z) (ho x hb)
  exact⟨_,_,_,rfl,e,_,_,_,_,_,_,L++[.o (.lst (dS L'))],rfl,by unfold bS;rw[nK]⟩)
 unfold FV NT;simp only[↓ev,i6,e,uY]
theorem Oo(g:ax h):(h.carts++h.ae.map ao.name).Nodup:=by
 refine nR.mpr ⟨g.cn,?_,λa ha b hb e=>Gf g.fwd a ha (e ▸ hb)⟩
 have:∀{bs:List ao},lU h.carts bs->(bs.map ao.name).Nodup:=by
  intro bs
  induction bs with
  |nil=>intro _;exact .nil
  |cons b bs ih=>intro f;exact sj.mpr ⟨f.2.1,ih f.2.2.2⟩
 exact this g.fwd
theorem d9f(g:ax h):P0 FT [.d (aE h)] (rd (.bl true)):=by
 intro S;have ho:∀b∈h.ae,b.outs≠[]:=λb hb z=>by
  rcases g.hd b hb with y|⟨o,y,_⟩
  all_goals simp_all
 have bl:=g.sm.bl;have ct:=g.sm.ct;have nd:=Oo g;have c0:h.carts≠[]:=λz=>by have:=g.c0;rw[z] at this;cases this
 have ln:∀c,S.s.length<(S.s++[c]:List Cell).length:=λc=>by rw[dy];exact w_ _
 have e1:=d9c (S:=⟨S.s++[.o (.aB [])],S.r⟩) (n:=S.s.length) (ks:=[]) (carts:=h.carts) (ln _) g.cm (by rw[yO];exact g.cn) (by rw[B9];lia) c0
 have e2:=d9d (S:=⟨S.s++[.o (.aB [])],S.r⟩) (n:=S.s.length) (ks:=h.carts) (bs:=h.ae) (ln _) g.nm g.lg nd (by lia)
 have se:∀c:Cell,(S.s++[Cell.o (.aB [])]).set S.s.length c=S.s++[c]:=λc=>k9
 simp only[tk,se,qqc] at e1 e2;have k0:nQ []=[]:=rfl;rw[k0] at e1;have e3:=WB g ho;have e4:=e5t g;have hD:aE h=.tup [.lst (h.ae.map aq),.lst (dS h.carts)]:=rfl;rw[hD] at e4 ⊢;unfold FT NN;simp only[↓ev,cx,aO,cV,e1,e2,e3,e4,uY]
end
theorem OZ(names carts:List Str)(nd:names.Nodup)(dj:∀x∈names,x∉carts):∀(bs:List ao) (j:Nat),j+bs.length=names.length->(∀i b,bs[i]?=some b->b.name=names.getD (j+i) ""/\∀o∈b.outs,o∈names.drop (j+i+1)++carts)->lU carts bs/\bs.map ao.name=names.drop j
 |[],j,hl,_=>⟨uJ,by rw[List.drop_eq_nil_of_le (by simp at hl;lia)];rfl⟩
 |b::bs,j,hl,h=>by
  rw[lS] at hl;obtain⟨f,e⟩:=OZ names carts nd dj bs (j+1) (by lia) λi b hb=>by
   have:=h (i+1) b (by simpa using hb)
   rw[show j+(i+1)=j+1+i by lia] at this
   exact this
  obtain⟨h1,h2⟩:=h 0 b rfl;rw[Nat.add_zero] at h1 h2;have hj:j<names.length:=by lia
  have ed:names.drop j=names[j]::names.drop (j+1):=Ng hj;have en:b.name=names[j]:=by rw[h1,Cb,jq hj];rfl
  have S_:(names.drop j).Nodup:=nd.sublist (List.drop_sublist _ _);rw[ed] at S_;refine⟨⟨λo ho=>?_,?_,?_,f⟩,by rw[cq,e,en,ed]⟩
  .rcases dN.mp (h2 o ho) with z|z
   .exact .inl (by rw[e];exact z)
   .exact .inr z
  .rw[e,en];exact(sj.mp S_).1
  .rw[en];exact dj _ (Fs hj)
noncomputable def cN(bs:List ao):Int:=(bs.map ao.long).sum
theorem E4:∀{bs:List ao},(∀b∈bs,b.long<=6)->cN bs<=6*bs.length
 |[],_=>by unfold cN;simp
 |b::bs,h=>by
  have h1:=h b (.head _);have h2:=E4 (bs:=bs) λx m=>h x (.tail _ m)
  unfold cN at *;rw[cq,sv,lS];lia
theorem E3{bs:List ao}(hl:bs.length<=5)(h:∀(i:Nat) (b:ao),bs[i]?=some b->b.long<=26/\(b.long<=6\/i=0/\bs.length<3)):cN bs<=39:=by
 by_cases z:bs.length<3
 .clear hl
  match bs,z,h with
  |[],_,_=>unfold cN;simp
  |[a],_,h=>
   have:=h 0 a rfl;unfold cN;simp;lia
  |[a,b],_,h=>
   have:=h 0 a rfl;have:=h 1 b rfl;unfold cN;simp;lia
 .have:=E4 (bs:=bs) λb m=>by
   obtain⟨i,hi⟩:=AZ.mp m;have:=h i b hi;lia
  lia
theorem d9g(ns:List Int):∃h:aA,ax h/\cN h.ae<=39/\0<h.ae.length/\h.ae.length<=5/\h.carts.length<=4/\P0 Bo [.d (aZ ns)] (rd (aE h)):=by
 obtain⟨p1,p2,p3⟩:=g7 ns 0 0 5 (by decide) (by decide) (by decide)
 obtain⟨q1,q2,q3⟩:=g7 ns 0 1 4 (by decide) (by decide) (by decide)
 have hp:=zF ns 0 5 (by decide) (by decide)
 have ho:=xw ns 0 4 (by decide) (by decide)
 have e1:=λq S=>Vi q S ns (1+bu ns 0 0 5).toNat (by lia)
 have e2:=λq S=>Vj q S ns (1+bu ns 0 1 4).toNat (by lia)
 have nl:((List.range (1+bu ns 0 0 5).toNat).map (jL ns 11)).length=(1+bu ns 0 0 5).toNat:=by simp
 have cl:((List.range (1+bu ns 0 1 4).toNat).map λi=>jL ns 11 (10+i)).length=(1+bu ns 0 1 4).toNat:=by simp
 have nnd:((List.range (1+bu ns 0 0 5).toNat).map (jL ns 11)).Nodup:=PM ns _ Nh λi m=>by have:=xh.mp m;lia
 have Xo:((List.range (1+bu ns 0 1 4).toNat).map λi=>jL ns 11 (10+i)).Nodup:=by
  rw[show(λi=>jL ns 11 (10+i))=jL ns 11∘(10+·) from rfl,<-fF]
  refine PM ns _ ?_ λi m=>?_
  .rw[List.Nodup,Iu];exact Nh.imp λne z=>ne (by lia)
  grind
 have dj:∀x∈(List.range (1+bu ns 0 0 5).toNat).map (jL ns 11),x∉(List.range (1+bu ns 0 1 4).toNat).map λi=>jL ns 11 (10+i):=λx hx hc=>by
  obtain⟨i,hi,rfl⟩:=fB.mp hx;obtain⟨j,hj,e⟩:=fB.mp hc;have h1:=xh.mp hi;have h2:=xh.mp hj;have:=RV ns 11 (by decide) _ _ (by lia) (by lia) e
  lia
 have nmN:∀x∈(List.range (1+bu ns 0 0 5).toNat).map (jL ns 11),rM x:=λx hx=>by
  obtain⟨i,hi,rfl⟩:=fB.mp hx;exact OX _ (BK ns 11 (by decide) i).1 (BK ns 11 (by decide) i).2 (PD ns 11 (by decide) i)
 have nmC:∀x∈(List.range (1+bu ns 0 1 4).toNat).map (λi=>jL ns 11 (10+i)),rM x:=λx hx=>by
  obtain⟨i,hi,rfl⟩:=fB.mp hx;exact OX _ (BK ns 11 (by decide) (10+i)).1 (BK ns 11 (by decide) (10+i)).2 (PD ns 11 (by decide) (10+i))
 generalize(List.range (1+bu ns 0 0 5).toNat).map (jL ns 11)=names at *;generalize((List.range (1+bu ns 0 1 4).toNat).map λi=>jL ns 11 (10+i))=carts at *
 obtain⟨hand,hh⟩:∃x,carts.head?=some x:=by
  cases carts with
  |nil=>simp at cl;lia
  |cons a b=>exact⟨a,rfl⟩
 obtain⟨⟨bs,a4,a5,a6⟩,⟨bl,bp⟩,e3⟩:=RQ (gg:=af 4) (body:=qp 0) (f:=λ(i:Nat)=>D.int (i:Int)) (λ(b:List ao×ak Val×ak Val×ak Val) S=>([some (.d (aZ ns)),some (.d (.lst (dS names))),some (.d (.lst (dS carts))),some (.c S.s.length),b.2.1,b.2.2.1,b.2.2.2],bS S (b.1.map aq)))
  (λpre b=>b.1.length=pre.length/\(∀i x,b.1[i]?=some x->x.name=names.getD i ""/\(1<=x.long/\x.long<=26/\(x.long<=6\/i=0/\names.length<3))/\(x.ring=true->2<=x.long)/\pV (names.drop (i+1)) carts hand x.outs)) (List.range (names.length:Int).toNat) ([],none,none,none) ⟨rfl,λi b e=>(by simp at e)⟩ (by
   rintro q i post eq ⟨bs,a4,a5,a6⟩ ⟨bl,bp⟩;obtain⟨hq,hi⟩:=JT eq;dsimp only at bl bp;have hi:i<names.length:=by lia
   obtain⟨b,b1,b2,b3,b4,jU,vK,e⟩:=d9b ns i names carts hand bs a5 a6 hi (by lia) hh (by lia) (by lia)
   refine⟨(bs++[b],some (.d (.int i)),jU,vK),⟨by show(bs++[b]).length=_;rw[dy,dy,bl];rfl,λj b' j'=>?_⟩,λS=>⟨_,rfl,.inl (e S)⟩⟩
   have j':(bs++[b])[j]?=some b':=j';by_cases hj:j<bs.length
   .rw[xg hj] at j';exact bp j b' j'
   .rw[vk (by lia)] at j'
    have:j - bs.length=0:=by
     have:=(fA.mp j').1;simp at this;lia
    rw[this] at j';cases j';have ej:j=i:=by lia
    rw[ej];exact⟨b1,b2,b3,b4⟩)
 dsimp only at bl bp e3;rw[vq] at bl;have e3:=λS=>(congrArg (λl=>aH (af 4) (qp 0) l _ _) (rR _)).trans (e3 S)
 obtain⟨fw,en⟩:=OZ names carts nnd dj bs 0 (by lia) λi b hb=>by
  rw[Nat.zero_add];exact⟨(bp i b hb).1,(bp i b hb).2.2.2.sub⟩
 rw[List.drop_zero] at en;have gi:∀b∈bs,∃i,bs[i]?=some b:=λb hb=>AZ.mp hb
 have hg:carts.getD 0 ""=hand:=by
  cases carts with
  |nil=>cases hh
  |cons a b=>cases hh;rfl
 refine⟨⟨bs,carts⟩,⟨fw,⟨by show bs.length<=100;lia,by show carts.length<=100;lia,?_⟩,λb hb=>?_,nmC,λb hb=>?_,λb hb=>?_,Xo,by show 0<carts.length;lia,λb hb=>?_⟩,E3 (bs:=bs) (by lia) λi b hi=>(by have:=bp i b hi;lia),by show 0<bs.length;lia,by show bs.length<=5;lia,by show carts.length<=4;lia,λS=>Ww S ns _ _ names carts a4 a5 a6 _ hp ho (Nq (by lia)) (Nq (by lia)) (names.length:Int) (by rw[bw]) (Nq (by lia)) e1 e2 (e3 S)⟩
 .have:=QL (bs:=bs) λb hb=>by
   obtain⟨i,hi⟩:=gi b hb;exact(bp i b hi).2.2.2.len
  lia
 .exact nmN _ (by rw[<-en];exact mP hb)
 .obtain⟨i,hi⟩:=gi b hb;exact⟨(bp i b hi).2.1.1,(bp i b hi).2.2.1⟩
 .obtain⟨i,hi⟩:=gi b hb;show carts.getD 0 ""∈b.outs\/∃o∈b.outs,o∈bs.map ao.name;rw[hg,en];rcases(bp i b hi).2.2.2.hand with z|⟨o,z1,z2⟩
  .exact .inl z
  .exact .inr ⟨o,z1,List.mem_of_mem_drop z2⟩
 .obtain⟨i,hi⟩:=gi b hb;exact(bp i b hi).2.2.2.nd
section
variable{h:aA}
theorem e8w{q:Nat}{S:aN}{n:Str}{b:ao}{d0:ak Val}(hb:(b.name == n)=false):Bh q [d0,some (.d (.str n)),some (.d (aq b))] S=some (.nx [d0,some (.d (.str n)),some (.d (aq b))] S):=by
 unfold Bh aq;simp only[↓ev,cx,aK,hZ,hb]
theorem e5u{q:Nat}{S:aN}{n:Str}{b:ao}{d0:ak Val}(hb:(b.name == n)=true):Bh q [d0,some (.d (.str n)),some (.d (aq b))] S=some (.rt (rd (aq b)) S):=by
 unfold Bh aq;simp only[↓ev,cx,aK,hZ,hb,cV,jg,vN,aO]
theorem Bs(g:ax h){b:ao}(hb:b∈h.ae):Pr zh [.d (aE h),.d (.str b.name)] (rd (aq b)):=by
 intro q S;obtain⟨d,r,eq⟩:=List.append_of_mem hb;have e:aH (af 2) (Bh q) (h.ae.map aq) [some (.d (aE h)),some (.d (.str b.name)),none] S=some (.rt (rd (aq b)) S):=by
  rw[eq];refine QF (f:=aq) (λ_ U S'=>∃a,U=[some (.d (aE h)),some (.d (.str b.name)),a]/\S'=S) d [] _ _ ⟨_,rfl,rfl⟩ ?_ ?_
  .rintro d' y r' e' U S' ⟨a,rfl,rfl⟩;refine⟨_,_,_,rfl,.inl (e8w ?_),_,rfl,rfl⟩;rw[uI];intro z;have hy:y∈d:=by rw[yO] at e';rw[e'];simp
   have e2:=xu g.fwd y (by rw[eq];simp[hy]) b hb z
   have nd:=(nR.mp (Oo g)).2.1
   grind
  .rintro U S' ⟨a,rfl,rfl⟩;exact⟨_,rfl,e5u (fY _)⟩
 have hD:aE h=.tup [.lst (h.ae.map aq),.lst (dS h.carts)]:=rfl;rw[hD] at e ⊢;unfold zh OR;simp only[↓ev,cx,Nat.max_zero,e,fW]
theorem PU(g:ax h):Pr CQ [.d (aE h)] (rd (aE h)):=by
 intro q S;have bl:=g.sm.bl;have hn:=zw h.ae (by lia)
 have e:∀q S,bB (af 0) (iR true) (Jp q) (dS (h.ae.map ao.name)) [none,some (.d (aE h))] S []=some (.ok (h.ae.map aq) S):=λq S=>by
  rw[dS,fF,uX aq h.ae (by lia) λb m=>⟨rd (aq b),by
   have hb:=Bs g m;unfold Jp;simp only[↓ev,Function.comp,hb],rfl⟩]
 have hD:aE h=.tup [.lst (h.ae.map aq),.lst (dS h.carts)]:=rfl;rw[hD] at e ⊢;unfold CQ Pq;simp only[↓ev,cx,hn,e,aO,cV,fW]
end
theorem nN:atrs.contains (cHall,("built":Str))=true:=by decide +kernel
theorem NI:atrs.contains (cHall,("told_rounds":Str))=true:=by decide +kernel
theorem Hh:atrs.contains (cHall,("now":Str))=true:=by decide +kernel
theorem rZ:atrs.contains (cHall,("book":Str))=true:=by decide +kernel
theorem Bt:atrs.contains (cHall,("halts":Str))=true:=by decide +kernel
theorem ku:atrs.contains (cHall,("places":Str))=true:=by decide +kernel
theorem qr:atrs.contains (cHall,("readings":Str))=true:=by decide +kernel
theorem Bm:atrs.contains (cHall,("rounded":Str))=true:=by decide +kernel
theorem Ka:atrs.contains (cHall,("gone":Str))=true:=by decide +kernel
theorem uR:atrs.contains (cHall,("carted":Str))=true:=by decide +kernel
section
variable{d0 d1 d2 d3 d4 d5 d6 d7 d8 d9 v:D}
theorem L9:fR "told_rounds" v [(("built":Str),d0)]=[(("built":Str),d0),(("told_rounds":Str),v)]:=by kernel_rfl
theorem L_:fR "now" v [(("built":Str),d0),(("told_rounds":Str),d1)]=[(("built":Str),d0),(("told_rounds":Str),d1),(("now":Str),v)]:=by kernel_rfl
theorem Ma:fR "book" v [(("built":Str),d0),(("told_rounds":Str),d1),(("now":Str),d2)]=[(("built":Str),d0),(("told_rounds":Str),d1),(("now":Str),d2),(("book":Str),v)]:=by kernel_rfl
theorem Mb:fR "halts" v [(("built":Str),d0),(("told_rounds":Str),d1),(("now":Str),d2),(("book":Str),d3)]=[(("built":Str),d0),(("told_rounds":Str),d1),(("now":Str),d2),(("book":Str),d3),(("halts":Str),v)]:=by kernel_rfl
theorem Mc:fR "places" v [(("built":Str),d0),(("told_rounds":Str),d1),(("now":Str),d2),(("book":Str),d3),(("halts":Str),d4)]=[(("built":Str),d0),(("told_rounds":Str),d1),(("now":Str),d2),(("book":Str),d3),(("halts":Str),d4),(("places":Str),v)]:=by kernel_rfl
theorem Md:fR "readings" v [(("built":Str),d0),(("told_rounds":Str),d1),(("now":Str),d2),(("book":Str),d3),(("halts":Str),d4),(("places":Str),d5)]=[(("built":Str),d0),(("told_rounds":Str),d1),(("now":Str),d2),(("book":Str),d3),(("halts":Str),d4),(("places":Str),d5),(("readings":Str),v)]:=by kernel_rfl
theorem Me:fR "rounded" v [(("built":Str),d0),(("told_rounds":Str),d1),(("now":Str),d2),(("book":Str),d3),(("halts":Str),d4),(("places":Str),d5),(("readings":Str),d6)]=[(("built":Str),d0),(("told_rounds":Str),d1),(("now":Str),d2),(("book":Str),d3),(("halts":Str),d4),(("places":Str),d5),(("readings":Str),d6),(("rounded":Str),v)]:=by kernel_rfl
theorem Mf:fR "gone" v [(("built":Str),d0),(("told_rounds":Str),d1),(("now":Str),d2),(("book":Str),d3),(("halts":Str),d4),(("places":Str),d5),(("readings":Str),d6),(("rounded":Str),d7)]=[(("built":Str),d0),(("told_rounds":Str),d1),(("now":Str),d2),(("book":Str),d3),(("halts":Str),d4),(("places":Str),d5),(("readings":Str),d6),(("rounded":Str),d7),(("gone":Str),v)]:=by kernel_rfl
theorem Mg:fR "carted" v [(("built":Str),d0),(("told_rounds":Str),d1),(("now":Str),d2),(("book":Str),d3),(("halts":Str),d4),(("places":Str),d5),(("readings":Str),d6),(("rounded":Str),d7),(("gone":Str),d8)]=[(("built":Str),d0),(("told_rounds":Str),d1),(("now":Str),d2),(("book":Str),d3),(("halts":Str),d4),(("places":Str),d5),(("readings":Str),d6),(("rounded":Str),d7),(("gone":Str),d8),(("carted":Str),v)]:=by kernel_rfl
end
def hF(hd:D)(r now:Int)(n:Nat):List (Str×D):=[("built",hd),("told_rounds",.int r),("now",.int now),("book",.ref (n+1)),("halts",.ref (n+2)),("places",.ref (n+3)),("readings",.ref (n+4)),("rounded",.ref (n+5)),("gone",.ref (n+6)),("carted",.ref (n+7))]
section
variable{S:aN}{h:aA}{r:Int}
theorem e5v(g:ax h):CV 0 [.d (.ref S.r.length),.d (aE h),.d (.int r)] ⟨S.s,S.r++[.ins cHall []]⟩=some (.ok (rd .aI) ⟨S.s,S.r++[.ins cHall (hF (aE h) r 0 S.r.length),.o (.aB []),.o (.aB []),.o (.aB []),.o (.aB []),.o (.aB []),.o (.lst []),.o (.aB [])]⟩):=by
 have e1:=d9f g;have e2:=PU g;generalize aE h=hd at *;unfold CV PC hF;simp only[↓ev,e1,e2,eM,nN,k9,NI,L9,Hh,L_,Ej,zz,rZ,Ma,Bt,Mb,ku,Mc,qr,Md,Bm,Me,aO,aK,Ka,Mf,uR,Mg,fW]
end
theorem d9h(a b:Str):decide ((TK.inr a:TK)=TK.inr b)=(a == b):=by
 lia
theorem Gh{α:Type}(e:TK×α)(es:List (TK×α))(k:TK)(v:α):bT (e::es) k v=if e.1=k then(e.1,v)::es else e::bT es k v:=rfl
section
variable{α:Type}{k:α->Str}{v:α->D}{xs:List α}{b:Str}{y:D}
def td(k:α->Str)(v:α->D)(xs:List α):List (TK×D):=xs.map λx=>(.inr (k x),v x)
theorem oh:(td k v xs).length=xs.length:=bw ..
theorem Dg(b:Str):∀xs:List α,aS (td k v xs) (.inr b)=(xs.find? λx=>k x == b).map v
 |[]=>rfl
 |x::xs=>by
  have ih:=Dg b xs;unfold aS td at *;rw[cq,Ca,Ca];dsimp only;rw[d9h];cases(k x == b) with
  |true=>rfl
  |false=>exact ih
theorem lK{x:α}(nd:(xs.map k).Nodup)(hx:x∈xs):aS (td k v xs) (.inr (k x))=some (v x):=by
 rw[Dg];have:xs.find? (λz=>k z == k x)=some x:=by
  induction xs with
  |nil=>cases hx
  |cons z zs ih=>
   grind
 simp_all
theorem e5w(b:Str)(xs:List α):(b∉xs.map k/\aS (td k v xs) (.inr b)=none)\/∃x∈xs,k x=b/\aS (td k v xs) (.inr b)=some (v x):=by
 rw[Dg];cases e:xs.find? (λx=>k x == b) with
 |none=>
  simp_all
 |some x=>exact .inr ⟨x,Nt e,by have:=List.find?_some e;exact beq_iff_eq.mp this,rfl⟩
theorem Dh(h:b∉xs.map k):bT (td k v xs) (.inr b) y=td k v xs++[(.inr b,y)]:=by
 induction xs with
 |nil=>rfl
 |cons x xs ih=>
  rw[cq,y0a,not_or] at h;unfold td at *;rw[cq,Gh,ba (λe=>h.1 (TK.inr.inj e).symm),ih h.2]
  rfl
theorem Di(nd:(xs.map k).Nodup)(h:b∈xs.map k):bT (td k v xs) (.inr b) y=td k (λx=>if k x=b then y else v x) xs:=by
 induction xs with
 |nil=>cases h
 |cons x xs ih=>
  rw[cq,sj] at nd;unfold td at *;rw[cq,cq,Gh];dsimp only;by_cases e:k x=b
  .rw[bI (by rw[e]),bI e]
   congr 1
   refine pB λz m=>?_
   rw[ba λe2=>nd.1 (by rw[e,<-e2];exact mP m)]
  .rw[ba (λe2=>e (TK.inr.inj e2)),ba e,ih nd.2]
   rcases y0a.mp h with z|z
   .exact cC z.symm e
   .exact z
theorem C7:dr (td k v xs) b=td k v (xs.filter λx=>decide (k x≠b)):=by
 unfold dr td;rw[List.filter_map]
 congr 1
 refine List.filter_congr λx _=>?_
 unfold iY;dsimp only[Function.comp];exact decide_eq_decide.mpr (not_congr ⟨λz=>TK.inr.inj z,λz=>congrArg TK.inr z⟩)
theorem QM:(td k v xs).map (·.1.d)=dS (xs.map k):=by
 unfold td dS;rw[fF,fF];refine pB λx _=>?_
 simp[TK.d]
theorem zG:gq (td k v xs)=true:=by
 unfold td gq;rw[Ft];exact pK.mpr λx _=>rfl
end
section
variable{hd:D}{r nw v:Int}{n:Nat}
theorem n_:List.lookup ("built":Str) (hF hd r nw n)=some (hd):=by kernel_rfl
theorem T_:List.lookup ("told_rounds":Str) (hF hd r nw n)=some (.int r):=by kernel_rfl
theorem Kq:List.lookup ("now":Str) (hF hd r nw n)=some (.int nw):=by kernel_rfl
theorem tq:List.lookup ("book":Str) (hF hd r nw n)=some (.ref (n+1)):=by kernel_rfl
theorem CY:List.lookup ("halts":Str) (hF hd r nw n)=some (.ref (n+2)):=by kernel_rfl
theorem lj:List.lookup ("places":Str) (hF hd r nw n)=some (.ref (n+3)):=by kernel_rfl
theorem rq:List.lookup ("readings":Str) (hF hd r nw n)=some (.ref (n+4)):=by kernel_rfl
theorem CH:List.lookup ("rounded":Str) (hF hd r nw n)=some (.ref (n+5)):=by kernel_rfl
theorem QN:List.lookup ("gone":Str) (hF hd r nw n)=some (.ref (n+6)):=by kernel_rfl
theorem vD:List.lookup ("carted":Str) (hF hd r nw n)=some (.ref (n+7)):=by kernel_rfl
theorem e5x:fR "now" (.int v) (hF hd r nw n)=hF hd r v n:=by kernel_rfl
end
variable{hd:D}
section
variable{hd:D}{r nw:Int}{n:Nat}
theorem O0:Cell.kc cHall ("flight":Str) (.ins cHall (hF hd r nw n))=true:=by kernel_rfl
theorem O1:Cell.kc cHall ("change":Str) (.ins cHall (hF hd r nw n))=true:=by kernel_rfl
theorem N8:Cell.kc cHall ("call_off":Str) (.ins cHall (hF hd r nw n))=true:=by kernel_rfl
theorem QO:Cell.kc cHall ("read":Str) (.ins cHall (hF hd r nw n))=true:=by kernel_rfl
theorem QP:Cell.kc cHall ("stop":Str) (.ins cHall (hF hd r nw n))=true:=by kernel_rfl
theorem JU:Cell.kc cHall ("start":Str) (.ins cHall (hF hd r nw n))=true:=by kernel_rfl
theorem RX:Cell.kc cHall ("put":Str) (.ins cHall (hF hd r nw n))=true:=by kernel_rfl
theorem sX:Cell.kc cHall ("check_flight":Str) (.ins cHall (hF hd r nw n))=true:=by kernel_rfl
theorem sY:Cell.kc cHall ("check_belt":Str) (.ins cHall (hF hd r nw n))=true:=by kernel_rfl
theorem Bd:Cell.kc cHall ("check_inside":Str) (.ins cHall (hF hd r nw n))=true:=by kernel_rfl
theorem Yv:Cell.kc cHall ("house":Str) (.ins cHall (hF hd r nw n))=true:=by kernel_rfl
theorem JG:Cell.kc cHall ("rounds":Str) (.ins cHall (hF hd r nw n))=true:=by kernel_rfl
theorem Oq:Cell.kc cHall ("stopped":Str) (.ins cHall (hF hd r nw n))=true:=by kernel_rfl
theorem uS:Cell.kc cHall ("bags":Str) (.ins cHall (hF hd r nw n))=true:=by kernel_rfl
theorem e5y:Cell.kc cHall ("out":Str) (.ins cHall (hF hd r nw n))=true:=by kernel_rfl
theorem d9i:Cell.kc cHall ("late":Str) (.ins cHall (hF hd r nw n))=true:=by kernel_rfl
theorem Jt:Cell.kc cHall ("cart_of":Str) (.ins cHall (hF hd r nw n))=true:=by kernel_rfl
theorem Ju:Cell.kc cHall ("catches":Str) (.ins cHall (hF hd r nw n))=true:=by kernel_rfl
theorem N9:Cell.kc cHall ("in_order":Str) (.ins cHall (hF hd r nw n))=true:=by kernel_rfl
theorem d9j:Cell.kc cHall ("move":Str) (.ins cHall (hF hd r nw n))=true:=by kernel_rfl
theorem Vn:Cell.kc cHall ("move_on":Str) (.ins cHall (hF hd r nw n))=true:=by kernel_rfl
theorem UM:Cell.kc cHall ("move_out":Str) (.ins cHall (hF hd r nw n))=true:=by kernel_rfl
end
structure Row where
 bag:Str
 b:Str
 i:Int
 fl:ak Str
 gn:Int
instance:Inhabited Row:=⟨"","",0,none,0⟩
structure Hl where
 now:Int
 book:List (Str×Str×Int)
 halts:List Str
 rows:List Row
 gone:List (Str×Str×Int)
def aL:ak Str->D
 |none=>.aI
 |some x=>.str x
abbrev pl(b:Str)(i:Int):D:=.tup [.str b,.int i]
def t3(p:Str×Str×Int):D:=.tup [.str p.1,.str p.2.1,.int p.2.2]
def lZ(l:List (Str×Str×Int)):List (TK×D):=td (·.1) t3 l
def gL(l:List Row):List (TK×D):=td Row.bag (λr=>pl r.b r.i) l
def ib(l:List Row):List (TK×D):=td Row.bag (λr=>aL r.fl) l
def lA(l:List Row):List (TK×D):=td Row.bag (λr=>.int r.gn) l
def zO(l:List (Str×Str×Int)):List (TK×D):=td (·.1) (λp=>.str p.2.1) l
def u7(l:List (Str×Str×Int)):List D:=l.map t3
abbrev hR(hd:D)(r:Int)(x:Hl):List Cell:=[.ins cHall (hF hd r x.now 0),.o (.aB (lZ x.book)),.o (.aB (nQ x.halts)),.o (.aB (gL x.rows)),.o (.aB (ib x.rows)),.o (.aB (lA x.rows)),.o (.lst (u7 x.gone)),.o (.aB (zO x.gone))]
noncomputable abbrev hS(hd:D)(r:Int)(x:Hl)(s:List Cell):aN:=⟨s,hR hd r x⟩
section
variable{s:List Cell}{h:aA}{r:Int}{x:Hl}{q:Nat}{b:Str}
theorem Yw(g:ax h):Ge q [.d (.ref 0)] (hS (aE h) r x s)=some (.ok (rd (aE h)) (hS (aE h) r x s)):=by
 have e2:=PU g;unfold Ge OV;generalize aE h=hd at *;simp only[↓ev,hR,nN,n_,e2,cf]
theorem JH:CD q [.d (.ref 0)] (hS hd r x s)=some (.ok (rd (.int r)) (hS hd r x s)):=by
 unfold CD Oi;simp only[↓ev,hR,NI,T_,cf]
theorem Kr:vI q [.d (.ref 0)] (hS hd r x s)=some (.ok (.o (.lst (u7 x.gone))) (hS hd r x s)):=by
 unfold vI QG;simp only[↓ev,hR,Ka,QN,aO,cf]
theorem Bq(g:ax h){v:Bool}(hb:(h.ae.map ao.name).contains b=v):Be q [.d (.ref 0),.d (.str b)] (hS (aE h) r x s)=some (if v=true then .ok (rd .aI) (hS (aE h) r x s) else .ex 116 none (hS (aE h) r x s)):=by
 have bl:=g.sm.bl;have hn:=zw h.ae (by lia)
 unfold Be NH aE;cases v with
 |true=>simp only[↓ev,hR,nN,n_,cx,hn,ky,j_,hb,lC,aK,cf]
 |false=>simp only[↓ev,hR,nN,n_,cx,hn,ky,j_,hb,mQ,cf,aK]
theorem BL{α:Type}{k:α->Str}{v:α->D}{xs:List α}{b:Str}:(aS (td k v xs) (.inr b)).isSome=(xs.map k).contains b:=by
 rcases e5w (k:=k) (v:=v) b xs with⟨h,e⟩|⟨x,m,ek,e⟩
 .rw[e,show(xs.map k).contains b=false by rw[A6];exact λz=>h (j6.mp z)];rfl
 .rw[e,show(xs.map k).contains b=true from j6.mpr (by rw[<-ek];exact mP m)];rfl
theorem Yx(q:Nat)(ns:List Str)(hl:ns.length<=1000):bB (af 0) (IZ q) (I_ q) (dS ns) [none,some (.d (.ref 0))] (hS hd r x s) []=some (.ok (dS (ns.filter λn=>x.halts.contains n)) (hS hd r x s)):=by
 rw[dS,xJ (λo=>if x.halts.contains o=true then some (.str o) else none) ns (by lia) λo m=>by
  have v:=xE o x.halts;unfold IZ I_;cases hc:x.halts.contains o with
  |true=>
   rw[hc] at v;exact .inr ⟨rd (.str o),.str o,rfl,by simp only[↓ev,hR,Bt,CY,aO,aK,v],by simp only[↓ev],rfl⟩
  |false=>
   rw[hc] at v;exact .inl ⟨rfl,by simp only[↓ev,hR,Bt,CY,aO,aK,v]⟩]
 congr 2
 induction ns with
 |nil=>rfl
 |cons o ns ih=>
  grind
noncomputable def bo(h:aA)(x:Hl):List Str:=(h.ae.map ao.name).filter λn=>x.halts.contains n
theorem O2(g:ax h):Cz q [.d (.ref 0)] (hS (aE h) r x s)=some (.ok (.o (.lst (dS (bo h x)))) (hS (aE h) r x s)):=by
 have bl:=g.sm.bl;have hn:=zw h.ae (by lia)
 have e:=λq=>Yx (s:=s) (r:=r) (x:=x) (hd:=aE h) q (h.ae.map ao.name) (by rw[bw];lia)
 unfold Cz N4 bo aE at *;simp only[↓ev,hR,nN,n_,cx,hn,e,cf]
end
variable{h:aA}{b:Str}{S:aN}
noncomputable def rk(h:aA)(b:Str):Int:=((findS (h.ae.map ao.name) b).getD 0:Nat)
theorem PV:∀xs:List Str,e_ (dS xs)=some xs
 |[]=>rfl
 |x::xs=>by
  have ih:=PV xs;show(e_ (D.str x::dS xs))=_;unfold e_;rw[ih];rfl
theorem e5z(hb:b∈h.ae.map ao.name):jj (.lst (dS (h.ae.map ao.name))) (.str b)=some (rd (.int (rk h b))):=by
 obtain⟨j,hj⟩:=Gg hb;show(e_ (dS _)).bind _=_;unfold rk;rw[PV,vn,hj];rfl
theorem e6a{c:Str}(hb:b∈h.ae.map ao.name)(hc:c∈h.ae.map ao.name)(e:rk h b=rk h c):b=c:=by
 obtain⟨j,hj⟩:=Gg hb;obtain⟨k,hk⟩:=Gg hc;unfold rk at e;rw[hj,hk] at e;have e:((j:Nat):Int)=(k:Nat):=e;have e:j=k:=by lia
 have h1:=(CC hj).1;have h2:=(CC hk).1;rw[e,h2] at h1;exact(Option.some.inj h1).symm
def n8(h:aA)(r:Row):Prop:=∃bt∈h.ae,bt.name=r.b/\0<=r.i/\r.i<bt.long/\0<=r.gn
theorem n8.nm{r:Row}(o:n8 h r):r.b∈h.ae.map ao.name:=by
 obtain⟨bt,hb,e,_⟩:=o;rw[<-e];exact mP hb
def pH(h:aA)(r:Row):D:=.tup [.int (rk h r.b),.int r.i,.str r.bag]
def nu(h:aA)(r:Row):Int×Int:=(rk h r.b,r.i)
def ord(h:aA)(rows:List Row):List Row:=if rows.length<2 then rows else(dc (rows.map (nu h))).map λj=>rows.getD j default
theorem PX(h:aA):∀rows:List Row,jJ (rows.map (pH h))=some (rows.map (nu h))
 |[]=>rfl
 |r::rows=>by
  have ih:=PX h rows;show jJ (D.tup [.int (rk h r.b),.int r.i,.str r.bag]::rows.map (pH h))=_;unfold jJ;rw[ih];rfl
theorem PY{rows:List Row}(nd:(rows.map (nu h)).Nodup):(ord h rows).Perm rows:=by
 unfold ord;split
 .rfl
 .rename_i hl
  obtain⟨p,_⟩:=Gk nd (by rw[bw];lia)
  rw[bw] at p;refine(p.map _).trans ?_;have:(List.range rows.length).map (λj=>rows.getD j default)=rows:=by
   refine Ni λi=>?_
   rw[gP];by_cases hi:i<rows.length
   .rw[A1 hi,jq hi];simp[hi]
   .rw[A4 (by simp;lia),A4 (by lia)]
    rfl
  rw[this]
theorem e6b(rows:List Row):(List.range (gL rows).length).map (λi=>D.tup ((((gL rows)[i]?).map λp=>[p.1.d,p.2]).getD []))=rows.map λr=>.tup [.str r.bag,pl r.b r.i]:=by
 unfold gL;refine Ni λi=>?_
 rw[oh,gP,gP];by_cases hi:i<rows.length
 .rw[A1 hi,jq hi];unfold td;rw[Fu,Fu,gP,jq hi];simp[TK.d]
 .rw[A4 (by simp;lia),A4 (by lia)]
  rfl
section
variable{s:List Cell}{h:aA}{r:Int}{x:Hl}{q:Nat}
theorem d9k(q:Nat)(rows:List Row)(hl:rows.length<=1000)(ho:∀w∈rows,n8 h w):bB (bD [(af 0),(af 1)]) (iR true) (IU q) (rows.map λw=>.tup [.str w.bag,pl w.b w.i]) [none,none,some (.d (.lst (dS (h.ae.map ao.name))))] S []=some (.ok (rows.map (pH h)) S):=by
 rw[He (λw=>some (pH h w)) (λU=>∃a b,U=[a,b,some (.d (.lst (dS (h.ae.map ao.name))))]) rows _ [] ⟨_,_,rfl⟩ (by rw[B9];lia) λw m U ⟨a,b,hU⟩=>⟨[some (.d (.str w.bag)),some (.d (pl w.b w.i)),some (.d (.lst (dS (h.ae.map ao.name))))],by rw[hU];rfl,⟨_,_,rfl⟩,.inr ⟨rd (pH h w),pH h w,rfl,rfl,by
   have hi:=e5z (ho w m).nm;unfold IU pH;simp only[↓ev,cx,hi,cV,aO],rfl⟩⟩,List.filterMap_eq_map',yO]
theorem d9l(q:Nat)(l:List Row)(hl:l.length<=1000):bB (af 0) (iR true) (IV q) (l.map (pH h)) [none] S []=some (.ok (dS (l.map Row.bag)) S):=by
 rw[uX (λw=>.str w.bag) l (by lia) λw m=>⟨rd (.str w.bag),by unfold IV pH;simp only[↓ev,jg],rfl⟩]
 unfold dS;rw[fF];rfl
theorem QQ(g:ax h)(nd:(x.rows.map (nu h)).Nodup)(hl:x.rows.length<64)(ho:∀w∈x.rows,n8 h w):Bf q [.d (.ref 0)] (hS (aE h) r x s)=some (.ok (.o (.lst (dS ((ord h x.rows).map Row.bag)))) (hS (aE h) r x s)):=by
 have bl:=g.sm.bl;have hn:=zw h.ae (by lia)
 have e1:=λq=>d9k (S:=hS (aE h) r x s) q x.rows (by lia) ho
 have e2:=e6b x.rows;have pl:=(PY nd).length_eq;have e3:=λq=>d9l (h:=h) (S:=hS (aE h) r x s) q (ord h x.rows) (by lia)
 have e0:gq (gL x.rows)=true:=zG;by_cases lt:x.rows.length<2
 .have h1:((x.rows.map (pH h)).length<2)=True:=bJ (by rw[bw];exact lt)
  have h2:ord h x.rows=x.rows:=bI lt;rw[h2] at e3 ⊢;unfold Bf Jc aE at *;generalize(x.rows.map (pH h))=l1 at *;simp only[↓ev,hR,nN,n_,cx,hn,aO,ku,lj,e0,e2,e1,h1,e3,cf]
 .have h1:((x.rows.map (pH h)).length<2)=False:=eq_false (by rw[bw];exact lt)
  have h2:=PX h x.rows;have h3:((x.rows.map (nu h)).Nodup/\(x.rows.map (nu h)).length<64)=True:=bJ ⟨nd,by rw[bw];exact hl⟩
  have h4:mI (x.rows.map (pH h)) (dc (x.rows.map (nu h)))=(ord h x.rows).map (pH h):=by
   unfold ord mI;rw[ba lt,fF];refine pB λj m=>?_
   have p:=(Gk nd (by rw[bw];lia)).1
   have hj:j<x.rows.length:=by
    have:=xh.mp (p.mem_iff.mp m)
    rwa[bw] at this
   simp[hj]
  unfold Bf Jc aE at *;generalize(x.rows.map (pH h))=l1 at *;generalize((ord h x.rows).map (pH h))=l2 at *;generalize(x.rows.map (nu h))=ks at *;simp only[↓ev,hR,nN,n_,cx,hn,aO,ku,lj,e0,e2,e1,h1,h2,h3,h4,e3,cf]
end
variable{hd:D}
structure Ok (h:aA) (n:Nat) (x:Hl):Prop where
 rw:∀w∈x.rows,n8 h w/\rM w.bag/\∀f,w.fl=some f->f∈x.book.map (·.1)
 nd:(x.rows.map Row.bag++x.gone.map (·.1)).Nodup
 un:(x.rows.map λw=>(w.b,w.i)).Nodup
 bk:∀p∈x.book,p.2.1∈h.carts
 bn:(x.book.map (·.1)).Nodup
 rl:x.rows.length<=8
 sz:x.book.length+x.halts.length+x.rows.length+x.gone.length<=n
noncomputable def aT(w:Row):D:=.tup [.str w.bag,aL w.fl,pl w.b w.i,.int w.gn]
section
variable{s:List Cell}{h:aA}{r:Int}{x:Hl}{q n:Nat}{w:Row}
theorem Ok.nb(o:Ok h n x):(x.rows.map Row.bag).Nodup:=(nR.mp o.nd).1
theorem Ok.nk(o:Ok h n x):(x.rows.map (nu h)).Nodup:=by
 have e:=o.un;rw[List.Nodup,Iu] at e ⊢;refine e.imp_of_mem λ{a b} ma mb ne z=>ne ?_
 have h1:=congrArg Prod.fst z;have h2:=congrArg Prod.snd z;rw[show a.b=b.b from e6a (o.rw a ma).1.nm (o.rw b mb).1.nm h1,show a.i=b.i from h2]
theorem Ok.perm(o:Ok h n x):(ord h x.rows).Perm x.rows:=PY o.nk
theorem Ok.mem(o:Ok h n x):w∈ord h x.rows↔w∈x.rows:=o.perm.mem_iff
theorem WC(q:Nat)(nb:(x.rows.map Row.bag).Nodup)(l:List Row)(hl:l.length<=1000)(hm:∀w∈l,w∈x.rows):bB (af 0) (iR true) (Jq q) (dS (l.map Row.bag)) [none,some (.d (.ref 0))] (hS hd r x s) []=some (.ok (l.map aT) (hS hd r x s)):=by
 rw[show dS (l.map Row.bag)=l.map λw=>.str w.bag by unfold dS;rw[fF];rfl,uX aT l (by lia) λw m=>⟨rd (aT w),by
  have h1:aS (gL x.rows) (.inr w.bag)=_:=lK nb (hm w m);have h2:aS (ib x.rows) (.inr w.bag)=_:=lK nb (hm w m);have h3:aS (lA x.rows) (.inr w.bag)=_:=lK nb (hm w m);unfold Jq aT;generalize aL w.fl=ff at *;simp only[↓ev,hR,qr,rq,aO,h2,ku,lj,h1,Bm,CH,h3],rfl⟩]
theorem uT(g:ax h)(o:Ok h n x):pY q [.d (.ref 0)] (hS (aE h) r x s)=some (.ok (.o (.lst ((ord h x.rows).map aT))) (hS (aE h) r x s)):=by
 have rl:=o.rl;have e1:=λq=>QQ (s:=s) (r:=r) (q:=q) g o.nk (by lia) λw m=>(o.rw w m).1
 have e2:=λq=>WC (s:=s) (r:=r) (hd:=aE h) q o.nb (ord h x.rows) (by rw[o.perm.length_eq];lia) λw m=>o.mem.mp m
 generalize aE h=hd at *;unfold pY Px;simp only[↓ev,hR,cU,N9,e1,e2,cf]
theorem d9m(q:Nat)(hn:rM w.bag)(hw:w∈x.rows)(nb:(x.rows.map Row.bag).Nodup):y_ q [.d (.ref 0),.d (.str w.bag)] (hS hd r x s)=some (.ok (rd .aI) (hS hd r x s)):=by
 have h1:aS (gL x.rows) (.inr w.bag)=_:=lK nb hw;unfold y_ IS;simp only[↓ev,hn,aK,hR,ku,lj,aO,h1,lC,cf]
end
noncomputable def pG(kn:List (Str×Int)):List (TK×D):=kn.map λp=>(.inr p.1,.int p.2)
noncomputable def atS(kn:List (Str×Int))(n:Str):ak Int:=(kn.find? λp=>p.1 == n).map (·.2)
theorem QR(x:Str):atS [] x=none:=rfl
theorem zp(k:Str)(v:Int)(kn:List (Str×Int))(x:Str):atS ((k,v)::kn) x=if k=x then some v else atS kn x:=by
 grind [atS]
theorem Gy(k:Str)(v:Int)(x:Str):∀kn:List (Str×Int),atS (kn++[(k,v)]) x=(atS kn x).or (if k=x then some v else none)
 |[]=>by rw[yO,zp,QR,Option.none_or]
 |(k',v')::kn=>by
  rw[List.cons_append,zp,zp,Gy k v x kn];split
  .rfl
  .rfl
theorem C8(x:Str):∀kn:List (Str×Int),aS (pG kn) (.inr x)=(atS kn x).map .int
 |[]=>rfl
 |(k,v)::kn=>by
  have ih:=C8 x kn
  grind [zp,aS,pG]
theorem pg0{a:TK}{y:D}:bT [] a y=[(a,y)]:=rfl
theorem QS:∀(kn:List (Str×Int)) (k:Str) (v:Int),atS kn k=none->bT (pG kn) (.inr k) (.int v)=pG (kn++[(k,v)])
 |[],_,_,_=>rfl
 |(k',v')::kn,k,v,h=>by
  rw[zp] at h;have e:¬k'=k:=λz=>by rw[bI z] at h;cases h
  rw[ba e] at h;show bT ((TK.inr k',D.int v')::pG kn) (.inr k) (.int v)=(TK.inr k',D.int v')::pG (kn++[(k,v)]);rw[<-QS kn k v h,Gh,ba (λz=>e (TK.inr.inj z))]
def dC(kn:List (Str×Int))(outs:List Str):List Int:=outs.filterMap (atS kn)
def bh(aP:Str):List ao->List (Str×Int)
 |[]=>[(aP,0)]
 |b::bs=>if dC (bh aP bs) b.outs=[] then bh aP bs else bh aP bs++[(b.name,b.long+iX (dC (bh aP bs) b.outs))]
theorem PZ(aP:Str):∀bs:List ao,(bh aP bs).length<=bs.length+1
 |[]=>bP _
 |b::bs=>by
  have:=PZ aP bs;unfold bh;split
  .rw[lS];lia
  .rw[dy,vm,lS];lia
theorem JV{aP:Str}:∀{bs:List ao} {n:Str},n≠aP->n∉bs.map ao.name->atS (bh aP bs) n=none
 |[],n,h1,_=>by
  show atS [(aP,0)] n=none
  grind [zp,QR]
 |b::bs,n,h1,h2=>by
  rw[cq] at h2;have h3:n≠b.name:=λz=>h2 (by rw[z];exact .head _)
  have ih:=JV (aP:=aP) (bs:=bs) h1 λz=>h2 (.tail _ z)
  unfold bh;split
  .exact ih
  .rw[Gy,ih,ba (λz=>h3 z.symm)];rfl
theorem d9n(kn:List (Str×Int)):∀outs:List Str,(outs.filterMap λo=>(atS kn o).map D.int)=(dC kn outs).map D.int
 |[]=>rfl
 |o::outs=>by
  grind [dC]
abbrev nz(S:aN)(kn:List (Str×Int)):aN:=⟨S.s++[.o (.aB (pG kn))],S.r⟩
section
variable{S:aN}{kn:List (Str×Int)}{outs:List Str}{g0 g1 a7:ak Val}{x:ao}
theorem P1(q:Nat)(h:outs.length<=1000):bB (af 0) (Jn q) (Jo q) (dS outs) [none,some (.c S.s.length)] (nz S kn) []=some (.ok ((dC kn outs).map D.int) (nz S kn)):=by
 rw[dS,xJ (λo=>(atS kn o).map D.int) outs (by lia) λo m=>by
  have v:=C8 o kn;unfold Jn Jo;cases hc:atS kn o with
  |some w=>
   rw[hc] at v;exact .inr ⟨rd (.int w),.int w,rfl,by simp only[↓ev,eM,aK,v,yP],by simp only[↓ev,eM,v],rfl⟩
  |none=>
   rw[hc] at v;exact .inl ⟨rfl,by simp only[↓ev,eM,aK,v,A3]⟩,d9n]
theorem e6c(ho:x.outs.length<=1000)(hb:dC kn x.outs=[]):Bl 0 [g0,g1,some (.c S.s.length),some (.d (.str x.name)),some (.d (.int x.long)),some (.d (.bl x.ring)),some (.d (.lst (dS x.outs))),a7] (nz S kn)=some (.nx [g0,g1,some (.c S.s.length),some (.d (.str x.name)),some (.d (.int x.long)),some (.d (.bl x.ring)),some (.d (.lst (dS x.outs))),some (.d (.lst []))] (nz S kn)):=by
 have e:=λq=>P1 (S:=S) (kn:=kn) q ho
 rw[hb] at e;unfold Bl;simp only[↓ev,e,aO,aK]
theorem d9o(ho:x.outs.length<=1000){i:Int}{is:List Int}(hb:dC kn x.outs=i::is)(hn:atS kn x.name=none)(hl:((pG kn).length<1000000)=True):Bl 0 [g0,g1,some (.c S.s.length),some (.d (.str x.name)),some (.d (.int x.long)),some (.d (.bl x.ring)),some (.d (.lst (dS x.outs))),a7] (nz S kn)=some (.nx [g0,g1,some (.c S.s.length),some (.d (.str x.name)),some (.d (.int x.long)),some (.d (.bl x.ring)),some (.d (.lst (dS x.outs))),some (.d (.lst ((i::is).map D.int)))] (nz S (kn++[(x.name,x.long+iX (i::is))]))):=by
 have e:=λq=>P1 (S:=S) (kn:=kn) q ho
 rw[hb] at e;have p:=QS kn x.name (x.long+iX (i::is)) hn;have z:((i::is).map D.int).isEmpty=false:=rfl;have m:=JA (i::is);have ne:((i::is)=[])=False:=eq_false (Nn _ _);generalize(i::is).map D.int=l at *;unfold Bl;simp only[↓ev,e,aO,z,mQ,m,ne,eM,hl,p,k9]
theorem P4{h:aA}(g:ax h){aP:Str}(hc:aP∈h.carts):P0 CP [.d (aE h),.d (.str aP)] (.o (.aB (pG (bh aP h.ae)))):=by
 intro S;have bl:=g.sm.bl;have ou:=g.sm.ou;have f:=g.fwd;obtain⟨U',S',e,a3,a4,a5,a6,a7,rfl,rfl⟩:=lq (gg:=bD [(af 3),(af 4),(af 5),(af 6)]) (body:=Bl 0) (f:=aq) (U:=[some (.d (aE h)),some (.d (.str aP)),some (.c S.s.length),none,none,none,none,none]) (S:=nz S (bh aP [])) (λpre U S'=>∃a3 a4 a5 a6 a7,U=[some (.d (aE h)),some (.d (.str aP)),some (.c S.s.length),a3,a4,a5,a6,a7]/\S'=nz S (bh aP pre.reverse)) h.ae.reverse ⟨_,_,_,_,_,rfl,rfl⟩ (by
  rintro q x post eq U S' ⟨a3,a4,a5,a6,a7,rfl,rfl⟩;have eb:h.ae=post.reverse++x::q.reverse:=by
   simp_all
  have fx:lU h.carts (x::q.reverse):=CG (by rw[<-eb];exact f)
  have ho:x.outs.length<=1000:=by
   grind
  have hn:atS (bh aP q.reverse) x.name=none:=JV (λz=>fx.2.2.1 (z ▸ hc)) fx.2.1
  have hl:(bh aP q.reverse).length<=1000:=by
   grind [PZ]
  rw[List.reverse_append,List.reverse_singleton,List.singleton_append];have ebg:bh aP (x::q.reverse)=if dC (bh aP q.reverse) x.outs=[] then bh aP q.reverse else bh aP q.reverse++[(x.name,x.long+iX (dC (bh aP q.reverse) x.outs))]:=by
   rfl
  rw[ebg];generalize bh aP q.reverse=kn at *;cases hb:dC kn x.outs with
  |nil=>exact⟨_,_,_,rfl,.inl (e6c ho hb),_,_,_,_,_,rfl,by rw[bI rfl]⟩
  |cons i is=>exact⟨_,_,_,rfl,.inl (d9o ho hb hn (bJ (by unfold pG;rw[bw];lia))),_,_,_,_,_,rfl,by rw[ba (Nn _ _)]⟩)
 rw[List.reverse_reverse,List.map_reverse,show nz S (bh aP [])=⟨S.s++[.o (.aB [(.inr aP,.int 0)])],S.r⟩ from rfl] at e;have hD:aE h=.tup [.lst (h.ae.map aq),.lst (dS h.carts)]:=rfl;have tl:∀c:Cell,(S.s++[c]).take S.s.length=S.s:=λc=>List.take_left
 rw[hD] at e ⊢;unfold CP Pp;simp only[↓ev,Ej,eM,aO,Nm,pg0,List.foldl_nil,tl,cx,i6,e,Am,uY]
end
variable{kn:List (Str×Int)}{outs:List Str}{best:ak Str}
theorem CZ{carts:List Str}:∀{bs:List ao},lU carts bs->∀b∈bs,∀o∈b.outs,o∈bs.map ao.name\/o∈carts
 |x::bs,f,b,hb,o,ho=>by
  rcases y0a.mp hb with rfl|hb
  .rcases f.1 o ho with z|z
   .exact .inl (.tail _ z)
   .exact .inr z
  .rcases CZ f.2.2.2 b hb o ho with z|z
   .exact .inl (.tail _ z)
   .exact .inr z
theorem F6{aP:Str}{x:ao}{bs:List ao}{n:Str}(h:n≠x.name):atS (bh aP (x::bs)) n=atS (bh aP bs) n:=by
 conv=>lhs;unfold bh
 split
 .rfl
 .rw[Gy,ba (λz=>h z.symm),Option.or_none]
theorem Ot{kn':List (Str×Int)}(h:∀o∈outs,atS kn o=atS kn' o):dC kn outs=dC kn' outs:=by
 unfold dC
 induction outs with
 |nil=>rfl
 |cons o outs ih=>
  have:=ih λz hz=>h z (.tail _ hz)
  rw[qf,qf,h o (.head _),this]
theorem Kb{carts:List Str}{aP:Str}(hc:aP∈carts):∀{bs:List ao},lU carts bs->∀b∈bs,atS (bh aP bs) b.name=if dC (bh aP bs) b.outs=[] then none else some (b.long+iX (dC (bh aP bs) b.outs))
 |x::bs,f,b,hb=>by
  rcases y0a.mp hb with rfl|hb
  .have ho:∀o∈b.outs,o≠b.name:=λo ho z=>by
    rcases f.1 o ho with y|y
    .exact f.2.1 (by rw[<-z];exact y)
    .exact f.2.2.1 (by rw[<-z];exact y)
   have e:=Ot (kn:=bh aP (b::bs)) (kn':=bh aP bs) (outs:=b.outs) λo m=>F6 (ho o m)
   rw[e]
   conv=>lhs;unfold bh
   have hn:atS (bh aP bs) b.name=none:=JV (λz=>f.2.2.1 (by rw[z];exact hc)) f.2.1
   split
   .exact hn
   .rw[Gy,hn,bI rfl];rfl
  .have hn:b.name≠x.name:=λz=>f.2.1 (by rw[<-z];exact mP (f:=ao.name) hb)
   have ho:∀o∈b.outs,o≠x.name:=λo ho z=>by
    rcases CZ f.2.2.2 b hb o ho with y|y
    .exact f.2.1 (by rw[<-z];exact y)
    .exact f.2.2.1 (by rw[<-z];exact y)
   have e:=Ot (kn:=bh aP (x::bs)) (kn':=bh aP bs) (outs:=b.outs) λo m=>F6 (ho o m)
   rw[e,F6 hn];exact Kb hc f.2.2.2 b hb
theorem QT{carts:List Str}{aP:Str}(hc:aP∈carts):∀{bs:List ao},lU carts bs->atS (bh aP bs) aP=some 0
 |[],_=>by show atS [(aP,0)] aP=some 0;rw[zp,bI rfl]
 |x::bs,f=>by rw[F6 (λz=>f.2.2.1 (by rw[<-z];exact hc))];exact QT hc f.2.2.2
def zY(h:aA)(aP n:Str)(c:Int):D:=match atS (bh aP h.ae) n with
 |none=>.aI
 |some v=>.int (v - c)
def oa(kn:List (Str×Int))(best:ak Str)(o:Str):ak Str:=match atS kn o with
 |none=>best
 |some v=>match best with
  |none=>some o
  |some p=>if v<(atS kn p).getD 0 then some o else best
def gb(kn:List (Str×Int))(outs:List Str):ak Str:=outs.foldl (oa kn) none
def zH(kn:List (Str×Int))(best:ak Str):Prop:=∀p,best=some p->∃v,atS kn p=some v
theorem Ou(h:zH kn best)(o:Str):zH kn (oa kn best o):=by
 intro p e;unfold oa at e;cases q:atS kn o with
 |none=>rw[q] at e;exact h p e
 |some v=>
  rw[q] at e;dsimp only at e;cases best with
  |none=>cases e;exact⟨v,q⟩
  |some p'=>
   dsimp only at e;split at e
   .simp_all
   .exact h p e
theorem QU{kn:List (Str×Int)}:∀{outs:List Str} {best:ak Str},zH kn best->zH kn (outs.foldl (oa kn) best)
 |[],_,h=>h
 |o::outs,best,h=>QU (outs:=outs) (Ou h o)
theorem JW{kn:List (Str×Int)}:∀{outs:List Str} {best:ak Str},zH kn best->
  (outs.foldl (oa kn) best=none↔best=none/\dC kn outs=[])/\
  ∀a,outs.foldl (oa kn) best=some a->(best=some a\/a∈outs)/\∃v,atS kn a=some v/\(∀o∈outs,∀w,atS kn o=some w->v<=w)/\∀p w,best=some p->atS kn p=some w->v<=w
 |[],best,h=>by
  refine⟨⟨λe=>⟨e,rfl⟩,λe=>e.1⟩,λa e=>?_⟩
  obtain⟨v,hv⟩:=h a e;refine⟨.inl e,v,hv,λo m=>(by cases m),λp w e1 e2=>?_⟩
  have e:best=some a:=e;rw[e] at e1;cases e1;rw[hv] at e2;cases e2;exact A5 _
 |o::outs,best,h=>by
  obtain⟨i1,i2⟩:=JW (outs:=outs) (Ou h o);rw[Nm];constructor
  .rw[i1];unfold oa dC;cases q:atS kn o with
   |none=>rw[List.filterMap_cons_none q]
   |some v=>
    rw[List.filterMap_cons_some q];constructor
    .rintro⟨e,_⟩;exfalso;cases best with
     |none=>cases e
     |some p=>dsimp only at e;split at e <;> cases e
    .rintro⟨_,e⟩;cases e
  .intro a e;obtain⟨j1,v,j2,j3,j4⟩:=i2 a e;cases q:atS kn o with
   |none=>
    have es:oa kn best o=best:=by unfold oa;rw[q]
    rw[es] at j1 j4;refine⟨?_,v,j2,λo' m w e'=>?_,j4⟩
    .rcases j1 with z|z
     .exact .inl z
     .exact .inr (.tail _ z)
    .rcases y0a.mp m with rfl|m
     .rw[q] at e';cases e'
     .exact j3 o' m w e'
   |some u=>
    cases best with
    |none=>
     have es:oa kn none o=some o:=by unfold oa;rw[q]
     rw[es] at j1 j4;refine⟨.inr ?_,v,j2,λo' m w e'=>?_,λp w e'=>(by cases e')⟩
     .rcases j1 with z|z
      .cases z;exact .head _
      .exact .tail _ z
     .rcases y0a.mp m with rfl|m
      .rw[q] at e';cases e';exact j4 o' u rfl q
      .exact j3 o' m w e'
    |some p=>
     obtain⟨pv,hp⟩:=h p rfl;by_cases ji:u<pv
     .have es:oa kn (some p) o=some o:=by unfold oa;rw[q];dsimp only;rw[hp,Iw,bI ji]
      rw[es] at j1 j4;refine⟨.inr ?_,v,j2,λo' m w e'=>?_,λp' w e1 e2=>?_⟩
      .rcases j1 with z|z
       .cases z;exact .head _
       .exact .tail _ z
      .rcases y0a.mp m with rfl|m
       .rw[q] at e';cases e';exact j4 o' u rfl q
       .exact j3 o' m w e'
      .cases e1;rw[hp] at e2;cases e2;have:=j4 o u rfl q;lia
     .have es:oa kn (some p) o=some p:=by unfold oa;rw[q];dsimp only;rw[hp,Iw,ba ji]
      rw[es] at j1 j4;refine⟨?_,v,j2,λo' m w e'=>?_,j4⟩
      all_goals grind
theorem k7{v:Int}:v∈dC kn outs↔∃o∈outs,atS kn o=some v:=qg
theorem lX:gb kn outs=none↔dC kn outs=[]:=by
 have:=(JW (kn:=kn) (outs:=outs) (best:=none) (λp e=>by cases e)).1
 unfold gb;rw[this];exact⟨λz=>z.2,λz=>⟨rfl,z⟩⟩
theorem WD{a:Str}(e:gb kn outs=some a):a∈outs/\atS kn a=some (iX (dC kn outs)):=by
 obtain⟨j1,v,j2,j3,_⟩:=(JW (kn:=kn) (outs:=outs) (best:=none) (λp e=>by cases e)).2 a e
 have ha:a∈outs:=by
  lia
 have fP:dC kn outs≠[]:=λz=>by rw[lX.mpr z] at e;cases e
 obtain⟨m1,m2⟩:=OM fP;obtain⟨o,ho,eo⟩:=k7.mp m1;have c1:=j3 o ho _ eo;have c2:=m2 v (k7.mpr ⟨a,ha,j2⟩)
 grind
section
variable{h:aA}{aP n:Str}{c:Int}
theorem e8x(g:ax h)(hc:aP∈h.carts):P0 Hk [.d (aE h),.d (.tup [.str n,.int c]),.d (.str aP)] (rd (zY h aP n c)):=by
 intro S;have e:=P4 g hc;have v:=C8 n (bh aP h.ae);unfold Hk Sh zY;generalize aE h=hd at *;cases hk:atS (bh aP h.ae) n with
 |none=>
  rw[hk] at v;simp only[↓ev,e,aO,cx,v,A3,mQ,fW]
 |some w=>
  rw[hk] at v;simp only[↓ev,e,aO,cx,v,yP,lC,aK,cV,fW]
theorem Yy{S:aN}(ok:zH kn best)(o:Str){g0 g1 g2:ak Val}:C4 0 [g0,g1,g2,some (.d (.aB (pG kn))),some (.d (aL best)),some (.d (.str o))] S=some (.nx [g0,g1,g2,some (.d (.aB (pG kn))),some (.d (aL (oa kn best o))),some (.d (.str o))] S):=by
 have v:=C8 o kn;unfold C4 oa;cases hk:atS kn o with
 |none=>
  rw[hk] at v;simp only[↓ev,aK,v,A3]
 |some w=>
  rw[hk] at v;cases best with
  |none=>
   unfold aL;simp only[↓ev,aK,v,yP,aO]
  |some p=>
   obtain⟨u,hu⟩:=ok p rfl;have v2:=C8 p kn;rw[hu] at v2;unfold aL;by_cases hl:w<u
   .have nj:=bJ hl;simp only[↓ev,aK,v,yP,v2,nj,decide_true,aO,hu]
   .have nj:=eq_false hl;simp only[↓ev,aK,v,yP,v2,nj,decide_false,hu]
end
section
variable{h:aA}{aP n:Str}{c:Int}
theorem Yz{S:aN}{kn:List (Str×Int)}{outs:List Str}{g0 g1 g2 a:ak Val}:∃a',aH (af 5) (C4 0) (dS outs) [g0,g1,g2,some (.d (.aB (pG kn))),some (.d .aI),a] S=some (.nx [g0,g1,g2,some (.d (.aB (pG kn))),some (.d (aL (gb kn outs))),a'] S):=by
 obtain⟨U',S',e,a',rfl,rfl⟩:=lq (gg:=af 5) (body:=C4 0) (f:=D.str) (U:=[g0,g1,g2,some (.d (.aB (pG kn))),some (.d .aI),a]) (S:=S) (λpre U S'=>∃a',U=[g0,g1,g2,some (.d (.aB (pG kn))),some (.d (aL (gb kn pre))),a']/\S'=S) outs ⟨a,rfl,rfl⟩ (by
  rintro d x r eq U S' ⟨a',rfl,rfl⟩;have ok:zH kn (gb kn d):=QU λp z=>by cases z
  refine⟨_,_,_,rfl,.inl (Yy ok x),some (.d (.str x)),?_,rfl⟩;unfold gb;rw[Nk];rfl)
 exact⟨a',e⟩
theorem Hq(g:ax h){b:ao}(hb:b∈h.ae)(hc:aP∈h.carts):P0 Hm [.d (aE h),.d (.str b.name),.d (.str aP)] (rd (aL (gb (bh aP h.ae) b.outs))):=by
 intro S;have e1:=P4 g hc;have e2:=Bs g hb;obtain⟨a',e⟩:=Yz (S:=S) (kn:=bh aP h.ae) (outs:=b.outs) (g0:=some (.d (aE h))) (g1:=some (.d (.str b.name))) (g2:=some (.d (.str aP))) (a:=none);have hD:aq b=.tup [.str b.name,.int b.long,.bl b.ring,.lst (dS b.outs)]:=rfl;rw[hD] at e2;unfold Hm Si;generalize aE h=hd at *;simp only[↓ev,e1,aO,e2,vN,i6,e,fW]
end
noncomputable abbrev iS(h:aA):Str:=h.carts.getD 0 ""
def tG(h:aA)(ct:Str)(nw cl:Int)(b:Str)(i:Int):Bool:=match atS (bh ct h.ae) b with
 |none=>false
 |some v=>decide (nw+(v - i)<=cl)
noncomputable def tQ(x:Hl)(w:Row):ak (Str×Int):=w.fl.bind λf=>(x.book.find? λp=>p.1 == f).map (·.2)
def zM(h:aA)(x:Hl)(w:Row):Bool:=match tQ x w with
 |none=>false
 |some (ct,cl)=>tG h ct x.now cl w.b w.i
def fJ(h:aA)(x:Hl)(w:Row):Str:=match tQ x w with
 |none=>iS h
 |some (ct,cl)=>if tG h ct x.now cl w.b w.i=true then ct else iS h
section
variable{s:List Cell}{h:aA}{r:Int}{x:Hl}{n:Nat}{w:Row}
theorem JI(o:Ok h n x)(hw:w∈x.rows):(w.fl=none/\tQ x w=none)\/∃f ct cl,w.fl=some f/\tQ x w=some (ct,cl)/\ct∈h.carts/\aS (lZ x.book) (.inr f)=some (.tup [.str f,.str ct,.int cl]):=by
 unfold tQ;cases hf:w.fl with
 |none=>exact .inl ⟨rfl,rfl⟩
 |some f=>
  have v:aS (lZ x.book) (.inr f)=_:=Dg f x.book;cases e:x.book.find? (λp=>p.1 == f) with
  |none=>
   obtain⟨p,hp,ep⟩:=fB.mp ((o.rw w hw).2.2 f hf);have:=Io.mp e p hp;rw[ep,fY] at this;exact cC rfl this
  |some p=>
   have e1:=List.find?_some e;have e1:p.1=f:=beq_iff_eq.mp e1;refine .inr ⟨f,p.2.1,p.2.2,rfl,by rw[vn,e];rfl,o.bk p (Nt e),?_⟩
   rw[v,e,<-e1];rfl
theorem d9p(g:ax h)(o:Ok h n x)(hw:w∈x.rows):CA 0 [.d (.ref 0),.d (.str w.bag)] (hS (aE h) r x s)=some (.ok (rd (.bl (zM h x w))) (hS (aE h) r x s)):=by
 have h1:aS (gL x.rows) (.inr w.bag)=_:=lK o.nb hw;have h2:aS (ib x.rows) (.inr w.bag)=_:=lK o.nb hw;unfold CA N5 zM;rcases JI o hw with⟨e1,e2⟩|⟨f,ct,cl,e1,e2,hc,hk⟩
 .rw[e1] at h2;rw[e2];unfold aL at h2;generalize aE h=hd at *;simp only[↓ev,hR,qr,rq,aO,h2,aK,cf]
 .rw[e1] at h2;rw[e2];unfold aL at h2;have e:=e8x (n:=w.b) (c:=w.i) g hc;unfold zY at e;dsimp only;unfold tG;cases hv:atS (bh ct h.ae) w.b with
  |none=>
   rw[hv] at e;generalize aE h=hd at *;simp only[↓ev,hR,qr,rq,aO,h2,aK,rZ,tq,hk,nN,n_,ku,lj,h1,cV,e,cf]
  |some v=>
   rw[hv] at e;generalize aE h=hd at *;simp only[↓ev,hR,qr,rq,aO,h2,aK,rZ,tq,hk,nN,n_,ku,lj,h1,cV,e,Hh,Kq,jg,cf]
theorem e6d(g:ax h)(o:Ok h n x)(hw:w∈x.rows):F2 0 [.d (.ref 0),.d (.str w.bag)] (hS (aE h) r x s)=some (.ok (rd (.str (fJ h x w))) (hS (aE h) r x s)):=by
 have h2:aS (ib x.rows) (.inr w.bag)=_:=lK o.nb hw;have e1:=λq=>d9m (s:=s) (r:=r) q (hd:=aE h) (o.rw w hw).2.1 hw o.nb
 have e2:=d9p (s:=s) (r:=r) g o hw;obtain⟨_,ha⟩:=C6 g;have hD:aE h=.tup [.lst (h.ae.map aq),.lst (dS h.carts)]:=rfl;rw[hD] at e1 e2 ⊢;unfold F2 N6 fJ;unfold zM at e2;rcases JI o hw with⟨e3,e4⟩|⟨f,ct,cl,e3,e4,hc,hk⟩
 .rw[e4] at e2 ⊢;unfold iS;generalize h.carts.getD 0 ""=hnd at *;simp only[↓ev,hR,cU,Bd,e1,Ju,e2,aK,nN,n_,cV,ha,cf]
 .rw[e4] at e2 ⊢;rw[e3] at h2;unfold aL at h2;dsimp only at e2 ⊢;unfold iS;generalize h.carts.getD 0 ""=hnd at *;cases hb:tG h ct x.now cl w.b w.i with
  |true=>
   rw[hb] at e2;simp only[↓ev,hR,cU,Bd,e1,Ju,e2,rZ,tq,aO,qr,rq,h2,hk,cV,cf]
  |false=>
   rw[hb] at e2;simp only[↓ev,hR,cU,Bd,e1,Ju,e2,aK,nN,n_,cV,ha,cf]
theorem JX(g:ax h):∀{bs pre:List ao},h.ae=pre++bs->∀b∈bs,∃v,atS (bh (iS h) h.ae) b.name=some v
 |x::bs,pre,eq,b,hb=>by
  have u0:h.ae=(pre++[x])++bs:=by rw[eq];simp
  rcases y0a.mp hb with rfl|hb
  .have HA:b∈h.ae:=by rw[eq];simp
   have fx:lU h.carts (b::bs):=CG (by rw[<-eq];exact g.fwd)
   have key:∀o∈b.outs,∀v,atS (bh (iS h) h.ae) o=some v->∃v,atS (bh (iS h) h.ae) b.name=some v:=λo m v e=>by
    have hm:=k7.mpr ⟨o,m,e⟩;rw[Kb (C6 g).1 g.fwd b HA,ba λz=>by rw[z] at hm;cases hm]
    exact⟨_,rfl⟩
   rcases g.hd b HA with z|⟨o,z1,z2⟩
   .exact key _ z _ (QT (C6 g).1 g.fwd)
   .rcases fx.1 o z1 with y|y
    .obtain⟨w,hw,rfl⟩:=fB.mp y;obtain⟨v,e⟩:=JX g u0 w hw;exact key _ z1 v e
    .exact cC z2 (Gf g.fwd o y)
  .exact JX g u0 b hb
theorem QV(g:ax h)(o:Ok h n x)(hw:w∈x.rows):fJ h x w∈h.carts/\∃v,atS (bh (fJ h x w) h.ae) w.b=some v:=by
 obtain⟨bt,hb,eb,_⟩:=(o.rw w hw).1;have hh:iS h∈h.carts/\∃v,atS (bh (iS h) h.ae) w.b=some v:=⟨(C6 g).1,by rw[<-eb];exact JX g (pre:=[]) (bs:=h.ae) rfl bt hb⟩
 unfold fJ;rcases JI o hw with⟨e3,e4⟩|⟨f,ct,cl,e3,e4,hc,hk⟩
 .rw[e4];exact hh
 .rw[e4];dsimp only;split
  .rename_i z7
   refine⟨hc,?_⟩;unfold tG at z7;cases hv:atS (bh ct h.ae) w.b with
   |none=>rw[hv] at z7;cases z7
   |some v=>exact⟨v,rfl⟩
  .exact hh
end
variable{bt:ao}{o:Str}{busy:List Str}
abbrev Goal:=Str×ak Int
def gD:Goal->D
 |(c,none)=>.str c
 |(b,some i)=>pl b i
section
variable{s:List Cell}{h:aA}{r:Int}{x:Hl}{n:Nat}{w:Row}{ct:Str}
theorem e6e(g:ax h)(hb:bt∈h.ae)(hc:ct∈h.carts)(ho:gb (bh ct h.ae) bt.outs=some o)(hi:h.carts.contains o=true){busy:D}:P0 rW [.d (aE h),.d (aq bt),.d (.str ct),.d busy] (rd (.str o)):=by
 intro S;have e:=Hq g hb hc;rw[ho] at e;have hD:aE h=.tup [.lst (h.ae.map aq),.lst (dS h.carts)]:=rfl;have hB:aq bt=.tup [.str bt.name,.int bt.long,.bl bt.ring,.lst (dS bt.outs)]:=rfl;rw[hD] at e ⊢;rw[hB];unfold rW CF;unfold aL at e;simp only[↓ev,cx,e,aO,cV,ky,aK,j_,hi,fW]
theorem e6f(g:ax h)(hb:bt∈h.ae)(hc:ct∈h.carts)(ho:gb (bh ct h.ae) bt.outs=some o)(hi:h.carts.contains o=false)(hy:busy.contains o=false):P0 rW [.d (aE h),.d (aq bt),.d (.str ct),.d (.lst (dS busy))] (rd (pl o 0)):=by
 intro S;have e:=Hq g hb hc;rw[ho] at e;have hD:aE h=.tup [.lst (h.ae.map aq),.lst (dS h.carts)]:=rfl;have hB:aq bt=.tup [.str bt.name,.int bt.long,.bl bt.ring,.lst (dS bt.outs)]:=rfl;rw[hD] at e ⊢;rw[hB];unfold rW CF;unfold aL at e;cases hr:bt.ring with
 |true=>simp only[↓ev,cx,e,aO,cV,ky,aK,j_,hi,jg,hy,fW]
 |false=>simp only[↓ev,cx,e,aO,cV,ky,aK,j_,hi,jg,fW]
theorem e6g(g:ax h)(hb:bt∈h.ae)(hc:ct∈h.carts)(ho:gb (bh ct h.ae) bt.outs=some o)(hi:h.carts.contains o=false)(hr:bt.ring=true)(hy:busy.contains o=true):P0 rW [.d (aE h),.d (aq bt),.d (.str ct),.d (.lst (dS busy))] (rd (pl bt.name 0)):=by
 intro S;have e:=Hq g hb hc;rw[ho] at e;have hD:aE h=.tup [.lst (h.ae.map aq),.lst (dS h.carts)]:=rfl;have hB:aq bt=.tup [.str bt.name,.int bt.long,.bl bt.ring,.lst (dS bt.outs)]:=rfl;rw[hD] at e ⊢;rw[hB,hr];unfold rW CF;unfold aL at e;simp only[↓ev,cx,e,aO,cV,ky,aK,j_,hi,jg,hy,fW]
theorem e6h(g:ax h)(hb:bt∈h.ae)(hc:ct∈h.carts)(ho:gb (bh ct h.ae) bt.outs=some o)(hi:h.carts.contains o=false)(hr:bt.ring=false):P0 rW [.d (aE h),.d (aq bt),.d (.str ct),.d (.lst (dS busy))] (rd (pl o 0)):=by
 intro S;have e:=Hq g hb hc;rw[ho] at e;have hD:aE h=.tup [.lst (h.ae.map aq),.lst (dS h.carts)]:=rfl;have hB:aq bt=.tup [.str bt.name,.int bt.long,.bl bt.ring,.lst (dS bt.outs)]:=rfl;rw[hD] at e ⊢;rw[hB,hr];unfold rW CF;unfold aL at e;simp only[↓ev,cx,e,aO,cV,ky,aK,j_,hi,jg,fW]
def eO(h:aA)(x:Hl):List Str:=bo h x++(ord h x.rows).filterMap λw=>if(w.i == 0)=true then some w.b else none
theorem WE(q:Nat)(l:List Row)(hl:l.length<=1000){S:aN}:bB (af 0) (IX q) (IY q) (l.map aT) [none] S []=some (.ok (dS (l.filterMap λw=>if(w.i == 0)=true then some w.b else none)) S):=by
 rw[xJ (λw=>(if(w.i == 0)=true then some w.b else none).map D.str) l (by lia) λw m=>by
  unfold IX IY aT;generalize aL w.fl=ff at *;cases hc:(w.i == 0) with
  |true=>exact .inr ⟨rd (.str w.b),.str w.b,rfl,by simp only[↓ev,jg,cV,aK,eS,hc],by simp only[↓ev,jg,cx],rfl⟩
  |false=>exact .inl ⟨rfl,by simp only[↓ev,jg,cV,aK,eS,hc]⟩]
 congr 2
 unfold dS;rw[List.map_filterMap]
theorem e6i(g:ax h)(o:Ok h n x):FY 0 [.d (.ref 0)] (hS (aE h) r x s)=some (.ok (.o (.lst (dS (eO h x)))) (hS (aE h) r x s)):=by
 have rl:=o.rl;have e1:=λq=>O2 (s:=s) (r:=r) (q:=q) (x:=x) g
 have e2:=λq=>uT (s:=s) (r:=r) (q:=q) g o
 have e3:=λq=>WE (S:=hS (aE h) r x s) q (ord h x.rows) (by rw[o.perm.length_eq];lia)
 have hl:((dS (bo h x)).length+(dS ((ord h x.rows).filterMap λw=>if(w.i == 0)=true then some w.b else none)).length<=1000000)=True:=bJ (by
  have h1:(bo h x).length<=(h.ae.map ao.name).length:=yN _ _;have h2:=Iy (λw:Row=>if(w.i == 0)=true then some w.b else none) (ord h x.rows)
  have h3:=o.perm.length_eq;have h4:=g.sm.bl
  grind)
 generalize aE h=hd at *;unfold FY NW eO;rw[dS,eK,<-dS,<-dS];simp only[↓ev,hR,cU,Oq,e1,uS,e2,e3,hl,cf]
def uk(h:aA)(x:Hl)(bt:ao)(o:Str):Goal:=if h.carts.contains o=true then(o,none) else if(bt.ring&&(eO h x).contains o)=true then(bt.name,some 0) else(o,some 0)
def kS(h:aA)(r:Int)(x:Hl)(w:Row)(bt:ao):Goal:=if w.i+1<bt.long then(bt.name,some (w.i+1)) else if bt.ring=true/\w.fl=none/\w.gn<r then(bt.name,some 0) else uk h x bt ((gb (bh (fJ h x w) h.ae) bt.outs).getD "")
def aj(h:aA)(r:Int)(x:Hl)(w:Row):Goal:=match findB h.ae w.b with
 |none=>(w.b,none)
 |some bt=>kS h r x w bt
theorem CK(g:ax h)(hb:bt∈h.ae):findB h.ae bt.name=some bt:=by
 unfold findB;cases e:h.ae.find? (λb=>b.name == bt.name) with
 |none=>
  have:=Io.mp e bt hb;rw[fY] at this;exact cC rfl this
 |some c=>
  have h1:=List.find?_some e;rw[xu g.fwd c (Nt e) bt hb (beq_iff_eq.mp h1)]
theorem Ks(g:ax h)(o:Ok h n x)(hw:w∈x.rows)(hb:bt∈h.ae)(eb:bt.name=w.b):∃a,gb (bh (fJ h x w) h.ae) bt.outs=some a/\a∈bt.outs:=by
 obtain⟨hc,v,hv⟩:=QV g o hw;have bg:=Kb hc g.fwd bt hb;rw[eb,hv] at bg;have fP:¬dC (bh (fJ h x w) h.ae) bt.outs=[]:=λz=>by rw[bI z] at bg;cases bg
 cases e:gb (bh (fJ h x w) h.ae) bt.outs with
 |none=>exact cC (lX.mp e) fP
 |some a=>exact⟨a,rfl,(WD e).1⟩
theorem YA(g:ax h)(hb:bt∈h.ae)(hc:ct∈h.carts)(ho:gb (bh ct h.ae) bt.outs=some o):P0 rW [.d (aE h),.d (aq bt),.d (.str ct),.d (.lst (dS (eO h x)))] (rd (gD (uk h x bt o))):=by
 unfold uk;cases e1:h.carts.contains o with
 |true=>exact e6e g hb hc ho e1
 |false=>
  rw[ba (by decide)]
  cases e2:bt.ring with
  |false=>exact e6h g hb hc ho e1 e2
  |true=>
   cases e3:(eO h x).contains o with
   |true=>exact e6g g hb hc ho e1 e2 e3
   |false=>exact e6f g hb hc ho e1 e3
end
section
variable{s:List Cell}{h:aA}{r:Int}{x:Hl}{n:Nat}{w:Row}{bt:ao}{aY:List D}{a8 a9:ak Val}{bz:D}
abbrev wS(hd:D)(r:Int)(x:Hl)(s:List Cell)(aY:List D):aN:=⟨s++[.o (.lst aY)],hR hd r x⟩
theorem MY(g:ax h)(hb:bt∈h.ae)(eb:bt.name=w.b)(hl:(w.i+1<bt.long)=True)(ha:(aY.length<1000000)=True):vC 0 [some (.d (.ref 0)),some (.d (aE h)),some (.d bz),some (.c s.length),some (.d (.str w.bag)),some (.d (aL w.fl)),some (.d (pl w.b w.i)),some (.d (.int w.gn)),a8,a9] (wS (aE h) r x s aY)=some (.nx [some (.d (.ref 0)),some (.d (aE h)),some (.d bz),some (.c s.length),some (.d (.str w.bag)),some (.d (aL w.fl)),some (.d (pl w.b w.i)),some (.d (.int w.gn)),some (.d (aq bt)),some (.d (pl bt.name (w.i+1)))] (wS (aE h) r x s (aY++[.tup [.str w.bag,pl bt.name (w.i+1)]]))):=by
 have e4:=Bs g hb;have hB:aq bt=.tup [.str bt.name,.int bt.long,.bl bt.ring,.lst (dS bt.outs)]:=rfl;rw[hB] at e4 ⊢;rw[eb] at e4 ⊢;generalize aE h=hd at *;generalize aL w.fl=ff at *;unfold vC;simp only[↓ev,cx,e4,aO,cV,hl,decide_true,eM,ha,k9]
theorem MZ(g:ax h)(hb:bt∈h.ae)(eb:bt.name=w.b)(hl:(w.i+1<bt.long)=False)(hr:bt.ring=true)(hf:w.fl=none)(hg:(w.gn<r)=True)(ha:(aY.length<1000000)=True):vC 0 [some (.d (.ref 0)),some (.d (aE h)),some (.d bz),some (.c s.length),some (.d (.str w.bag)),some (.d (aL w.fl)),some (.d (pl w.b w.i)),some (.d (.int w.gn)),a8,a9] (wS (aE h) r x s aY)=some (.nx [some (.d (.ref 0)),some (.d (aE h)),some (.d bz),some (.c s.length),some (.d (.str w.bag)),some (.d (aL w.fl)),some (.d (pl w.b w.i)),some (.d (.int w.gn)),some (.d (aq bt)),some (.d (pl bt.name 0))] (wS (aE h) r x s (aY++[.tup [.str w.bag,pl bt.name 0]]))):=by
 have e4:=Bs g hb;have e5:=λq s=>JH (s:=s) (hd:=aE h) (r:=r) (q:=q) (x:=x)
 have hB:aq bt=.tup [.str bt.name,.int bt.long,.bl bt.ring,.lst (dS bt.outs)]:=rfl;rw[hB,hr] at e4 ⊢;rw[eb] at e4 ⊢;rw[hf];generalize aE h=hd at *;unfold vC aL;simp only[↓ev,cx,e4,aO,cV,hl,decide_false,aK,jg,hR,cU,JG,e5,hg,decide_true,eM,ha,k9]
theorem M3(g:ax h)(o:Ok h n x)(hw:w∈x.rows)(hb:bt∈h.ae)(eb:bt.name=w.b)(hl:(w.i+1<bt.long)=False){goal:D}(ho:P0 rW [.d (aE h),.d (aq bt),.d (.str (fJ h x w)),.d bz] (rd goal))(hc:bt.ring=false\/(∃f,w.fl=some f)\/w.fl=none/\¬w.gn<r)(ha:(aY.length<1000000)=True):vC 0 [some (.d (.ref 0)),some (.d (aE h)),some (.d bz),some (.c s.length),some (.d (.str w.bag)),some (.d (aL w.fl)),some (.d (pl w.b w.i)),some (.d (.int w.gn)),a8,a9] (wS (aE h) r x s aY)=some (.nx [some (.d (.ref 0)),some (.d (aE h)),some (.d bz),some (.c s.length),some (.d (.str w.bag)),some (.d (aL w.fl)),some (.d (pl w.b w.i)),some (.d (.int w.gn)),some (.d (aq bt)),some (.d goal)] (wS (aE h) r x s (aY++[.tup [.str w.bag,goal]]))):=by
 have e4:=Bs g hb;have e5:=λq s=>JH (s:=s) (hd:=aE h) (r:=r) (q:=q) (x:=x)
 have e6:=λs=>e6d (s:=s) (r:=r) g o hw
 have hB:aq bt=.tup [.str bt.name,.int bt.long,.bl bt.ring,.lst (dS bt.outs)]:=rfl;rw[hB] at e4 ho ⊢;rw[eb] at e4 ho ⊢;generalize aE h=hd at *;generalize fJ h x w=ct at *;unfold vC;cases er:bt.ring with
 |false=>
  rw[er] at e4 ho;generalize aL w.fl=ff at *;simp only[↓ev,cx,e4,aO,cV,hl,decide_false,aK,jg,hR,cU,Jt,e6,ho,eM,ha,k9]
 |true=>
  rw[er] at e4 ho;rcases hc with z|⟨f,hf⟩|⟨hf,hg⟩
  .rw[er] at z;cases z
  .rw[hf];unfold aL;simp only[↓ev,cx,e4,aO,cV,hl,decide_false,aK,jg,hR,cU,Jt,e6,ho,eM,ha,k9]
  .rw[hf];unfold aL;have hg:=eq_false hg;simp only[↓ev,cx,e4,aO,cV,hl,decide_false,aK,jg,hR,cU,JG,e5,hg,Jt,e6,ho,eM,ha,k9]
theorem e6j(g:ax h)(o:Ok h n x)(hw:w∈x.rows)(ha:aY.length<1000)(s:List Cell):∃b8 b9,vC 0 [some (.d (.ref 0)),some (.d (aE h)),some (.d (.lst (dS (eO h x)))),some (.c s.length),some (.d (.str w.bag)),some (.d (aL w.fl)),some (.d (pl w.b w.i)),some (.d (.int w.gn)),a8,a9] (wS (aE h) r x s aY)=some (.nx [some (.d (.ref 0)),some (.d (aE h)),some (.d (.lst (dS (eO h x)))),some (.c s.length),some (.d (.str w.bag)),some (.d (aL w.fl)),some (.d (pl w.b w.i)),some (.d (.int w.gn)),b8,b9] (wS (aE h) r x s (aY++[.tup [.str w.bag,gD (aj h r x w)]]))):=by
 obtain⟨bt,hb,eb,_,_⟩:=(o.rw w hw).1;have Le:(aY.length<1000000)=True:=bJ (by lia)
 have eg:aj h r x w=kS h r x w bt:=by unfold aj;rw[<-eb,CK g hb]
 rw[eg];unfold kS;by_cases hl:w.i+1<bt.long
 .rw[bI hl];exact⟨_,_,MY g hb eb (bJ hl) Le⟩
 .rw[ba hl];by_cases hc:bt.ring=true/\w.fl=none/\w.gn<r
  .rw[bI hc];exact⟨_,_,MZ g hb eb (eq_false hl) hc.1 hc.2.1 (bJ hc.2.2) Le⟩
  .rw[ba hc];obtain⟨a,ea,_⟩:=Ks g o hw hb eb;rw[ea,Iw];refine⟨_,_,M3 g o hw hb eb (eq_false hl) (YA g hb (QV g o hw).1 ea) ?_ Le⟩;cases er:bt.ring with
   |false=>exact .inl rfl
   |true=>
    cases ef:w.fl with
    |some f=>exact .inr (.inl ⟨f,rfl⟩)
    |none=>exact .inr (.inr ⟨rfl,λz=>hc ⟨er,ef,z⟩⟩)
def qV(h:aA)(r:Int)(x:Hl)(w:Row):D:=.tup [.str w.bag,gD (aj h r x w)]
theorem YB(g:ax h)(o:Ok h n x):Gv 0 [.d (.ref 0)] (hS (aE h) r x s)=some (.ok (.o (.lst ((ord h x.rows).map (qV h r x)))) (hS (aE h) r x s)):=by
 have rl:=o.rl;have e1:=λq s=>Yw (s:=s) (r:=r) (q:=q) (x:=x) g
 have e2:=λs=>e6i (s:=s) (r:=r) g o
 have e3:=λq s=>uT (s:=s) (r:=r) (q:=q) g o
 have pl:=o.perm.length_eq;obtain⟨U',S',e,⟨a4,a5,a6,a7,a8,a9,rfl⟩,rfl⟩:=lq (gg:=bD [(af 4),(af 5),(af 6),(af 7)]) (body:=vC 0) (f:=aT) (U:=[some (.d (.ref 0)),some (.d (aE h)),some (.d (.lst (dS (eO h x)))),some (.c s.length),none,none,none,none,none,none]) (S:=wS (aE h) r x s []) (λpre U S'=>(∃a4 a5 a6 a7 a8 a9,U=[some (.d (.ref 0)),some (.d (aE h)),some (.d (.lst (dS (eO h x)))),some (.c s.length),a4,a5,a6,a7,a8,a9])/\S'=wS (aE h) r x s (pre.map (qV h r x))) (ord h x.rows) ⟨⟨_,_,_,_,_,_,rfl⟩,rfl⟩ (by
  rintro d w post eq U S' ⟨⟨a4,a5,a6,a7,a8,a9,rfl⟩,rfl⟩;have hw:w∈x.rows:=o.mem.mp (by rw[eq];simp)
  have hd:d.length<1000:=by
   grind
  obtain⟨b8,b9,e⟩:=e6j (r:=r) (a8:=a8) (a9:=a9) g o hw (aY:=d.map (qV h r x)) (by rw[bw];exact hd) s
  refine⟨_,_,_,rfl,.inl e,⟨_,_,_,_,_,_,rfl⟩,?_⟩;rw[eK];rfl)
 generalize aE h=hd at *;generalize dS (eO h x)=bz at *;unfold Gv PB;simp only[↓ev,hR,cU,Yv,e1,aO,e2,aK,uS,e3,i6,e,Am,eM,uY]
end
variable{W W':List (Str×D)}{b:Str}{S:aN}{n:Nat}
noncomputable def cz(W:List (Str×D)):List (TK×D):=td (·.1) (·.2) W
noncomputable def cD(G:Row->Goal)(L:List Row):List (TK×D):=td Row.bag (λw=>gD (G w)) L
abbrev tw(S:aN)(n:Nat)(W:List (Str×D)):aN:=⟨S.s.set n (.o (.aB (cz W))),S.r⟩
theorem Kt{y:D}(h:b∉W.map (·.1)):bT (cz W) (.inr b) y=cz (W++[(b,y)]):=by
 unfold cz;rw[Dh h];unfold td;rw[eK];rfl
theorem BM:(aS (cz W) (.inr b)).isSome=(W.map (·.1)).contains b:=BL
theorem KL(hn:n<S.s.length):(S.s.set n (.o (.aB (cz W))))[n]?=some (.o (.aB (cz W))):=w9 hn
theorem Ku:(S.s.set n (.o (.aB (cz W)))).set n (.o (.aB (cz W')))=S.s.set n (.o (.aB (cz W'))):=Iv ..
theorem e6k:(tw S n W').cut (S.s.set n (.o (.aB (cz W)))).length=tw S n W':=by
 unfold aN.cut;dsimp only;rw[sr,AY (by rw[sr];exact bP _)]
noncomputable def jM(st:List Str)(G:Row->Goal)(w:Row):ak D:=if st.contains w.b=true then some (.tup [.str "stopped",.str w.b]) else match G w with
 |(b,some _)=>if st.contains b=true then some (.tup [.str "stopped",.str b]) else none
 |(_,none)=>none
def cH(st:List Str)(G:Row->Goal)(L:List Row):List (Str×D):=L.filterMap λw=>(jM st G w).map λy=>(w.bag,y)
section
variable{S:aN}{n:Nat}{st:List Str}{G:Row->Goal}{L:List Row}{w:Row}{W:List (Str×D)}{a8 bg:ak Val}
theorem YC(hn:n<S.s.length)(hv:aS (cD G L) (.inr w.bag)=some (gD (G w)))(hW:w.bag∉W.map (·.1))(hl:W.length<1000):∃b8,Bb 0 [bg,some (.d (.aB (cD G L))),some (.d (.lst (dS st))),some (.c n),some (.d (.str w.bag)),some (.d (aL w.fl)),some (.d (pl w.b w.i)),some (.d (.int w.gn)),a8] (tw S n W)=some (.nx [bg,some (.d (.aB (cD G L))),some (.d (.lst (dS st))),some (.c n),some (.d (.str w.bag)),some (.d (aL w.fl)),some (.d (pl w.b w.i)),some (.d (.int w.gn)),b8] (tw S n (W++((jM st G w).map λy=>(w.bag,y)).toList))):=by
 have ta:=KL (W:=W) hn;have ts:=λW'=>Ku (S:=S) (n:=n) (W:=W) (W':=W')
 have hp:=λy=>Kt (y:=y) hW
 have nj:((cz W).length<1000000)=True:=bJ (by unfold cz;rw[oh];lia)
 unfold jM;cases h1:st.contains w.b with
 |true=>
  refine⟨some (.d (gD (G w))),?_⟩;generalize gD (G w)=gg at *;generalize aL w.fl=ff at *;show _=some (Fr.nx _ (tw S n (W++[(w.bag,_)])));unfold Bb;simp only[↓ev,hv,aO,cx,ky,aK,j_,h1,ta,nj,hp,ts]
 |false=>
  rw[ba (by decide)]
  generalize aL w.fl=ff at *;obtain⟨c,gi⟩:∃c,G w=c:=⟨_,rfl⟩;rw[gi] at hv ⊢;obtain⟨c,i⟩:=c;cases i with
  |none=>
   refine⟨some (.d (.str c)),?_⟩;show _=some (Fr.nx _ (tw S n (W++[])));rw[mO];unfold Bb;unfold gD at hv;simp only[↓ev,hv,aO,cx,ky,aK,j_,h1,LK]
  |some i=>
   refine⟨some (.d (pl c i)),?_⟩;unfold Bb;unfold gD at hv;dsimp only at hv ⊢;cases h2:st.contains c with
   |true=>
    show _=some (Fr.nx _ (tw S n (W++[(w.bag,_)])));simp only[↓ev,hv,aO,cx,ky,aK,j_,h1,HS,h2,ta,nj,hp,ts]
   |false=>
    show _=some (Fr.nx _ (tw S n (W++[])));rw[mO];simp only[↓ev,hv,aO,cx,ky,aK,j_,h1,HS,h2]
theorem Vo(st:List Str)(G:Row->Goal)(L:List Row):∀b∈(cH st G L).map (·.1),b∈L.map Row.bag:=λb m=>by
 obtain⟨p,hp,rfl⟩:=fB.mp m;obtain⟨w,hw,e⟩:=qg.mp hp;obtain⟨y,_,rfl⟩:=dm.mp e;exact mP hw
theorem JY{d post:List Row}(eq:L=d++w::post)(nd:(L.map Row.bag).Nodup):w.bag∉d.map Row.bag:=by
 grind
theorem d9r(hn:n<S.s.length)(nd:(L.map Row.bag).Nodup)(hl:L.length<100):FJ 0 [.d (.lst (L.map aT)),.d (.aB (cD G L)),.d (.lst (dS st)),.c n] (tw S n [])=some (.ok (rd .aI) (tw S n (cH st G L))):=by
 obtain⟨U',S',e,⟨a4,a5,a6,a7,a8,rfl⟩,rfl⟩:=lq (gg:=bD [(af 4),(af 5),(af 6),(af 7)]) (body:=Bb 0) (f:=aT) (U:=[some (.d (.lst (L.map aT))),some (.d (.aB (cD G L))),some (.d (.lst (dS st))),some (.c n),none,none,none,none,none]) (S:=tw S n []) (λpre U S'=>(∃a4 a5 a6 a7 a8,U=[some (.d (.lst (L.map aT))),some (.d (.aB (cD G L))),some (.d (.lst (dS st))),some (.c n),a4,a5,a6,a7,a8])/\S'=tw S n (cH st G pre)) L ⟨⟨_,_,_,_,_,rfl⟩,rfl⟩ (by
  rintro d w post eq U S' ⟨⟨a4,a5,a6,a7,a8,rfl⟩,rfl⟩;have hw:w∈L:=by rw[eq];simp
  have hv:aS (cD G L) (.inr w.bag)=some (gD (G w)):=lK nd hw;have hd:d.length<100:=by
   grind
  obtain⟨b8,e⟩:=YC (st:=st) (a8:=a8) (bg:=some (.d (.lst (L.map aT)))) hn hv (W:=cH st G d) (λm=>JY eq nd (Vo st G d _ m)) (Nf (Iy _ _) (by lia))
  refine⟨_,_,_,rfl,.inl e,⟨_,_,_,_,_,rfl⟩,?_⟩;unfold cH;rw[Nu];rw[show List.filterMap (λw=>(jM st G w).map λy=>(w.bag,y)) [w]=((jM st G w).map λy=>(w.bag,y)).toList by rw[qf,Cd];cases(jM st G w) <;> rfl])
 have cu:=e6k (S:=S) (n:=n) (W:=[]) (W':=cH st G L);generalize cH st G L=W2 at *;unfold FJ NB;simp only[↓ev,i6,e,cu]
end
abbrev bx:=Str×Int
noncomputable def kC(p:bx):TK:=.tp [.inr p.1,.inl p.2]
theorem RY{p q:bx}(e:kC p=kC q):p=q:=by
 grind [kC]
def gw(C:List (bx×Str)):List (TK×D):=C.map λe=>(kC e.1,.str e.2)
noncomputable def look(C:List (bx×Str))(k:bx):ak Str:=(C.find? λe=>e.1 == k).map (·.2)
noncomputable def kD:List (bx×Str)->bx->Str->List (bx×Str)
 |[],k,v=>[(k,v)]
 |e::es,k,v=>if e.1=k then(e.1,v)::es else e::kD es k v
theorem zo{e:bx×Str}{es:List (bx×Str)}{k:bx}:look (e::es) k=if e.1=k then some e.2 else look es k:=by
 grind [look]
theorem P5(k:bx)(v:Str)(k':bx):∀C:List (bx×Str),look (kD C k v) k'=if k=k' then some v else look C k'
 |[]=>by show look [(k,v)] k'=_;rw[zo]
 |e::es=>by
  unfold kD;by_cases h:e.1=k
  .rw[bI h,zo,zo,h];split <;> rfl
  .rw[ba h,zo,P5 k v k' es,zo]
   lia
theorem Dj(k:bx):∀C:List (bx×Str),aS (gw C) (kC k)=(look C k).map D.str
 |[]=>rfl
 |e::es=>by
  have ih:=Dj k es
  grind [zo,aS,gw,RY]
theorem Kv(k:bx)(v:Str):∀C:List (bx×Str),bT (gw C) (kC k) (.str v)=gw (kD C k v)
 |[]=>rfl
 |e::es=>by
  have ih:=Kv k v es
  grind [gw,Gh,kD,RY]
theorem P6(k:bx)(v:Str):∀C:List (bx×Str),(kD C k v).length<=C.length+1
 |[]=>by unfold kD;exact bP _
 |e::es=>by
  have ih:=P6 k v es;unfold kD;split
  .rw[lS,lS];lia
  .rw[lS,lS];lia
noncomputable def gk(G:Row->Goal)(w:Row):bx:=((G w).1,(G w).2.getD 0)
def ask(G:Row->Goal)(W:List (Str×D))(L:List Row):List Row:=L.filter λw => !(W.map (·.1)).contains w.bag&&(G w).2.isSome
theorem Sk{G:Row->Goal}{w:Row}(h:(G w).2.isSome=true):gD (G w)=pl (gk G w).1 (gk G w).2:=by
 unfold gk gD;generalize G w=p at *;obtain⟨c,i⟩:=p;cases i with
 |none=>cases h
 |some i=>rfl
theorem kp{o:Str}{j:Int}:pA [.str o,.int j]=some [.inr o,.inl j]:=by simp[pA,sg]
def Dw(G:Row->Goal)(C:List (bx×Str))(w:Row):List (bx×Str):=if look C (gk G w)=none\/w.b=(gk G w).1 then kD C (gk G w) w.bag else C
section
variable{S:aN}{n m:Nat}{G:Row->Goal}{L:List Row}{w:Row}{W:List (Str×D)}{C:List (bx×Str)}{a8 a9 FF g0 g3:ak Val}{t rr:List Cell}
theorem e6m(hv:aS (cD G L) (.inr w.bag)=some (gD (G w)))(hs:(G w).2.isSome=true)(ht:t[m]?=some (.o (.aB (gw C))))(hl:C.length<1000):Cq 0 [g0,some (.d (.aB (cD G L))),some (.c n),g3,some (.c m),some (.d (.str w.bag)),some (.d (aL w.fl)),some (.d (pl w.b w.i)),some (.d (.int w.gn)),a9,FF] ⟨t,rr⟩=some (.nx [g0,some (.d (.aB (cD G L))),some (.c n),g3,some (.c m),some (.d (.str w.bag)),some (.d (aL w.fl)),some (.d (pl w.b w.i)),some (.d (.int w.gn)),some (.d (gD (G w))),FF] ⟨t.set m (.o (.aB (gw (Dw G C w)))),rr⟩):=by
 rw[Sk hs] at hv ⊢;have v:=Dj (gk G w) C;have pu:=Kv (gk G w) w.bag C;have nj:((gw C).length<1000000)=True:=bJ (by unfold gw;rw[bw];lia)
 have lt:(m<t.length)=True:=bJ (fA.mp ht).1;have se:t.set m (.o (.aB (gw C)))=t:=by
  obtain⟨h1,h2⟩:=fA.mp ht;rw[<-h2,Nv]
 unfold Dw;unfold kC at v pu;generalize aL w.fl=ff at *;unfold Cq;cases hk:look C (gk G w) with
 |none=>
  rw[bI (.inl rfl)];rw[hk] at v;simp only[↓ev,hv,aO,ht,v,A3,mQ,nj,pu]
 |some b=>
  rw[hk] at v;cases he:(w.b == (gk G w).1) with
  |true=>
   rw[bI (.inr (beq_iff_eq.mp he))];simp only[↓ev,hv,aO,ht,v,yP,lC,aK,cx,hZ,he,nj,pu]
  |false=>
   rw[ba (by rw[not_or];exact⟨λz=>(by cases z),λz=>(by rw[z,fY] at he;cases he)⟩),se]
   simp only[↓ev,hv,aO,ht,v,yP,lC,aK,cx,hZ,he]
theorem YD(q:Nat)(nd:(L.map Row.bag).Nodup)(hl:L.length<=1000)(hn:t[n]?=some (.o (.aB (cz W)))):bB (af 0) (IM q) (IP q) (L.map aT) [none,some (.c n),some (.d (.aB (cD G L)))] ⟨t,rr⟩ []=some (.ok ((ask G W L).map aT) ⟨t,rr⟩):=by
 rw[xJ (λw=>if(!(W.map (·.1)).contains w.bag&&(G w).2.isSome)=true then some (aT w) else none) L (by lia) λw m=>by
  have v:aS (cD G L) (.inr w.bag)=_:=lK nd m;have i:=BM (W:=W) (b:=w.bag);unfold IM IP;cases h1:(W.map (·.1)).contains w.bag with
  |true=>
   refine .inl ⟨rfl,?_⟩;rw[h1] at i;unfold aT;generalize aL w.fl=ff at *;generalize gD (G w)=gg at *;simp only[↓ev,cx,hn,i,lC,aK]
  |false=>
   rw[h1] at i;cases h2:(G w).2 with
   |none=>
    have e:gD (G w)=.str (G w).1:=by unfold gD;generalize G w=p at *;obtain⟨c,j⟩:=p;cases h2;rfl
    rw[e] at v;refine .inl ⟨rfl,?_⟩;unfold aT;generalize aL w.fl=ff at *;simp only[↓ev,cx,hn,i,mQ,v,LK]
   |some j=>
    have e:gD (G w)=pl (G w).1 j:=by unfold gD;generalize G w=p at *;obtain⟨c,j⟩:=p;cases h2;rfl
    rw[e] at v;refine .inr ⟨rd (aT w),aT w,rfl,?_,?_,rfl⟩
    .unfold aT;generalize aL w.fl=ff at *;simp only[↓ev,cx,hn,i,mQ,v,HS]
    rfl]
 congr 2
 unfold ask;clear nd hl
 induction L with
 |nil=>rfl
 |cons w L ih=>
  rw[qf,B8,ih];cases(!(W.map (·.1)).contains w.bag&&(G w).2.isSome) <;> rfl
end
variable{G:Row->Goal}
def nV(G:Row->Goal)(d:List Row)(C:List (bx×Str)):Prop:=(∀k b,look C k=some b->∃c∈d,c.bag=b/\gk G c=k/\((∃z∈d,gk G z=k/\z.b=k.1)->c.b=k.1))/\(∀w∈d,look C (gk G w)≠none)/\C.length<=d.length
theorem e6n:nV G [] []:=⟨λk b e=>(by cases e),λw m=>(by cases m),bP _⟩
theorem d9s{d:List Row}{C:List (bx×Str)}(o:nV G d C)(w:Row):nV G (d++[w]) (Dw G C w):=by
 obtain⟨o1,o2,o3⟩:=o;have me:∀{z},z∈d++[w]↔z∈d\/z=w:=λ{z}=>by rw[dN,lB]
 unfold Dw;by_cases hc:look C (gk G w)=none\/w.b=(gk G w).1
 .rw[bI hc];refine⟨λk b e=>?_,λz m=>?_,?_⟩
  all_goals grind [P5,P6]
 .rw[ba hc];rw[not_or] at hc;refine⟨λk b e=>?_,λz m=>?_,by rw[dy];lia⟩
  .obtain⟨c,mc,e1,e2,e3⟩:=o1 k b e;refine⟨c,me.mpr (.inl mc),e1,e2,λ⟨z,mz,e4,e5⟩=>e3 ?_⟩
   rcases me.mp mz with mz|rfl
   .exact⟨z,mz,e4,e5⟩
   .exact cC (by rw[e4];exact e5) hc.2
  .rcases me.mp m with m|rfl
   .exact o2 z m
   .exact hc.1
def dq(G:Row->Goal)(C:List (bx×Str))(w:Row):ak (Str×D):=match look C (gk G w) with
 |none=>none
 |some c=>if c=w.bag then none else some (w.bag,.tup [.str "yields",.str c])
section
variable{S:aN}{n m:Nat}{G:Row->Goal}{L A:List Row}{w:Row}{W:List (Str×D)}{C:List (bx×Str)}{a8 a9 FF g0 g3:ak Val}{t rr:List Cell}
theorem e6o(hv:aS (cD G L) (.inr w.bag)=some (gD (G w)))(hs:(G w).2.isSome=true)(hm:t[m]?=some (.o (.aB (gw C))))(hn:t[n]?=some (.o (.aB (cz W))))(hW:w.bag∉W.map (·.1))(hl:W.length<1000){c:Str}(hk:look C (gk G w)=some c):Cr 0 [g0,some (.d (.aB (cD G L))),some (.c n),g3,some (.c m),some (.d (.str w.bag)),some (.d (aL w.fl)),some (.d (pl w.b w.i)),some (.d (.int w.gn)),a9,FF] ⟨t,rr⟩=some (.nx [g0,some (.d (.aB (cD G L))),some (.c n),g3,some (.c m),some (.d (.str w.bag)),some (.d (aL w.fl)),some (.d (pl w.b w.i)),some (.d (.int w.gn)),a9,some (.d (.str c))] ⟨t.set n (.o (.aB (cz (W++(dq G C w).toList)))),rr⟩):=by
 rw[Sk hs] at hv;have v:=Dj (gk G w) C;rw[hk] at v;have hp:=λy=>Kt (y:=y) hW
 have nj:((cz W).length<1000000)=True:=bJ (by unfold cz;rw[oh];lia)
 have lt:(n<t.length)=True:=bJ (fA.mp hn).1;have se:t.set n (.o (.aB (cz W)))=t:=by
  obtain⟨h1,h2⟩:=fA.mp hn;rw[<-h2,Nv]
 unfold dq;rw[hk];dsimp only;unfold kC at v;generalize aL w.fl=ff at *;unfold Cr;cases he:(c == w.bag) with
 |true=>
  rw[bI (beq_iff_eq.mp he)];show _=some (Fr.nx _ ⟨t.set n (.o (.aB (cz (W++[])))),rr⟩);rw[mO,se];simp only[↓ev,hv,hm,v,aO,hZ,he,lC,aK]
 |false=>
  rw[ba (by rw[uI] at he;exact he)]
  show _=some (Fr.nx _ ⟨t.set n (.o (.aB (cz (W++[(w.bag,.tup [.str "yields",.str c])])))),rr⟩);simp only[↓ev,hv,hm,v,aO,hZ,he,mQ,hn,nj,hp]
theorem iy:w∈ask G W L↔w∈L/\w.bag∉W.map (·.1)/\(G w).2.isSome=true:=by
 unfold ask;rw[yJ,fX,Bool.not_eq_true',A6,ne_eq,j6]
theorem YE(C:List (bx×Str))(A:List Row):∀b∈(A.filterMap (dq G C)).map (·.1),b∈A.map Row.bag:=λb m=>by
 obtain⟨p,hp,rfl⟩:=fB.mp m;obtain⟨w,hw,e⟩:=qg.mp hp;unfold dq at e;split at e
 .cases e
 .split at e
  .cases e
  .cases e;exact mP hw
theorem d9t(nd:(L.map Row.bag).Nodup)(hl:L.length<100)(hA:∀w∈A,w∈L/\(G w).2.isSome=true)(Hw:A.length<100)(t:List Cell):∃C,nV G A C/\∃a5 a6 a7 a8 a9,aH (bD [(af 5),(af 6),(af 7),(af 8)]) (Cq 0) (A.map aT) [g0,some (.d (.aB (cD G L))),some (.c n),g3,some (.c t.length),none,none,none,none,none,none] ⟨t++[.o (.aB [])],rr⟩=some (.nx [g0,some (.d (.aB (cD G L))),some (.c n),g3,some (.c t.length),a5,a6,a7,a8,a9,none] ⟨t++[.o (.aB (gw C))],rr⟩):=by
 obtain⟨U',S',e,⟨a5,a6,a7,a8,a9,rfl⟩,C,oC,rfl⟩:=lq (gg:=bD [(af 5),(af 6),(af 7),(af 8)]) (body:=Cq 0) (f:=aT) (U:=[g0,some (.d (.aB (cD G L))),some (.c n),g3,some (.c t.length),none,none,none,none,none,none]) (S:=⟨t++[.o (.aB [])],rr⟩) (λpre U S'=>(∃a5 a6 a7 a8 a9,U=[g0,some (.d (.aB (cD G L))),some (.c n),g3,some (.c t.length),a5,a6,a7,a8,a9,none])/\∃C,nV G pre C/\S'=⟨t++[.o (.aB (gw C))],rr⟩) A ⟨⟨_,_,_,_,_,rfl⟩,[],e6n,rfl⟩ (by
  rintro d w post eq U S' ⟨⟨a5,a6,a7,a8,a9,rfl⟩,C,oC,rfl⟩;obtain⟨hw,hs⟩:=hA w (by rw[eq];simp)
  have hd:d.length<100:=by
   grind
  have:=oC.2.2;refine⟨_,_,_,rfl,.inl (e6m (lK nd hw) hs eM (by lia)),⟨_,_,_,_,_,rfl⟩,Dw G C w,d9s oC w,?_⟩
  rw[k9];rfl)
 exact⟨C,oC,a5,a6,a7,a8,a9,e⟩
theorem d9u(nd:(L.map Row.bag).Nodup)(L3:(A.map Row.bag).Nodup)(hA:∀w∈A,w∈L/\w.bag∉W.map (·.1)/\(G w).2.isSome=true)(Hw:A.length<100)(Ld:W.length<100)(oC:nV G A C){t:List Cell}(hn:t[n]?=some (.o (.aB (cz W))))(hm:t[m]?=some (.o (.aB (gw C))))(nm:n≠m){a5 a6 a7 a8 a9:ak Val}:∃b5 b6 b7 b8 zE,aH (bD [(af 5),(af 6),(af 7),(af 8)]) (Cr 0) (A.map aT) [g0,some (.d (.aB (cD G L))),some (.c n),g3,some (.c m),a5,a6,a7,a8,a9,none] ⟨t,rr⟩=some (.nx [g0,some (.d (.aB (cD G L))),some (.c n),g3,some (.c m),b5,b6,b7,b8,a9,zE] ⟨t.set n (.o (.aB (cz (W++A.filterMap (dq G C))))),rr⟩):=by
 have lt:=(fA.mp hn).1;have se:t.set n (.o (.aB (cz (W++[]))))=t:=by
  obtain⟨h1,h2⟩:=fA.mp hn;rw[mO,<-h2,Nv]
 obtain⟨U',S',e,⟨b5,b6,b7,b8,zE,rfl⟩,rfl⟩:=lq (gg:=bD [(af 5),(af 6),(af 7),(af 8)]) (body:=Cr 0) (f:=aT) (U:=[g0,some (.d (.aB (cD G L))),some (.c n),g3,some (.c m),a5,a6,a7,a8,a9,none]) (S:=⟨t,rr⟩) (λpre U S'=>(∃b5 b6 b7 b8 zE,U=[g0,some (.d (.aB (cD G L))),some (.c n),g3,some (.c m),b5,b6,b7,b8,a9,zE])/\S'=⟨t.set n (.o (.aB (cz (W++pre.filterMap (dq G C))))),rr⟩) A ⟨⟨_,_,_,_,_,rfl⟩,by rw[Cd,se]⟩ (by
  rintro d w post eq U S' ⟨⟨b5,b6,b7,b8,zE,rfl⟩,rfl⟩;have SS:w∈A:=by rw[eq];simp
  obtain⟨hw,hwW,hs⟩:=hA w SS;have hd:d.length<100:=by
   have:=congrArg List.length eq;rw[dy] at this;lia
  obtain⟨c,hc⟩:=Option.ne_none_iff_exists'.mp (oC.2.1 w SS);have hlen:=Iy (dq G C) d;refine⟨_,_,_,rfl,.inl (e6o (lK nd hw) hs (by rw[B6 nm];exact hm) (by rw[w9 lt]) (W:=W++d.filterMap (dq G C)) (λz=>?_) (by rw[dy];lia) hc),⟨_,_,_,_,_,rfl⟩,?_⟩
  .rw[eK,dN] at z;rcases z with z|z
   .exact hwW z
   .exact JY eq L3 (YE C d _ z)
  .rw[Iv,Nu,nK,show List.filterMap (dq G C) [w]=(dq G C w).toList by rw[qf,Cd];cases dq G C w <;> rfl])
 exact⟨b5,b6,b7,b8,zE,e⟩
theorem d9v(hn:n<S.s.length)(nd:(L.map Row.bag).Nodup)(hl:L.length<100)(Ld:W.length<100):∃C,nV G (ask G W L) C/\FG 0 [.d (.lst (L.map aT)),.d (.aB (cD G L)),.c n] (tw S n W)=some (.ok (rd .aI) (tw S n (W++(ask G W L).filterMap (dq G C)))):=by
 have ta:=KL (W:=W) hn;have hA:∀w∈ask G W L,w∈L/\w.bag∉W.map (·.1)/\(G w).2.isSome=true:=λw m=>iy.mp m
 have Hw:(ask G W L).length<100:=Nf (yN _ _) hl;have L3:((ask G W L).map Row.bag).Nodup:=nd.sublist (List.Sublist.map _ Im);have e1:=λq=>YD (G:=G) (rr:=S.r) q nd (by lia) ta
 obtain⟨C,oC,a5,a6,a7,a8,a9,e2⟩:=d9t (n:=n) (rr:=S.r) (g0:=some (.d (.lst (L.map aT)))) (g3:=some (.d (.lst ((ask G W L).map aT)))) nd hl (λw m=>⟨(hA w m).1,(hA w m).2.2⟩) Hw (S.s.set n (.o (.aB (cz W))))
 have ji:n<(S.s.set n (.o (.aB (cz W)))).length:=by rw[sr];exact hn
 obtain⟨b5,b6,b7,b8,zE,e3⟩:=d9u (n:=n) (m:=(S.s.set n (.o (.aB (cz W)))).length) (rr:=S.r) (g0:=some (.d (.lst (L.map aT)))) (g3:=some (.d (.lst ((ask G W L).map aT)))) (a5:=a5) (a6:=a6) (a7:=a7) (a8:=a8) (a9:=a9) nd L3 hA Hw Ld oC (t:=S.s.set n (.o (.aB (cz W)))++[.o (.aB (gw C))]) (by rw[xg ji];exact ta) eM (by lia)
 refine⟨C,oC,?_⟩;generalize(ask G W L).filterMap (dq G C)=Y at *;rw[List.set_append_left _ _ ji,Ku] at e3;have cu:aN.cut ⟨S.s.set n (.o (.aB (cz (W++Y))))++[.o (.aB (gw C))],S.r⟩ (S.s.set n (.o (.aB (cz W)))).length=tw S n (W++Y):=by
  grind [aN.cut]
 generalize(ask G W L).map aT=al at *;unfold FG Nx;simp only[↓ev,i6,e1,aO,e2,e3,cu]
end
variable{C:List (bx×Str)}{k:bx}{b:Str}
noncomputable def ie(L:List Row):List (bx×Str):=L.map λw=>((w.b,w.i),w.bag)
theorem P7{k:bx}{v:Str}:∀{C:List (bx×Str)},k∉C.map (·.1)->kD C k v=C++[(k,v)]
 |[],_=>rfl
 |e::es,h=>by
  rw[cq,y0a,not_or] at h;unfold kD;rw[ba λz=>h.1 z.symm,P7 h.2]
  rfl
theorem WG(h:look C k=some b):(k,b)∈C:=by
 unfold look at h;obtain⟨e,h1,h2⟩:=dm.mp h
 grind
theorem YF(nd:(C.map (·.1)).Nodup)(h:(k,b)∈C):look C k=some b:=by
 induction C with
 |nil=>cases h
 |cons e es ih=>
  grind [zo]
def hold(G:Row->Goal)(L:List Row)(w:Row):ak Str:=match(G w).2 with
 |none=>none
 |some i=>look (ie L) ((G w).1,i)
noncomputable def Dq(o:Str):D:=.tup [.str "behind",.str o]
def kz(G:Row->Goal)(L:List Row)(X:List (Str×D))(w:Row)(o:Str):Prop:=w.bag∉X.map (·.1)/\hold G L w=some o/\o∈X.map (·.1)
inductive lH (G:Row->Goal) (L:List Row) (W:List (Str×D)):List (Str×D)->Prop
 |base:lH G L W W
 |step {X:List (Str×D)} {w:Row} {o:Str}:lH G L W X->w∈L->kz G L X w o->lH G L W (X++[(w.bag,Dq o)])
theorem lH.trans{G:Row->Goal}{L:List Row}{W X Y:List (Str×D)}(a:lH G L W X)(b:lH G L X Y):lH G L W Y:=by
 induction b with
 |base=>exact a
 |step _ hw hc ih=>exact .step ih hw hc
section
variable{S:aN}{n m:Nat}{G:Row->Goal}{L:List Row}{w:Row}{W X:List (Str×D)}{a5 a6 a7 a9 g0:ak Val}{t rr:List Cell}{gr:Bool}
theorem e6p{d:List Row}(ht:t[m]?=some (.o (.aB (gw (ie d)))))(hl:d.length<1000)(hk:(w.b,w.i)∉d.map λw=>(w.b,w.i)){g1 g2 a8:ak Val}:Cs 0 [g0,g1,g2,some (.c m),some (.d (.str w.bag)),some (.d (aL w.fl)),some (.d (pl w.b w.i)),some (.d (.int w.gn)),a8,a9] ⟨t,rr⟩=some (.nx [g0,g1,g2,some (.c m),some (.d (.str w.bag)),some (.d (aL w.fl)),some (.d (pl w.b w.i)),some (.d (.int w.gn)),a8,a9] ⟨t.set m (.o (.aB (gw (ie (d++[w]))))),rr⟩):=by
 have pu:=Kv (w.b,w.i) w.bag (ie d);rw[P7 (by unfold ie;rw[fF];exact hk),show ie d++[((w.b,w.i),w.bag)]=ie (d++[w]) by unfold ie;rw[eK];rfl] at pu
 have nj:((gw (ie d)).length<1000000)=True:=bJ (by unfold gw ie;rw[bw,bw];lia)
 have lt:(m<t.length)=True:=bJ (fA.mp ht).1;unfold kC at pu;dsimp only at pu;generalize aL w.fl=ff at *;unfold Cs;simp only[↓ev,ht,nj,pu]
theorem YG{t:List Cell}{n:Nat}{c:Cell}(h:t[n]?=some c):t.set n c=t:=by
 obtain⟨h1,h2⟩:=fA.mp h;rw[<-h2,Nv]
theorem e6q{c:Str}:aS (gw C) (.inr c)=none:=by
 unfold aS gw;rw[Io.mpr]
 .rfl
 .intro e m z;obtain⟨p,_,rfl⟩:=fB.mp m;have:=yR z;unfold kC at this;cases this
theorem e6r{α:Type}{k:α->Str}{v:α->D}{xs:List α}:aS (td k v xs) TK.aI=none:=by
 unfold aS td;rw[Io.mpr]
 .rfl
 .intro e m z;obtain⟨p,_,rfl⟩:=fB.mp m;cases yR z
theorem e8y(hv:aS (cD G L) (.inr w.bag)=some (gD (G w)))(hm:t[m]?=some (.o (.aB (gw (ie L)))))(hn:t[n]?=some (.o (.aB (cz X))))(hc:∀o,¬kz G L X w o):∃b9,y8 0 [g0,some (.d (.aB (cD G L))),some (.c n),some (.c m),some (.d (.str w.bag)),a5,a6,a7,some (.d (.bl gr)),a9] ⟨t,rr⟩=some (.nx [g0,some (.d (.aB (cD G L))),some (.c n),some (.c m),some (.d (.str w.bag)),a5,a6,a7,some (.d (.bl gr)),b9] ⟨t,rr⟩):=by
 have i:=BM (W:=X) (b:=w.bag);have nn:aS (cz X) TK.aI=none:=e6r;unfold kz hold at hc;unfold y8;generalize G w=p at *;obtain⟨c,j⟩:=p;cases j with
 |none=>
  unfold gD at hv;have v:=e6q (C:=ie L) (c:=c);refine⟨some (.d .aI),?_⟩;cases h1:(X.map (·.1)).contains w.bag with
  |true=>
   rw[h1] at i;simp only[↓ev,hm,hv,v,aO,hn,i,lC,aK]
  |false=>
   rw[h1] at i;simp only[↓ev,hm,hv,v,aO,hn,i,mQ,aK,nn,A3]
 |some j=>
  unfold gD at hv;dsimp only at hc hv;have v:=Dj (c,j) (ie L);unfold kC at v;dsimp only at v;cases hk:look (ie L) (c,j) with
  |none=>
   rw[hk] at v;refine⟨some (.d .aI),?_⟩;cases h1:(X.map (·.1)).contains w.bag with
   |true=>
    rw[h1] at i;simp only[↓ev,hm,hv,v,aO,hn,i,lC,aK]
   |false=>
    rw[h1] at i;simp only[↓ev,hm,hv,v,aO,hn,i,mQ,aK,nn,A3]
  |some o=>
   rw[hk] at v;refine⟨some (.d (.str o)),?_⟩;cases h1:(X.map (·.1)).contains w.bag with
   |true=>
    rw[h1] at i;simp only[↓ev,hm,hv,v,aO,hn,i,lC,aK]
   |false=>
    rw[h1] at i;have i2:=BM (W:=X) (b:=o);have h2:(X.map (·.1)).contains o=false:=by
     rw[A6];intro z;exact hc o ⟨λy=>(by rw[j6.mpr y] at h1;cases h1),hk,j6.mp z⟩
    rw[h2] at i2;simp only[↓ev,hm,hv,v,aO,hn,i,mQ,aK,i2]
theorem e6s(hv:aS (cD G L) (.inr w.bag)=some (gD (G w)))(hm:t[m]?=some (.o (.aB (gw (ie L)))))(hn:t[n]?=some (.o (.aB (cz X)))){o:Str}(hc:kz G L X w o)(hl:X.length<1000):y8 0 [g0,some (.d (.aB (cD G L))),some (.c n),some (.c m),some (.d (.str w.bag)),a5,a6,a7,some (.d (.bl gr)),a9] ⟨t,rr⟩=some (.nx [g0,some (.d (.aB (cD G L))),some (.c n),some (.c m),some (.d (.str w.bag)),a5,a6,a7,some (.d (.bl true)),some (.d (.str o))] ⟨t.set n (.o (.aB (cz (X++[(w.bag,Dq o)])))),rr⟩):=by
 have i:=BM (W:=X) (b:=w.bag);have i2:=BM (W:=X) (b:=o);obtain⟨c1,c2,c3⟩:=hc;rw[show(X.map (·.1)).contains w.bag=false by rw[A6];exact λz=>c1 (j6.mp z)] at i
 rw[j6.mpr c3] at i2;have hp:=Kt (y:=Dq o) c1;have nj:((cz X).length<1000000)=True:=bJ (by unfold cz;rw[oh];lia)
 have lt:(n<t.length)=True:=bJ (fA.mp hn).1;unfold hold at c2;unfold y8;generalize G w=p at *;obtain⟨c,j⟩:=p;cases j with
 |none=>cases c2
 |some j=>
  unfold gD at hv;dsimp only at c2 hv;have v:=Dj (c,j) (ie L);unfold kC at v;dsimp only at v;rw[c2] at v;unfold Dq at hp ⊢;simp only[↓ev,hm,hv,v,aO,hn,i,mQ,aK,i2,nj,hp]
end
variable{X:List (Str×D)}{w:Row}{L:List Row}
noncomputable def nk(X:List (Str×D))(w:Row):Bool := !(X.map (·.1)).contains w.bag
theorem nv:nk X w=true↔w.bag∉X.map (·.1):=by
 unfold nk;rw[Bool.not_eq_true',A6,ne_eq,j6]
def mu(L:List Row)(X:List (Str×D)):Nat:=(L.filter (nk X)).length
theorem d9w{y:D}(hw:w∈L)(h:w.bag∉X.map (·.1)):mu L (X++[(w.bag,y)])<mu L X:=by
 unfold mu;have e:L.filter (nk (X++[(w.bag,y)]))=(L.filter (nk X)).filter λz=>decide (z.bag≠w.bag):=by
  rw[List.filter_filter];refine List.filter_congr λz _=>?_
  rw[AX,nv,fX,nv,y9a,eK,dN,List.map_singleton,lB];exact⟨λz=>⟨λy=>z (.inr y),λy=>z (.inl y)⟩,λz y=>y.elim z.2 z.1⟩
 rw[e,List.length_filter_lt_length_iff_exists];exact⟨w,yJ.mpr ⟨hw,nv.mpr h⟩,by simp⟩
theorem lH.uF{G:Row->Goal}{W:List (Str×D)}(a:lH G L W X):X.length+mu L X<=W.length+mu L W:=by
 induction a with
 |base=>exact bP _
 |@step X w o _ hw hc ih=>
  have:=d9w (y:=Dq o) hw hc.1;rw[dy];simp;lia
theorem Sl:mu L X<=L.length:=yN _ _
section
variable{S:aN}{n m:Nat}{G:Row->Goal}{L:List Row}{w:Row}{W X:List (Str×D)}{a4 a5 a6 a7 a9 g0:ak Val}{t rr:List Cell}
theorem YH(nd:(L.map Row.bag).Nodup)(hl:L.length<100)(hX:X.length<200)(nm:n≠m)(hm:t[m]?=some (.o (.aB (gw (ie L)))))(hn:t[n]?=some (.o (.aB (cz X)))):∃X' gr b4 b9,lH G L X X'/\(gr=true->X.length<X'.length)/\(gr=false->X'=X/\∀w∈L,∀o,¬kz G L X w o)/\aH (af 4) (y8 0) (dS (L.map Row.bag)) [g0,some (.d (.aB (cD G L))),some (.c n),some (.c m),a4,a5,a6,a7,some (.d (.bl false)),a9] ⟨t,rr⟩=some (.nx [g0,some (.d (.aB (cD G L))),some (.c n),some (.c m),b4,a5,a6,a7,some (.d (.bl gr)),b9] ⟨t.set n (.o (.aB (cz X'))),rr⟩):=by
 have lt:=(fA.mp hn).1;rw[show dS (L.map Row.bag)=L.map λw=>.str w.bag by unfold dS;rw[fF];rfl]
 obtain⟨U',S',e,X',gr,b4,b9,rfl,rfl,i1,i2,i3⟩:=lq (gg:=af 4) (body:=y8 0) (f:=λw:Row=>.str w.bag) (U:=[g0,some (.d (.aB (cD G L))),some (.c n),some (.c m),a4,a5,a6,a7,some (.d (.bl false)),a9]) (S:=⟨t,rr⟩) (λpre U S'=>∃X' gr b4 b9,U=[g0,some (.d (.aB (cD G L))),some (.c n),some (.c m),b4,a5,a6,a7,some (.d (.bl gr)),b9]/\S'=⟨t.set n (.o (.aB (cz X'))),rr⟩/\lH G L X X'/\(gr=true->X.length<X'.length)/\(gr=false->X'=X/\∀w∈pre,∀o,¬kz G L X w o)) L ⟨X,false,_,_,rfl,by rw[YG hn],.base,λz=>(by cases z),λ_=>⟨rfl,λw m=>(by cases m)⟩⟩ (by
  rintro d w post eq U S' ⟨X',gr,b4,b9,rfl,rfl,i1,i2,i3⟩;have hw:w∈L:=by rw[eq];simp
  have hv:aS (cD G L) (.inr w.bag)=some (gD (G w)):=lK nd hw;have SM:(t.set n (.o (.aB (cz X'))))[m]?=some (.o (.aB (gw (ie L)))):=by rw[B6 nm];exact hm
  have HK:(t.set n (.o (.aB (cz X'))))[n]?=some (.o (.aB (cz X'))):=w9 lt;have tt:=i1.uF;have ml:=Sl (L:=L) (X:=X);by_cases hc:∃o,kz G L X' w o
  .obtain⟨o,hc⟩:=hc;refine⟨_,_,_,rfl,.inl (e6s hv SM HK hc (by lia)),_,true,_,_,rfl,by rw[Iv],.step i1 hw hc,λ_=>?_,λz=>(by cases z)⟩
   have:=(lH.step i1 hw hc).uF;rw[dy];have h2:X.length<=X'.length:=by
    grind
   simp;lia
  .obtain⟨c9,e⟩:=e8y (gr:=gr) (a5:=a5) (a6:=a6) (a7:=a7) (a9:=b9) (g0:=g0) (rr:=rr) hv SM HK λo z=>hc ⟨o,z⟩
   refine⟨_,_,_,rfl,.inl e,X',gr,_,_,rfl,rfl,i1,i2,λz=>⟨(i3 z).1,λw' mw o co=>?_⟩⟩
   rcases dN.mp mw with mw|mw
   .exact(i3 z).2 w' mw o co
   .rw[lB.mp mw] at co;exact hc ⟨o,by rw[(i3 z).1];exact co⟩)
 exact⟨X',gr,b4,b9,i1,i2,i3,e⟩
theorem YI(nd:(L.map Row.bag).Nodup)(hl:L.length<100)(hX:X.length<200)(nm:n≠m)(hm:t[m]?=some (.o (.aB (gw (ie L)))))(hn:t[n]?=some (.o (.aB (cz X)))){a8:ak Val}:∃X' gr b4 b9,lH G L X X'/\(gr=true->X.length<X'.length)/\(gr=false->X'=X/\∀w∈L,∀o,¬kz G L X w o)/\FH 0 [g0,some (.d (.aB (cD G L))),some (.c n),some (.c m),a4,a5,a6,a7,a8,a9] ⟨t,rr⟩=some (.nx [g0,some (.d (.aB (cD G L))),some (.c n),some (.c m),b4,a5,a6,a7,some (.d (.bl gr)),b9] ⟨t.set n (.o (.aB (cz X'))),rr⟩):=by
 obtain⟨X',gr,b4,b9,i1,i2,i3,e⟩:=YH (G:=G) (a4:=a4) (a5:=a5) (a6:=a6) (a7:=a7) (a9:=a9) (g0:=g0) (rr:=rr) nd hl hX nm hm hn;refine⟨X',gr,b4,b9,i1,i2,i3,?_⟩;have k:(cD G L).map (·.1.d)=dS (L.map Row.bag):=QM
 unfold FH;simp only[↓ev,aO,k,i6,e]
theorem O3(nd:(L.map Row.bag).Nodup)(hl:L.length<100)(nm:n≠m):∀(f:Nat) {X:List (Str×D)} {t:List Cell} {a4 a9:ak Val},X.length+mu L X<200->mu L X+2<=f->t[m]?=some (.o (.aB (gw (ie L))))->t[n]?=some (.o (.aB (cz X)))->∃X' b4 b9,lH G L X X'/\(∀w∈L,∀o,¬kz G L X' w o)/\cS (cZ (tV 8)) (FH 0) f [g0,some (.d (.aB (cD G L))),some (.c n),some (.c m),a4,a5,a6,a7,some (.d (.bl true)),a9] ⟨t,rr⟩=some (.nx [g0,some (.d (.aB (cD G L))),some (.c n),some (.c m),b4,a5,a6,a7,some (.d (.bl false)),b9] ⟨t.set n (.o (.aB (cz X'))),rr⟩)
 |0,X,t,a4,a9,h1,h2,hm,hn=>by lia
 |f+1,X,t,a4,a9,h1,h2,hm,hn=>by
  have lt:=(fA.mp hn).1;obtain⟨X',gr,b4,b9,i1,i2,i3,e⟩:=YI (G:=G) (a4:=a4) (a5:=a5) (a6:=a6) (a7:=a7) (a8:=some (.d (.bl true))) (a9:=a9) (g0:=g0) (rr:=rr) nd hl (by lia) nm hm hn
  have tt:=i1.uF;cases gr with
  |true=>
   have l1:=i2 rfl;obtain⟨Y,c4,c9,j1,j2,e2⟩:=O3 nd hl nm f (X:=X') (t:=t.set n (.o (.aB (cz X')))) (a4:=b4) (a9:=b9) (by lia) (by lia) (by rw[B6 nm];exact hm) (w9 lt)
   rw[Iv] at e2;refine⟨Y,c4,c9,i1.trans j1,j2,?_⟩;unfold cS;simp only[↓ev,e,e2]
  |false=>
   obtain⟨j1,j2⟩:=i3 rfl;subst j1;obtain⟨f',rfl⟩:∃f',f=f'+1:=⟨f - 1,by lia⟩
   refine⟨X',b4,b9,i1,j2,?_⟩;unfold cS;simp only[↓ev,e];rfl
end
section
variable{S:aN}{n:Nat}{G:Row->Goal}{L:List Row}{W:List (Str×D)}{g0 g1 g2:ak Val}{t rr:List Cell}
theorem d9x(un:(L.map λw=>(w.b,w.i)).Nodup)(hl:L.length<100)(t:List Cell):∃b4 b5 b6 b7,aH (bD [(af 4),(af 5),(af 6),(af 7)]) (Cs 0) (L.map aT) [g0,g1,g2,some (.c t.length),none,none,none,none,none,none] ⟨t++[.o (.aB [])],rr⟩=some (.nx [g0,g1,g2,some (.c t.length),b4,b5,b6,b7,none,none] ⟨t++[.o (.aB (gw (ie L)))],rr⟩):=by
 obtain⟨U',S',e,⟨b4,b5,b6,b7,rfl⟩,rfl⟩:=lq (gg:=bD [(af 4),(af 5),(af 6),(af 7)]) (body:=Cs 0) (f:=aT) (U:=[g0,g1,g2,some (.c t.length),none,none,none,none,none,none]) (S:=⟨t++[.o (.aB [])],rr⟩) (λpre U S'=>(∃b4 b5 b6 b7,U=[g0,g1,g2,some (.c t.length),b4,b5,b6,b7,none,none])/\S'=⟨t++[.o (.aB (gw (ie pre)))],rr⟩) L ⟨⟨_,_,_,_,rfl⟩,rfl⟩ (by
  rintro d w post eq U S' ⟨⟨b4,b5,b6,b7,rfl⟩,rfl⟩;have hd:d.length<100:=by
   grind
  have hk:(w.b,w.i)∉d.map λw=>(w.b,w.i):=by
   grind
  refine⟨_,_,_,rfl,.inl (e6p eM (by lia) hk),⟨_,_,_,_,rfl⟩,?_⟩
  rw[k9];rfl)
 exact⟨b4,b5,b6,b7,e⟩
theorem YJ(hn:n<S.s.length)(nd:(L.map Row.bag).Nodup)(un:(L.map λw=>(w.b,w.i)).Nodup)(hl:L.length<100)(Ld:W.length<100):∃X,lH G L W X/\(∀w∈L,∀o,¬kz G L X w o)/\FN 0 [.d (.lst (L.map aT)),.d (.aB (cD G L)),.c n] (tw S n W)=some (.ok (rd .aI) (tw S n X)):=by
 have ta:=KL (W:=W) hn;have ji:n<(S.s.set n (.o (.aB (cz W)))).length:=by rw[sr];exact hn
 obtain⟨b4,b5,b6,b7,e1⟩:=d9x (g0:=some (.d (.lst (L.map aT)))) (g1:=some (.d (.aB (cD G L)))) (g2:=some (.c n)) (rr:=S.r) un hl (S.s.set n (.o (.aB (cz W))));have ml:=Sl (L:=L) (X:=W);obtain⟨X,c4,c9,i1,i2,e2⟩:=O3 (G:=G) (n:=n) (m:=(S.s.set n (.o (.aB (cz W)))).length) (g0:=some (.d (.lst (L.map aT)))) (a5:=b5) (a6:=b6) (a7:=b7) (rr:=S.r) nd hl (by lia) 1000 (X:=W) (t:=S.s.set n (.o (.aB (cz W)))++[.o (.aB (gw (ie L)))]) (a4:=b4) (a9:=none) (by lia) (by lia) eM (by rw[xg ji];exact ta)
 refine⟨X,i1,i2,?_⟩;rw[List.set_append_left _ _ ji,Ku] at e2;have cu:aN.cut ⟨S.s.set n (.o (.aB (cz X)))++[.o (.aB (gw (ie L)))],S.r⟩ (S.s.set n (.o (.aB (cz W)))).length=tw S n X:=by
  grind [aN.cut]
 unfold FN NG;simp only[↓ev,aO,i6,e1,e2,cu]
end
variable{a bag o:Str}{x j gn:Int}{z:Row}
theorem BN{b:Str}{y:Int}:aQ (pl a x) (pl b y)=(a == b&&(x == y)):=by
 show cR [.str a,.int x] [.str b,.int y]=_;simp[cR,eS,hZ]
theorem HZ:c7 40 (pl a x)=true:=rfl
noncomputable def fy(bag o:Str)(j gn:Int)(z:Row):Row:=if z.bag=bag then{ z with b:=o,i:=j,gn:=gn} else z
theorem Gz:(fy bag o j gn z).bag=z.bag:=by unfold fy;split <;> rfl
theorem d9y:(fy bag o j gn z).fl=z.fl:=by unfold fy;split <;> rfl
theorem pD{α β:Type}{f:α->β}{l:List α}(nd:(l.map f).Nodup){a b:α}(ha:a∈l)(hb:b∈l)(e:f a=f b):a=b:=by
 induction l with
 |nil=>cases ha
 |cons z l ih=>
  grind
section
variable{rows:List Row}{bag o:Str}{j gn:Int}{w:Row}
theorem RZ(nb:(rows.map Row.bag).Nodup)(hb:bag∈rows.map Row.bag):bT (gL rows) (.inr bag) (pl o j)=gL (rows.map (fy bag o j gn)):=by
 unfold gL;rw[Di nb hb];unfold td;rw[fF];refine pB λz _=>?_
 dsimp only[Function.comp];rw[Gz];unfold fy;split <;> rfl
theorem e6u(nb:(rows.map Row.bag).Nodup)(hb:bag∈rows.map Row.bag):bT (lA rows) (.inr bag) (.int gn)=lA (rows.map (fy bag o j gn)):=by
 unfold lA;rw[Di nb hb];unfold td;rw[fF];refine pB λz _=>?_
 dsimp only[Function.comp];rw[Gz];unfold fy;split <;> rfl
theorem d9z(nb:(rows.map Row.bag).Nodup)(hw:w∈rows):lA (rows.map (fy w.bag o j w.gn))=lA rows:=by
 unfold lA td;rw[fF];refine pB λz mz=>?_
 dsimp only[Function.comp];rw[Gz];unfold fy;split
 .rename_i e
  rw[pD nb mz hw e]
 .rfl
theorem R0:ib (rows.map (fy bag o j gn))=ib rows:=by
 unfold ib td;rw[fF];refine pB λz _=>?_
 dsimp only[Function.comp];rw[Gz,d9y]
end
section
variable{s:List Cell}{h:aA}{r:Int}{x:Hl}{w:Row}{bt:ao}{o c:Str}{j:Int}
noncomputable def jm(bt:ao)(i:Int)(o:Str)(j:Int):Bool:=bt.ring&&((i == bt.long - 1)&&(o == bt.name&&(j == 0)))
theorem e6v(g:ax h)(nb:(x.rows.map Row.bag).Nodup)(hw:w∈x.rows)(hb:bt∈h.ae)(eb:bt.name=w.b)(hl:x.rows.length<1000):xq 0 [.d (.ref 0),.d (.str w.bag),.d (pl o j)] (hS (aE h) r x s)=some (.ok (rd .aI) (hS (aE h) r { x with rows:=x.rows.map (fy w.bag o j (if jm bt w.i o j=true then w.gn+1 else w.gn))} s)):=by
 have e:=Bs g hb;have hB:aq bt=.tup [.str bt.name,.int bt.long,.bl bt.ring,.lst (dS bt.outs)]:=rfl;rw[hB] at e;have hm:=mP (f:=Row.bag) hw;have h1:aS (gL x.rows) (.inr w.bag)=_:=lK nb hw;have h2:aS (lA x.rows) (.inr w.bag)=_:=lK nb hw;have l1:((gL x.rows).length<1000000)=True:=bJ (by unfold gL;rw[oh];lia)
 have l2:((lA x.rows).length<1000000)=True:=bJ (by unfold lA;rw[oh];lia)
 rw[<-eb] at h1;generalize aE h=hd at *;have yes:jm bt w.i o j=true->xq 0 [.d (.ref 0),.d (.str w.bag),.d (pl o j)] (hS hd r x s)=some (.ok (rd .aI) (hS hd r { x with rows:=x.rows.map (fy w.bag o j (if jm bt w.i o j=true then w.gn+1 else w.gn))} s)):=λhc=>by
  rw[bI hc];have p1:=RZ (o:=o) (j:=j) (gn:=w.gn+1) nb hm;have p2:=e6u (o:=o) (j:=j) (gn:=w.gn+1) nb hm;have p3:=R0 (rows:=x.rows) (bag:=w.bag) (o:=o) (j:=j) (gn:=w.gn+1);unfold jm at hc;rw[fX,fX] at hc;obtain⟨c1,c2,c3⟩:=hc;unfold xq Ji;rw[c1] at e;simp only[↓ev,hS,hR,ku,lj,aO,h1,nN,n_,cx,e,jg,cV,HZ,aK,BN,fY,c2,c3,Bm,CH,h2,l2,p2,l1,p1,cf,p3]
 have no:jm bt w.i o j=false->xq 0 [.d (.ref 0),.d (.str w.bag),.d (pl o j)] (hS hd r x s)=some (.ok (rd .aI) (hS hd r { x with rows:=x.rows.map (fy w.bag o j (if jm bt w.i o j=true then w.gn+1 else w.gn))} s)):=λhc=>by
  rw[ba (by rw[hc];decide)]
  have p1:=RZ (o:=o) (j:=j) (gn:=w.gn) nb hm;have p2:=d9z (o:=o) (j:=j) nb hw;have p3:=R0 (rows:=x.rows) (bag:=w.bag) (o:=o) (j:=j) (gn:=w.gn);unfold jm at hc;unfold xq Ji;cases er:bt.ring with
  |false=>
   rw[er] at e;simp only[↓ev,hS,hR,ku,lj,aO,h1,nN,n_,cx,e,jg,aK,l1,p1,cf,p3,p2]
  |true=>
   rw[er] at e hc;rw[Bool.true_and] at hc;cases c2:(w.i == bt.long - 1) with
   |false=>simp only[↓ev,hS,hR,ku,lj,aO,h1,nN,n_,cx,e,jg,cV,HZ,aK,BN,fY,c2,l1,p1,cf,p3,p2]
   |true=>
    rw[c2,Bool.true_and] at hc;simp only[↓ev,hS,hR,ku,lj,aO,h1,nN,n_,cx,e,jg,cV,HZ,aK,BN,fY,c2,hc,l1,p1,cf,p3,p2]
 cases hc:jm bt w.i o j with
 |true=>have:=yes hc;rw[hc] at this;exact this
 |false=>have:=no hc;rw[hc] at this;exact this
end
section
variable{s:List Cell}{h:aA}{r:Int}{x:Hl}{w:Row}{c:Str}
theorem e6w{l:List (Str×Str×Int)}{b:Str}{nw:Int}(hb:b∉l.map (·.1)):bT (zO l) (.inr b) (.str c)=zO (l++[(b,c,nw)]):=by
 unfold zO;rw[Dh hb];unfold td;rw[eK];rfl
theorem e0a{hd:D}(nb:(x.rows.map Row.bag).Nodup)(hw:w∈x.rows)(hg:w.bag∉x.gone.map (·.1))(hl:x.gone.length<2000):Cw 0 [.d (.ref 0),.d (.str w.bag),.d (.str c)] (hS hd r x s)=some (.ok (rd .aI) (hS hd r { x with rows:=x.rows.filter λz=>decide (z.bag≠w.bag),gone:=x.gone++[(w.bag,c,x.now)]} s)):=by
 have h1:aS (gL x.rows) (.inr w.bag)=_:=lK nb hw;have h2:aS (lA x.rows) (.inr w.bag)=_:=lK nb hw;have h3:aS (ib x.rows) (.inr w.bag)=_:=lK nb hw;have d1:dr (gL x.rows) w.bag=gL (x.rows.filter λz=>decide (z.bag≠w.bag)):=C7
 have d2:dr (lA x.rows) w.bag=lA (x.rows.filter λz=>decide (z.bag≠w.bag)):=C7
 have d3:dr (ib x.rows) w.bag=ib (x.rows.filter λz=>decide (z.bag≠w.bag)):=C7
 have p1:=e6w (c:=c) (nw:=x.now) hg;have l1:((zO x.gone).length<1000000)=True:=bJ (by unfold zO;rw[oh];lia)
 have l2:((u7 x.gone).length<1000000)=True:=bJ (by unfold u7;rw[bw];lia)
 have p2:u7 x.gone++[.tup [.str w.bag,.str c,.int x.now]]=u7 (x.gone++[(w.bag,c,x.now)]):=by unfold u7;rw[eK];rfl
 have t1:gq (gL x.rows)=true:=zG;have t2:gq (lA x.rows)=true:=zG;have t3:gq (ib x.rows)=true:=zG;generalize aL w.fl=ff at *;unfold Cw NS;simp only[↓ev,hS,hR,ku,lj,aO,t1,h1,d1,qr,rq,t3,h3,d3,Bm,CH,t2,h2,d2,uR,vD,l1,p1,Ka,QN,Hh,Kq,l2,p2,cf]
end
variable{z:Row}
def i5(h:aA)(G:Row->Goal)(z:Row):ak Row:=match(G z).2 with
 |none=>none
 |some j=>some { z with b:=(G z).1,i:=j,gn:=match findB h.ae z.b with
  |none=>z.gn
  |some bt=>if jm bt z.i (G z).1 j=true then z.gn+1 else z.gn}
def iw(h:aA)(G:Row->Goal)(p:Row->Bool)(rows:List Row):List Row:=rows.filterMap λz=>if p z=true then i5 h G z else some z
noncomputable def fm(G:Row->Goal)(nw:Int)(w:Row):ak (Str×Str×Int):=match(G w).2 with
 |none=>some (w.bag,(G w).1,nw)
 |some _=>none
def f_(h:aA)(G:Row->Goal)(p:Row->Bool)(M:List Row)(x:Hl):Hl:={ x with now:=x.now+1,rows:=iw h G p x.rows,gone:=x.gone++M.filterMap (fm G (x.now+1))}
section
variable{s:List Cell}{h:aA}{r:Int}{x:Hl}{w:Row}{G:Row->Goal}{p p':Row->Bool}{rows:List Row}
theorem P8{α β:Type}{f g:α->ak β}{l:List α}(h:∀x∈l,f x=g x):l.filterMap f=l.filterMap g:=by
 induction l with
 |nil=>rfl
 |cons x l ih=>rw[qf,qf,h x (.head _),ih λy m=>h y (.tail _ m)]
theorem GZ{z':Row}(e:i5 h G z=some z'):z'.bag=z.bag/\z'.fl=z.fl:=by
 unfold i5 at e;split at e
 .cases e
 .cases e;exact⟨rfl,rfl⟩
theorem GC(p:Row->Bool)(rows:List Row):((iw h G p rows).map Row.bag).Sublist (rows.map Row.bag):=by
 unfold iw
 induction rows with
 |nil=>exact .slnil
 |cons z rows ih=>
  grind [GZ]
theorem QW(hz:z∈rows)(hp:p z=false):z∈iw h G p rows:=qg.mpr ⟨z,hz,by rw[hp];rfl⟩
theorem e0b(nb:(rows.map Row.bag).Nodup)(hw:w∈rows)(hp:p w=false)(Ly:∀z,p' z=(p z || z.bag == w.bag))(hG:(G w).2=none):(iw h G p rows).filter (λz=>decide (z.bag≠w.bag))=iw h G p' rows:=by
 unfold iw;rw[List.filter_filterMap];refine P8 λz mz=>?_
 rw[Ly z];by_cases e:z.bag=w.bag
 .have ez:=pD nb mz hw e;subst ez;rw[hp,fY,Nr,ba (by decide),bI rfl,show i5 h G z=none by unfold i5;rw[hG]]
  show Option.filter _ (some z)=none;unfold Option.filter;simp
 .rw[show(z.bag == w.bag)=false by rw[uI];exact e,Bool.or_false]
  split
  .cases em:i5 h G z with
   |none=>rfl
   |some z'=>
    unfold Option.filter;dsimp only;exact bI (xl (by rw[(GZ em).1];exact e))
  .unfold Option.filter;dsimp only;exact bI (xl e)
theorem e6x(nb:(rows.map Row.bag).Nodup)(hw:w∈rows)(hp:p w=false)(Ly:∀z,p' z=(p z || z.bag == w.bag)){j:Int}(hG:(G w).2=some j){bt:ao}(hb:findB h.ae w.b=some bt):(iw h G p rows).map (fy w.bag (G w).1 j (if jm bt w.i (G w).1 j=true then w.gn+1 else w.gn))=iw h G p' rows:=by
 obtain⟨gv,SH⟩:∃gv,(if jm bt w.i (G w).1 j=true then w.gn+1 else w.gn)=gv:=⟨_,rfl⟩
 rw[SH];unfold iw;rw[List.map_filterMap];refine P8 λz mz=>?_
 rw[Ly z];by_cases e:z.bag=w.bag
 .have ez:=pD nb mz hw e;subst ez;rw[hp,fY,Nr,ba (by decide),bI rfl]
  unfold i5 fy;rw[hG,hb,Fu,bI rfl];dsimp only;rw[SH]
 .rw[show(z.bag == w.bag)=false by rw[uI];exact e,Bool.or_false]
  split
  .cases em:i5 h G z with
   |none=>rfl
   |some z'=>
    rw[Fu];unfold fy;rw[ba (by rw[(GZ em).1];exact e)]
  .rw[Fu];unfold fy;rw[ba e]
end
variable{S2:aN}{hd:D}
noncomputable def kW(d:List Row)(z:Row):Bool:=(d.map Row.bag).contains z.bag
noncomputable def pI(G:Row->Goal)(w:Row):D:=.tup [.str w.bag,gD (G w)]
section
variable{s:List Cell}{h:aA}{r:Int}{x:Hl}{w:Row}{G:Row->Goal}{n:Nat}{M:List Row}{g1 a2 a3:ak Val}
theorem e8z{j:Int}(hG:(G w).2=some j)(e:xq 0 [.d (.ref 0),.d (.str w.bag),.d (pl (G w).1 j)] (hS hd r x s)=some (.ok (rd .aI) S2)):zg 0 [some (.d (.ref 0)),g1,some (.d (.str w.bag)),some (.d (gD (G w)))] (hS hd r x s)=some (.nx [some (.d (.ref 0)),g1,some (.d (.str w.bag)),some (.d (gD (G w)))] S2):=by
 have e1:gD (G w)=pl (G w).1 j:=by unfold gD;generalize G w=p at *;obtain⟨c,i⟩:=p;cases hG;rfl
 rw[e1];unfold zg;simp only[↓ev,HS,hR,cU,Vn,e]
theorem e6y(hG:(G w).2=none)(e:Cw 0 [.d (.ref 0),.d (.str w.bag),.d (.str (G w).1)] (hS hd r x s)=some (.ok (rd .aI) S2)):zg 0 [some (.d (.ref 0)),g1,some (.d (.str w.bag)),some (.d (gD (G w)))] (hS hd r x s)=some (.nx [some (.d (.ref 0)),g1,some (.d (.str w.bag)),some (.d (gD (G w)))] S2):=by
 have e1:gD (G w)=.str (G w).1:=by unfold gD;generalize G w=p at *;obtain⟨c,i⟩:=p;cases hG;rfl
 rw[e1];unfold zg;simp only[↓ev,LK,aK,hR,cU,UM,e]
theorem P9(d:List Row)(w z:Row):kW (d++[w]) z=(kW d z || z.bag == w.bag):=by
 unfold kW;rw[AX,Nc,j6,j6,beq_iff_eq,eK,dN,List.map_singleton,lB]
theorem e0c(g:ax h)(o:Ok h n x)(hM:∀w∈M,w∈x.rows)(nM:(M.map Row.bag).Nodup)(SA:M.length<=x.rows.length)(hn:n<1000):∃b2 b3,aH (bD [(af 2),(af 3)]) (zg 0) (M.map (pI G)) [some (.d (.ref 0)),g1,none,none] (hS (aE h) r { x with now:=x.now+1} s)=some (.nx [some (.d (.ref 0)),g1,b2,b3] (hS (aE h) r (f_ h G (kW M) M x) s)):=by
 obtain⟨U',S',e,⟨b2,b3,rfl⟩,rfl⟩:=lq (gg:=bD [(af 2),(af 3)]) (body:=zg 0) (f:=pI G) (U:=[some (.d (.ref 0)),g1,none,none]) (S:=hS (aE h) r { x with now:=x.now+1} s) (λpre U S'=>(∃b2 b3,U=[some (.d (.ref 0)),g1,b2,b3])/\S'=hS (aE h) r (f_ h G (kW pre) pre x) s) M ⟨⟨_,_,rfl⟩,by
   have e1:f_ h G (kW []) [] x={ x with now:=x.now+1}:=by
    unfold f_ iw;rw[Cd,mO,show(λz:Row=>if kW [] z=true then i5 h G z else some z)=some from funext λz=>by rw[ba (by unfold kW;simp)],List.filterMap_some]
   rw[e1]⟩ (by
  rintro d w post eq U S' ⟨⟨b2,b3,rfl⟩,rfl⟩;have hw:w∈x.rows:=hM w (by rw[eq];simp)
  have SV:w.bag∉d.map Row.bag:=JY eq nM;have hp:kW d w=false:=by unfold kW;rw[A6];exact λz=>SV (j6.mp z)
  have nb:((f_ h G (kW d) d x).rows.map Row.bag).Nodup:=o.nb.sublist (GC _ _);have SU:w∈(f_ h G (kW d) d x).rows:=QW hw hp;have ll:(f_ h G (kW d) d x).rows.length<=x.rows.length:=by
   have:=(GC (h:=h) (G:=G) (kW d) x.rows).length_le;rw[bw,bw] at this;exact this
  have rl:=o.rl;have sz:=o.sz;obtain⟨bt,hb,eb,_⟩:=(o.rw w hw).1;have fb:=CK g hb;rw[eb] at fb;cases hG:(G w).2 with
  |some j=>
   refine⟨_,_,_,rfl,.inl (e8z hG (e6v g nb SU hb eb (by lia))),⟨_,_,rfl⟩,?_⟩
   unfold f_;dsimp only;rw[e6x o.nb hw hp (P9 d w) hG fb,Nu,show List.filterMap (fm G (x.now+1)) [w]=[] by rw[qf,Cd];unfold fm;rw[hG],mO]
  |none=>
   have hgd:w.bag∉(f_ h G (kW d) d x).gone.map (·.1):=by
    unfold f_;dsimp only;rw[eK,dN];rintro(z|z)
    .exact(nR.mp o.nd).2.2 _ (mP hw) _ z rfl
    .obtain⟨q,hq,e1⟩:=fB.mp z;obtain⟨u,hu,e2⟩:=qg.mp hq;unfold fm at e2;split at e2
     .cases e2;exact SV (by rw[<-e1];exact mP hu)
     .cases e2
   have DV:(f_ h G (kW d) d x).gone.length<2000:=by
    grind [f_]
   refine⟨_,_,_,rfl,.inl (e6y hG (e0a nb SU hgd DV)),⟨_,_,rfl⟩,?_⟩;unfold f_;dsimp only;rw[e0b o.nb hw hp (P9 d w) hG,Nu,show List.filterMap (fm G (x.now+1)) [w]=[(w.bag,(G w).1,x.now+1)] by rw[qf,Cd];unfold fm;rw[hG],nK])
 exact⟨b2,b3,e⟩
end
section
variable{s:List Cell}{h:aA}{r:Int}{x:Hl}{w:Row}{G:Row->Goal}{n m:Nat}{M L:List Row}{X:List (Str×D)}{hd:D}
theorem hlen{nw':Int}{m:Nat}:Nat.blt (hF hd r nw' m).length 1000=true:=rfl
theorem e6z(g:ax h)(o:Ok h n x)(hM:∀w∈M,w∈x.rows)(nM:(M.map Row.bag).Nodup)(SA:M.length<=x.rows.length)(hn:n<1000)(hs:s[m]?=some (.o (.lst (M.map (pI G))))):Gs 0 [.d (.ref 0),.c m] (hS (aE h) r x s)=some (.ok (rd .aI) (hS (aE h) r (f_ h G (kW M) M x) (s.set m (.z (.lst (M.map (pI G))))))):=by
 obtain⟨b2,b3,e⟩:=e0c (G:=G) (r:=r) (s:=s.set m (.z (.lst (M.map (pI G))))) (g1:=some (.c m)) g o hM nM SA hn;generalize M.map (pI G)=ml at *;generalize aE h=hd at *;unfold Gs Py;simp only[↓ev,hS,hR,Hh,Kq,fY,hlen,e5x,hs,i6,e,Rb]
noncomputable def iV(X:List (Str×D))(G:Row->Goal)(w:Row):D:=match X.find? λp=>p.1 == w.bag with
 |some p=>.tup [.str w.bag,pl w.b w.i,pl w.b w.i,p.2]
 |none=>.tup [.str w.bag,pl w.b w.i,gD (G w),.aI]
abbrev tS(hd:D)(r:Int)(x:Hl)(s:List Cell)(X:List (Str×D))(lg mv:List D):aN:=⟨s++[.o (.aB (cz X)),.o (.lst lg),.o (.lst mv)],hR hd r x⟩
theorem QX(X:List (Str×D))(w:Row):(X.find? (λp=>p.1 == w.bag)=none/\nk X w=true/\aS (cz X) (.inr w.bag)=none)\/∃p,X.find? (λp=>p.1 == w.bag)=some p/\nk X w=false/\aS (cz X) (.inr w.bag)=some p.2:=by
 have v:aS (cz X) (.inr w.bag)=_:=Dg w.bag X;have i:=BM (W:=X) (b:=w.bag);rw[v] at i ⊢;unfold nk;rw[<-i];cases X.find? (λp=>p.1 == w.bag) with
 |none=>exact .inl ⟨rfl,rfl,rfl⟩
 |some p=>exact .inr ⟨p,rfl,rfl,rfl⟩
theorem e7a{lg mv:List D}{g1:ak Val}(hv:aS (cD G L) (.inr w.bag)=some (gD (G w)))(l1:lg.length<1000)(l2:mv.length<1000):CW 0 [some (.d (.ref 0)),g1,some (.d (.aB (cD G L))),some (.c s.length),some (.c (s.length+1)),some (.c (s.length+2)),some (.d (.str w.bag)),some (.d (aL w.fl)),some (.d (pl w.b w.i)),some (.d (.int w.gn))] (tS hd r x s X lg mv)=some (.nx [some (.d (.ref 0)),g1,some (.d (.aB (cD G L))),some (.c s.length),some (.c (s.length+1)),some (.c (s.length+2)),some (.d (.str w.bag)),some (.d (aL w.fl)),some (.d (pl w.b w.i)),some (.d (.int w.gn))] (tS hd r x s X (lg++[iV X G w]) (if nk X w=true then mv++[pI G w] else mv))):=by
 have S7:(lg.length<1000000)=True:=bJ (by lia)
 have l2':(mv.length<1000000)=True:=bJ (by lia)
 unfold iV pI;generalize aL w.fl=ff at *;generalize gD (G w)=gg at *;unfold CW;rcases QX X w with⟨e1,e2,e3⟩|⟨p,e1,e2,e3⟩
 .rw[e1,e2,bI rfl];simp only[↓ev,tS,eM,aK,e3,A3,Gp,hv,aO,S7,Mw,l2']
 .rw[e1,e2,ba (by decide)]
  dsimp only;generalize p.2=py at *;simp only[↓ev,tS,eM,aK,e3,yP,Gp,aO,S7,Mw]
theorem e0d{g1:ak Val}(nd:(L.map Row.bag).Nodup)(hl:L.length<100):∃a6 a7 a8 a9,aH (bD [(af 6),(af 7),(af 8),(af 9)]) (CW 0) (L.map aT) [some (.d (.ref 0)),g1,some (.d (.aB (cD G L))),some (.c s.length),some (.c (s.length+1)),some (.c (s.length+2)),none,none,none,none] (tS hd r x s X [] [])=some (.nx [some (.d (.ref 0)),g1,some (.d (.aB (cD G L))),some (.c s.length),some (.c (s.length+1)),some (.c (s.length+2)),a6,a7,a8,a9] (tS hd r x s X (L.map (iV X G)) ((L.filter (nk X)).map (pI G)))):=by
 obtain⟨U',S',e,⟨a6,a7,a8,a9,rfl⟩,rfl⟩:=lq (gg:=bD [(af 6),(af 7),(af 8),(af 9)]) (body:=CW 0) (f:=aT) (U:=[some (.d (.ref 0)),g1,some (.d (.aB (cD G L))),some (.c s.length),some (.c (s.length+1)),some (.c (s.length+2)),none,none,none,none]) (S:=tS hd r x s X [] []) (λpre U S'=>(∃a6 a7 a8 a9,U=[some (.d (.ref 0)),g1,some (.d (.aB (cD G L))),some (.c s.length),some (.c (s.length+1)),some (.c (s.length+2)),a6,a7,a8,a9])/\S'=tS hd r x s X (pre.map (iV X G)) ((pre.filter (nk X)).map (pI G))) L ⟨⟨_,_,_,_,rfl⟩,rfl⟩ (by
  rintro d w post eq U S' ⟨⟨a6,a7,a8,a9,rfl⟩,rfl⟩;have hd:d.length<100:=by
   grind
  have hf:=yN (nk X) d;refine⟨_,_,_,rfl,.inl (e7a (lK nd (by rw[eq];simp)) (by rw[bw];lia) (by rw[bw];lia)),⟨_,_,_,_,rfl⟩,?_⟩
  grind)
 exact⟨a6,a7,a8,a9,e⟩
theorem QY:∀L:List Row,ia (L.map (pI G))=some (cD G L)
 |[]=>rfl
 |w::L=>by
  have ih:=QY L;rw[cq];show(kY (.str w.bag)).bind (λk=>(ia (L.map (pI G))).map ((k,gD (G w))::·))=_
  rw[ih];rfl
theorem e0e(nd:(L.map Row.bag).Nodup):(cD G L).foldl (λa p=>bT a p.1 p.2) []=cD G L:=by
 have key:∀(M N:List Row),((N++M).map Row.bag).Nodup->(cD G M).foldl (λa p=>bT a p.1 p.2) (cD G N)=cD G (N++M):=by
  intro M
  induction M with
  |nil=>intro N _;rw[mO];rfl
  |cons w M ih=>
   intro N nd;have hw:w.bag∉N.map Row.bag:=by
    grind
   have e:bT (cD G N) (.inr w.bag) (gD (G w))=cD G (N++[w]):=by
    unfold cD;rw[Dh hw];unfold td;rw[eK];rfl
   show(cD G M).foldl _ (bT (cD G N) (.inr w.bag) (gD (G w)))=_;rw[e,ih (N++[w]) (by rw[nK];exact nd),nK]
   rfl
 exact key L [] nd
end
def jT(h:aA)(r:Int)(x:Hl)(X:List (Str×D)):Prop:=∃C,nV (aj h r x) (ask (aj h r x) (cH (bo h x) (aj h r x) (ord h x.rows)) (ord h x.rows)) C/\lH (aj h r x) (ord h x.rows) (cH (bo h x) (aj h r x) (ord h x.rows)++(ask (aj h r x) (cH (bo h x) (aj h r x) (ord h x.rows)) (ord h x.rows)).filterMap (dq (aj h r x) C)) X/\∀w∈ord h x.rows,∀o,¬kz (aj h r x) (ord h x.rows) X w o
def bZ(h:aA)(x:Hl)(X:List (Str×D)):List Row:=(ord h x.rows).filter (nk X)
def bF(h:aA)(r:Int)(x:Hl)(X:List (Str×D)):Hl:=f_ h (aj h r x) (kW (bZ h x X)) (bZ h x X) x
section
variable{s:List Cell}{h:aA}{r:Int}{x:Hl}{n:Nat}
theorem BE{s:List Cell}{rr:List Cell}{W W':List (Str×D)}:tw ⟨s++[.o (.aB (cz W))],rr⟩ s.length W'=⟨s++[.o (.aB (cz W'))],rr⟩:=by
 simp_all
theorem Kw(g:ax h)(o:Ok h n x)(hn:n<1000):∃X,jT h r x X/\xD 0 [.d (.ref 0)] (hS (aE h) r x s)=some (.ok (.o (.lst ((ord h x.rows).map (iV X (aj h r x))))) (hS (aE h) r (bF h r x X) s)):=by
 have rl:=o.rl;have pl:=o.perm.length_eq;have nd:((ord h x.rows).map Row.bag).Nodup:=(o.perm.map _).nodup_iff.mpr o.nb;have un:((ord h x.rows).map λw=>(w.b,w.i)).Nodup:=(o.perm.map _).nodup_iff.mpr o.un
 have e1:=λq s=>uT (s:=s) (r:=r) (q:=q) g o
 have e2:=λs=>YB (s:=s) (r:=r) g o
 have e3:=λq s=>O2 (s:=s) (r:=r) (q:=q) (x:=x) g
 have ln:s.length<(s++[Cell.o (.aB (cz []))]).length:=by rw[dy];exact w_ _
 have e5:=d9r (S:=⟨s++[.o (.aB (cz []))],hR (aE h) r x⟩) (n:=s.length) (st:=bo h x) (G:=aj h r x) (L:=ord h x.rows) ln nd (by lia)
 rw[BE,BE] at e5;have lw:(cH (bo h x) (aj h r x) (ord h x.rows)).length<=(ord h x.rows).length:=Iy _ _;obtain⟨C,oC,e6⟩:=d9v (S:=⟨s++[.o (.aB (cz []))],hR (aE h) r x⟩) (n:=s.length) (W:=cH (bo h x) (aj h r x) (ord h x.rows)) (G:=aj h r x) (L:=ord h x.rows) ln nd (by lia) (by lia)
 rw[BE,BE] at e6;have ly:((ask (aj h r x) (cH (bo h x) (aj h r x) (ord h x.rows)) (ord h x.rows)).filterMap (dq (aj h r x) C)).length<=(ord h x.rows).length:=jN (Iy _ _) (yN _ _);obtain⟨X,i1,i2,e7⟩:=YJ (S:=⟨s++[.o (.aB (cz []))],hR (aE h) r x⟩) (n:=s.length) (W:=cH (bo h x) (aj h r x) (ord h x.rows)++(ask (aj h r x) (cH (bo h x) (aj h r x) (ord h x.rows)) (ord h x.rows)).filterMap (dq (aj h r x) C)) (G:=aj h r x) (L:=ord h x.rows) ln nd un (by lia) (by rw[dy];lia)
 rw[BE,BE] at e7;obtain⟨a6,a7,a8,a9,e8⟩:=e0d (s:=s) (hd:=aE h) (r:=r) (x:=x) (X:=X) (G:=aj h r x) (L:=ord h x.rows) (g1:=some (.d (.lst ((ord h x.rows).map aT)))) nd (by lia)
 have e4:=e6z (r:=r) (G:=aj h r x) (M:=bZ h x X) (m:=s.length+2) (s:=s++[.o (.aB (cz X)),.o (.lst ((ord h x.rows).map (iV X (aj h r x)))),.o (.lst ((bZ h x X).map (pI (aj h r x))))]) g o (λw m=>o.mem.mp (yJ.mp m).1) (nd.sublist (List.Sublist.map _ Im)) (by rw[<-pl];exact yN _ _) hn Gp
 rw[Mw] at e4;refine⟨X,⟨C,oC,i1,i2⟩,?_⟩;have pw:=QY (G:=aj h r x) (ord h x.rows);have fg:=e0e (G:=aj h r x) nd;have ll:((cD (aj h r x) (ord h x.rows)).length<1000)=True:=bJ (by unfold cD;rw[oh];lia)
 have ew:(ord h x.rows).map (qV h r x)=(ord h x.rows).map (pI (aj h r x)):=rfl;have w0:cz []=[]:=rfl;rw[w0] at e5;unfold bF;rw[ew] at e2;clear i1 i2 oC;generalize cH (bo h x) (aj h r x) (ord h x.rows)=W1 at *;generalize W1++(ask (aj h r x) W1 (ord h x.rows)).filterMap (dq (aj h r x) C)=W2 at *;generalize f_ h (aj h r x) (kW (bZ h x X)) (bZ h x X) x=x2 at *;unfold bZ at e4;generalize(ord h x.rows).map (pI (aj h r x))=l1 at *;generalize((ord h x.rows).filter (nk X)).map (pI (aj h r x))=l2 at *;generalize(ord h x.rows).map (iV X (aj h r x))=l3 at *;generalize(ord h x.rows).map aT=l4 at *;generalize cD (aj h r x) (ord h x.rows)=gs at *;generalize aE h=hd at *;unfold xD RU;simp only[↓ev,hR,cU,uS,e1,aO,e2,pw,ll,fg,Oq,e3,e5,e6,e7,aK,Ej,zz,i6,e8,d9j,e4,lt2,Gp,uY]
end
variable{G:Row->Goal}{j:Int}
theorem G1{α:Type}[DecidableEq α]:∀{l1 l2:List α},l1.Nodup->(∀a∈l1,a∈l2)->l1.length<=l2.length
 |[],_,_,_=>mL _
 |a::l1,l2,nd,h=>by
  rw[sj] at nd;have ha:=h a (.head _);have ih:=G1 (l1:=l1) (l2:=l2.erase a) nd.2 λb m=>by
   rw[List.mem_erase_of_ne (λe=>nd.1 (by rw[<-e];exact m))]
   exact h b (.tail _ m)
  grind
section
variable{h:aA}{r:Int}{x:Hl}{n:Nat}{X:List (Str×D)}{w z:Row}
theorem e0f(g:ax h)(o:Ok h n x)(hw:w∈x.rows):((aj h r x w).2=none->(aj h r x w).1∈h.carts)/\∀j,(aj h r x w).2=some j->∃bt∈h.ae,bt.name=(aj h r x w).1/\0<=j/\j<bt.long:=by
 obtain⟨bt,hb,eb,i0,i1,_⟩:=(o.rw w hw).1;have lo:=(g.lg bt hb).1;have eg:aj h r x w=kS h r x w bt:=by unfold aj;rw[<-eb,CK g hb]
 rw[eg];unfold kS;split
 .exact⟨λz=>(by cases z),λj e=>⟨bt,hb,rfl,by cases e;lia,by cases e;assumption⟩⟩
 .split
  .exact⟨λz=>(by cases z),λj e=>⟨bt,hb,rfl,by cases e;lia,by cases e;lia⟩⟩
  .obtain⟨a,ea,ha⟩:=Ks g o hw hb eb;rw[ea,Iw];unfold uk;split
   .simp_all
   .rename_i hc
    split
    .exact⟨λz=>(by cases z),λj e=>⟨bt,hb,rfl,by cases e;lia,by cases e;lia⟩⟩
    .have hm:a∈h.ae.map ao.name:=(CZ g.fwd bt hb a ha).resolve_right λz=>hc (j6.mpr z)
     obtain⟨b2,vZ,e2⟩:=fB.mp hm;have l2:=(g.lg b2 vZ).1;exact⟨λz=>(by cases z),λj e=>⟨b2,vZ,e2,by cases e;lia,by cases e;lia⟩⟩
theorem lH.sub{L:List Row}{W X:List (Str×D)}(a:lH G L W X):∀b∈W.map (·.1),b∈X.map (·.1):=by
 induction a with
 |base=>exact λ_ m=>m
 |step _ _ _ ih=>exact λb m=>by rw[eK];exact dN.mpr (.inl (ih b m))
theorem tu(o:Ok h n x):w∈bZ h x X↔w∈x.rows/\w.bag∉X.map (·.1):=by
 unfold bZ;rw[yJ,o.mem,nv]
theorem YK(o:Ok h n x)(t:jT h r x X):∃C:List (bx×Str),∀w∈bZ h x X,(aj h r x w).2.isSome=true->look C (gk (aj h r x) w)=some w.bag:=by
 obtain⟨C,oC,gr,fn⟩:=t;refine⟨C,λw hw hs=>?_⟩
 obtain⟨hr,hX⟩:=(tu o).mp hw;have h1:w.bag∉(cH (bo h x) (aj h r x) (ord h x.rows)).map (·.1):=λm=>hX (gr.sub _ (by rw[eK];exact dN.mpr (.inl m)))
 have ha:w∈ask (aj h r x) (cH (bo h x) (aj h r x) (ord h x.rows)) (ord h x.rows):=iy.mpr ⟨o.mem.mpr hr,h1,hs⟩;obtain⟨c,hc⟩:=Option.ne_none_iff_exists'.mp (oC.2.1 w ha);rw[hc];by_cases e:c=w.bag
 .rw[e]
 .refine cC (gr.sub w.bag ?_) hX;rw[eK];refine dN.mpr (.inr (fB.mpr ⟨(w.bag,.tup [.str "yields",.str c]),qg.mpr ⟨w,ha,?_⟩,rfl⟩));unfold dq;rw[hc];exact ba e
theorem qu(e:(G w).2=some j):gk G w=((G w).1,j):=by unfold gk;rw[e];rfl
theorem Vp(o:Ok h n x)(t:jT h r x X)(hw:w∈bZ h x X)(hz:z∈bZ h x X){k:Int}(ew:(aj h r x w).2=some j)(ez:(aj h r x z).2=some k)(e:((aj h r x w).1,j)=((aj h r x z).1,k)):w=z:=by
 obtain⟨C,hC⟩:=YK o t;have h1:=hC w hw (by rw[ew];rfl)
 have h2:=hC z hz (by rw[ez];rfl)
 rw[qu ew,e,<-qu ez,h2] at h1;exact pD o.nb ((tu o).mp hw).1 ((tu o).mp hz).1 (Option.some.inj h1).symm
theorem e0g(un:(x.rows.map λw=>(w.b,w.i)).Nodup)(o:Ok h n x)(hz:z∈x.rows)(ew:(G w).2=some j)(e:((G w).1,j)=(z.b,z.i)):hold G (ord h x.rows) w=some z.bag:=by
 unfold hold;rw[ew];dsimp only;rw[e];refine YF ?_ (fB.mpr ⟨z,o.mem.mpr hz,rfl⟩);unfold ie;rw[fF];exact(o.perm.map _).nodup_iff.mpr un
theorem YL(o:Ok h n x)(t:jT h r x X)(hw:w∈bZ h x X)(hz:z∈x.rows)(ew:(aj h r x w).2=some j)(e:((aj h r x w).1,j)=(z.b,z.i)):z∈bZ h x X:=by
 obtain⟨C,oC,gr,fn⟩:=t;obtain⟨hr,hX⟩:=(tu o).mp hw;refine(tu o).mpr ⟨hz,λm=>fn w (o.mem.mpr hr) z.bag ⟨hX,e0g o.un o hz ew e,m⟩⟩
theorem zx(o:Ok h n x)(hz:z∈x.rows):kW (bZ h x X) z=true↔z∈bZ h x X:=by
 unfold kW;rw[j6,fB];constructor
 .rintro⟨u,hu,e⟩;rw[<-pD o.nb ((tu o).mp hu).1 hz e];exact hu
 .exact λm=>⟨z,m,rfl⟩
end
section
variable{h:aA}{r:Int}{x:Hl}{n:Nat}{X:List (Str×D)}{w z z':Row}
theorem GD(o:Ok h n x)(hz:z'∈(bF h r x X).rows):∃z∈x.rows,z'.bag=z.bag/\z'.fl=z.fl/\((z∉bZ h x X/\z'=z)\/(z∈bZ h x X/\i5 h (aj h r x) z=some z')):=by
 obtain⟨z,LH,e⟩:=qg.mp hz;refine⟨z,LH,?_⟩;split at e
 .rename_i hm
  obtain⟨e1,e2⟩:=GZ e;exact⟨e1,e2,.inr ⟨(zx o LH).mp hm,e⟩⟩
 .rename_i hm
  cases e;exact⟨rfl,rfl,.inl ⟨λm=>hm ((zx o LH).mpr m),rfl⟩⟩
theorem e7b{G:Row->Goal}(e:i5 h G z=some z')(h0:0<=z.gn):0<=z'.gn:=by
 grind [i5]
theorem Dk{G:Row->Goal}(e:i5 h G z=some z'):∃j,(G z).2=some j/\z'.b=(G z).1/\z'.i=j:=by
 grind [i5]
theorem QZ{nw:Int}{p:Str×Str×Int}(o:Ok h n x)(hp:p∈(bZ h x X).filterMap (fm (aj h r x) nw)):∃u∈x.rows,u∈bZ h x X/\(aj h r x u).2=none/\p=(u.bag,(aj h r x u).1,nw):=by
 grind [tu,fm]
theorem Q0{G:Row->Goal}{nw:Int}:∀M:List Row,((M.filterMap (fm G nw)).map (·.1)).Sublist (M.map Row.bag)
 |[]=>.slnil
 |u::M=>by
  have ih:=Q0 (G:=G) (nw:=nw) M;rw[cq];cases e:(G u).2 with
  |none=>
   rw[List.filterMap_cons_some (b:=(u.bag,(G u).1,nw)) (by unfold fm;rw[e])]
   exact ih.cons₂ _
  |some j=>
   rw[List.filterMap_cons_none (by unfold fm;rw[e])]
   exact ih.cons _
theorem Ok.turn(g:ax h)(o:Ok h n x)(t:jT h r x X):Ok h n (bF h r x X):=by
 have nM:((bZ h x X).map Row.bag).Nodup:=(((o.perm.map _).nodup_iff.mpr o.nb:((ord h x.rows).map Row.bag).Nodup)).sublist (List.Sublist.map _ Im);have sb:((bF h r x X).rows.map Row.bag).Sublist (x.rows.map Row.bag):=GC _ _;have uo:∀b∈((bZ h x X).filterMap (fm (aj h r x) (x.now+1))).map (·.1),∃u∈x.rows,u∈bZ h x X/\(aj h r x u).2=none/\b=u.bag:=λb m=>by
  obtain⟨p,hp,rfl⟩:=fB.mp m;obtain⟨u,h1,h2,h3,rfl⟩:=QZ o hp;exact⟨u,h1,h2,h3,rfl⟩
 have dj:∀b∈(bF h r x X).rows.map Row.bag,b∉((bZ h x X).filterMap (fm (aj h r x) (x.now+1))).map (·.1):=λb mb mo=>by
  obtain⟨z',HP,rfl⟩:=fB.mp mb;obtain⟨u,hu,hum,hn,e⟩:=uo _ mo;obtain⟨z,hz,eb,_,st⟩:=GD o HP;have ezu:z=u:=pD o.nb hz hu (by rw[<-eb,e])
  grind [Dk]
 have ndo:(((bZ h x X).filterMap (fm (aj h r x) (x.now+1))).map (·.1)).Nodup:=by
  exact nM.sublist (Q0 _)
 have nd:((bF h r x X).rows.map Row.bag++(bF h r x X).gone.map (·.1)).Nodup:=by
  have o1:=nR.mp o.nd;have eg:(bF h r x X).gone.map (·.1)=x.gone.map (·.1)++((bZ h x X).filterMap (fm (aj h r x) (x.now+1))).map (·.1):=by
   show(x.gone++_).map _=_
   simp_all
  rw[eg,nR];refine⟨o1.1.sublist sb,nR.mpr ⟨o1.2.1,ndo,λa ma b mb e=>?_⟩,λa ma b mb e=>?_⟩
  .obtain⟨u,hu,_,_,eu⟩:=uo b mb;exact o1.2.2 u.bag (mP hu) a ma (by rw[e,eu])
  .rcases dN.mp mb with mb|mb
   .exact o1.2.2 a (sb.subset ma) b mb e
   .exact dj a ma (by rw[e];exact mb)
 refine⟨λz' HP=>?_,nd,?_,o.bk,o.bn,?_,?_⟩
 .obtain⟨z,hz,eb,ef,st⟩:=GD o HP;obtain⟨k1,k2,k3⟩:=o.rw z hz;refine⟨?_,by rw[eb];exact k2,by rw[ef];exact k3⟩
  rcases st with⟨_,rfl⟩|⟨_,s2⟩
  .exact k1
  .obtain⟨j,ej,e1,e2⟩:=Dk s2;obtain⟨bt,hb,e3,e4,e5⟩:=(e0f g o hz).2 j ej;obtain⟨_,_,_,_,_,DH⟩:=k1;exact⟨bt,hb,by rw[e1];exact e3,by rw[e2];exact e4,by rw[e2];exact e5,e7b s2 DH⟩
 .show((iw h (aj h r x) (kW (bZ h x X)) x.rows).map _).Nodup;unfold iw;rw[List.Nodup,Iu,List.pairwise_filterMap];have un:=o.un;have nb:=o.nb;rw[List.Nodup,Iu] at un nb;refine(un.and nb).imp_of_mem λ{a b} ma mb ne a' ea b' xQ e=>?_
  grind [Dk,zx,YL,Vp]
 .have:=sb.length_le;rw[bw,bw] at this;exact jN this o.rl
 .have:=G1 nd (l2:=x.rows.map Row.bag++x.gone.map (·.1)) λa m=>by
   rcases dN.mp m with m|m
   .exact dN.mpr (.inl (sb.subset m))
   .have m:a∈(x.gone++(bZ h x X).filterMap (fm (aj h r x) (x.now+1))).map (·.1):=m
    rw[eK,dN] at m;rcases m with m|m
    .exact dN.mpr (.inr m)
    .obtain⟨u,hu,_,_,e⟩:=uo a m;exact dN.mpr (.inl (by rw[e];exact mP hu))
  rw[dy,dy,bw,bw,bw,bw] at this;have sz:=o.sz;show x.book.length+x.halts.length+_+_<=n;lia
end
variable{l:List Str}
abbrev lQ(z:Str)(v:Bool):Prop:=Pr pX [.d (.str z)] (rd (.bl v))
def Dn(h:aA)(r:Int)(n:Nat)(x:Hl)(s:List Cell)(res:ak (Rs Rv)):Prop:=(∃x',res=some (.ok (rd .aI) (hS (aE h) r x' s))/\Ok h (n+1) x')\/∃C,res=some (.ex C none (hS (aE h) r x s))/\wT jh C=some true
section
variable{s:List Cell}{h:aA}{r:Int}{x:Hl}{n q:Nat}{f ct b:Str}{cl:Int}{v:Bool}
theorem zy{hd:D}(q:Nat)(hv:lQ f v):y9 q [.d (.ref 0),.d (.str f)] (hS hd r x s)=some (if(v&&(x.book.map (·.1)).contains f)=true then .ok (rd .aI) (hS hd r x s) else .ex 104 none (hS hd r x s)):=by
 have i:(aS (lZ x.book) (.inr f)).isSome=_:=BL;unfold y9 Ny;cases v with
 |false=>simp only[↓ev,hv,cf,hR,aK]
 |true=>
  cases hc:(x.book.map (·.1)).contains f with
  |true=>rw[hc] at i;simp only[↓ev,hv,aK,hR,rZ,tq,aO,i,lC,cf]
  |false=>rw[hc] at i;simp only[↓ev,hv,aK,hR,rZ,tq,aO,i,mQ,cf]
theorem O4(q:Nat){S:aN}:Ct q [.d (.int cl)] S=some (if cl<0 then .ex 92 none S else .ok (rd .aI) S):=by
 unfold Ct NC;by_cases hl:cl<0
 .rw[bI hl];have hl:=bJ hl;simp only[↓ev,hl,decide_true,fW]
 .rw[ba hl];have hl:=eq_false hl;simp only[↓ev,hl,decide_false,aK,fW]
theorem Ok.up(o:Ok h n x):Ok h (n+1) x:=⟨o.rw,o.nd,o.un,o.bk,o.bn,o.rl,Nat.le_succ_of_le o.sz⟩
theorem uP(h:l.contains b=true):b∈l:=j6.mp h
theorem F9(h:l.contains b=false):b∉l:=λm=>by rw[j6.mpr m] at h;cases h
theorem YM(g:ax h)(o:Ok h n x)(hn:n<1000)(hv:lQ f v):Dn h r n x s (F7 0 [.d (.ref 0),.d (.str f),.d (.str ct),.d (.int cl)] (hS (aE h) r x s)):=by
 have i:(aS (lZ x.book) (.inr f)).isSome=_:=BL;have cu:cutD (dS h.carts) (some 1) none=dS (h.carts.drop 1):=by rw[show(1:Int)=((1:Nat):Int) from rfl,PL,dS,dS,Ir]
 have e1:=λq S=>O4 (cl:=cl) (S:=S) q
 have hD:aE h=.tup [.lst (h.ae.map aq),.lst (dS h.carts)]:=rfl;unfold Dn;rw[hD];unfold F7 Oj;cases v with
 |false=>
  refine .inr ⟨44,?_,rfl⟩;simp only[↓ev,hv,cf,hR]
 |true=>
  cases h1:(x.book.map (·.1)).contains f with
  |true=>
   rw[h1] at i;refine .inr ⟨44,?_,rfl⟩;simp only[↓ev,hv,aK,hR,rZ,tq,aO,i,cf]
  |false=>
   rw[h1] at i;cases h2:(h.carts.drop 1).contains ct with
   |false=>
    refine .inr ⟨68,?_,rfl⟩;simp only[↓ev,hv,aK,hR,rZ,tq,aO,i,nN,n_,cV,cu,ky,j_,h2,mQ,cf]
   |true=>
    by_cases hl:cl<0
    .simp only[bI hl] at e1;refine .inr ⟨92,?_,rfl⟩;simp only[↓ev,hv,aK,hR,rZ,tq,aO,i,nN,n_,cV,cu,ky,j_,h2,lC,e1,cf]
    .simp only[ba hl] at e1;have hf:=F9 h1;have p:bT (lZ x.book) (.inr f) (.tup [.str f,.str ct,.int cl])=lZ (x.book++[(f,ct,cl)]):=by
      unfold lZ;rw[Dh hf];unfold td;rw[eK];rfl
     have sz:=o.sz;have l1:((lZ x.book).length<1000000)=True:=bJ (by unfold lZ;rw[oh];lia)
     refine .inl ⟨{ x with book:=x.book++[(f,ct,cl)]},?_,λw m=>⟨(o.rw w m).1,(o.rw w m).2.1,λf' e=>?_⟩,o.nd,o.un,λp m=>?_,?_,o.rl,?_⟩
     .simp only[↓ev,hS,hR,hv,aK,rZ,tq,aO,i,nN,n_,cV,cu,ky,j_,h2,lC,e1,l1,p,cf]
     .rw[eK];exact dN.mpr (.inl ((o.rw w m).2.2 f' e))
     .rcases dN.mp m with m|m
      .exact o.bk p m
      .rw[lB.mp m];exact List.mem_of_mem_drop (uP h2)
     .rw[eK,nR];refine⟨o.bn,by simp,λa ma b mb e=>hf ?_⟩
      have:b=f:=by simpa using mb
      rw[<-this,<-e];exact ma
     .dsimp only;rw[dy,vm];lia
theorem YN(g:ax h)(o:Ok h n x)(hn:n<1000)(hv:lQ f v):Dn h r n x s (F8 0 [.d (.ref 0),.d (.str f),.d (.int cl)] (hS (aE h) r x s)):=by
 have e0:=λq=>zy (s:=s) (hd:=aE h) (r:=r) (x:=x) q hv
 have e1:=λq S=>O4 (cl:=cl) (S:=S) q
 unfold Dn;generalize aE h=hd at *;unfold F8 Ol;cases hc:(v&&(x.book.map (·.1)).contains f) with
 |false=>
  simp only[hc,aK,j7] at e0;refine .inr ⟨104,?_,rfl⟩;simp only[↓ev,hR,cU,sX,e0,cf]
 |true=>
  simp only[hc,pL] at e0;by_cases hl:cl<0
  .simp only[bI hl] at e1;refine .inr ⟨92,?_,rfl⟩;simp only[↓ev,hR,cU,sX,e0,e1,cf]
  .simp only[ba hl] at e1;rw[fX] at hc;have hm:=uP hc.2;obtain⟨p,hp,ep⟩:=fB.mp hm;have v0:aS (lZ x.book) (.inr f)=some (.tup [.str p.1,.str p.2.1,.int p.2.2]):=by rw[<-ep];exact lK o.bn hp
   have pu:bT (lZ x.book) (.inr f) (.tup [.str f,.str p.2.1,.int cl])=lZ (x.book.map λz=>if z.1=f then(f,z.2.1,cl) else z):=by
    unfold lZ;rw[Di o.bn hm];unfold td;rw[fF];refine pB λz mz=>?_
    dsimp only[Function.comp];by_cases e:z.1=f
    .rw[bI e,bI e,pD (f:=λp:Str×Str×Int=>p.1) o.bn mz hp (by rw[e,ep]),ep]
     rfl
    .rw[ba e,ba e]
   have sz:=o.sz;have l1:((lZ x.book).length<1000000)=True:=bJ (by unfold lZ;rw[oh];lia)
   have ek:(x.book.map λz=>if z.1=f then(f,z.2.1,cl) else z).map (·.1)=x.book.map (·.1):=by
    rw[fF];refine pB λz _=>?_
    dsimp only[Function.comp];split
    .rename_i e;exact e.symm
    .rfl
   refine .inl ⟨{ x with book:=x.book.map λz=>if z.1=f then(f,z.2.1,cl) else z},?_,λw m=>⟨(o.rw w m).1,(o.rw w m).2.1,λf' e=>?_⟩,o.nd,o.un,λp m=>?_,?_,o.rl,?_⟩
   .simp only[↓ev,hS,hR,cU,sX,e0,e1,rZ,tq,aO,v0,cV,l1,pu,cf]
   .show f'∈(x.book.map _).map _;rw[ek];exact(o.rw w m).2.2 f' e
   .obtain⟨z,mz,rfl⟩:=fB.mp m;split
    .exact o.bk z mz
    .exact o.bk z mz
   .show((x.book.map _).map _).Nodup;rw[ek];exact o.bn
   .dsimp only;rw[bw];lia
theorem e7c(g:ax h)(o:Ok h n x)(hn:n<1000):Dn h r n x s (CS 0 [.d (.ref 0),.d (.str b)] (hS (aE h) r x s)):=by
 cases hb:(h.ae.map ao.name).contains b with
 |false=>
  have e0:=λq=>Bq (s:=s) (r:=r) (x:=x) (q:=q) g hb
  simp only[aK,j7] at e0;refine .inr ⟨116,?_,rfl⟩;generalize aE h=hd at *;unfold CS JQ;simp only[↓ev,hR,cU,sY,e0,cf]
 |true=>
  have e0:=λq=>Bq (s:=s) (r:=r) (x:=x) (q:=q) g hb
  simp only[pL] at e0;have sz:=o.sz;have l1:((nQ x.halts).length<1000000)=True:=bJ (by rw[Kp];lia)
  have p:=Hg b x.halts;refine .inl ⟨{ x with halts:=g8 x.halts b},?_,o.rw,o.nd,o.un,o.bk,o.bn,o.rl,?_⟩
  .generalize aE h=hd at *;unfold CS JQ;simp only[↓ev,hS,hR,cU,sY,e0,Bt,CY,aO,l1,p,cf]
  grind [PN]
theorem e0h(b:Str)(ks:List Str):dr (nQ ks) b=nQ (ks.filter λk=>decide (k≠b)):=C7 (k:=λk=>k) (v:=λ_=>.bl true)
theorem Q1(g:ax h)(o:Ok h n x)(hb:(h.ae.map ao.name).contains b=true):zj 0 [.d (.ref 0),.d (.str b)] (hS (aE h) r x s)=some (.ok (rd .aI) (hS (aE h) r { x with halts:=x.halts.filter λk=>decide (k≠b)} s)):=by
 have e0:=λq=>Bq (s:=s) (r:=r) (x:=x) (q:=q) g hb
 simp only[pL] at e0;have i:=xE b x.halts;have d:=e0h b x.halts;have t1:gq (nQ x.halts)=true:=zG (k:=λk=>k) (v:=λ_=>.bl true)
 generalize aE h=hd at *;unfold zj JD;cases hc:x.halts.contains b with
 |true=>
  rw[hc] at i;obtain⟨y,hy⟩:=Option.isSome_iff_exists.mp i;simp only[↓ev,hS,hR,cU,sY,e0,Bt,CY,aO,aK,hy,yP,t1,d,cf]
 |false=>
  rw[hc] at i;have hf:x.halts.filter (λk=>decide (k≠b))=x.halts:=List.filter_eq_self.mpr λk m=>xl λe=>F9 hc (by rw[<-e];exact m)
  simp only[↓ev,hS,hR,cU,sY,e0,Bt,CY,aO,aK,i,cf,hf]
theorem Ok.start(o:Ok h n x):Ok h n { x with halts:=x.halts.filter λk=>decide (k≠b)}:=⟨o.rw,o.nd,o.un,o.bk,o.bn,o.rl,by
 have:=yN (λk=>decide (k≠b)) x.halts
 have sz:=o.sz
 lia⟩
theorem YO(g:ax h)(o:Ok h n x):Dn h r n x s (zj 0 [.d (.ref 0),.d (.str b)] (hS (aE h) r x s)):=by
 cases hb:(h.ae.map ao.name).contains b with
 |false=>
  have e0:=λq=>Bq (s:=s) (r:=r) (x:=x) (q:=q) g hb
  simp only[aK,j7] at e0;refine .inr ⟨116,?_,rfl⟩;generalize aE h=hd at *;unfold zj JD;simp only[↓ev,hR,cU,sY,e0,cf]
 |true=>exact .inl ⟨_,Q1 g o hb,o.start.up⟩
end
theorem e0i{b:Str}(hn:rM b):b.length<=8:=by
 refine y9d λz=>?_
 have e:=hn 0 ⟨[],[]⟩;have h2:((b.length:Int)<=8)=False:=eq_false (by lia)
 have h3:(1<=(b.length:Int))=True:=bJ (by lia)
 by_cases hl:b.length<=1000000
 .have h4:=bJ hl;have e2:pX 0 [.d (.str b)] ⟨[],[]⟩=some (.ok (rd (.bl false)) ⟨[],[]⟩):=by
   unfold pX CJ;simp only[↓ev,HR,aK,h4,h3,decide_true,h2,decide_false];rfl
  rw[e] at e2;cases e2
 .have h4:=eq_false hl;have e2:pX 0 [.d (.str b)] ⟨[],[]⟩=none:=by
   unfold pX CJ;simp only[↓ev,HR,aK,h4];rfl
  lia
noncomputable def HY(rows:List Row)(b:Str):Bool:=rows.any λw=>w.b == b&&w.i == 0
theorem YQ(b:Str)(rows:List Row):((gL rows).map (·.2)).any (λz=>aQ z (pl b 0))=HY rows b:=by
 unfold gL td HY;rw[fF,List.any_map]
 congr 1
 funext w;exact BN
theorem e0j(rows:List Row):((gL rows).map (·.2)).all (c7 40)=true:=by
 unfold gL td;rw[fF,Ft];exact pK.mpr λw _=>rfl
theorem Kc{α:Type}{k:α->Str}{v:α->D}{xs:List α}{x:α}(h:k x∉xs.map k):bT (td k v xs) (.inr (k x)) (v x)=td k v (xs++[x]):=by
 rw[Dh h];unfold td;rw[eK];rfl
section
variable{s:List Cell}{h:aA}{r:Int}{x:Hl}{n q:Nat}{f b bag:Str}{v v2:Bool}{fl:ak Str}
theorem e9a(g:ax h)(o:Ok h n x)(hn:n<1000)(hv:lQ bag v)(hf:∀f,fl=some f->lQ f v2)(h8:x.rows.length<8):Dn h r n x s (rC 0 [.d (.ref 0),.d (.str bag),.d (aL fl),.d (.str b)] (hS (aE h) r x s)):=by
 have i1:(aS (gL x.rows) (.inr bag)).isSome=_:=BL;have i2:(aS (zO x.gone) (.inr bag)).isSome=_:=BL;cases v with
 |false=>
  refine .inr ⟨44,?_,rfl⟩;generalize aE h=hd at *;generalize aL fl=ff at *;unfold rC tm;simp only[↓ev,hv,cf,hR]
 |true=>
 cases h1:(x.rows.map Row.bag).contains bag with
 |true=>
  rw[h1] at i1;refine .inr ⟨44,?_,rfl⟩;generalize aE h=hd at *;generalize aL fl=ff at *;unfold rC tm;simp only[↓ev,hv,aK,hR,ku,lj,aO,i1,cf]
 |false=>
 rw[h1] at i1;cases h2:(x.gone.map (·.1)).contains bag with
 |true=>
  rw[h2] at i2;refine .inr ⟨44,?_,rfl⟩;generalize aE h=hd at *;generalize aL fl=ff at *;unfold rC tm;simp only[↓ev,hv,aK,hR,ku,lj,aO,i1,uR,vD,i2,cf]
 |false=>
 rw[h2] at i2;have fz:(∃f,fl=some f/\(v2&&(x.book.map (·.1)).contains f)=false)\/(fl=none\/∃f,fl=some f/\(v2&&(x.book.map (·.1)).contains f)=true):=by
  cases fl with
  |none=>exact .inr (.inl rfl)
  |some f=>
   cases hc:(v2&&(x.book.map (·.1)).contains f) with
   |true=>exact .inr (.inr ⟨f,rfl,hc⟩)
   |false=>exact .inl ⟨f,rfl,hc⟩
 rcases fz with⟨f,rfl,hc⟩|fz
 .have e0:=λq=>zy (s:=s) (hd:=aE h) (r:=r) (x:=x) q (hf f rfl)
  simp only[hc,aK,j7] at e0;refine .inr ⟨104,?_,rfl⟩;generalize aE h=hd at *;unfold rC tm aL;simp only[↓ev,hv,aK,hR,ku,lj,aO,i1,uR,vD,i2,cU,sX,e0,cf]
 .have hfl:∀f,fl=some f->f∈x.book.map (·.1):=λf e=>by
   rcases fz with z|⟨f',z,hc⟩
   .rw[z] at e;cases e
   .rw[z] at e;cases e;rw[fX] at hc;exact uP hc.2
  cases hb:(h.ae.map ao.name).contains b with
  |false=>
   have e1:=λq=>Bq (s:=s) (r:=r) (x:=x) (q:=q) g hb
   simp only[aK,j7] at e1;refine .inr ⟨116,?_,rfl⟩;rcases fz with rfl|⟨f,rfl,hc⟩
   .generalize aE h=hd at *;unfold rC tm aL;simp only[↓ev,hv,aK,hR,ku,lj,aO,i1,uR,vD,i2,cU,sY,e1,cf]
   .have e0:=λq=>zy (s:=s) (hd:=aE h) (r:=r) (x:=x) q (hf f rfl)
    simp only[hc,pL] at e0;generalize aE h=hd at *;unfold rC tm aL;simp only[↓ev,hv,aK,hR,ku,lj,aO,i1,uR,vD,i2,cU,sX,e0,sY,e1,cf]
  |true=>
   have e1:=λq=>Bq (s:=s) (r:=r) (x:=x) (q:=q) g hb
   simp only[pL] at e1;have t1:gq (gL x.rows)=true:=zG;have va:=YQ b x.rows;have vo:=e0j x.rows;obtain⟨bt,HC,Su⟩:=fB.mp (uP hb);have lb:=e0i (g.nm bt HC);rw[Su] at lb;have l1:(b.length<=1000000)=True:=bJ (by lia)
   have l2:((Str.empty++("cell 0 of belt ":Str)).length<=1000000)=True:=bJ (by decide +kernel)
   have l3:((Str.empty++("cell 0 of belt ":Str)++b).length<=1000000)=True:=bJ (by
    rw[Str.length_append];have:(Str.empty++("cell 0 of belt ":Str)).length<=100:=by decide +kernel
    lia)
   have l4:((Str.empty++("cell 0 of belt ":Str)++b++(" has a bag":Str)).length<=1000000)=True:=bJ (by
    rw[Str.length_append,Str.length_append];have:(Str.empty++("cell 0 of belt ":Str)).length<=100:=by decide +kernel
    have:(" has a bag":Str).length<=100:=by decide +kernel
    lia)
   cases ho:HY x.rows b with
   |true=>
    rw[ho] at va;refine .inr ⟨128,?_,rfl⟩;rcases fz with rfl|⟨f,rfl,hc⟩
    .generalize aE h=hd at *;unfold rC tm aL;simp only[↓ev,hv,aK,hR,ku,lj,aO,i1,uR,vD,i2,cU,sY,e1,t1,vo,va,l2,l1,l3,l4,cf]
    .have e0:=λq=>zy (s:=s) (hd:=aE h) (r:=r) (x:=x) q (hf f rfl)
     simp only[hc,pL] at e0;generalize aE h=hd at *;unfold rC tm aL;simp only[↓ev,hv,aK,hR,ku,lj,aO,i1,uR,vD,i2,cU,sX,e0,sY,e1,t1,vo,va,l2,l1,l3,l4,cf]
   |false=>
    rw[ho] at va;have z6:=F9 h1;have p1:bT (gL x.rows) (.inr bag) (pl b 0)=gL (x.rows++[⟨bag,b,0,fl,0⟩]):=Kc (x:=(⟨bag,b,0,fl,0⟩:Row)) z6;have p2:bT (ib x.rows) (.inr bag) (aL fl)=ib (x.rows++[⟨bag,b,0,fl,0⟩]):=Kc (x:=(⟨bag,b,0,fl,0⟩:Row)) z6;have p3:bT (lA x.rows) (.inr bag) (.int 0)=lA (x.rows++[⟨bag,b,0,fl,0⟩]):=Kc (x:=(⟨bag,b,0,fl,0⟩:Row)) z6;have m1:((gL x.rows).length<1000000)=True:=bJ (by unfold gL;rw[oh];lia)
    have m2:((ib x.rows).length<1000000)=True:=bJ (by unfold ib;rw[oh];lia)
    have m3:((lA x.rows).length<1000000)=True:=bJ (by unfold lA;rw[oh];lia)
    have sz:=o.sz;have lo:=(g.lg bt HC).1;refine .inl ⟨{ x with rows:=x.rows++[⟨bag,b,0,fl,0⟩]},?_,λw m=>?_,?_,?_,o.bk,o.bn,?_,?_⟩
    .rcases fz with rfl|⟨f,rfl,hc⟩
     .generalize aE h=hd at *;unfold rC tm;unfold aL at p2 ⊢;simp only[↓ev,hS,hR,hv,aK,ku,lj,aO,i1,uR,vD,i2,cU,sY,e1,t1,vo,va,m1,p1,qr,rq,m2,p2,Bm,CH,m3,p3,cf]
     .have e0:=λq=>zy (s:=s) (hd:=aE h) (r:=r) (x:=x) q (hf f rfl)
      simp only[hc,pL] at e0;generalize aE h=hd at *;unfold rC tm;unfold aL at p2 ⊢;simp only[↓ev,hS,hR,hv,aK,ku,lj,aO,i1,uR,vD,i2,cU,sX,e0,sY,e1,t1,vo,va,m1,p1,qr,rq,m2,p2,Bm,CH,m3,p3,cf]
    .rcases dN.mp m with m|m
     .exact o.rw w m
     .rw[lB.mp m];exact⟨⟨bt,HC,Su,A5 _,by show(0:Int)<_;lia,A5 _⟩,hv,hfl⟩
    .dsimp only;rw[eK,nK];have o1:=nR.mp o.nd
     grind
    .dsimp only;rw[eK];refine nR.mpr ⟨o.un,by simp,λa ma c mc e=>?_⟩
     grind [HY]
    .dsimp only;rw[dy,vm];lia
    .dsimp only;rw[dy,vm];lia
end
variable{hd:D}
noncomputable def fS(p:Row->Bool)(y:ak Str)(z:Row):Row:=if p z=true then{ z with fl:=y} else z
section
variable{s:List Cell}{h:aA}{r:Int}{x:Hl}{n q:Nat}{f bag:Str}{v v2:Bool}{p:Row->Bool}{y:ak Str}{rows:List Row}
theorem Q2:(rows.map (fS p y)).map Row.bag=rows.map Row.bag:=by
 rw[fF];refine pB λz _=>?_
 dsimp only[Function.comp];unfold fS;split <;> rfl
theorem R1:gL (rows.map (fS p y))=gL rows:=by
 unfold gL td;rw[fF];refine pB λz _=>?_
 dsimp only[Function.comp];unfold fS;split <;> rfl
theorem R3:lA (rows.map (fS p y))=lA rows:=by
 unfold lA td;rw[fF];refine pB λz _=>?_
 dsimp only[Function.comp];unfold fS;split <;> rfl
theorem Ok.read(o:Ok h n x){bk:List (Str×Str×Int)}(hb:∀q∈bk,q∈x.book)(hbn:(bk.map (·.1)).Nodup)(hl:bk.length<=x.book.length)(hf:∀w∈x.rows,∀f,(fS p y w).fl=some f->f∈bk.map (·.1)):Ok h (n+1) { x with book:=bk,rows:=x.rows.map (fS p y)}:=by
 have sz:=o.sz;refine⟨λw m=>?_,?_,?_,λq m=>o.bk q (hb q m),hbn,?_,?_⟩
 .obtain⟨z,mz,rfl⟩:=fB.mp m;obtain⟨k1,k2,k3⟩:=o.rw z mz;refine⟨?_,?_,hf z mz⟩
  .unfold fS;split
   .exact k1
   .exact k1
  .unfold fS;split
   .exact k2
   .exact k2
 .dsimp only;rw[Q2];exact o.nd
 .dsimp only;have:(x.rows.map (fS p y)).map (λw=>(w.b,w.i))=x.rows.map λw=>(w.b,w.i):=by
   rw[fF];refine pB λz _=>?_
   dsimp only[Function.comp];unfold fS;split <;> rfl
  rw[this];exact o.un
 .dsimp only;rw[bw];exact o.rl
 grind
theorem YR(q:Nat)(hv:lQ bag v):y_ q [.d (.ref 0),.d (.str bag)] (hS hd r x s)=some (if(v&&(x.rows.map Row.bag).contains bag)=true then .ok (rd .aI) (hS hd r x s) else .ex 140 none (hS hd r x s)):=by
 have i:(aS (gL x.rows) (.inr bag)).isSome=_:=BL;unfold y_ IS;cases v with
 |false=>simp only[↓ev,hv,cf,hR,aK]
 |true=>
  cases hc:(x.rows.map Row.bag).contains bag with
  |true=>rw[hc] at i;simp only[↓ev,hv,aK,hR,ku,lj,aO,i,lC,cf]
  |false=>rw[hc] at i;simp only[↓ev,hv,aK,hR,ku,lj,aO,i,mQ,cf]
theorem e7d(g:ax h)(o:Ok h n x)(hn:n<1000)(hv:lQ bag v)(qM:lQ f v2):Dn h r n x s (Gr 0 [.d (.ref 0),.d (.str bag),.d (.str f)] (hS (aE h) r x s)):=by
 have e0:=λq=>YR (s:=s) (hd:=aE h) (r:=r) (x:=x) q hv
 have e1:=λq=>zy (s:=s) (hd:=aE h) (r:=r) (x:=x) q qM
 unfold Dn;generalize aE h=hd at *;unfold Gr Pw;cases hc:(v&&(x.rows.map Row.bag).contains bag) with
 |false=>
  simp only[hc,aK,j7] at e0;refine .inr ⟨140,?_,rfl⟩;simp only[↓ev,hR,cU,Bd,e0,cf]
 |true=>
  simp only[hc,pL] at e0;cases tZ:(v2&&(x.book.map (·.1)).contains f) with
  |false=>
   simp only[tZ,aK,j7] at e1;refine .inr ⟨104,?_,rfl⟩;simp only[↓ev,hR,cU,Bd,e0,sX,e1,cf]
  |true=>
   simp only[tZ,pL] at e1;rw[fX] at hc tZ;have hm:=uP hc.2;have p1:bT (ib x.rows) (.inr bag) (.str f)=ib (x.rows.map (fS (λz=>z.bag == bag) (some f))):=by
    unfold ib;rw[Di o.nb hm];unfold td;rw[fF];refine pB λz _=>?_
    dsimp only[Function.comp];unfold fS;by_cases e:z.bag=bag
    .rw[bI e,bI (beq_iff_eq.mpr e)];rfl
    .rw[ba e,ba (by rw[beq_iff_eq];exact e)]
   have p2:=R1 (p:=λz=>z.bag == bag) (y:=some f) (rows:=x.rows)
   have p3:=R3 (p:=λz=>z.bag == bag) (y:=some f) (rows:=x.rows)
   have rl:=o.rl;have m2:((ib x.rows).length<1000000)=True:=bJ (by unfold ib;rw[oh];lia)
   refine .inl ⟨_,?_,o.read (p:=λz=>z.bag == bag) (y:=some f) (λ_ m=>m) o.bn (bP _) λw mw f' e=>?_⟩
   .simp only[↓ev,hS,hR,cU,Bd,e0,sX,e1,qr,rq,aO,m2,p1,cf,p2,p3]
   .unfold fS at e;split at e
    .cases e;exact uP tZ.2
    .exact(o.rw w mw).2.2 f' e
theorem e7e{rs:List Row}{w:Row}(nb:(rs.map Row.bag).Nodup)(hw:w∈rs)(hl:rs.length<1000){x:Hl}{a2:ak Val}:Cv 0 [some (.d (.ref 0)),some (.d (.str f)),some (.d (.str w.bag))] (hS hd r { x with rows:=rs} s)=some (.nx [some (.d (.ref 0)),some (.d (.str f)),some (.d (.str w.bag))] (hS hd r { x with rows:=rs.map (fS (λz=>z.bag == w.bag&&z.fl == some f) none)} s)):=by
 have v0:aS (ib rs) (.inr w.bag)=some (aL w.fl):=lK nb hw;have p2:=R1 (p:=λz=>z.bag == w.bag&&z.fl == some f) (y:=none) (rows:=rs)
 have p3:=R3 (p:=λz=>z.bag == w.bag&&z.fl == some f) (y:=none) (rows:=rs)
 have m2:((ib rs).length<1000000)=True:=bJ (by unfold ib;rw[oh];lia)
 have same:w.fl≠some f->rs.map (fS (λz=>z.bag == w.bag&&z.fl == some f) none)=rs:=λne=>by
  conv=>rhs;rw[<-List.map_id rs]
  refine pB λz mz=>?_
  unfold fS;rw[ba λe=>?_]
  .rfl
  .rw[fX,beq_iff_eq,beq_iff_eq] at e;rw[pD nb mz hw e.1] at e;exact ne e.2
 unfold Cv;cases hf:w.fl with
 |none=>
  rw[hf] at v0;rw[same (by rw[hf];intro z;cases z)]
  unfold aL at v0;have en:aQ .aI (.str f)=false:=rfl;simp only[↓ev,hR,qr,rq,aO,v0,aK,en]
 |some f'=>
  rw[hf] at v0;unfold aL at v0;cases he:(f' == f) with
  |false=>
   rw[same (by rw[hf];intro z;cases z;rw[fY] at he;cases he)]
   simp only[↓ev,hR,qr,rq,aO,v0,aK,hZ,he]
  |true=>
   have p1:bT (ib rs) (.inr w.bag) .aI=ib (rs.map (fS (λz=>z.bag == w.bag&&z.fl == some f) none)):=by
    unfold ib;rw[Di nb (mP hw)];unfold td;rw[fF];refine pB λz mz=>?_
    dsimp only[Function.comp];unfold fS;by_cases e:z.bag=w.bag
    .have ez:=pD nb mz hw e;rw[bI e,bI (by rw[ez];dsimp only;rw[hf,fY,beq_iff_eq.mp he];simp)]
     rfl
    .rw[ba e,ba (by rw[fX,beq_iff_eq];exact λz=>e z.1)]
   simp only[↓ev,hS,hR,qr,rq,aO,v0,aK,hZ,he,m2,p1,p2,p3]
theorem Y2{z:Row}:(fS p y z).bag=z.bag:=by unfold fS;split <;> rfl
theorem Y3(d:List Row)(w z:Row):fS (λz=>z.bag == w.bag&&z.fl == some f) none (fS (λz=>(d.map Row.bag).contains z.bag&&z.fl == some f) none z)=fS (λz=>((d++[w]).map Row.bag).contains z.bag&&z.fl == some f) none z:=by
 unfold fS;dsimp only;rw[eK];by_cases h2:z.fl=some f
 .by_cases h1:z.bag∈d.map Row.bag
  .simp[h1,h2]
  .by_cases h3:z.bag=w.bag
   .rw[h3] at h1;simp[h1,h2,h3]
   .simp[h1,h2,h3]
 .simp[h2]
theorem e0k(nb:(x.rows.map Row.bag).Nodup)(hl:x.rows.length<1000):∃a2,aH (af 2) (Cv 0) (dS (x.rows.map Row.bag)) [some (.d (.ref 0)),some (.d (.str f)),none] (hS hd r x s)=some (.nx [some (.d (.ref 0)),some (.d (.str f)),a2] (hS hd r { x with rows:=x.rows.map (fS (λz=>z.fl == some f) none)} s)):=by
 rw[show dS (x.rows.map Row.bag)=x.rows.map λw=>.str w.bag by unfold dS;rw[fF];rfl]
 obtain⟨U',S',e,⟨a2,rfl⟩,rfl⟩:=lq (gg:=af 2) (body:=Cv 0) (f:=λw:Row=>.str w.bag) (U:=[some (.d (.ref 0)),some (.d (.str f)),none]) (S:=hS hd r x s) (λpre U S'=>(∃a2,U=[some (.d (.ref 0)),some (.d (.str f)),a2])/\S'=hS hd r { x with rows:=x.rows.map (fS (λz=>(pre.map Row.bag).contains z.bag&&z.fl == some f) none)} s) x.rows ⟨⟨_,rfl⟩,by
   have:x.rows.map (fS (λz=>(([]:List Row).map Row.bag).contains z.bag&&z.fl == some f) none)=x.rows:=by
    conv=>rhs;rw[<-List.map_id x.rows]
    rfl
   rw[this]⟩ (by
  rintro d w post eq U S' ⟨⟨a2,rfl⟩,rfl⟩;have hw:w∈x.rows:=by rw[eq];simp
  have e:=e7e (hd:=hd) (r:=r) (s:=s) (x:=x) (f:=f) (a2:=none) (rs:=x.rows.map (fS (λz=>(d.map Row.bag).contains z.bag&&z.fl == some f) none)) (w:=fS (λz=>(d.map Row.bag).contains z.bag&&z.fl == some f) none w) (by rw[Q2];exact nb) (mP hw) (by rw[bw];exact hl)
  rw[Y2] at e;refine⟨_,_,_,rfl,.inl e,⟨_,rfl⟩,?_⟩;rw[fF]
  congr 3
  funext z;exact Y3 d w z)
 have:x.rows.map (fS (λz=>(x.rows.map Row.bag).contains z.bag&&z.fl == some f) none)=x.rows.map (fS (λz=>z.fl == some f) none):=pB λz mz=>by
  have hc:(x.rows.map Row.bag).contains z.bag=true:=j6.mpr (mP mz);unfold fS;simp only[hc,Bool.true_and]
 rw[this] at e;exact⟨a2,e⟩
theorem e9b(g:ax h)(o:Ok h n x)(hv:lQ f v):Dn h r n x s (FX 0 [.d (.ref 0),.d (.str f)] (hS (aE h) r x s)):=by
 have e0:=λq=>zy (s:=s) (hd:=aE h) (r:=r) (x:=x) q hv
 unfold Dn;generalize aE h=hd at *;unfold FX NV;cases hc:(v&&(x.book.map (·.1)).contains f) with
 |false=>
  simp only[hc,aK,j7] at e0;refine .inr ⟨104,?_,rfl⟩;simp only[↓ev,hR,cU,sX,e0,cf]
 |true=>
  simp only[hc,pL] at e0;rw[fX] at hc;obtain⟨p,hp,ep⟩:=fB.mp (uP hc.2);have v0:aS (lZ x.book) (.inr f)=some (t3 p):=by rw[<-ep];exact lK o.bn hp
  have d1:dr (lZ x.book) f=lZ (x.book.filter λz=>decide (z.1≠f)):=C7
  have t1:gq (lZ x.book)=true:=zG;have k1:(ib x.rows).map (·.1.d)=dS (x.rows.map Row.bag):=QM
  have rl:=o.rl;have l1:((ib x.rows).length<1000000)=True:=bJ (by unfold ib;rw[oh];lia)
  have l2:((ib x.rows).length<=1000000)=True:=bJ (by unfold ib;rw[oh];lia)
  obtain⟨a2,e1⟩:=e0k (hd:=hd) (r:=r) (s:=s) (f:=f) (x:={ x with book:=x.book.filter λz=>decide (z.1≠f)}) o.nb (by dsimp only;lia)
  generalize t3 p=tp at *;refine .inl ⟨_,?_,o.read (p:=λz=>z.fl == some f) (y:=none) (bk:=x.book.filter λz=>decide (z.1≠f)) (λq m=>(yJ.mp m).1) (o.bn.sublist (List.Sublist.map _ Im)) (yN _ _) λw mw f' e=>?_⟩
  .dsimp only at e1;simp only[↓ev,hS,hR,cU,sX,e0,rZ,tq,aO,t1,v0,d1,qr,rq,k1,i6,e1,cf]
  .unfold fS at e;split at e
   .cases e
   .rename_i ne
    obtain⟨q,hq,eq⟩:=fB.mp ((o.rw w mw).2.2 f' e)
    grind
end
inductive ik:D->Prop
 |m_ {f ct:Str} {cl:Int} {v:Bool}:lQ f v->ik (.tup [.str "flight",.str f,.str ct,.int cl])
 |change {f:Str} {cl:Int} {v:Bool}:lQ f v->ik (.tup [.str "change",.str f,.int cl])
 |off {f:Str} {v:Bool}:lQ f v->ik (.tup [.str "off",.str f])
 |put {bag b:Str} {fl:ak Str} {v v2:Bool}:lQ bag v->(∀f,fl=some f->lQ f v2)->ik (.tup [.str "put",.str bag,aL fl,.str b])
 |read {bag f:Str} {v v2:Bool}:lQ bag v->lQ f v2->ik (.tup [.str "read",.str bag,.str f])
 |stop {b:Str}:ik (.tup [.str "stop",.str b])
 |start {b:Str}:ik (.tup [.str "start",.str b])
section
variable{s:List Cell}{h:aA}{r:Int}{x:Hl}{n q:Nat}{d:D}
theorem Tn:(("change":Str) == "flight")=false:=by decide +kernel
theorem To:(("off":Str) == "flight")=false:=by decide +kernel
theorem Tp:(("off":Str) == "change")=false:=by decide +kernel
theorem MC:(("put":Str) == "flight")=false:=by decide +kernel
theorem MD:(("put":Str) == "change")=false:=by decide +kernel
theorem ME:(("put":Str) == "off")=false:=by decide +kernel
theorem Tq:(("read":Str) == "flight")=false:=by decide +kernel
theorem Tr:(("read":Str) == "change")=false:=by decide +kernel
theorem Ts:(("read":Str) == "off")=false:=by decide +kernel
theorem EN:(("read":Str) == "put")=false:=by decide +kernel
theorem EO:(("stop":Str) == "flight")=false:=by decide +kernel
theorem ER:(("stop":Str) == "change")=false:=by decide +kernel
theorem ES:(("stop":Str) == "off")=false:=by decide +kernel
theorem ET:(("stop":Str) == "put")=false:=by decide +kernel
theorem EU:(("stop":Str) == "read")=false:=by decide +kernel
theorem EV:(("start":Str) == "flight")=false:=by decide +kernel
theorem EX:(("start":Str) == "change")=false:=by decide +kernel
theorem EY:(("start":Str) == "off")=false:=by decide +kernel
theorem EZ:(("start":Str) == "put")=false:=by decide +kernel
theorem E0:(("start":Str) == "read")=false:=by decide +kernel
theorem E1:(("start":Str) == "stop")=false:=by decide +kernel
theorem e7f(g:ax h)(o:Ok h n x)(hn:n<1000)(qJ:ik d):Dn h r n x s (tf 0 [.d (.ref 0),.d d] (hS (aE h) r x s)):=by
 cases qJ with
 |@m_ f ct cl v hv=>
  have e:=YM (s:=s) (r:=r) (ct:=ct) (cl:=cl) g o hn hv;unfold Dn at *;generalize aE h=hd at *;unfold tf vE;rcases e with⟨x',e,ok⟩|⟨C,e,hC⟩
  .refine .inl ⟨x',?_,ok⟩;simp only[↓ev,cx,aK,hZ,fY,hR,cU,O0,cV,jg,vN,e,cf]
  .refine .inr ⟨C,?_,hC⟩;simp only[↓ev,cx,aK,hZ,fY,hR,cU,O0,cV,jg,vN,e,cf]
 |@change f cl v hv=>
  have e:=YN (s:=s) (r:=r) (cl:=cl) g o hn hv;unfold Dn at *;generalize aE h=hd at *;unfold tf vE;rcases e with⟨x',e,ok⟩|⟨C,e,hC⟩
  .refine .inl ⟨x',?_,ok⟩;simp only[↓ev,cx,aK,hZ,Tn,fY,hR,cU,O1,cV,jg,e,cf]
  .refine .inr ⟨C,?_,hC⟩;simp only[↓ev,cx,aK,hZ,Tn,fY,hR,cU,O1,cV,jg,e,cf]
 |@off f v hv=>
  have e:=e9b (s:=s) (r:=r) g o hv;unfold Dn at *;generalize aE h=hd at *;unfold tf vE;rcases e with⟨x',e,ok⟩|⟨C,e,hC⟩
  .refine .inl ⟨x',?_,ok⟩;simp only[↓ev,cx,aK,hZ,To,Tp,fY,hR,cU,N8,cV,e,cf]
  .refine .inr ⟨C,?_,hC⟩;simp only[↓ev,cx,aK,hZ,To,Tp,fY,hR,cU,N8,cV,e,cf]
 |@put bag b fl v v2 hv hf=>
  have eb:=λq=>uT (s:=s) (r:=r) (q:=q) g o
  have ll:(((ord h x.rows).map aT).length:Int)=(x.rows.length:Int):=by rw[bw,o.perm.length_eq]
  by_cases h8:x.rows.length<8
  .have e:=e9a (s:=s) (r:=r) (b:=b) (fl:=fl) g o hn hv hf h8;have l8:((x.rows.length:Int)<8)=True:=bJ (by lia)
   unfold Dn at *;generalize(ord h x.rows).map aT=rl at *;generalize aE h=hd at *;generalize aL fl=ff at *;unfold tf vE;rcases e with⟨x',e,ok⟩|⟨C,e,hC⟩
   .refine .inl ⟨x',?_,ok⟩;simp only[↓ev,cx,aK,hZ,MC,MD,ME,fY,hR,cU,uS,eb,ll,l8,decide_true,RX,cV,jg,vN,e,cf]
   .refine .inr ⟨C,?_,hC⟩;simp only[↓ev,cx,aK,hZ,MC,MD,ME,fY,hR,cU,uS,eb,ll,l8,decide_true,RX,cV,jg,vN,e,cf]
  .have l8:((x.rows.length:Int)<8)=False:=eq_false (by lia)
   refine .inl ⟨x,?_,o.up⟩;generalize(ord h x.rows).map aT=rl at *;generalize aE h=hd at *;generalize aL fl=ff at *;unfold tf vE;simp only[↓ev,cx,aK,hZ,MC,MD,ME,fY,hR,cU,uS,eb,ll,l8,decide_false,cf]
 |@read bag f v v2 hv qM=>
  have e:=e7d (s:=s) (r:=r) g o hn hv qM;unfold Dn at *;generalize aE h=hd at *;unfold tf vE;rcases e with⟨x',e,ok⟩|⟨C,e,hC⟩
  .refine .inl ⟨x',?_,ok⟩;simp only[↓ev,cx,aK,hZ,Tq,Tr,Ts,EN,fY,hR,cU,QO,cV,jg,e,cf]
  .refine .inr ⟨C,?_,hC⟩;simp only[↓ev,cx,aK,hZ,Tq,Tr,Ts,EN,fY,hR,cU,QO,cV,jg,e,cf]
 |@stop b=>
  have e:=e7c (s:=s) (r:=r) (b:=b) g o hn;unfold Dn at *;generalize aE h=hd at *;unfold tf vE;rcases e with⟨x',e,ok⟩|⟨C,e,hC⟩
  .refine .inl ⟨x',?_,ok⟩;simp only[↓ev,cx,aK,hZ,EO,ER,ES,ET,EU,fY,hR,cU,QP,cV,e,cf]
  .refine .inr ⟨C,?_,hC⟩;simp only[↓ev,cx,aK,hZ,EO,ER,ES,ET,EU,fY,hR,cU,QP,cV,e,cf]
 |@start b=>
  have e:=YO (s:=s) (r:=r) (b:=b) g o;unfold Dn at *;generalize aE h=hd at *;unfold tf vE;rcases e with⟨x',e,ok⟩|⟨C,e,hC⟩
  .refine .inl ⟨x',?_,ok⟩;simp only[↓ev,cx,aK,hZ,EV,EX,EY,EZ,E0,E1,fY,hR,cU,JU,cV,e,cf]
  .refine .inr ⟨C,?_,hC⟩;simp only[↓ev,cx,aK,hZ,EV,EX,EY,EZ,E0,E1,fY,hR,cU,JU,cV,e,cf]
theorem e7g(g:ax h)(o:Ok h n x)(hn:n<1000)(qJ:ik d):∃(v:Bool) (x':Hl),Ok h (n+1) x'/\CU 0 [.d (.ref 0),.d d] (hS (aE h) r x s)=some (.ok (rd (.bl v)) (hS (aE h) r x' s)):=by
 have e:=e7f (s:=s) (r:=r) g o hn qJ;unfold Dn at e;rcases e with⟨x',e,ok⟩|⟨C,e,hC⟩
 .refine⟨true,x',ok,?_⟩;generalize aE h=hd at *;unfold CU JS;simp only[↓ev,aO,e,cf]
 .have hC':(jh.any λp=>p.2 == C)=true:=by
   unfold wT at hC;split at hC
   .assumption
   .cases hC
  refine⟨false,x,o.up,?_⟩;generalize aE h=hd at *;unfold CU JS;simp only[↓ev,aO,e,hC',cf]
end
theorem G2(l:List Nat)(h1:1<=l.length)(h2:l.length<=8):∃v,lQ ⟨l.toArray⟩ v:=by
 have e:∀q S,bB (af 0) (iR true) (F0 q) (l.map λc=>.str (jV c)) [none] S []=some (.ok ((l.map λc => !(Builtin.Str.occurrences (Str.ofString "abcdefghijklmnopqrstuvwxyz") (jV c) 0 (Str.ofString "abcdefghijklmnopqrstuvwxyz").length 1).isEmpty).map D.bl) S):=λq S=>by
  rw[uX (λc=>D.bl (!(Builtin.Str.occurrences (Str.ofString "abcdefghijklmnopqrstuvwxyz") (jV c) 0 (Str.ofString "abcdefghijklmnopqrstuvwxyz").length 1).isEmpty)) l (by lia) λc m=>⟨rd (.bl _),by
   rfl,rfl⟩,fF]
  rfl
 have c1:(1<=((⟨l.toArray⟩:Str).length:Int))=True:=bJ (by rw[vJ];lia)
 have c2:(((⟨l.toArray⟩:Str).length:Int)<=8)=True:=bJ (by rw[vJ];lia)
 have c3:((⟨l.toArray⟩:Str).length<=1000000)=True:=bJ (by rw[vJ];lia)
 refine⟨(l.map λc => !(Builtin.Str.occurrences (Str.ofString "abcdefghijklmnopqrstuvwxyz") (jV c) 0 (Str.ofString "abcdefghijklmnopqrstuvwxyz").length 1).isEmpty).all id,λq S=>?_⟩
 generalize(l.map λc => !(Builtin.Str.occurrences (Str.ofString "abcdefghijklmnopqrstuvwxyz") (jV c) 0 (Str.ofString "abcdefghijklmnopqrstuvwxyz").length 1).isEmpty)=bs at *
 unfold pX CJ;simp only[↓ev,HR,aK,c3,c1,decide_true,c2,e,JF,fW]
noncomputable abbrev l3:List D:=[.int 11,.int 12,.int 13]
theorem Sm:∀a:Nat,a<3->dQ l3 (a:Int)=some (.int ((11+a:Nat):Int))
 |0,_=>rfl
 |1,_=>rfl
 |2,_=>rfl
section
variable{ns:List Int}
theorem e0l(n:Nat)(hn:n<20):∃f v,Pr Bc [.d (aZ ns),.d (.int (n:Int))] (rd (.str f))/\lQ f v:=by
 obtain⟨d1,d2,d3⟩:=g7 ns 12 4 3 (by decide) (by decide) (by decide)
 have d1:Pr ic [.d (aZ ns),.d (.int 12),.d (.int 4),.d (.int 3)] _:=d1;cases h6:((n:Int) == 6) with
 |true=>
  obtain⟨v,hv⟩:=G2 [65] (by decide) (by decide)
  refine⟨"A",v,λq S=>?_,by rw[show("A":Str)=⟨[65].toArray⟩ by decide +kernel];exact hv⟩
  generalize(n:Int)=ni at *;unfold Bc IT;simp only[↓ev,aK,eS,h6,fW]
 |false=>
  have ha:=Sm (bu ns 12 4 3).toNat (by lia)
  rw[Int.toNat_of_nonneg d2] at ha;have hx:=Hf ns (11+(bu ns 12 4 3).toNat) (by lia) n hn
  have hl:=BK ns (11+(bu ns 12 4 3).toNat) (by lia) n
  obtain⟨v,hv⟩:=G2 _ hl.1 hl.2;refine⟨_,v,λq S=>?_,hv⟩
  generalize((11+(bu ns 12 4 3).toNat:Nat):Int)=qi at *;generalize bu ns 12 4 3=dg at *;generalize(n:Int)=ni at *;unfold Bc IT;unfold jL at hx;simp only[↓ev,aK,eS,h6,aO,d1,ha,hx,fW]
theorem e0m(n:Nat)(hn:n<20):∃f v,Pr Bg [.d (aZ ns),.d (.int (n:Int))] (rd (.str f))/\lQ f v:=by
 obtain⟨d1,d2,d3⟩:=g7 ns 13 4 3 (by decide) (by decide) (by decide)
 have d1:Pr ic [.d (aZ ns),.d (.int 13),.d (.int 4),.d (.int 3)] _:=d1;cases h6:((n:Int) == 12) with
 |true=>
  obtain⟨v,hv⟩:=G2 [98,49] (by decide) (by decide)
  refine⟨"b1",v,λq S=>?_,by rw[show("b1":Str)=⟨[98,49].toArray⟩ by decide +kernel];exact hv⟩
  generalize(n:Int)=ni at *;unfold Bg Jd;simp only[↓ev,aK,eS,h6,fW]
 |false=>
  have ha:=Sm (bu ns 13 4 3).toNat (by lia)
  rw[Int.toNat_of_nonneg d2] at ha;have hx:=Hf ns (11+(bu ns 13 4 3).toNat) (by lia) n hn
  have hl:=BK ns (11+(bu ns 13 4 3).toNat) (by lia) n
  obtain⟨v,hv⟩:=G2 _ hl.1 hl.2;refine⟨_,v,λq S=>?_,hv⟩
  generalize((11+(bu ns 13 4 3).toNat:Nat):Int)=qi at *;generalize bu ns 13 4 3=dg at *;generalize(n:Int)=ni at *;unfold Bg Jd;unfold jL at hx;simp only[↓ev,aK,eS,h6,aO,d1,ha,hx,fW]
theorem Vq(k:Nat)(hk:k<900):∃cl,Pr xr [.d (aZ ns),.d (.int (k:Int))] (rd (.int cl)):=by
 have hp:=zF ns (k+1) 10 (by lia) (by decide)
 obtain⟨c,hc⟩:=Ko ns k;obtain⟨d1,_,_⟩:=g7 ns (k+1) 3 30 (by lia) (by decide) (by decide)
 rw[show((k+1:Nat):Int)=(k:Int)+1 by lia] at hp d1
 have d1:Pr ic [.d (aZ ns),.d (.int ((k:Int)+1)),.d (.int 3),.d (.int 30)] _:=d1;generalize(k:Int)=ki at *;generalize bu ns (k+1) 0 10=pv at *;have p8:(0<(10:Int)^8)=True:=bJ (by decide)
 have p9:(0<(10:Int)^9)=True:=bJ (by decide)
 have Tf:(Int.natAbs 10<2^64)=True:=bJ (by decide)
 cases h0:(pv == 0) with
 |true=>
  refine⟨-1 - c%10^8,λq S=>?_⟩
  unfold xr F1;simp only[↓ev,hp,aO,aK,eS,h0,hc,Tf,and_self,decide_true,p8,fW]
 |false=>
  cases h1:(pv == 1) with
  |true=>
   refine⟨c%10^9,λq S=>?_⟩
   unfold xr F1;simp only[↓ev,hp,aO,aK,eS,h0,h1,hc,Tf,and_self,decide_true,p9,fW]
  |false=>
   refine⟨bu ns (k+1) 3 30,λq S=>?_⟩
   unfold xr F1;simp only[↓ev,hp,aO,aK,eS,h0,h1,d1,fW]
end
section
variable{ns:List Int}{k kd mk fi ob tb oc ln BY cl:Int}{bl nl cs c1 n1:List D}{f bag b ct:Str}{S:aN}
structure IA (ns:List Int) (k kd mk fi ob tb oc ln BY cl:Int) (bl nl cs c1 n1:List D) (f bag b ct:Str):Prop where
 hp:Pr lJ [.d (aZ ns),.d (.int k),.d (.int 20)] (rd (.int kd))
 ht:Pr n9 [.d (aZ ns),.d (.int k),.d (.int 10)] (rd (.int mk))
 hi:(mk == 9)=true/\fi=6\/(mk == 9)=false/\fi=mk%3
 hf:Pr Bc [.d (aZ ns),.d (.int fi)] (rd (.str f))
 ho:Pr j9 [.d (aZ ns),.d (.int k),.d (.int 13)] (rd (.int ob))
 hb:Pr Bg [.d (aZ ns),.d (.int ob)] (rd (.str bag))
 hc:∀q S,bB (af 0) (iR true) (F5 q) bl [none] S []=some (.ok nl S)
 k1:cutD cs none (some 1)=c1
 k2:cutD nl none (some 1)=n1
 a1:(nl.length+nl.length<=1000000)=True
 a2:(nl.length+nl.length+c1.length<=1000000)=True
 a3:(cs.length+n1.length<=1000000)=True
 ll:(nl.length:Int)=ln
 lc:((cs.length+n1.length:Nat):Int)=BY
 hm:(-2^64<(2:Int)/\(2:Int)<2^64 \/ -2^64<ln/\ln<2^64)=True
 BR:Pr n9 [.d (aZ ns),.d (.int (k+1)),.d (.int (2*ln+1))] (rd (.int tb))
 vZ:dQ (nl++(nl++c1)) tb=some (.str b)
 v8:Pr j9 [.d (aZ ns),.d (.int (k+1)),.d (.int BY)] (rd (.int oc))
 BQ:dQ (cs++n1) oc=some (.str ct)
 vc:Pr xr [.d (aZ ns),.d (.int k)] (rd (.int cl))
abbrev uZ(ns:List Int)(k kd mk cl:Int)(bl nl cs n1:List D)(f bag b ct:Str):Gm:=[some (.d (aZ ns)),some (.d (.int k)),some (.d (.tup [.lst bl,.lst cs])),some (.d (.int kd)),some (.d (.int mk)),some (.d (.str f)),some (.d (.str bag)),some (.d (.lst nl)),some (.d (.str b)),some (.d (.lst (cs++n1))),some (.d (.tup [.str "flight",.str f,.str ct,.int cl]))]
theorem uU(x:IA ns k kd mk fi ob tb oc ln BY cl bl nl cs c1 n1 f bag b ct)(rest:GS):JE rest 0 [some (.d (aZ ns)),some (.d (.int k)),some (.d (.tup [.lst bl,.lst cs])),none,none,none,none,none,none,none,none] S=rest (uZ ns k kd mk cl bl nl cs n1 f bag b ct) S:=by
 obtain⟨hp,ht,hi,hf,ho,hb,hc,k1,k2,a1,a2,a3,ll,lc,hm,BR,vZ,v8,BQ,vc⟩:=x;have m3:((0:Int)<3)=True:=bJ (by decide)
 unfold JE;rcases hi with⟨h9,rfl⟩|⟨h9,rfl⟩
 .simp only[↓ev,hp,aO,ht,aK,eS,h9,hf,ho,hb,cx,i6,hc,a1,cV,k1,Ej,a2,zz,ll,hm,BR,vZ,k2,a3,lc,v8,BQ,vc]
 .simp only[↓ev,hp,aO,ht,aK,eS,h9,m3,decide_true,hf,ho,hb,cx,i6,hc,a1,cV,k1,Ej,a2,zz,ll,hm,BR,vZ,k2,a3,lc,v8,BQ,vc]
end
noncomputable def lh(m:Int):D:=.tup [.str "turn",.int m]
def yU(ds:List D):Prop:=ds.length<=2/\∀d∈ds,ik d\/∃m:Int,1<=m/\m<=12/\d=lh m
section
variable{ns:List Int}{k kd mk fi ob tb oc ln BY cl:Int}{bl nl cs c1 n1:List D}{f bag b ct:Str}{S:aN}{v v2:Bool}
theorem uV{hd:D}{ds:List D}(e:rA 0 [some (.d (aZ ns)),some (.d (.int k)),some (.d hd),none,none,none,none,none,none,none,none] S=some (.rt (.o (.lst ds)) S)):Bp 0 [.d (aZ ns),.d (.int k),.d hd] S=some (.ok (.o (.lst ds)) S):=by
 unfold Bp aR;generalize rA 0=ml at *;simp only[↓ev,e,fW]
theorem P_(x:IA ns k kd mk fi ob tb oc ln BY cl bl nl cs c1 n1 f bag b ct)(k0:0<=kd)(k20:kd<20)(hv:lQ bag v)(qM:lQ f v2){o3 t1 bg:Int}{bt:ao}(h3:Pr j9 [.d (aZ ns),.d (.int (k+1)),.d (.int 3)] (rd (.int o3)))(x6:dQ bl 0=some (aq bt))(hbg:(9<bt.long)=True/\bg=12\/(9<bt.long)=False/\bg=4)(DJ:Pr n9 [.d (aZ ns),.d (.int (k+1)),.d (.int bg)] (rd (.int t1)))(ht1:0<=t1/\t1<12):∃ds,yU ds/\Bp 0 [.d (aZ ns),.d (.int k),.d (.tup [.lst bl,.lst cs])] S=some (.ok (.o (.lst ds)) S):=by
 have vc:=x.vc;have one:∀{d:D},ik d->yU [d]:=λ{d} hd=>⟨by simp,λz m=>by rw[lB.mp m];exact .inl hd⟩
 by_cases c3:kd<3
 .have q1:=bJ c3;refine⟨_,one (.m_ (ct:=ct) (cl:=cl) qM),uV ?_⟩;unfold rA;rw[uU x];unfold s9;clear x;simp only[↓ev,uZ,q1,decide_true,aO,aK]
 have q1:=eq_false c3;cases e3:(kd == 3) with
 |true=>
  refine⟨_,one (.change (cl:=cl) qM),uV ?_⟩;unfold rA;rw[uU x];unfold s9;clear x;simp only[↓ev,uZ,q1,decide_false,aK,eS,e3,vc,aO]
 |false=>
 cases e4:(kd == 4) with
 |true=>
  refine⟨_,one (.off qM),uV ?_⟩;unfold rA;rw[uU x];unfold s9;clear x;simp only[↓ev,uZ,q1,decide_false,aK,eS,e3,e4,aO]
 |false=>
 cases e5:(kd == 5) with
 |true=>
  refine⟨[.tup [.str "off",.str f],.tup [.str "flight",.str f,.str ct,.int cl]],⟨by simp,λz m=>?_⟩,uV ?_⟩
  .rcases y0a.mp m with rfl|m
   .exact .inl (.off qM)
   .rw[lB.mp m];exact .inl (.m_ qM)
  .unfold rA;rw[uU x];unfold s9;clear x;simp only[↓ev,uZ,q1,decide_false,aK,eS,e3,e4,e5,aO]
 |false=>
 by_cases Qa:kd<11
 .have q2:=bJ Qa;cases e0:(o3 == 0) with
  |true=>
   refine⟨[.tup [.str "put",.str bag,.aI,.str b]],one (.put (fl:=none) (v2:=true) hv λ_ z=>by cases z),uV ?_⟩
   unfold rA;rw[uU x];unfold s9;clear x;simp only[↓ev,uZ,q1,decide_false,aK,eS,e3,e4,e5,q2,decide_true,h3,e0,aO]
  |false=>
   refine⟨[.tup [.str "put",.str bag,.str f,.str b]],one (.put (fl:=some f) hv λ_ z=>by cases z;exact qM),uV ?_⟩
   unfold rA;rw[uU x];unfold s9;clear x;simp only[↓ev,uZ,q1,decide_false,aK,eS,e3,e4,e5,q2,decide_true,h3,e0,aO]
 have q2:=eq_false Qa;cases DC:(kd == 11) with
 |true=>
  refine⟨_,one (.read hv qM),uV ?_⟩;unfold rA;rw[uU x];unfold s9;clear x;simp only[↓ev,uZ,q1,decide_false,aK,eS,e3,e4,e5,q2,DC,aO]
 |false=>
 have n11:kd≠11:=by rw[uI] at DC;exact DC
 by_cases US:kd<14
 .rcases(show kd=12\/kd=13 by lia) with rfl|rfl
  .refine⟨_,one (.stop (b:=b)),uV ?_⟩;unfold rA;rw[uU x];unfold s9;rfl
  .refine⟨_,one (.start (b:=b)),uV ?_⟩;unfold rA;rw[uU x];unfold s9;rfl
 have q3:=eq_false US;refine⟨[lh (1+t1)],⟨by simp,λz m=>by rw[lB.mp m];exact .inr ⟨1+t1,by lia,by lia,rfl⟩⟩,uV ?_⟩
 unfold rA;rw[uU x];unfold s9;clear x;unfold lh;unfold aq at x6;rcases hbg with⟨h9,rfl⟩|⟨h9,rfl⟩
 .simp only[↓ev,uZ,q1,decide_false,aK,eS,e3,e4,e5,q2,DC,q3,cx,x6,cV,h9,decide_true,DJ,aO]
 .simp only[↓ev,uZ,q1,decide_false,aK,eS,e3,e4,e5,q2,DC,q3,cx,x6,cV,h9,DJ,aO]
end
theorem Q3(ds:List D):cutD ds none (some 1)=ds.take 1:=by
 unfold cutD;have e:HT.cG ds.length ds.length (some 1)=min 1 ds.length:=by
  unfold HT.cG;simp
 have e2:HT.cG ds.length 0 none=0:=rfl;rw[e,e2,List.drop_zero,Nat.sub_zero];by_cases h:1<=ds.length
 .rw[Nat.min_eq_left h]
 .rw[Nat.min_eq_right (by lia),AY (bP _),AY (by lia)]
section
variable{ns:List Int}{h:aA}
theorem e0n(g:ax h)(b0:0<h.ae.length)(k:Nat)(hk:k<900)(S:aN):∃ds,yU ds/\Bp 0 [.d (aZ ns),.d (.int (k:Int)),.d (aE h)] S=some (.ok (.o (.lst ds)) S):=by
 have bl:=g.sm.bl;have ct:=g.sm.ct;have c0:=g.c0;obtain⟨_,p0,p1⟩:=g7 ns k 0 20 (by lia) (by decide) (by decide)
 have hp:=zF ns k 20 (by lia) (by decide)
 obtain⟨_,t0,t1⟩:=g7 ns k 2 10 (by lia) (by decide) (by decide)
 have ht:=zv ns k 10 (by lia) (by decide)
 obtain⟨_,o0,o1⟩:=g7 ns k 1 13 (by lia) (by decide) (by decide)
 have ho:=xw ns k 13 (by lia) (by decide)
 obtain⟨fn,DU,hfi⟩:∃fn:Nat,fn<20/\((bu ns k 2 10 == 9)=true/\(fn:Int)=6\/(bu ns k 2 10 == 9)=false/\(fn:Int)=bu ns k 2 10%3):=by
  cases e:(bu ns k 2 10 == 9) with
  |true=>exact⟨6,by decide,.inl ⟨rfl,rfl⟩⟩
  |false=>exact⟨(bu ns k 2 10%3).toNat,by lia,.inr ⟨rfl,by lia⟩⟩
 obtain⟨f,v2,hf,qM⟩:=e0l (ns:=ns) fn DU;obtain⟨bag,v,hb,hv⟩:=e0m (ns:=ns) (bu ns k 1 13).toNat (by lia)
 rw[Int.toNat_of_nonneg o0] at hb;obtain⟨cl,vc⟩:=Vq (ns:=ns) k hk;have comp:∀q S,bB (af 0) (iR true) (F5 q) (h.ae.map aq) [none] S []=some (.ok (dS (h.ae.map ao.name)) S):=λq S=>by
  rw[uX (λb=>.str b.name) h.ae (by lia) λb m=>⟨rd (.str b.name),by unfold F5 aq;simp only[↓ev,cx],rfl⟩,dS,fF]
  rfl
 obtain⟨_,tb0,tb1⟩:=g7 ns (k+1) 2 (2*(h.ae.length:Int)+1) (by lia) (by decide) (by lia)
 have BR:=zv ns (k+1) (2*(h.ae.length:Int)+1) (by lia) (by lia)
 obtain⟨_,oc0,oc1⟩:=g7 ns (k+1) 1 (((h.carts.length+1:Nat)):Int) (by lia) (by decide) (by lia)
 have v8:=xw ns (k+1) (((h.carts.length+1:Nat)):Int) (by lia) (by lia)
 have h3:=xw ns (k+1) 3 (by lia) (by decide)
 have DJ:=zv ns (k+1) 12 (by lia) (by decide)
 have h4:=zv ns (k+1) 4 (by lia) (by decide)
 obtain⟨_,a0,a1⟩:=g7 ns (k+1) 2 12 (by lia) (by decide) (by decide)
 obtain⟨_,TZ,b1⟩:=g7 ns (k+1) 2 4 (by lia) (by decide) (by decide)
 rw[show((k+1:Nat):Int)=(k:Int)+1 by lia] at BR v8 h3 DJ h4
 have Am:(h.carts.take 1).length=1:=by rw[yL];lia
 have S9:((h.ae.map ao.name).take 1).length=1:=by rw[yL,bw];lia
 have vZ:=GY (xs:=h.ae.map ao.name++(h.ae.map ao.name++h.carts.take 1)) (k:=bu ns (k+1) 2 (2*(h.ae.length:Int)+1)) tb0 (by rw[dy,dy,bw,Am];lia)
 have BQ:=GY (xs:=h.carts++(h.ae.map ao.name).take 1) (k:=bu ns (k+1) 1 (((h.carts.length+1:Nat)):Int)) oc0 (by rw[dy,S9];lia)
 generalize(h.ae.map ao.name++(h.ae.map ao.name++h.carts.take 1)).getD (bu ns (k+1) 2 (2*(h.ae.length:Int)+1)).toNat ""=bb at *;generalize(h.carts++(h.ae.map ao.name).take 1).getD (bu ns (k+1) 1 (((h.carts.length+1:Nat)):Int)).toNat ""=cc at *;rw[dS,eK,eK,<-dS,<-dS] at vZ;rw[dS,eK,<-dS,<-dS] at BQ;have D:IA ns k (bu ns k 0 20) (bu ns k 2 10) fn (bu ns k 1 13) (bu ns (k+1) 2 (2*(h.ae.length:Int)+1)) (bu ns (k+1) 1 (((h.carts.length+1:Nat)):Int)) h.ae.length (((h.carts.length+1:Nat)):Int) cl (h.ae.map aq) (dS (h.ae.map ao.name)) (dS h.carts) (dS (h.carts.take 1)) (dS ((h.ae.map ao.name).take 1)) f bag bb cc:=⟨hp,ht,hfi,hf,ho,hb,comp,by rw[Q3,dS,dS,Np],by rw[Q3,dS,dS,Np],bJ (by simp;lia),bJ (by simp;lia),bJ (by simp;lia),by simp,by rw[bw,bw,S9],bJ (.inl (by decide)),BR,vZ,v8,BQ,vc⟩
 obtain⟨bt,HC,ab⟩:∃bt∈h.ae,dQ (h.ae.map aq) 0=some (aq bt):=by
  cases e:h.ae with
  |nil=>rw[e] at b0;simp at b0
  |cons z zs=>exact⟨z,.head _,cx⟩
 by_cases h9:9<bt.long
 .exact P_ D p0 p1 hv qM h3 ab (.inl ⟨bJ h9,rfl⟩) DJ ⟨a0,a1⟩
 .exact P_ D p0 p1 hv qM h3 ab (.inr ⟨eq_false h9,rfl⟩) h4 ⟨TZ,by lia⟩
end
theorem WH{d:D}(hd:ik d):∃t ts,d=.tup (.str t::ts)/\(t == ("turn":Str))=false:=by
 cases hd with
 |m_ _=>exact⟨_,_,rfl,by decide +kernel⟩
 |change _=>exact⟨_,_,rfl,by decide +kernel⟩
 |off _=>exact⟨_,_,rfl,by decide +kernel⟩
 |put _ _=>exact⟨_,_,rfl,by decide +kernel⟩
 |read _ _=>exact⟨_,_,rfl,by decide +kernel⟩
 |stop=>exact⟨_,_,rfl,by decide +kernel⟩
 |start=>exact⟨_,_,rfl,by decide +kernel⟩
section
variable{s:List Cell}{h:aA}{r:Int}{x:Hl}{n:Nat}{d:D}{g0 g1 g3 a4 a5 a6 a7:ak Val}{ns:List Int}
theorem e7i{S2:aN}{l:List D}{hd:D}(e:xD 0 [.d (.ref 0)] (hS hd r x s)=some (.ok (.o (.lst l)) S2)):C5 0 [g0,g1,some (.d (.ref 0)),g3,a4,a5,a6,a7] (hS hd r x s)=some (.nx [g0,g1,some (.d (.ref 0)),g3,a4,a5,a6,a7] S2):=by
 unfold C5;simp only[↓ev,e]
theorem e0o(g:ax h)(o:Ok h n x)(hn:n<1000)(m:Nat):∃x' jU,Ok h n x'/\aH (af 5) (C5 0) (gm 0 m) [g0,g1,some (.d (.ref 0)),g3,a4,a5,a6,a7] (hS (aE h) r x s)=some (.nx [g0,g1,some (.d (.ref 0)),g3,a4,jU,a6,a7] (hS (aE h) r x' s)):=by
 rw[rR];obtain⟨U',S',e,⟨jU,rfl⟩,x',o',rfl⟩:=lq (gg:=af 5) (body:=C5 0) (f:=λ(i:Nat)=>D.int (i:Int)) (U:=[g0,g1,some (.d (.ref 0)),g3,a4,a5,a6,a7]) (S:=hS (aE h) r x s) (λpre U S'=>(∃a5,U=[g0,g1,some (.d (.ref 0)),g3,a4,a5,a6,a7])/\∃x',Ok h n x'/\S'=hS (aE h) r x' s) (List.range m) ⟨⟨_,rfl⟩,x,o,rfl⟩ (by
  rintro d i post eq U S' ⟨⟨a5,rfl⟩,x',o',rfl⟩;obtain⟨X,t,e⟩:=Kw (r:=r) (s:=s) g o' hn;exact⟨_,_,_,rfl,.inl (e7i e),⟨_,rfl⟩,_,o'.turn g t,rfl⟩)
 exact⟨x',jU,o',e⟩
theorem e0p(g:ax h)(o:Ok h n x)(hn:n<1000)(qJ:ik d\/∃m:Int,1<=m/\m<=12/\d=lh m):∃x' jU,Ok h (n+1) x'/\BB 0 [g0,g1,some (.d (.ref 0)),g3,some (.d d),a5,a6,a7] (hS (aE h) r x s)=some (.nx [g0,g1,some (.d (.ref 0)),g3,some (.d d),jU,a6,a7] (hS (aE h) r x' s)):=by
 rcases qJ with qJ|⟨m,m1,m12,rfl⟩
 .obtain⟨v,x',o',e⟩:=e7g (s:=s) (r:=r) g o hn qJ;obtain⟨t,ts,rfl,ht⟩:=WH qJ;refine⟨x',a5,o',?_⟩;clear qJ;generalize aE h=hd at *;unfold BB;simp only[↓ev,cx,aK,hZ,ht,e]
 .obtain⟨x',jU,o',e⟩:=e0o (r:=r) (s:=s) (g0:=g0) (g1:=g1) (g3:=g3) (a4:=some (.d (lh m))) (a5:=a5) (a6:=a6) (a7:=a7) g o hn m.toNat;have hz:Nat.ble m.natAbs 1000000000000=true:=by rw[Nat.ble_eq];lia
  have ht:(("turn":Str) == "turn")=true:=by decide +kernel
  refine⟨x',jU,o'.up,?_⟩;generalize aE h=hd at *;unfold BB;unfold lh at e ⊢;simp only[↓ev,cx,aK,hZ,fY,cV,hz,i6,e]
theorem Y4(g:ax h)(o:Ok h n x)(ds:List D)(hl:n+ds.length<900)(qJ:∀d∈ds,ik d\/∃m:Int,1<=m/\m<=12/\d=lh m):∃x' r6 jU,Ok h (n+ds.length) x'/\aH (af 4) (BB 0) ds [g0,g1,some (.d (.ref 0)),g3,a4,a5,a6,a7] (hS (aE h) r x s)=some (.nx [g0,g1,some (.d (.ref 0)),g3,r6,jU,a6,a7] (hS (aE h) r x' s)):=by
 have key:=lq (gg:=af 4) (body:=BB 0) (f:=λd:D=>d) (U:=[g0,g1,some (.d (.ref 0)),g3,a4,a5,a6,a7]) (S:=hS (aE h) r x s) (λpre U S'=>(∃a4 a5,U=[g0,g1,some (.d (.ref 0)),g3,a4,a5,a6,a7])/\∃x',Ok h (n+pre.length) x'/\S'=hS (aE h) r x' s) ds ⟨⟨_,_,rfl⟩,x,o,rfl⟩ (by
  rintro p d post eq U S' ⟨⟨a4,a5,rfl⟩,x',o',rfl⟩;have hp:p.length+1<=ds.length:=by
   simp_all
  obtain⟨x2,jU,o2,e⟩:=e0p (r:=r) (s:=s) (g0:=g0) (g1:=g1) (g3:=g3) (a5:=a5) (a6:=a6) (a7:=a7) g o' (by lia) (qJ d (by rw[eq];simp))
  refine⟨_,_,_,rfl,.inl e,⟨_,_,rfl⟩,x2,?_,rfl⟩;rw[dy,vm];exact o2)
 rw[List.map_id'] at key;obtain⟨U',S',e,⟨r6,jU,rfl⟩,x',o',rfl⟩:=key;exact⟨x',r6,jU,o',e⟩
theorem L0(g:ax h)(b0:0<h.ae.length)(o:Ok h n x)(hn:n<800)(k:Nat)(hk:k<900):∃x' r6 jU,Ok h (n+2) x'/\BC 0 [some (.d (aZ ns)),some (.d (aE h)),some (.d (.ref 0)),some (.d (.int (k:Int))),a4,a5,a6,a7] (hS (aE h) r x s)=some (.nx [some (.d (aZ ns)),some (.d (aE h)),some (.d (.ref 0)),some (.d (.int (k:Int))),r6,jU,a6,a7] (hS (aE h) r x' s)):=by
 obtain⟨ds,dk,ed⟩:=e0n (ns:=ns) g b0 k hk (hS (aE h) r x s);have dl:=dk.1;obtain⟨x',r6,jU,o',e⟩:=Y4 (r:=r) (s:=s) (g0:=some (.d (aZ ns))) (g1:=some (.d (aE h))) (g3:=some (.d (.int (k:Int)))) (a4:=a4) (a5:=a5) (a6:=a6) (a7:=a7) g o ds (by lia) dk.2
 refine⟨x',r6,jU,?_,?_⟩
 .exact⟨o'.rw,o'.nd,o'.un,o'.bk,o'.bn,o'.rl,jN o'.sz (by lia)⟩
 .generalize aE h=hd at *;generalize(k:Int)=ki at *;unfold BC;simp only[↓ev,ed,i6,e]
end
section
variable{s:List Cell}{h:aA}{r:Int}{x:Hl}{n:Nat}{g0 g1 g3 a3 a4 a5 a6 a7:ak Val}{ns:List Int}
theorem e9c(g:ax h)(b0:0<h.ae.length)(o:Ok h 0 x)(m:Nat)(hm:m<100):∃n x' IQ r6 jU,Ok h n x'/\n<300/\aH (af 3) (BC 0) (nG 15 2 m) [some (.d (aZ ns)),some (.d (aE h)),some (.d (.ref 0)),a3,a4,a5,a6,a7] (hS (aE h) r x s)=some (.nx [some (.d (aZ ns)),some (.d (aE h)),some (.d (.ref 0)),IQ,r6,jU,a6,a7] (hS (aE h) r x' s)):=by
 have er:nG 15 2 m=(List.range m).map λi=>D.int ((15+2*i:Nat):Int):=by
  unfold nG;refine pB λi _=>?_
  congr 1
  lia
 rw[er];obtain⟨U',S',e,⟨IQ,r6,jU,rfl⟩,x',o',rfl⟩:=lq (gg:=af 3) (body:=BC 0) (f:=λi:Nat=>D.int ((15+2*i:Nat):Int)) (U:=[some (.d (aZ ns)),some (.d (aE h)),some (.d (.ref 0)),a3,a4,a5,a6,a7]) (S:=hS (aE h) r x s) (λpre U S'=>(∃a3 a4 a5,U=[some (.d (aZ ns)),some (.d (aE h)),some (.d (.ref 0)),a3,a4,a5,a6,a7])/\∃x',Ok h (2*pre.length) x'/\S'=hS (aE h) r x' s) (List.range m) ⟨⟨_,_,_,rfl⟩,x,o,rfl⟩ (by
  rintro p i post eq U S' ⟨⟨a3,a4,a5,rfl⟩,x',o',rfl⟩;obtain⟨hq,hi⟩:=JT eq;obtain⟨x2,r6,jU,o2,e⟩:=L0 (ns:=ns) (r:=r) (s:=s) (a4:=a4) (a5:=a5) (a6:=a6) (a7:=a7) g b0 o' (by lia) (15+2*i) (by lia)
  refine⟨_,_,_,rfl,.inl e,⟨_,_,_,rfl⟩,x2,?_,rfl⟩;rw[dy,vm,Nat.mul_add];exact o2)
 rw[vq] at o';exact⟨_,x',IQ,r6,jU,o',by lia,e⟩
theorem e7j(g:ax h)(o:Ok h n x){bt:ao}(hb:bt∈h.ae):BD 0 [g0,g1,some (.d (.ref 0)),a3,a4,a5,some (.d (aq bt)),a7] (hS (aE h) r x s)=some (.nx [g0,g1,some (.d (.ref 0)),a3,a4,a5,some (.d (aq bt)),a7] (hS (aE h) r { x with halts:=x.halts.filter λk=>decide (k≠bt.name)} s)):=by
 have e:=Q1 (s:=s) (r:=r) g o (j6.mpr (mP (f:=ao.name) hb));have hB:aq bt=.tup [.str bt.name,.int bt.long,.bl bt.ring,.lst (dS bt.outs)]:=rfl;rw[hB];generalize aE h=hd at *;unfold BD;simp only[↓ev,hR,cU,JU,cx,e]
theorem e0q(g:ax h)(o:Ok h n x):∃x' vK,Ok h n x'/\bo h x'=[]/\aH (af 6) (BD 0) (h.ae.map aq) [g0,g1,some (.d (.ref 0)),a3,a4,a5,a6,a7] (hS (aE h) r x s)=some (.nx [g0,g1,some (.d (.ref 0)),a3,a4,a5,vK,a7] (hS (aE h) r x' s)):=by
 obtain⟨U',S',e,⟨vK,rfl⟩,x',o',hs,rfl⟩:=lq (gg:=af 6) (body:=BD 0) (f:=aq) (U:=[g0,g1,some (.d (.ref 0)),a3,a4,a5,a6,a7]) (S:=hS (aE h) r x s) (λpre U S'=>(∃a6,U=[g0,g1,some (.d (.ref 0)),a3,a4,a5,a6,a7])/\∃x',Ok h n x'/\(∀b∈pre,b.name∉x'.halts)/\S'=hS (aE h) r x' s) h.ae ⟨⟨_,rfl⟩,x,o,λb m=>(by cases m),rfl⟩ (by
  rintro p b post eq U S' ⟨⟨a6,rfl⟩,x',o',hs,rfl⟩;refine⟨_,_,_,rfl,.inl (e7j g o' (by rw[eq];simp)),⟨_,rfl⟩,_,o'.start,λc mc hc=>?_,rfl⟩
  grind)
 refine⟨x',vK,o',?_,e⟩;unfold bo;rw[List.filter_eq_nil_iff];intro b mb hb;obtain⟨c,mc,rfl⟩:=fB.mp mb;exact hs c mc (uP hb)
end
noncomputable def lv:List ao->Str->Nat
 |[],_=>0
 |b::bs,n=>if b.name=n then bs.length+1 else lv bs n
theorem KQ:∀(bs:List ao) (n:Str),lv bs n<=bs.length
 |[],_=>bP _
 |b::bs,n=>by
  have:=KQ bs n;unfold lv;rw[lS];split <;> lia
theorem Kx:∀{bs:List ao} {n:Str},n∈bs.map ao.name->1<=lv bs n
 |b::bs,n,h=>by
  unfold lv;split
  .lia
  .rename_i ne
   rcases y0a.mp h with e|m
   .exact cC e.symm ne
   .exact Kx m
theorem Ky{carts:List Str}:∀{bs:List ao},lU carts bs->∀b∈bs,∀o∈b.outs,o≠b.name
 |x::bs,f,b,hb,o,ho=>by
  rcases y0a.mp hb with rfl|hb
  .intro e;rcases f.1 o ho with z|z
   .exact f.2.1 (e ▸ z)
   .exact f.2.2.1 (e ▸ z)
  .exact Ky f.2.2.2 b hb o ho
theorem Kd(b:ao)(bs:List ao)(n:Str):lv (b::bs) n=if b.name=n then bs.length+1 else lv bs n:=rfl
theorem Hi{carts:List Str}:∀{bs:List ao},lU carts bs->∀bt∈bs,∀a∈bt.outs,a∈bs.map ao.name->lv bs a<lv bs bt.name
 |z::bs,f,bt,hb,a,ha,hn=>by
  have az:z.name≠a:=λe=>by
   rcases y0a.mp hb with e2|hb
   .exact Ky f bt (by rw[e2];exact .head _) a ha (by rw[<-e,e2])
   .rcases CZ f.2.2.2 bt hb a ha with y|y
    .exact f.2.1 (by rw[e];exact y)
    .exact f.2.2.1 (by rw[e];exact y)
  have ea:lv (z::bs) a=lv bs a:=by rw[Kd,ba az]
  rcases y0a.mp hb with e|hb
  .have:=KQ bs a;rw[ea,e,Kd,bI rfl];lia
  .have ne:z.name≠bt.name:=λe=>f.2.1 (by rw[e];exact mP (f:=ao.name) hb)
   rw[ea,Kd,ba ne];refine Hi f.2.2.2 bt hb a ha ?_
   grind
section
variable{h:aA}{r:Int}{x:Hl}{n:Nat}{X:List (Str×D)}{w z:Row}{bt:ao}
theorem Jv(g:ax h)(o:Ok h n x)(hs:bo h x=[])(hw:w∈x.rows)(hb:bt∈h.ae)(eb:bt.name=w.b):
  (w.i+1<bt.long/\aj h r x w=(bt.name,some (w.i+1)))\/
  (w.i+1=bt.long/\bt.ring=true/\aj h r x w=(bt.name,some 0)/\(w.fl=none/\w.gn<r\/∃a∈bt.outs,a∈h.ae.map ao.name/\∃u∈x.rows,u.b=a))\/
  (w.i+1=bt.long/\¬(bt.ring=true/\w.fl=none/\w.gn<r)/\∃a∈bt.outs,(a∈h.carts/\aj h r x w=(a,none))\/(a∈h.ae.map ao.name/\aj h r x w=(a,some 0))):=by
 obtain⟨i4,j',xQ,i0,i1,_⟩:=(o.rw w hw).1;have e:i4=bt:=xu g.fwd i4 j' bt hb (by rw[xQ,eb])
 subst e;have eg:aj h r x w=kS h r x w i4:=by unfold aj;rw[<-eb,CK g hb]
 rw[eg];unfold kS;by_cases hl:w.i+1<i4.long
 .rw[bI hl];exact .inl ⟨hl,rfl⟩
 .rw[ba hl];have le:w.i+1=i4.long:=by lia
  by_cases hc:i4.ring=true/\w.fl=none/\w.gn<r
  .rw[bI hc];exact .inr (.inl ⟨le,hc.1,rfl,.inl hc.2⟩)
  .rw[ba hc];obtain⟨a,ea,ha⟩:=Ks g o hw hb eb;rw[ea,Iw];unfold uk;cases SF:h.carts.contains a with
   |true=>rw[bI rfl];exact .inr (.inr ⟨le,hc,a,ha,.inl ⟨uP SF,rfl⟩⟩)
   |false=>
    rw[ba (by decide)]
    have hm:a∈h.ae.map ao.name:=(CZ g.fwd i4 hb a ha).resolve_right (F9 SF);cases hr:(i4.ring&&(eO h x).contains a) with
    |false=>rw[ba (by decide)];exact .inr (.inr ⟨le,hc,a,ha,.inr ⟨hm,rfl⟩⟩)
    |true=>
     rw[bI rfl];rw[fX] at hr;refine .inr (.inl ⟨le,hr.1,rfl,.inr ⟨a,ha,hm,?_⟩⟩);have Lg:=uP hr.2;unfold eO at Lg;rw[hs,yO] at Lg;obtain⟨u,hu,e⟩:=qg.mp Lg;split at e
     .cases e;exact⟨u,o.mem.mp hu,rfl⟩
     .cases e
end
section
variable{h:aA}{r:Int}{x:Hl}{n:Nat}{X:List (Str×D)}{w z:Row}{bt:ao}{G:Row->Goal}{L:List Row}
theorem O5{o:Str}(e:hold G L w=some o):∃u∈L,∃j,(G w).2=some j/\(u.b,u.i)=((G w).1,j)/\u.bag=o:=by
 unfold hold at e;split at e
 .cases e
 .rename_i j ej
  obtain⟨u,hu,eu⟩:=fB.mp (WG e);have h1:=congrArg Prod.fst eu;have h2:=congrArg Prod.snd eu;exact⟨u,hu,j,ej,h1,h2⟩
theorem O6:cH [] G L=[]:=by
 unfold cH;rw[List.filterMap_eq_nil_iff];intro w _;have:jM [] G w=none:=by
  unfold jM;rw[ba (by simp)]
  split
  .rw[ba (by simp)]
  .rfl
 rw[this];rfl
def Last(h:aA)(x:Hl)(bt:ao):Prop:=bt∈h.ae/\∀u∈x.rows,lv h.ae bt.name<=lv h.ae u.b
theorem CL(g:ax h)(o:Ok h n x)(hs:bo h x=[])(la:Last h x bt)(hw:w∈x.rows)(eb:bt.name=w.b):
  (w.i+1<bt.long/\aj h r x w=(bt.name,some (w.i+1)))\/
  (w.i+1=bt.long/\bt.ring=true/\w.fl=none/\w.gn<r/\aj h r x w=(bt.name,some 0))\/
  (w.i+1=bt.long/\¬(bt.ring=true/\w.fl=none/\w.gn<r)/\∃a,aj h r x w=(a,none)\/(lv h.ae a<lv h.ae bt.name/\aj h r x w=(a,some 0))):=by
 rcases Jv (r:=r) g o hs hw la.1 eb with c|⟨c1,c2,c3,c4⟩|⟨c1,c2,a,ha,c3⟩
 .exact .inl c
 .rcases c4 with c4|⟨a,ha,hn,u,hu,eu⟩
  .exact .inr (.inl ⟨c1,c2,c4.1,c4.2,c3⟩)
  .have h1:=Hi g.fwd bt la.1 a ha hn;have h2:=la.2 u hu;rw[eu] at h2;lia
 .refine .inr (.inr ⟨c1,c2,a,?_⟩);rcases c3 with⟨_,c3⟩|⟨hn,c3⟩
  .exact .inl c3
  .exact .inr ⟨Hi g.fwd bt la.1 a ha hn,c3⟩
def Fw(h:aA)(r:Int)(x:Hl)(X:List (Str×D)):Prop:=∃w∈bZ h x X,(aj h r x w).2=none\/(aj h r x w).1≠w.b
theorem Vr(g:ax h)(o:Ok h n x)(hs:bo h x=[])(la:Last h x bt)(t:jT h r x X)(nc:¬Fw h r x X)(hw:w∈x.rows)(eb:bt.name=w.b):w∈bZ h x X:=by
 have t0:=t;obtain⟨C,oC,gr,fn⟩:=t;rw[hs,O6] at oC gr;rw[yO] at gr;have empty:∀u∈x.rows,∀a,lv h.ae a<lv h.ae bt.name->u.b≠a:=λu hu a ha e=>by
  have:=la.2 u hu;rw[e] at this;lia
 refine(tu o).mpr ⟨hw,?_⟩;have key:∀Y,lH (aj h r x) (ord h x.rows) ((ask (aj h r x) [] (ord h x.rows)).filterMap (dq (aj h r x) C)) Y->(∀b∈Y.map (·.1),b∈X.map (·.1))->∀w∈x.rows,bt.name=w.b->w.bag∉Y.map (·.1):=by
  intro Y gy
  induction gy with
  |base=>
   intro _ y hy ey m;obtain⟨p,hp,e1⟩:=fB.mp m;obtain⟨y',LG,e2⟩:=qg.mp hp;obtain⟨yl,_,ys⟩:=iy.mp LG;unfold dq at e2;split at e2
   .cases e2
   .rename_i cb hcb
    split at e2
    .cases e2
    .rename_i ne
     cases e2;have ey':y'=y:=pD o.nb (o.mem.mp yl) hy e1;subst ey';obtain⟨c,hc,Du,ck,xI⟩:=oC.1 _ _ hcb;obtain⟨cl,_,cs⟩:=iy.mp hc;have v5:=o.mem.mp cl;rcases CL (r:=r) g o hs la hy ey with⟨l1,l2⟩|⟨l1,l2,_,_,l5⟩|⟨l1,_,a,l3|⟨l3,l4⟩⟩
     .have kb:c.b=bt.name:=by
       have:=xI ⟨y',LG,rfl,by rw[qu (j:=y'.i+1) (by rw[l2]),l2];exact ey.symm⟩
       rw[this,qu (j:=y'.i+1) (by rw[l2]),l2]
      refine ne ?_;rw[<-Du]
      congr 1
      refine pD o.un v5 hy (Prod.ext (by show c.b=y'.b;rw[kb,ey]) ?_)
      show c.i=y'.i;have i0:0<=y'.i:=by obtain⟨_,_,_,i0,_⟩:=(o.rw y' hy).1;exact i0
      rw[qu (G:=aj h r x) (w:=y') (j:=y'.i+1) (by rw[l2]),l2] at ck
      rcases CL (r:=r) g o hs la v5 kb.symm with⟨m1,m2⟩|⟨m1,m2,_,_,m5⟩|⟨m1,_,a,m3|⟨m3,m4⟩⟩
      .rw[qu (G:=aj h r x) (j:=c.i+1) (by rw[m2]),m2] at ck
       lia
      .rw[qu (G:=aj h r x) (j:=0) (by rw[m5]),m5] at ck
       lia
      .simp_all
      .rw[qu (G:=aj h r x) (j:=0) (by rw[m4]),m4] at ck
       lia
     .have kb:c.b=bt.name:=by
       have:=xI ⟨y',LG,rfl,by rw[qu (j:=0) (by rw[l5]),l5];exact ey.symm⟩
       rw[this,qu (j:=0) (by rw[l5]),l5]
      refine ne ?_;rw[<-Du]
      congr 1
      refine pD o.un v5 hy (Prod.ext (by show c.b=y'.b;rw[kb,ey]) ?_)
      show c.i=y'.i;have i0:0<=c.i:=by obtain⟨_,_,_,i0,_⟩:=(o.rw c v5).1;exact i0
      rw[qu (G:=aj h r x) (w:=y') (j:=0) (by rw[l5]),l5] at ck
      rcases CL (r:=r) g o hs la v5 kb.symm with⟨m1,m2⟩|⟨m1,m2,_,_,m5⟩|⟨m1,_,a,m3|⟨m3,m4⟩⟩
      .rw[qu (G:=aj h r x) (j:=c.i+1) (by rw[m2]),m2] at ck
       lia
      all_goals lia
     .simp_all
     .have KG:gk (aj h r x) c=(a,0):=by rw[ck,qu (j:=0) (by rw[l4]),l4]
      have cX:c.bag∉X.map (·.1):=by
       have kk:∀Z,lH (aj h r x) (ord h x.rows) ((ask (aj h r x) [] (ord h x.rows)).filterMap (dq (aj h r x) C)) Z->c.bag∉Z.map (·.1):=by
        intro Z gz
        induction gz with
        |base=>
         intro m2;obtain⟨p2,LA,e3⟩:=fB.mp m2;obtain⟨c',nP,e4⟩:=qg.mp LA;unfold dq at e4;split at e4
         .cases e4
         .rename_i cb2 hcb2
          split at e4
          .cases e4
          .rename_i ne2
           cases e4;have:c'=c:=pD o.nb (o.mem.mp (iy.mp nP).1) v5 e3
           lia
        |@step Z' w' o' _ D_ v3 ih=>
         intro m2;rw[eK,dN] at m2;rcases m2 with m2|m2
         .exact ih m2
         .have e3:c.bag=w'.bag:=by simpa using m2
          have:c=w':=pD o.nb v5 (o.mem.mp D_) e3;subst this;obtain⟨u,hu,j,ej,eu,_⟩:=O5 v3.2.1;rw[qu ej] at KG;rw[KG] at eu;exact empty u (o.mem.mp hu) a l3 (congrArg Prod.fst eu)
       exact kk X gr
      refine nc ⟨c,(tu o).mpr ⟨v5,cX⟩,.inr λe=>?_⟩
      have:(aj h r x c).1=a:=congrArg Prod.fst KG;exact empty c v5 a l3 (by rw[<-e,this])
  |@step Y' w' o' gy' D_ v3 ih=>
   intro sub y hy ey m;have ih:=ih λb mb=>sub b (by rw[eK];exact dN.mpr (.inl mb))
   rw[eK,dN] at m;rcases m with m|m
   .exact ih y hy ey m
   .have e3:y.bag=w'.bag:=by simpa using m
    have:y=w':=pD o.nb hy (o.mem.mp D_) e3;subst this;obtain⟨u,hu,j,ej,eu,ub⟩:=O5 v3.2.1;have LC:=o.mem.mp hu;have MV:u.b=(aj h r x y).1:=congrArg Prod.fst eu;have Tz:u.bag∈Y'.map (·.1):=by rw[ub];exact v3.2.2
    rcases CL (r:=r) g o hs la hy ey with⟨l1,l2⟩|⟨l1,l2,_,_,l5⟩|⟨l1,_,a,l3|⟨l3,l4⟩⟩
    .exact ih u LC (by rw[MV,l2]) Tz
    .exact ih u LC (by rw[MV,l5]) Tz
    .rw[l3] at ej;cases ej
    .exact empty u LC a l3 (by rw[MV,l4])
 exact key X gr (λ_ m=>m) w hw eb
end
def iZ(h:aA)(rows:List Row):Int:=(rows.map λw=>(lv h.ae w.b:Int)).sum
def vl(h:aA):ak Row->Int
 |none=>0
 |some w=>lv h.ae w.b
section
variable{h:aA}{r:Int}{x:Hl}{n:Nat}{X:List (Str×D)}{w z:Row}{bt:ao}{f:Row->ak Row}
theorem Kz:∀{rows:List Row},(∀z∈rows,vl h (f z)<=lv h.ae z.b)->iZ h (rows.filterMap f)<=iZ h rows
 |[],_=>A5 _
 |z::rows,hz=>by
  have ih:=Kz (rows:=rows) λu m=>hz u (.tail _ m)
  have h1:=hz z (.head _);unfold iZ at *;rw[qf,cq,sv];cases e:f z with
  |none=>
   rw[e] at h1;unfold vl at h1;dsimp only at h1 ⊢;lia
  |some u=>
   rw[e] at h1;unfold vl at h1;dsimp only at h1 ⊢;rw[cq,sv];lia
theorem R4:∀{rows:List Row},(∀z∈rows,vl h (f z)<=lv h.ae z.b)->∀{w:Row},w∈rows->vl h (f w)<lv h.ae w.b->iZ h (rows.filterMap f)+1<=iZ h rows
 |z::rows,hz,w,hw,ji=>by
  have le:=Kz (h:=h) (f:=f) (rows:=rows) λu m=>hz u (.tail _ m)
  have h1:=hz z (.head _);rcases y0a.mp hw with rfl|hw
  .unfold iZ at *;rw[qf,cq,sv];cases e:f w with
   |none=>
    rw[e] at ji;unfold vl at ji;dsimp only at ji ⊢;lia
   |some u=>
    rw[e] at ji;unfold vl at ji;dsimp only at ji ⊢;rw[cq,sv];lia
  .have ih:=R4 (rows:=rows) (λu m=>hz u (.tail _ m)) hw ji
   unfold iZ at *;rw[qf,cq,sv];cases e:f z with
   |none=>
    rw[e] at h1;unfold vl at h1;dsimp only at h1 ⊢;lia
   |some u=>
    rw[e] at h1;unfold vl at h1;dsimp only at h1 ⊢;rw[cq,sv];lia
theorem e0s(g:ax h)(o:Ok h n x)(hs:bo h x=[])(hw:w∈x.rows){j:Int}(ej:(aj h r x w).2=some j):lv h.ae (aj h r x w).1<=lv h.ae w.b/\((aj h r x w).1≠w.b->lv h.ae (aj h r x w).1<lv h.ae w.b):=by
 obtain⟨bt,hb,eb,_⟩:=(o.rw w hw).1;rcases Jv (r:=r) g o hs hw hb eb with⟨_,c⟩|⟨_,_,c,_⟩|⟨_,_,a,ha,⟨_,c⟩|⟨hn,c⟩⟩
 .rw[c,eb];exact⟨bP _,λz=>cC rfl z⟩
 .rw[c,eb];exact⟨bP _,λz=>cC rfl z⟩
 .rw[c] at ej;cases ej
 .have:=Hi g.fwd bt hb a ha hn;rw[c,<-eb];exact⟨Ij this,λ_=>this⟩
theorem Sn(g:ax h)(o:Ok h n x)(hs:bo h x=[])(hz:z∈x.rows):vl h (i5 h (aj h r x) z)<=lv h.ae z.b/\((aj h r x z).2=none\/(aj h r x z).1≠z.b->vl h (i5 h (aj h r x) z)<lv h.ae z.b):=by
 have lp:=Kx (o.rw z hz).1.nm;cases ej:(aj h r x z).2 with
 |none=>
  have e:i5 h (aj h r x) z=none:=by unfold i5;rw[ej]
  rw[e];show(0:Int)<=_/\(_->(0:Int)<_)
  lia
 |some j=>
  obtain⟨k1,k2⟩:=e0s g o hs hz ej;have e:∃z',i5 h (aj h r x) z=some z'/\z'.b=(aj h r x z).1:=by unfold i5;rw[ej];exact⟨_,rfl,rfl⟩
  obtain⟨z',e,eb⟩:=e;rw[e];show((lv h.ae z'.b:Nat):Int)<=_/\(_->((lv h.ae z'.b:Nat):Int)<_)
  lia
theorem Q4(g:ax h)(o:Ok h n x)(hs:bo h x=[]):∀z∈x.rows,vl h (if kW (bZ h x X) z=true then i5 h (aj h r x) z else some z)<=lv h.ae z.b:=λz hz=>by
 split
 .exact(Sn g o hs hz).1
 .exact A5 _
theorem Y5(g:ax h)(o:Ok h n x)(hs:bo h x=[]):iZ h (bF h r x X).rows<=iZ h x.rows:=Kz (Q4 g o hs)
theorem UN(g:ax h)(o:Ok h n x)(hs:bo h x=[])(c:Fw h r x X):iZ h (bF h r x X).rows+1<=iZ h x.rows:=by
 obtain⟨w,hw,hc⟩:=c;have hr:=((tu o).mp hw).1;refine R4 (Q4 g o hs) hr ?_;rw[bI ((zx o hr).mpr hw)];exact(Sn g o hs hr).2 hc
noncomputable def Ao(r:Int)(bt:ao)(w:Row):Int:=(if bt.ring=true/\w.fl=none/\w.gn<r then(r - w.gn)*bt.long else 0)+(bt.long - 1 - w.i)
def A'(h:aA)(r K:Int)(x:Hl)(m:Int):Prop:=x.rows=[]\/∃w bt,w∈x.rows/\bt.name=w.b/\Last h x bt/\K*(iZ h x.rows - 1)+Ao r bt w+1<=m
theorem Q5:∀{rows:List Row},rows≠[]->∃w∈rows,∀u∈rows,lv h.ae w.b<=lv h.ae u.b
 |[w],_=>⟨w,.head _,λu m=>by rw[lB.mp m];exact bP _⟩
 |w::z::rows,_=>by
  obtain⟨v,hv,hm⟩:=Q5 (rows:=z::rows) (Nn _ _)
  grind
theorem Q6(g:ax h)(o:Ok h n x)(ne:x.rows≠[]):∃w bt,w∈x.rows/\bt.name=w.b/\Last h x bt:=by
 obtain⟨w,hw,hm⟩:=Q5 (h:=h) ne;obtain⟨bt,hb,eb,_⟩:=(o.rw w hw).1;exact⟨w,bt,hw,eb,hb,λu hu=>by rw[eb];exact hm u hu⟩
theorem So(g:ax h)(o:Ok h n x)(hw:w∈x.rows)(hb:bt∈h.ae)(eb:bt.name=w.b):0<=Ao r bt w:=by
 obtain⟨i4,j',xQ,i0,i1,_⟩:=(o.rw w hw).1;have e:i4=bt:=xu g.fwd i4 j' bt hb (by rw[xQ,eb])
 subst e;unfold Ao;split
 .rename_i c
  have:=vt (show 0<=r - w.gn by lia) (show 0<=i4.long by lia)
  lia
 .lia
theorem R5(g:ax h)(o:Ok h n x)(r0:0<=r){K M:Int}(hM:∀b∈h.ae,b.long<=M)(hK:K=(r+1)*M)(hw:w∈x.rows)(hb:bt∈h.ae)(eb:bt.name=w.b):Ao r bt w+1<=K:=by
 obtain⟨i4,j',xQ,i0,i1,DH⟩:=(o.rw w hw).1;have e:i4=bt:=xu g.fwd i4 j' bt hb (by rw[xQ,eb])
 subst e;have l1:=(g.lg i4 hb).1;have k1:(r+1)*i4.long<=K:=by rw[hK];exact Iz (hM i4 hb) (by lia)
 rw[Int.add_mul,Int.one_mul] at k1;have k2:0<=r*i4.long:=vt r0 (by lia)
 unfold Ao;split
 .have:=Int.mul_le_mul_of_nonneg_right (show r - w.gn<=r by lia) (show 0<=i4.long by lia)
  lia
 .lia
end
section
variable{h:aA}{r K M:Int}{x:Hl}{n:Nat}{X:List (Str×D)}{w z:Row}{bt:ao}
theorem e0t(g:ax h)(o:Ok h n x)(hs:bo h x=[])(r0:0<=r)(hM:∀b∈h.ae,b.long<=M)(hK:K=(r+1)*M)(M0:0<=M)(t:jT h r x X){m:Int}(c:Fw h r x X)(hm:K*(iZ h x.rows - 1)+1<=m+1):A' h r K (bF h r x X) m:=by
 by_cases ne:(bF h r x X).rows=[]
 .exact .inl ne
 .have o':=o.turn g t;obtain⟨w1,b1,SR,Ss,S8⟩:=Q6 g o' ne;have k1:=R5 g o' r0 hM hK SR S8.1 Ss;have k2:=UN g o hs c;have K0:0<=K:=by rw[hK];exact vt (by lia) M0
  have k3:=Iz (show iZ h (bF h r x X).rows<=iZ h x.rows - 1 by lia) K0
  refine .inr ⟨w1,b1,SR,Ss,S8,?_⟩
  lia
theorem P'(g:ax h)(o:Ok h n x)(hs:bo h x=[])(r0:0<=r)(hM:∀b∈h.ae,b.long<=M)(hK:K=(r+1)*M)(M0:0<=M)(t:jT h r x X)(ne:x.rows≠[]){m:Int}(pt:A' h r K x (m+1)):A' h r K (bF h r x X) m/\∃w,w∈bZ h x X:=by
 obtain⟨w,bt,hw,eb,la,hm⟩:=pt.resolve_left ne;have m0:=So (r:=r) g o hw la.1 eb;by_cases c:Fw h r x X
 .exact⟨e0t g o hs r0 hM hK M0 t c (by lia),by obtain⟨u,hu,_⟩:=c;exact⟨u,hu⟩⟩
 .have wm:=Vr g o hs la t c hw eb;refine⟨?_,w,wm⟩;have jo:∀u∈bZ h x X,∃j,(aj h r x u).2=some j/\(aj h r x u).1=u.b:=λu hu=>by
   cases ej:(aj h r x u).2 with
   |none=>exact cC ⟨u,hu,.inl ej⟩ c
   |some j=>exact⟨j,rfl,y9d λz=>c ⟨u,hu,.inr z⟩⟩
  have BX:Last h (bF h r x X) bt:=⟨la.1,λu' rK=>by
   obtain⟨u,hu,_,_,st⟩:=GD o rK;rcases st with⟨_,rfl⟩|⟨um,e⟩
   .exact la.2 _ hu
   .obtain⟨j,_,e1,_⟩:=Dk e;obtain⟨_,_,e2⟩:=jo u um;rw[e1,e2];exact la.2 u hu⟩
  have ph:=Y5 (r:=r) (X:=X) g o hs;have K0:0<=K:=by rw[hK];exact vt (by lia) M0
  have k3:=Iz (show iZ h (bF h r x X).rows - 1<=iZ h x.rows - 1 by lia) K0
  obtain⟨i4,j',xQ,i0,i1,DH⟩:=(o.rw w hw).1;have e:i4=bt:=xu g.fwd i4 j' bt la.1 (by rw[xQ,eb])
  subst e;have fb:=CK g la.1;rw[eb] at fb;have l2:=(g.lg i4 la.1).2;have SX:∀w',i5 h (aj h r x) w=some w'->w'∈(bF h r x X).rows:=λw' e=>qg.mpr ⟨w,hw,by rw[bI ((zx o hw).mpr wm)];exact e⟩
  rcases CL (r:=r) g o hs la hw eb with⟨c1,c2⟩|⟨c1,c2,c3,c4,c5⟩|⟨c1,_,a,c3|⟨c3,c4⟩⟩
  .have em:i5 h (aj h r x) w=some { w with b:=i4.name,i:=w.i+1}:=by
    unfold i5;rw[c2];dsimp only;rw[fb];dsimp only;rw[ba];unfold jm;intro z;rw[fX,fX,beq_iff_eq] at z;lia
   refine .inr ⟨_,i4,SX _ em,rfl,BX,?_⟩
   grind [Ao]
  .have em:i5 h (aj h r x) w=some { w with b:=i4.name,i:=0,gn:=w.gn+1}:=by
    grind [i5,jm]
   refine .inr ⟨_,i4,SX _ em,rfl,BX,?_⟩
   grind [Ao]
  .obtain⟨j,e1,_⟩:=jo w wm;rw[c3] at e1;cases e1
  .obtain⟨j,_,e2⟩:=jo w wm;rw[c4,<-eb] at e2;dsimp only at e2;rw[e2] at c3;exact cC c3 (j5 _)
theorem Q7(g:ax h)(o:Ok h n x)(hs:bo h x=[])(hw:w∈x.rows){j:Int}(ej:(aj h r x w).2=some j):((aj h r x w).1,j)≠(w.b,w.i):=by
 obtain⟨bt,hb,eb,i0,i1,_⟩:=(o.rw w hw).1;intro e;have e1:=congrArg Prod.fst e;have e2:=congrArg Prod.snd e;dsimp only at e1 e2;rcases Jv (r:=r) g o hs hw hb eb with⟨_,c⟩|⟨c1,c2,c,_⟩|⟨_,_,a,ha,⟨_,c⟩|⟨hn,c⟩⟩
 .lia
 .rw[c] at ej;cases ej;have:=(g.lg bt hb).2 c2;lia
 .rw[c] at ej;cases ej
 .rw[c,<-eb] at e1;exact Ky g.fwd bt hb a ha e1
theorem Ov(g:ax h)(o:Ok h n x)(t:jT h r x X):(bF h r x X).rows.length+(bF h r x X).gone.length=x.rows.length+x.gone.length:=by
 have o':=o.turn g t;have eg:(bF h r x X).gone=x.gone++(bZ h x X).filterMap (fm (aj h r x) (x.now+1)):=rfl;have sb:((bF h r x X).rows.map Row.bag).Sublist (x.rows.map Row.bag):=GC _ _;have l1:=G1 o'.nd (l2:=x.rows.map Row.bag++x.gone.map (·.1)) λa m=>by
  rcases dN.mp m with m|m
  .exact dN.mpr (.inl (sb.subset m))
  .rw[eg,eK,dN] at m;rcases m with m|m
   .exact dN.mpr (.inr m)
   .obtain⟨p,hp,rfl⟩:=fB.mp m;obtain⟨u,hu,_,_,rfl⟩:=QZ o hp;exact dN.mpr (.inl (mP hu))
 have l2:=G1 o.nd (l2:=(bF h r x X).rows.map Row.bag++(bF h r x X).gone.map (·.1)) λa m=>by
  rcases dN.mp m with m|m
  .obtain⟨u,hu,rfl⟩:=fB.mp m;by_cases um:u∈bZ h x X
   .cases ej:(aj h r x u).2 with
    |none=>
     grind [fm]
    |some j=>
     have em:∃u',i5 h (aj h r x) u=some u'/\u'.bag=u.bag:=by unfold i5;rw[ej];exact⟨_,rfl,rfl⟩
     obtain⟨u',em,eu⟩:=em;refine dN.mpr (.inl (fB.mpr ⟨u',qg.mpr ⟨u,hu,?_⟩,eu⟩));rw[bI ((zx o hu).mpr um)];exact em
   .exact dN.mpr (.inl (fB.mpr ⟨u,QW hu (by rw[A6];exact λz=>um ((zx o hu).mp z)),rfl⟩))
  .refine dN.mpr (.inr ?_);rw[eg,eK,dN];exact .inl m
 rw[dy,dy,bw,bw,bw,bw] at l1 l2;lia
end
theorem e7m{a b:ak Str}(e:aQ (aL a) (aL b)=true):a=b:=by
 cases a with
 |none=>
  cases b with
  |none=>rfl
  |some b=>cases e
 |some a=>
  cases b with
  |none=>cases e
  |some b=>
   have:(a == b)=true:=e;rw[beq_iff_eq.mp this]
theorem e7n{a b:Row}(e:aQ (aT a) (aT b)=true):a=b:=by
 have e:(aQ (.str a.bag) (.str b.bag)&&(aQ (aL a.fl) (aL b.fl)&&(aQ (pl a.b a.i) (pl b.b b.i)&&(aQ (.int a.gn) (.int b.gn)&&true))))=true:=by
  unfold aT at e;have:cR [.str a.bag,aL a.fl,pl a.b a.i,.int a.gn] [.str b.bag,aL b.fl,pl b.b b.i,.int b.gn]=true:=e;simp only[cR] at this;exact this
 rw[fX,fX,fX,fX,hZ,eS,BN,fX,beq_iff_eq,beq_iff_eq,beq_iff_eq,beq_iff_eq] at e;obtain⟨e1,e2,⟨e3,e4⟩,e5,_⟩:=e;cases a;cases b;dsimp only at *;rw[e1,e7m e2,e3,e4,e5]
theorem Q8:∀{a b:List Row},cR (a.map aT) (b.map aT)=true->a=b
 |[],[],_=>rfl
 |[],_::_,e=>by rw[cq,yM] at e;unfold cR at e;cases e
 |_::_,[],e=>by rw[cq,yM] at e;unfold cR at e;cases e
 |x::a,y::b,e=>by
  rw[cq,cq] at e;unfold cR at e;rw[fX] at e;rw[e7n e.1,Q8 e.2]
theorem e7o(w:Row):c7 39 (aT w)=true:=by
 unfold aT;show[D.str w.bag,aL w.fl,pl w.b w.i,.int w.gn].all (c7 38)=true;rw[qj,qj,qj,qj,List.all_nil];have h1:c7 38 (D.str w.bag)=true:=rfl;have h2:c7 38 (aL w.fl)=true:=by cases w.fl <;> rfl
 have h3:c7 38 (pl w.b w.i)=true:=rfl;have h4:c7 38 (D.int w.gn)=true:=rfl;rw[h1,h2,h3,h4];rfl
theorem Q9(l:List Row):c7 40 (.lst (l.map aT))=true:=by
 show(l.map aT).all (c7 39)=true;rw[Ft];exact pK.mpr λw _=>e7o w
section
variable{s:List Cell}{h:aA}{r K M:Int}{x:Hl}{n:Nat}{X:List (Str×D)}{w z:Row}{bt:ao}{G:Row->Goal}{L:List Row}
theorem e0u(hs:bo h x=[])(t:jT h r x X):∀p∈X,∃l,p.2=.tup l:=by
 obtain⟨C,oC,gr,fn⟩:=t;rw[hs,O6,yO] at gr;have key:∀Y,lH (aj h r x) (ord h x.rows) ((ask (aj h r x) [] (ord h x.rows)).filterMap (dq (aj h r x) C)) Y->∀p∈Y,∃l,p.2=.tup l:=by
  intro Y gy
  induction gy with
  |base=>
   grind [dq]
  |step _ _ _ ih=>
   intro p hp;rcases dN.mp hp with m|m
   .exact ih p m
   .rw[lB.mp m];exact⟨_,rfl⟩
 exact key X gr
theorem Y6(q:Nat)(hl:L.length<=1000)(hX:∀p∈X,∃l,p.2=.tup l)(hg:∀w∈L,∀j,(G w).2=some j->((G w).1,j)≠(w.b,w.i)){S:aN}:∃ds:List D,ds.length=(L.filter (nk X)).length/\bB (af 0) (Ja q) (Jb q) (L.map (iV X G)) [none] S []=some (.ok ds S):=by
 refine⟨L.filterMap λw=>if nk X w=true then some (iV X G w) else none,?_,?_⟩
 .clear hl hg
  induction L with
  |nil=>rfl
  |cons w L ih=>
   rw[qf,B8];cases nk X w with
   |true=>rw[bI rfl,bI rfl];exact congrArg (·+1) ih
   |false=>rw[ba (by decide),ba (by decide)];exact ih
 .rw[xJ (λw=>if nk X w=true then some (iV X G w) else none) L (by lia) λw m=>?_]
  unfold Ja Jb iV;rcases QX X w with⟨e1,e2,_⟩|⟨p,e1,e2,_⟩
  .rw[e1,e2];refine .inr ⟨rd (.tup [.str w.bag,pl w.b w.i,gD (G w),.aI]),_,rfl,?_,?_,rfl⟩
   .cases ej:(G w).2 with
    |none=>
     have eg:gD (G w)=.str (G w).1:=by unfold gD;generalize G w=p at *;obtain⟨c,j⟩:=p;cases ej;rfl
     have en:aQ (.str (G w).1) (pl w.b w.i)=false:=rfl;rw[eg];rfl
    |some j=>
     have eg:gD (G w)=pl (G w).1 j:=by unfold gD;generalize G w=p at *;obtain⟨c,j⟩:=p;cases ej;rfl
     have en:((G w).1 == w.b&&j == w.i)=false:=by
      simp_all
     rw[eg];simp only[↓ev,vN,aK,jg,cV,HZ,BN,en,mQ]
   rfl
  .rw[e1,e2];obtain⟨l,hl⟩:=hX p (Nt e1);refine .inl ⟨rfl,?_⟩;dsimp only;rw[hl];simp only[↓ev,vN,aK]
end
variable{gg:GG}{body:GS}{U U1:Gm}{S S':aN}{x:D}
theorem e0v{xs:List D}{rv:Rv}(e1:gg x U=some U1)(e2:body U1 S=some (.rt rv S')):aH gg body (x::xs) U S=some (.rt rv S'):=by
 unfold aH;rw[e1,vn,e2];rfl
theorem e0w{U2:Gm}{xs:List D}{fr:Fr}(e1:gg x U=some U1)(e2:body U1 S=some (.nx U2 S'))(e3:aH gg body xs U2 S'=some fr):aH gg body (x::xs) U S=some fr:=by
 unfold aH;rw[e1,vn,e2];exact e3
section
variable{s:List Cell}{h:aA}{r K M:Int}{x:Hl}{n:Nat}{X:List (Str×D)}{g1 g2 g3 g4 a5 a6 a7:ak Val}
theorem e0x(g:ax h)(o:Ok h n x)(he:x.rows=[]):ze 0 [some (.d (.ref 0)),g1,g2,g3,g4,a5,a6,a7] (hS (aE h) r x s)=some (.rt (rd (.bl true)) (hS (aE h) r x s)):=by
 have e1:=λq=>uT (s:=s) (r:=r) (q:=q) g o
 rw[show ord h x.rows=[] by rw[he];rfl,yM] at e1
 have z0:(((0:Nat):Int) == 0)=true:=rfl;generalize aE h=hd at *;unfold ze;simp only[↓ev,hR,cU,uS,e1,aO,aK,eS,z0]
theorem e0y(g:ax h)(o:Ok h n x)(hn:n<1000)(hs:bo h x=[])(ne:x.rows≠[])(mv:∀X,jT h r x X->∃w,w∈bZ h x X):∃X vK TQ,jT h r x X/\ze 0 [some (.d (.ref 0)),g1,g2,g3,g4,a5,a6,a7] (hS (aE h) r x s)=some (.nx [some (.d (.ref 0)),g1,g2,g3,g4,a5,vK,TQ] (hS (aE h) r (bF h r x X) s)):=by
 have rl:=o.rl;obtain⟨X,t,e2⟩:=Kw (s:=s) (r:=r) g o hn;have o':=o.turn g t;obtain⟨w,hw⟩:=mv X t;have e1:=λq=>uT (s:=s) (r:=r) (q:=q) g o
 have e3:=λq=>uT (s:=s) (r:=r) (q:=q) g o'
 have lp:=o.perm.length_eq;have hlen:(((ord h x.rows).map aT).length:Int)=(x.rows.length:Int):=by rw[bw,lp]
 have hl0:((x.rows.length:Int) == 0)=false:=by
  simp_all
 obtain⟨ds,dl,e4⟩:=Y6 (S:=hS (aE h) r (bF h r x X) s) (G:=aj h r x) (X:=X) (L:=ord h x.rows) 0 (by lia) (e0u hs t) λu hu j ej=>Q7 g o hs (o.mem.mp hu) ej
 have dl0:((ds.length:Int) == 0)=false:=by
  rw[uI,dl];have:=List.length_pos_of_mem hw;unfold bZ at this;lia
 have neq:aQ (.lst ((ord h (bF h r x X).rows).map aT)) (.lst ((ord h x.rows).map aT))=false:=by
  rw[A6];intro z;have z:cR ((ord h (bF h r x X).rows).map aT) ((ord h x.rows).map aT)=true:=z;have ez:=Q8 z;obtain⟨LF,_⟩:=(tu o).mp hw;have D_:w∈(bF h r x X).rows:=o'.mem.mp (by rw[ez];exact o.mem.mpr LF)
  obtain⟨u,hu,eb,_,st⟩:=GD o D_;have euw:u=w:=pD o.nb hu LF eb.symm;subst euw;rcases st with⟨s1,_⟩|⟨_,s2⟩
  .exact s1 hw
  .obtain⟨j,ej,e5,e6⟩:=Dk s2;exact Q7 g o hs LF ej (by rw[<-e5,e6])
 have bH:=Q9 (ord h x.rows);have cJ:=Q9 (ord h (bF h r x X).rows);refine⟨X,some (.d (.lst ((ord h x.rows).map aT))),some (.d (.lst ((ord h x.rows).map (iV X (aj h r x))))),t,?_⟩;generalize bF h r x X=x2 at *;generalize(ord h x.rows).map (iV X (aj h r x))=lg at *;generalize(ord h x.rows).map aT=l1 at *;generalize(ord h x2.rows).map aT=l2 at *;generalize aE h=hd at *;unfold ze;simp only[↓ev,hR,cU,uS,e1,aO,hlen,aK,eS,hl0,e2,i6,e4,dl0,e3,cJ,bH,neq]
theorem R6:∀rows:List Row,0<=iZ h rows
 |[]=>A5 _
 |z::rows=>by
  have:=R6 rows;unfold iZ at *;rw[cq,sv];lia
theorem R7:∀{rows:List Row} {w:Row},w∈rows->(lv h.ae w.b:Int)<=iZ h rows
 |z::rows,w,m=>by
  have nn:=R6 (h:=h) rows;have es:iZ h (z::rows)=(lv h.ae z.b:Int)+iZ h rows:=by unfold iZ;rw[cq,sv]
  rw[es];rcases y0a.mp m with rfl|m
  .lia
  .have:=R7 m;lia
theorem R8(g:ax h)(hn:n<1000)(r0:0<=r)(hM:∀b∈h.ae,b.long<=M)(hK:K=(r+1)*M)(M0:0<=M):∀(ks:List D) {x:Hl} {m:Int} {a5 a6 a7:ak Val},Ok h n x->bo h x=[]->A' h r K x m->0<=m->m<ks.length->∃x',Ok h n x'/\x'.rows=[]/\x'.gone.length=x.rows.length+x.gone.length/\bo h x'=[]/\aH (af 5) (ze 0) ks [some (.d (.ref 0)),g1,g2,g3,g4,a5,a6,a7] (hS (aE h) r x s)=some (.rt (rd (.bl true)) (hS (aE h) r x' s))
 |[],x,m,a5,a6,a7,o,hs,pt,m0,hm=>by
  have hm:m<0:=hm;lia
 |k::ks,x,m,a5,a6,a7,o,hs,pt,m0,hm=>by
  by_cases ne:x.rows=[]
  .exact⟨x,o,ne,by rw[ne];simp,hs,e0v rfl (e0x g o ne)⟩
  .have K0:0<=K:=by rw[hK];exact vt (by lia) M0
   have m1:1<=m:=by
    obtain⟨w,bt,hw,eb,la,hm⟩:=pt.resolve_left ne;have h1:=So (r:=r) g o hw la.1 eb;have h2:=R7 (h:=h) hw;have h3:=Kx (o.rw w hw).1.nm;have h4:=vt K0 (show 0<=iZ h x.rows - 1 by lia)
    lia
   have Tg:A' h r K x (m - 1+1):=by rw[Int.sub_add_cancel];exact pt
   obtain⟨X,b6,b7,t,e⟩:=e0y (s:=s) (r:=r) (g1:=g1) (g2:=g2) (g3:=g3) (g4:=g4) (a5:=some (.d k)) (a6:=a6) (a7:=a7) g o hn hs ne λX t=>(P' g o hs r0 hM hK M0 t ne Tg).2
   rw[lS] at hm;obtain⟨x',o',r',c',s',e'⟩:=R8 g hn r0 hM hK M0 ks (x:=bF h r x X) (m:=m - 1) (a5:=some (.d k)) (a6:=b6) (a7:=b7) (o.turn g t) hs (P' g o hs r0 hM hK M0 t ne Tg).1 (by lia) (by lia)
   exact⟨x',o',r',by rw[c',Ov g o t],s',e0w rfl e e'⟩
end
section
variable{s:List Cell}{h:aA}{r K M:Int}{x:Hl}{n:Nat}
theorem Ke:∀{bs:List ao},(∀b∈bs,1<=b.long)->0<=cN bs/\∀b∈bs,b.long<=cN bs
 |[],_=>⟨A5 _,λb m=>by cases m⟩
 |z::bs,hl=>by
  obtain⟨i1,i2⟩:=Ke (bs:=bs) λb m=>hl b (.tail _ m)
  have h1:=hl z (.head _);have es:cN (z::bs)=z.long+cN bs:=by unfold cN;rw[cq,sv]
  rw[es];refine⟨by lia,λb m=>?_⟩
  rcases y0a.mp m with rfl|m
  .lia
  .have:=i2 b m;lia
theorem Q_:∀rows:List Row,iZ h rows<=(rows.length:Int)*(h.ae.length:Int)
 |[]=>by unfold iZ;simp
 |z::rows=>by
  have ih:=Q_ rows;have l:=KQ h.ae z.b;have es:iZ h (z::rows)=(lv h.ae z.b:Int)+iZ h rows:=by unfold iZ;rw[cq,sv]
  rw[es,lS,Int.natCast_add,Int.add_mul]
  lia
theorem Mi(g:ax h)(o:Ok h n x)(r0:0<=r):A' h r ((r+1)*cN h.ae) x ((x.rows.length:Int)*(h.ae.length:Int)*((r+2)*cN h.ae+(x.rows.length:Int))):=by
 obtain⟨c0,hM⟩:=Ke (bs:=h.ae) λb m=>(g.lg b m).1
 by_cases ne:x.rows=[]
 .exact .inl ne
 .obtain⟨w,bt,hw,eb,la⟩:=Q6 g o ne;have k1:=R5 g o r0 hM rfl hw la.1 eb;have k2:=Q_ (h:=h) x.rows;have K0:0<=(r+1)*cN h.ae:=vt (by lia) c0
  have k3:=Iz k2 K0;have P0:0<=(x.rows.length:Int)*(h.ae.length:Int):=vt (by lia) (by lia)
  have k4:(r+1)*cN h.ae<=(r+2)*cN h.ae+(x.rows.length:Int):=by
   lia
  have k5:=Iz k4 P0;refine .inr ⟨w,bt,hw,eb,la,?_⟩
  lia
theorem Vs(q:Nat)(hb:h.ae.length<=1000){S:aN}:bB (af 0) (iR true) (FU q) (h.ae.map aq) [none] S []=some (.ok ((h.ae.map ao.long).map D.int) S):=by
 rw[uX (λb=>.int b.long) h.ae (by lia) λb m=>⟨rd (.int b.long),by unfold FU aq;simp only[↓ev,cV],rfl⟩,fF]
 rfl
theorem e0z{bl cs l1:List D}{Ek:List Int}{mn bn cells pb pc most:Int}{S2:aN}(e1:∀q,pY q [.d (.ref 0)] (hS (.tup [.lst bl,.lst cs]) r x s)=some (.ok (.o (.lst l1)) (hS (.tup [.lst bl,.lst cs]) r x s)))(hlen:(l1.length:Int)=mn)
  (e2:∀q,bB (af 0) (iR true) (FU q) bl [none] (hS (.tup [.lst bl,.lst cs]) r x s) []=some (.ok (Ek.map D.int) (hS (.tup [.lst bl,.lst cs]) r x s))) (ne:(Ek=[])=False) (es:Ek.sum=cells) (lb:(bl.length:Int)=bn)
  (q1:(-2^64<mn/\mn<2^64 \/ -2^64<bn/\bn<2^64)=True) (q2:(-2^64<r+2/\r+2<2^64 \/ -2^64<cells/\cells<2^64)=True) (ep:mn*bn=pb) (u0:(r+2)*cells=pc) (q3:(-2^64<pb/\pb<2^64 \/ -2^64<pc+mn/\pc+mn<2^64)=True) (em:pb*(pc+mn)=most) (hz:Nat.ble (most+1).natAbs 1000000000000=true)
  (e5:aH (af 5) (ze 0) (gm 0 (most+1).toNat) [some (.d (.ref 0)),some (.d (.tup [.lst bl,.lst cs])),some (.d (.int mn)),some (.d (.int cells)),some (.d (.int most)),none,none,none] (hS (.tup [.lst bl,.lst cs]) r x s)=some (.rt (rd (.bl true)) S2)) (hc:S2.cut s.length=S2):Bk 0 [.d (.ref 0),.d (.tup [.lst bl,.lst cs])] (hS (.tup [.lst bl,.lst cs]) r x s)=some (.ok (rd (.bl true)) S2):=by
 have e3:=JA Ek;have e4:=λq s=>JH (s:=s) (hd:=.tup [.lst bl,.lst cs]) (r:=r) (q:=q) (x:=x)
 generalize Ek.map D.int=lgd at *;unfold Bk N7;simp only[↓ev,hR,cU,uS,e1,hlen,aO,cx,i6,e2,e3,ne,es,lb,q1,ep,JG,e4,q2,u0,q3,em,hz,e5,hc]
theorem Y7(g:ax h)(o:Ok h n x)(hn:n<1000)(hs:bo h x=[])(r0:0<=r)(r2:r<=100)(b0:0<h.ae.length)(VD:cN h.ae<=39):∃x',Ok h n x'/\x'.rows=[]/\x'.gone.length=x.rows.length+x.gone.length/\bo h x'=[]/\Bk 0 [.d (.ref 0),.d (aE h)] (hS (aE h) r x s)=some (.ok (rd (.bl true)) (hS (aE h) r x' s)):=by
 have rl:=o.rl;have bl:=g.sm.bl;obtain⟨c0,hM⟩:=Ke (bs:=h.ae) λb m=>(g.lg b m).1
 have e1:=λq=>uT (s:=s) (r:=r) (q:=q) g o
 have lp:=o.perm.length_eq;have hlen:(((ord h x.rows).map aT).length:Int)=(x.rows.length:Int):=by rw[bw,lp]
 have e2:=λq=>Vs (h:=h) (S:=hS (aE h) r x s) q (by lia)
 have ne:(h.ae.map ao.long=[])=False:=eq_false λz=>by
  simp_all
 have es:(h.ae.map ao.long).sum=cN h.ae:=rfl;have lb:((h.ae.map aq).length:Int)=(h.ae.length:Int):=by rw[bw]
 have pt:=Mi g o r0;have p1:0<=(x.rows.length:Int)*(h.ae.length:Int):=vt (by lia) (by lia)
 have p2:(x.rows.length:Int)*(h.ae.length:Int)<=8*100:=Int.mul_le_mul (by lia) (by lia) (by lia) (by lia)
 have p3:0<=(r+2)*cN h.ae:=vt (by lia) c0
 have p4:(r+2)*cN h.ae<=102*39:=Int.mul_le_mul (by lia) VD c0 (by lia)
 have p5:0<=(x.rows.length:Int)*(h.ae.length:Int)*((r+2)*cN h.ae+(x.rows.length:Int)):=vt p1 (by lia)
 have p6:(x.rows.length:Int)*(h.ae.length:Int)*((r+2)*cN h.ae+(x.rows.length:Int))<=800*5000:=Int.mul_le_mul (by lia) (by lia) (by lia) (by lia)
 have q1:(-2^64<(x.rows.length:Int)/\(x.rows.length:Int)<2^64 \/ -2^64<(h.ae.length:Int)/\(h.ae.length:Int)<2^64)=True:=bJ (.inl ⟨by lia,by lia⟩)
 have q2:(-2^64<r+2/\r+2<2^64 \/ -2^64<cN h.ae/\cN h.ae<2^64)=True:=bJ (.inl ⟨by lia,by lia⟩)
 generalize ep:(x.rows.length:Int)*(h.ae.length:Int)=pb at *;generalize u0:(r+2)*cN h.ae=pc at *;have q3:(-2^64<pb/\pb<2^64 \/ -2^64<pc+(x.rows.length:Int)/\pc+(x.rows.length:Int)<2^64)=True:=bJ (.inl ⟨by lia,by lia⟩)
 generalize em:pb*(pc+(x.rows.length:Int))=most at *;obtain⟨x',o',h1,h2,h3,e5⟩:=R8 (s:=s) (g1:=some (.d (aE h))) (g2:=some (.d (.int (x.rows.length:Int)))) (g3:=some (.d (.int (cN h.ae)))) (g4:=some (.d (.int most))) g hn r0 hM rfl c0 (gm 0 (most+1).toNat) (x:=x) (m:=most) (a5:=none) (a6:=none) (a7:=none) o hs pt p5 (by rw[rR,bw,vq];lia)
 refine⟨x',o',h1,h2,h3,?_⟩;have hz:Nat.ble (most+1).natAbs 1000000000000=true:=by rw[Nat.ble_eq];lia
 exact e0z e1 hlen e2 ne es lb q1 q2 ep u0 q3 em hz e5 (by unfold aN.cut;dsimp only;rw[Nj])
end
noncomputable def x0:Hl:=⟨0,[],[],[],[]⟩
section
variable{s:List Cell}{h:aA}{r t:Int}{x x1 x2:Hl}{n:Nat}{ns:List Int}{bl cs:List D}{hd:D}{b3 b4 b5 b6:ak Val}
theorem vh(h:aA):Ok h 0 x0:=⟨λw m=>(by cases m),Ip,Ip,λp m=>(by cases m),Ip,by decide,by decide⟩
theorem e1a(g:ax h)(o:Ok h n x)(he:x.rows=[]):CT 0 [.d (.ref 0)] (hS (aE h) r x s)=some (.ok (.o (.lst [])) (hS (aE h) r x s)):=by
 have rl:=o.rl;have e1:=λq=>QQ (s:=s) (r:=r) (q:=q) g o.nk (by lia) λw m=>(o.rw w m).1
 rw[show dS ((ord h x.rows).map Row.bag)=[] by rw[he];rfl] at e1
 generalize aE h=hd at *;unfold CT Pz;simp only[↓ev,hR,cU,N9,e1,bB,cf]
structure IG (ns:List Int) (hd:D) (bl cs:List D) (r t:Int) (x1 x2:Hl) (b3 b4 b5 b6:ak Val):Prop where
 ed:hd=.tup [.lst bl,.lst cs]
 hh:P0 Bo [.d (aZ ns)] (rd hd)
 hr:Pr lJ [.d (aZ ns),.d (.int 14),.d (.int 3)] (rd (.int r))
 hi:CV 0 [.d (.ref 0),.d hd,.d (.int r)] ⟨[],[.ins cHall []]⟩=some (.ok (rd .aI) (hS hd r x0 []))
 ho:Pr j9 [.d (aZ ns),.d (.int 14),.d (.int 20)] (rd (.int t))
 hm:(-2^64<(2:Int)/\(2:Int)<2^64 \/ -2^64<t/\t<2^64)=True
 hz:Nat.ble (23+2*t).natAbs 1000000=true
 hl:aH (af 3) (BC 0) (nG 15 2 (fQ 15 (23+2*t))) [some (.d (aZ ns)),some (.d hd),some (.d (.ref 0)),none,none,none,none,none] (hS hd r x0 [])=some (.nx [some (.d (aZ ns)),some (.d hd),some (.d (.ref 0)),b3,b4,b5,none,none] (hS hd r x1 []))
 hs:aH (af 6) (BD 0) bl [some (.d (aZ ns)),some (.d hd),some (.d (.ref 0)),b3,b4,b5,none,none] (hS hd r x1 [])=some (.nx [some (.d (aZ ns)),some (.d hd),some (.d (.ref 0)),b3,b4,b5,b6,none] (hS hd r x2 []))
theorem e7p(b:IG ns hd bl cs r t x1 x2 b3 b4 b5 b6)(rest:GS):KJ rest 0 [some (.d (aZ ns)),none,none,none,none,none,none,none] ⟨[],[]⟩=rest [some (.d (aZ ns)),some (.d hd),some (.d (.ref 0)),b3,b4,b5,b6,none] (hS hd r x2 []):=by
 obtain⟨ed,hh,hr,hi,ho,hm,hz,hl,hs⟩:=b;subst ed;unfold KJ;have z15:Nat.ble (15:Int).natAbs 1000000=true:=by decide
 simp only[↓ev,hh,aO,hr,hi,ho,hm,z15,hz,and_self,i6,hl,cx,hs]
end
section
variable{h:aA}{r t:Int}{x1 x2 x3 x4:Hl}{n:Nat}{ns:List Int}{bl cs:List D}{hd:D}{b3 b4 b5 b6:ak Val}
theorem KY:aQ (.lst []) (.lst [])=true:=rfl
theorem e7q{S2:aN}(e:Ho 0 [some (.d (aZ ns)),none,none,none,none,none,none,none] ⟨[],[]⟩=some (.rt (rd (.bl true)) S2)):∃S,Dt 0 [.d (aZ ns)] ⟨[],[]⟩=some (.ok (.v (.d (.bl true))) S):=by
 refine⟨S2.cut 0,?_⟩;unfold Dt aR;generalize Ho 0=ml at *;simp only[↓ev,e]
theorem e1b(b:IG ns hd bl cs r t x1 x2 b3 b4 b5 b6){l1 g1 g3 g4:List D}{mn gn uF:Int}
  (eb:∀q,pY q [.d (.ref 0)] (hS hd r x2 [])=some (.ok (.o (.lst l1)) (hS hd r x2 []))) (HI:(l1.length:Int)=mn)
  (eo:∀q,vI q [.d (.ref 0)] (hS hd r x2 [])=some (.ok (.o (.lst g1)) (hS hd r x2 []))) (hg1:(g1.length:Int)=gn) (et:mn+gn=uF)
  (ea:Bk 0 [.d (.ref 0),.d hd] (hS hd r x2 [])=some (.ok (rd (.bl true)) (hS hd r x3 [])))
  (eo3:∀q,vI q [.d (.ref 0)] (hS hd r x3 [])=some (.ok (.o (.lst g3)) (hS hd r x3 []))) (hg3:(g3.length:Int)=uF)
  (tn:xD 0 [.d (.ref 0)] (hS hd r x3 [])=some (.ok (.o (.lst [])) (hS hd r x4 [])))
  (Hs:∀q,pY q [.d (.ref 0)] (hS hd r x4 [])=some (.ok (.o (.lst [])) (hS hd r x4 [])))
  (el4:CT 0 [.d (.ref 0)] (hS hd r x4 [])=some (.ok (.o (.lst [])) (hS hd r x4 [])))
  (eo4:∀q,vI q [.d (.ref 0)] (hS hd r x4 [])=some (.ok (.o (.lst g4)) (hS hd r x4 []))) (hg4:(g4.length:Int)=uF):∃S,Dt 0 [.d (aZ ns)] ⟨[],[]⟩=some (.ok (.v (.d (.bl true))) S):=by
 refine e7q (S2:=hS hd r x4 []) ?_;unfold Ho;rw[e7p b];unfold Sj;clear b;simp only[↓ev,hR,cU,uS,eb,HI,e5y,eo,hg1,et,aO,ea,aK,eo3,hg3,eS,fY,lC,tn,KY,Hs,d9i,el4,eo4,hg4]
theorem e9d:∀ns:List Int,ns.length<=63->∃S,Dt 0 [.d (.lst (ns.map D.int))] ⟨[],[]⟩=some (.ok (.v (.d (.bl true))) S):=by
 intro ns _;obtain⟨h,g,sl,b0,b5,c4,eh⟩:=d9g ns;obtain⟨_,r0,r4⟩:=g7 ns 14 0 3 (by decide) (by decide) (by decide)
 have hr:Pr lJ [.d (aZ ns),.d (.int 14),.d (.int 3)] _:=zF ns 14 3 (by decide) (by decide)
 obtain⟨_,t0,t21⟩:=g7 ns 14 1 20 (by decide) (by decide) (by decide)
 have ho:Pr j9 [.d (aZ ns),.d (.int 14),.d (.int 20)] _:=xw ns 14 20 (by decide) (by decide)
 generalize bu ns 14 0 3=r at *;generalize bu ns 14 1 20=t at *;obtain⟨n,x1,a3,a4,a5,o1,hn,hl⟩:=e9c (ns:=ns) (r:=r) (s:=[]) (a3:=none) (a4:=none) (a5:=none) (a6:=none) (a7:=none) g b0 (vh h) (fQ 15 (23+2*t)) (by unfold fQ;lia)
 obtain⟨x2,a6,o2,v_,hs⟩:=e0q (r:=r) (s:=[]) (g0:=some (.d (aZ ns))) (g1:=some (.d (aE h))) (a3:=a3) (a4:=a4) (a5:=a5) (a6:=none) (a7:=none) g o1;have B:IG ns (aE h) (h.ae.map aq) (dS h.carts) r t x1 x2 a3 a4 a5 a6:=⟨rfl,eh,hr,e5v (S:=⟨[],[]⟩) g,ho,bJ (.inl (by decide)),by rw[Nat.ble_eq];lia,hl,hs⟩
 obtain⟨x3,o3,e3,c3,s3,ea⟩:=Y7 (s:=[]) (r:=r) g o2 (by lia) v_ r0 (by lia) b0 sl
 obtain⟨X,t4,tn⟩:=Kw (s:=[]) (r:=r) g o3 (by lia)
 have o4:=o3.turn g t4;have e4:(bF h r x3 X).rows=[]:=by
  show iw h _ _ x3.rows=[];rw[e3];rfl
 have VW:=Ov g o3 t4;rw[e3,e4] at VW;rw[show(ord h x3.rows).map (iV X (aj h r x3))=[] by rw[e3];rfl] at tn
 have Hs:=λq=>uT (s:=[]) (r:=r) (q:=q) g o4
 rw[show(ord h (bF h r x3 X).rows).map aT=[] by rw[e4];rfl] at Hs
 refine e1b B (λq=>uT g o2) (by rw[bw,o2.perm.length_eq]) (λq=>Kr) (by unfold u7;rw[bw]) (show _=((x2.rows.length+x2.gone.length:Nat):Int) by lia) ea (λq=>Kr) (by unfold u7;rw[bw,c3]) tn Hs (e1a g o4 e4) (λq=>Kr) ?_
 grind [u7]
end
variable{w:cB}{K:PySem.W.Frag}{mg:Str->ak ai}{us:List ai}{h:bU}{l:PySem.W.OpenLaw}
def qT(K:PySem.W.Frag):L2.Sp:=λvs H Q _=>∃(a:ag) (ns:List Int),vs=[.ref a]/\cM K H a (ns.map V.int)/\ns.length<=63/\∀H',Q (.bl true) H'
theorem e7r{P:de}{base:bU}{t:aV}(T:Txt K mg t):dA P w K mg base (nU P w) 8 t.tN t.tH ["_law_script"] (qT K):=by
 exact d8o (e5m T 0) e9d
theorem us_1(h:us.length=1):∃a0,us=[a0]:=by
 obtain _|⟨a0,us⟩:=us
 .cases h
 obtain _|⟨z,us⟩:=us
 .exact⟨a0,rfl⟩
 .simp at h
theorem us_2(h:us.length=2):∃a0 a1,us=[a0,a1]:=by
 obtain _|⟨a0,us⟩:=us
 .cases h
 obtain _|⟨a1,us⟩:=us
 .cases h
 obtain _|⟨z,us⟩:=us
 .exact⟨a0,a1,rfl⟩
 .simp at h
theorem us_3(h:us.length=3):∃a0 a1 a2,us=[a0,a1,a2]:=by
 obtain _|⟨a0,us⟩:=us
 .cases h
 obtain _|⟨a1,us⟩:=us
 .cases h
 obtain _|⟨a2,us⟩:=us
 .cases h
 obtain _|⟨z,us⟩:=us
 .exact⟨a0,a1,a2,rfl⟩
 .simp at h
theorem us_4(h:us.length=4):∃a0 a1 a2 a3,us=[a0,a1,a2,a3]:=by
 obtain _|⟨a0,us⟩:=us
 .cases h
 obtain _|⟨a1,us⟩:=us
 .cases h
 obtain _|⟨a2,us⟩:=us
 .cases h
 obtain _|⟨a3,us⟩:=us
 .cases h
 obtain _|⟨z,us⟩:=us
 .exact⟨a0,a1,a2,a3,rfl⟩
 .simp at h
abbrev il(K:PySem.W.Frag)(n:Str)(C:ag):Prop:=PySem.W.nsIn K mainGlobals n=some (some (.ref C))/\fG K C (.ref 31::sd) none/\PySem.W.keepIn K (.ref C)=true
theorem errs_mk(X:K.In h)(G:h.Ns mainGlobals mg)(h0:il K "NoName" 44)(h1:il K "NoSize" 56)(h2:il K "NoOut" 68)(h3:il K "NoHand" 80)(h4:il K "NoMoment" 92)(h5:il K "NoFlight" 104)(h6:il K "NoBelt" 116)(h7:il K "NoRoom" 128)(h8:il K "NoBag" 140)(GB:fG K 31 sd none)(hB:PySem.W.nsIn K mainGlobals "CarryError"=some (some (.ref 31))):qX K mg jh 31:=by
 refine⟨λp hp=>?_,GB,PySem.W.mg_of X G hB⟩
 simp only[jh,y0a,y1x,or_false] at hp;rcases hp with rfl|rfl|rfl|rfl|rfl|rfl|rfl|rfl|rfl
 .exact⟨PySem.W.mg_of X G h0.1,h0.2⟩
 .exact⟨PySem.W.mg_of X G h1.1,h1.2⟩
 .exact⟨PySem.W.mg_of X G h2.1,h2.2⟩
 .exact⟨PySem.W.mg_of X G h3.1,h3.2⟩
 .exact⟨PySem.W.mg_of X G h4.1,h4.2⟩
 .exact⟨PySem.W.mg_of X G h5.1,h5.2⟩
 .exact⟨PySem.W.mg_of X G h6.1,h6.2⟩
 .exact⟨PySem.W.mg_of X G h7.1,h7.2⟩
 .exact⟨PySem.W.mg_of X G h8.1,h8.2⟩
theorem fin_mk{fa f0 f1 f2 f3 f4 f5 f6 f7 f8 f9 f10 f11 f12 f13 f14 f15 f16 f17 f18 f19 f20 f21 f22 f23 f24 f25 f26 f27 f28 f29 f30 f31 f32 f33 f34 f35 f36 f37 f38 f39 f40 f41 f42 f43 f44 f45 f46 f47 f48 f49 f50 f51 f52 f53 f54 f55 f56 f57 f58 f59 f60:ag}{d0 d1 d2 d3 d4 d5 d6 d7 d8 d9 XS XT XU XX XY XZ X0 X1 X2 X3 Yi Yj Yk Yl Ym Yn Yo Yp Yq Yr YS YT YU YV YW YX YY YZ Y0 Y1 Y8 Y9 Y_ Za Zb Zc Zd Ze Zf Zg Zh Zi Zj Zk Zl Zm Zn Zo Zp Zq ZL:bQ}(X:K.In h)(G:h.Ns mainGlobals mg)(hfa:mg "law"=some (.ref fa))(T:Txt K mg ⟨f0,d0,f1,d1,f2,d2,f3,d3,f4,d4,f5,d5,f6,d6,f7,d7,f8,d8,f9,d9,f10,XS,f11,XT,f12,XU,f13,XX,f14,XY,f15,XZ,f16,X0,f17,X1,f18,X2,f19,X3,f20,Yi,f21,Yj,f22,Yk,f23,Yl,f24,Ym,f25,Yn,f26,Yo,f27,Yp,f28,Yq,f29,Yr,f30,YS,f31,YT,f32,YU,f33,YV,f34,YW,f35,YX,f36,YY,f37,YZ,f38,Y0,f39,Y1,f40,Y8,f41,Y9,f42,Y_,f43,Za,f44,Zb,f45,Zc,f46,Zd,f47,Ze,f48,Zf,f49,Zg,f50,Zh,f51,Zi,f52,Zj,f53,Zk,f54,Zl,f55,Zm,f56,Zn,f57,Zo,f58,Zp,f59,Zq,f60,ZL⟩)
  : ∃fd:bQ,(∀(s:au) (v:ai),BindsTo s fd ⟨[v],[]⟩ [("_law_script",v)])/\∀base:bU,K.In base->base.Ns mainGlobals mg->dA l.prog w K mg base (nU l.prog w) 8 fa fd ["_law_script"] (qT K):=by
 have e:=hfa.symm.trans T.sQ.mg;cases e;obtain⟨oc,od,kV,doc,pm,an,gd,ct,vi,e,_,_⟩:=T.sQ.fn.ex;exact⟨_,λs v=>by rw[e];exact .of_eq rfl,λbase _ _=>e7r T⟩
theorem walk{q:de}{loose:List Str}{XP:(Str->ak ai)->bU->Prop}{YP:cB->bU->Prop}{d:DefRec}{K:Params->PySem.W.Frag}(hn:l.most=some 63)(DS:d.params.defaults=[])
  (hY:∀(w:cB) (h:bU),YP w h->(K w.params).In h)
  (F:∀(w:cB) (mg:Str->ak ai) (fa:ag) (h:bU),(K w.params).In h->h.Ns mainGlobals mg->mg d.name=some (.ref fa)-> ∃fd:bQ,(∀(s:au) (u:ai),BindsTo s fd ⟨[u],[]⟩ [("_law_script",u)])/\∀base:bU,(K w.params).In base->base.Ns mainGlobals mg->dA l.prog w (K w.params) mg base (nU l.prog w) 8 fa fd ["_law_script"] (qT (K w.params))) :
  PySem.W.WalkO q loose XP YP l.row.toRowW d [] (λf vs=>PySem.call f vs):=
 L2.wZ (n:=63) (k:=8) (x:="_law_script") (CX:=λw=>nU l.prog w) (sp:=λw=>qT (K w.params)) hn (by decide) DS ⟨rfl,by decide,by decide⟩ hY F (λ_ _ a ns hl _ hS=>⟨a,ns,rfl,hS,hl,λ_=>rfl⟩) λ_ _ _ _ _ ⟨_,_,_,_,_,_,z⟩=>z
end Carry
end
open PySem PySem.W PyProof.Rows
set_option maxRecDepth 100000 in
set_option maxHeartbeats 0 in
theorem PySem.Challenge.cw_carry_k69_whole_nothing_stands_for_ever_holds : PySem.Challenge.rw_carry_k69_whole_nothing_stands_for_ever.Holds := by
 simp -failIfUnchanged only[Carry.Hd.hd0];w_on;o_law;(try simp only[Carry.Hd.hd]);k_head;(case hw=>w_witness2)
 k_fill
 refine Carry.walk (l:=PySem.Challenge.rw_carry_k69_whole_nothing_stands_for_ever) rfl rfl (λw h Y=>PySem.W.kIn_of Y) ?F
 case F=>
  intro w mg fa h KX G hmg;refine' Carry.fin_mk KX G hmg ⟨L2.dM KX G ?_ ?_ ?_,L2.dM KX G ?_ ?_ ?_,L2.dM KX G ?_ ?_ ?_,L2.dM KX G ?_ ?_ ?_,L2.dM KX G ?_ ?_ ?_,L2.dM KX G ?_ ?_ ?_,L2.dM KX G ?_ ?_ ?_,L2.dM KX G ?_ ?_ ?_,L2.dM KX G ?_ ?_ ?_,L2.dM KX G ?_ ?_ ?_,L2.dM KX G ?_ ?_ ?_,L2.dM KX G ?_ ?_ ?_,L2.dM KX G ?_ ?_ ?_,L2.dM KX G ?_ ?_ ?_,L2.dM KX G ?_ ?_ ?_,L2.dM KX G ?_ ?_ ?_,L2.dM KX G ?_ ?_ ?_,L2.dM KX G ?_ ?_ ?_,L2.dM KX G ?_ ?_ ?_,L2.dM KX G ?_ ?_ ?_,L2.dM KX G ?_ ?_ ?_,L2.dM KX G ?_ ?_ ?_,L2.dM KX G ?_ ?_ ?_,L2.dM KX G ?_ ?_ ?_,L2.dM KX G ?_ ?_ ?_,L2.dM KX G ?_ ?_ ?_,L2.dM KX G ?_ ?_ ?_,L2.dM KX G ?_ ?_ ?_,L2.dM KX G ?_ ?_ ?_,L2.dM KX G ?_ ?_ ?_,L2.dM KX G ?_ ?_ ?_,L2.dM KX G ?_ ?_ ?_,L2.dM KX G ?_ ?_ ?_,L2.dM KX G ?_ ?_ ?_,L2.dM KX G ?_ ?_ ?_,L2.dM KX G ?_ ?_ ?_,L2.dM KX G ?_ ?_ ?_,L2.dM KX G ?_ ?_ ?_,?F38,(L2.Fun.binds ?F38 ?_),L2.mM ?_ ?_ ?_ ?_,L2.mM ?_ ?_ ?_ ?_,L2.mM ?_ ?_ ?_ ?_,L2.mM ?_ ?_ ?_ ?_,L2.mM ?_ ?_ ?_ ?_,L2.mM ?_ ?_ ?_ ?_,L2.mM ?_ ?_ ?_ ?_,L2.mM ?_ ?_ ?_ ?_,L2.mM ?_ ?_ ?_ ?_,L2.mM ?_ ?_ ?_ ?_,L2.mM ?_ ?_ ?_ ?_,L2.mM ?_ ?_ ?_ ?_,L2.mM ?_ ?_ ?_ ?_,L2.mM ?_ ?_ ?_ ?_,L2.mM ?_ ?_ ?_ ?_,L2.mM ?_ ?_ ?_ ?_,L2.mM ?_ ?_ ?_ ?_,L2.mM ?_ ?_ ?_ ?_,L2.mM ?_ ?_ ?_ ?_,L2.mM ?_ ?_ ?_ ?_,L2.mM ?_ ?_ ?_ ?_,L2.mM ?_ ?_ ?_ ?_,⟨?_,?_,?_,?_⟩,⟨?_,?_,?_,?_⟩,PySem.W.mg_of KX G ?_,?atr,?er,PySem.W.mg_none_of KX G ?_,PySem.W.mg_none_of KX G ?_,PySem.W.mg_none_of KX G ?_,PySem.W.mg_none_of KX G ?_,PySem.W.mg_none_of KX G ?_,PySem.W.mg_none_of KX G ?_,PySem.W.mg_none_of KX G ?_,PySem.W.mg_none_of KX G ?_,PySem.W.mg_none_of KX G ?_,PySem.W.mg_none_of KX G ?_,PySem.W.mg_none_of KX G ?_,PySem.W.mg_none_of KX G ?_,PySem.W.mg_none_of KX G ?_,PySem.W.mg_none_of KX G ?_,PySem.W.mg_none_of KX G ?_,L2.kM KX G ?_,L2.kM KX G ?_⟩
  case atr=>
   intro p hp;simp only[Carry.atrs,y0a,y1x,or_false] at hp;rcases hp with rfl|rfl|rfl|rfl|rfl|rfl|rfl|rfl|rfl|rfl <;> (dsimp only[Carry.cHall];exact⟨⟨by k_is,by k_is,by k_is,by k_is⟩,by show _=_;k_is⟩)
  case er=>
   refine' Carry.errs_mk KX G ?h0 ?h1 ?h2 ?h3 ?h4 ?h5 ?h6 ?h7 ?h8 ?GB ?hB
   all_goals first|(refine' ⟨?za,?zb,?zd⟩;(case zb=>refine' L2.errC_mk ?zl ?zm ?zs ?zi;(case zl=>k_is);(case zm=>k_is);(case zs=>kernel_rfl);(case zi=>kernel_rfl));(case za=>k_is);(case zd=>k_is))|(refine' L2.errC_mk ?zl ?zm ?zs ?zi;(case zl=>k_is);(case zm=>k_is);(case zs=>kernel_rfl);(case zi=>kernel_rfl))|k_is|(show _=_;k_is)
  all_goals (try dsimp only[Carry.cHall])
  all_goals first|(refine' L2.fun_mk ?zl ?zc ?zk;(case zl=>k_is);(case zc=>k_is);(case zk=>k_is))|(intro _ _ _ _ _ _ us hl;obtain⟨_,rfl⟩:=Carry.us_1 hl;rfl)|(intro _ _ _ _ _ _ us hl;obtain⟨_,_,rfl⟩:=Carry.us_2 hl;rfl)|(intro _ _ _ _ _ _ us hl;obtain⟨_,_,_,rfl⟩:=Carry.us_3 hl;rfl)|(intro _ _ _ _ _ _ us hl;obtain⟨_,_,_,_,rfl⟩:=Carry.us_4 hl;rfl)|k_is|(show _=_;k_is)|skip
  all_goals (try (refine' L2.fun_mk ?zl ?zc ?zk;(case zl=>k_is);(case zc=>k_is);(case zk=>k_is)))